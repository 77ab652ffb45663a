import PyProof.Rows.All
import Wide.All
import OpenK.AllK
import Wide.FinOn
import Lean
import PyProof.EqAt
import PyProof.EqKinds
import PyProof.TupleCall
import PyProof.Rows.TupTab
import PyProof.DictRoadsH
import PyProof.StrWalks
import PyProof.SliceStr2
import PyProof.StrBlockI
import PyProof.StrBlockG
import PyProof.StrCalls2
import KE.KIntText
import PyProof.Rows.StrSplitMax
import PyProof.ZipIter
import PyProof.EnumMake
import PyProof.Rows.FactsT2
import PyProof.Rows.EnumRows
import PyProof.P3In
import PyProof.NeData
import KE.KUnpack
import PyProof.Rows.TupDisplay
import PyProof.Rows.SumAny
import PyProof.Rows.MinMaxN
import PyProof.Rows.ListRangeD
import PyProof.Rows.Range3
import PyProof.Rows.RuleM_int
import PyProof.Rows.SortShell
import PyProof.Rows.SeqMore
import PyProof.DictWalks
import PyProof.ListRange
import PyProof.Rows.SetFrom
import PyProof.CollectIter
import PyProof.SetRoads
import PyProof.Rows.ReprOcc
import PyProof.StrLawsIdx
import PyProof.StrLawsIn
import PyProof.StrLawsJoin
import PyProof.StrLawsTight
import PyProof.StrLawsChain
import KE.IntTextText
import KE.KTryOn
import PyProof.ExcBaseAll.ValueError
import PyProof.RulesAs
import PyProof.ExcAttrAll.ValueError
import PyProof.Rows.RegTopCatchBFacts
import KE.RegKTryMore
import KE.RegKIsAll
import PyProof.StrLawsFirst
import PySem.Challenge.RW_heapstill_k14_whole_any_order
set_option Elab.async false
set_option linter.all false
set_option maxRecDepth 100000
def Za:= @Option.bind_some
def Zb:= @List.mem_cons_of_mem
def Zc:= @Option.map_eq_some_iff
def Zd:= @List.getElem?_eq_some_iff
def Ze:= @List.mem_append_right
def Zf:= @List.mem_cons_self
def Zg:= @Bool.and_eq_true
def Zh:= @List.mem_append_left
def Zi:= @List.getElem?_set_ne
def Zj:= @List.length_map
def Zk:= @List.length_cons
def Zl:= @List.mem_singleton
def Zm:= @Nat.le_refl
def Zn:= @PySem.Heap.get?_push_of_some
def Zo:= @List.mem_cons
def Zp:= @List.length_append
def Zq:= @List.map_cons
def Zr:= @List.mem_append
def Zs:= @List.getElem?_eq_getElem
def Zt:= @List.getElem?_set_self
def Zu:= @List.lookup_cons
def Zv:= @List.getElem?_map
def Zw:= @List.size_toArray
def Zx:= @PySem.Heap.lt_size
def Zy:= @List.getElem?_eq_none
def Zz:= @Nat.lt_of_lt_of_le
def ZA:= @Int.emod_lt_of_pos
def ZC:= @List.mem_of_getElem?
def ZD:= @PySem.Heap.get?_push_size
def ZE:= @Int.emod_nonneg
def ZF:= @Nat.le_trans
def ZG:= @List.mem_range
def ZH:= @List.getD_eq_getElem?_getD
def ZI:= @List.count_eq_zero
def ZJ:= @List.map_append
def ZK:= @List.contains_iff_mem
def ZL:= @Array.length_toList
def ZM:= @List.append_nil
def ZN:= @Nat.ne_of_lt
def ZO:= @Int.toNat_natCast
def ZP:= @List.nodup_append
def ZQ:= @List.mem_map
def ZR:= @List.length_range
def ZS:= @List.nodup_cons
def ZT:= @List.getElem?_append_left
def ZU:= @Option.map_some
def ZV:= @Nat.lt_irrefl
def ZW:= @List.length_take
def ZX:= @List.nodup_iff_count
def ZY:= @Bool.not_eq_true'
def ZZ:= @Bool.false_ne_true
def Zaa:= @PyProof.Rows.callWith_type1
def Zab:= @List.sum_append_int
def Zac:= @List.map_congr_left
def Zad:= @List.count_append
def Zae:= @List.sum_cons
def Zaf:= @Nat.zero_le
def Zag:= @List.eq_nil_of_length_eq_zero
def Zah:= @Int.mul_le_mul_of_nonneg_left
def Zai:= @List.take_of_length_le
def Zaj:= @List.nodup_nil
def Zak:= @List.take_length
def Zal:= @PySem.mem_of_lookup
def Zam:= @List.replicate_succ
def Zan:= @List.getElem?_range
def Zao:= @List.count_pos_iff
def Zap:= @List.length_drop
def Zaq:= @List.map_map
def Zar:= @List.all_eq_true
def Zas:= @List.drop_eq_getElem_cons
def Zat:= @List.flatten_cons
def Zau:= @List.take_append_drop
def Zav:= @List.count_cons
def Zaw:= @List.getElem?_append_right
def Zax:= @List.mem_filter
def Zay:= @Int.le_refl
def Zaz:= @Nat.lt_succ_self
def ZaA:= @PySem.Heap.size_push
def ZaB:= @Nat.le_succ
def ZaC:= @PySem.F.plainAttrs_list
def ZaD:= @Int.zero_mul
def ZaE:= @Int.add_mul
def ZaF:= @List.zip_cons_cons
def ZaG:= @List.set_eq_take_append_cons_drop
def ZaH:= @List.append_assoc
def ZaI:= @Nat.lt_succ_of_lt
def ZaJ:= @Nat.pow_le_pow_right
def ZaK:= @Int.mul_comm
def ZaL:= @List.length_pos_iff
def ZaM:= @List.filter_cons
def ZaN:= @List.eraseIdx_cons_succ
def ZaO:= @Int.mul_le_mul_of_nonneg_right
def ZaP:= @Int.mul_nonneg
def ZaQ:= @List.length_set
def ZaR:= @List.nil_append
def ZaS:= @PySem.W.kia_one
def ZaT:= @Int.ediv_nonneg
def ZaU:= @Int.mul_assoc
def ZaV:= @List.length_singleton
def ZaW:= @Array.getElem?_toList
def ZaX:= @List.reverse_cons
def ZaY:= @List.mem_of_mem_take
def ZaZ:= @List.nodup_iff_pairwise_ne
def Zba:= @List.getElem_mem
def Zbb:= @List.map_eq_nil_iff
def Zbc:= @PyProof.noPylong_of_log2
def Zbd:= @PySem.W.mg_of
def Zbe:= @List.map_take
def Zbf:= @List.mem_filterMap
def Zbg:= @Nat.eq_zero_or_pos
def Zbh:= @Int.one_mul
def Zbi:= @List.cons_append
def Zbj:= @List.mem_flatten
def Zbk:= @Nat.min_le_right
def Zbl:= @List.isEmpty_iff
def Zbm:= @List.nodup_range
def Zbn:= @Int.add_assoc
def Zbo:= @Nat.add_le_add_right
def Zbp:= @List.getElem?_zipIdx
def Zbq:= @Nat.min_eq_left
def Zbr:= @List.filterMap_cons
def Zbs:= @PySem.W.plainGet_of
def Zbt:= @List.take_succ_cons
def Zbu:= @Int.fdiv_eq_ediv_of_nonneg
def Zbv:= @PySem.W.callWith_K
def Zbw:= @List.drop_zero
def Zbx:= @List.getElem?_eq_none_iff
def Zby:= @List.ext_getElem?
def Zbz:= @List.take_add_one
def ZbA:= @Int.emod_eq_of_lt
def ZbB:= @List.pairwise_map
def ZbC:= @Option.isSome_iff_exists
def ZbD:= @List.any_cons
def ZbE:= @PySem.F.slot_list_append
def ZbF:= @PySem.F.type_list_append
def ZbG:= @PySem.W.makes_of
def ZbH:= @List.getElem?_replicate
def ZbI:= @List.not_mem_nil
def ZbJ:= @List.foldlM_cons
def ZbK:= @Classical.axiomOfChoice
def ZbL:= @List.mem_reverse
def ZbM:= @PySem.W.cellsFrom_some
def ZbN:= @List.map_nil
def ZbO:= @PyProof.Rows.boot_list
def ZbP:= @List.append_eq_nil_iff
def ZbQ:= @Nat.sub_zero
def ZbR:= @List.drop_of_length_le
def ZbS:= @List.of_mem_zip
def ZbT:= @List.foldl_cons
def ZbU:= @Bool.or_eq_true
def ZbV:= @List.sum_append
def ZbW:= @Int.mul_one
def ZbX:= @Nat.log2_lt
def ZbY:= @Int.mul_le_mul
def ZbZ:= @List.take_zero
def Zca:= @Int.mul_add
def Zcb:= @List.map_drop
namespace L2
open PySem PySem.Spec PyProof.Rows
noncomputable abbrev Key:=Sum Int Str
noncomputable def Qrx:Key->Value->Bool
 | .inl k,v=>Value.isInt k v
 | .inr x,v=>Value.isStrOf x v
noncomputable def QxU(w:World):Key->Int
 | .inl k=>hashInt k
 | .inr x=>hashStr w x
theorem QaQ:∀{k:Key}{v:Value},Qrx k v=true->(∃i t,k=Sum.inl i/\v=Value.int i t)∨(∃x t,k=Sum.inr x/\v=Value.str x t)
 | .inl i,v,h=>by
  obtain⟨t,e⟩:=Value.isInt_shape (k:=i) (v:=v) h
  exact .inl ⟨i,t,rfl,e⟩
 | .inr x,v,h=>by
  obtain⟨t,e⟩:=Value.isStrOf_shape (x:=x) (v:=v) h
  exact .inr ⟨x,t,rfl,e⟩
theorem QvN(a b:Int):decide ((Sum.inl a:Key)=Sum.inl b)=(a == b):=by
 by_cases e:a=b
 ·subst e;simp
 ·have h:¬(Sum.inl a:Key)=Sum.inl b:=λq=>e (Sum.inl.inj q)
  rw[decide_eq_false h]
  exact(beq_eq_false_iff_ne.mpr e).symm
theorem Qun(a b:Str):decide ((Sum.inr a:Key)=Sum.inr b)=decide (a=b):=by
 by_cases e:a=b
 ·subst e;simp
 ·have h:¬(Sum.inr a:Key)=Sum.inr b:=λq=>e (Sum.inr.inj q)
  rw[decide_eq_false h,decide_eq_false e]
theorem Qud(a:Int)(b:Str):decide ((Sum.inl a:Key)=Sum.inr b)=false:=decide_eq_false (λq=>nomatch q)
theorem Qvr(a:Str)(b:Int):decide ((Sum.inr a:Key)=Sum.inl b)=false:=decide_eq_false (λq=>nomatch q)
noncomputable def Qiu(prog:Program)(w:World):PySem.KeyKind prog w Key where
 is:=Qrx
 hash:=QxU w
 inj:=λv a b ha hb=>by
  rcases QaQ ha with⟨i,t,rfl,rfl⟩ | ⟨x,t,rfl,rfl⟩
  ·rcases QaQ hb with⟨j,u,rfl,e⟩ | ⟨y,u,rfl,e⟩
   ·injection e with e1 _;rw[e1]
   ·exact nomatch e
  ·rcases QaQ hb with⟨j,u,rfl,e⟩ | ⟨y,u,rfl,e⟩
   ·exact nomatch e
   ·injection e with e1 _;rw[e1]
 byValue:=λk v h=>by
  rcases QaQ h with⟨i,t,rfl,rfl⟩ | ⟨x,t,rfl,rfl⟩<;>rfl
 pyHash:=λhv h=>by
  rcases QaQ hv with⟨i,t,rfl,rfl⟩ | ⟨x,t,rfl,rfl⟩
  ·exact wpAny_pyHash_int h
  ·exact wpAny_pyHash_str h
 eqBool:=λhu hv h=>by
  rcases QaQ hu with⟨i,t,rfl,rfl⟩ | ⟨x,t,rfl,rfl⟩
  ·rcases QaQ hv with⟨j,u,rfl,rfl⟩ | ⟨y,u,rfl,rfl⟩
   ·rw[QvN]at h;exact wpAny_eqBool_int h
   ·rw[Qud]at h;exact SeqAt.EqAt.int_str i t y u _ _ _ _ h
  ·rcases QaQ hv with⟨j,u,rfl,rfl⟩ | ⟨y,u,rfl,rfl⟩
   ·rw[Qvr]at h;exact SeqAt.EqAt.str_int x t j u _ _ _ _ h
   ·rw[Qun]at h;exact wpAny_eqBool_str h
 «strs» :=λk x t v h=>by
  rcases QaQ h with⟨i,u,rfl,e⟩ | ⟨y,u,rfl,e⟩
  ·exact nomatch e
  ·injection e with e1 _
   subst e1
   cases v<;>rfl
end L2
namespace L2
open PySem PySem.Spec PyProof.Rows
inductive V where
 | non | bl (b:Bool) | int (i:Int) | str (x:Str) | byt (b:Array UInt8) | flt (b:UInt64) | ref (a:Addr) | ty (n:String)
 deriving DecidableEq
noncomputable def RelV:V->Value->Prop
 | .non,u=>u=Value.none
 | .bl b,u=>u=Value.bool b
 | .int i,u=>∃t,u=Value.int i t
 | .str x,u=>∃t,u=Value.str x t
 | .byt b,u=>∃t,u=Value.bytes b t
 | .flt b,u=>∃t,u=Value.float b t
 | .ref a,u=>u=Value.ref a
 | .ty n,u=>u=Value.type n
noncomputable abbrev Qt:List V->List Value->Prop:=Paired RelV
theorem Qt.length{xs:List V}{us:List Value}(r:Qt xs us):xs.length=us.length:=Paired.length r
theorem Qt.get:∀{xs:List V}{us:List Value}{i:Nat}{x:V},Qt xs us->xs[i]? =some x->∃u,us[i]? =some u/\RelV x u
 | _,_,_,_,.nil,e=>by simp at e
 | _,_,0,_,.cons r _,e=>by simp at e;subst e;exact⟨_,rfl,r⟩
 | _,_,i+1,x,.cons _ t,e=>by
  obtain⟨u,h1,h2⟩:=Qt.get (i:=i) (x:=x) t (by simpa using e)
  exact⟨u,by simpa using h1,h2⟩
theorem Qt.set{x:V}{u:Value}(r:RelV x u):∀{xs:List V}{us:List Value}(i:Nat),Qt xs us->Qt (xs.set i x) (us.set i u)
 | _,_,_,.nil=> .nil
 | _,_,0,.cons _ t=> .cons r t
 | _,_,i+1,.cons q t=> .cons q (Qt.set r i t)
theorem exK{α β γ δ:Type}{P Q R:α->β->γ->δ->Prop}{G:Prop}(k:∀a b c d,P a b c d->Q a b c d->R a b c d->G)(h:∃a b c d,P a b c d/\Q a b c d/\R a b c d):G:=let ⟨a,b,c,d,p,q,r⟩:=h;k a b c d p q r
theorem exJ{α β:Type}{P Q R:α->β->Prop}{G:Prop}(k:∀a b,P a b->Q a b->R a b->G)(h:∃a b,P a b/\Q a b/\R a b):G:=let ⟨a,b,p,q,r⟩:=h;k a b p q r
theorem Qt.append{xs ys:List V}{us ws:List Value}(h:Qt xs us)(s:Qt ys ws):Qt (xs++ys) (us++ws):=by
 induction h with
 | nil=>exact s
 | cons r t ih=>exact .cons r ih
theorem Qt.take:∀{xs:List V}{us:List Value}(n:Nat),Qt xs us->Qt (xs.take n) (us.take n)
 | _,_,0,_=> .nil
 | _,_,_+1,.nil=> .nil
 | _,_,n+1,.cons r t=> .cons r (Qt.take n t)
theorem Qt.drop:∀{xs:List V}{us:List Value}(n:Nat),Qt xs us->Qt (xs.drop n) (us.drop n)
 | _,_,0,r=>r
 | _,_,_+1,.nil=> .nil
 | _,_,n+1,.cons _ t=>Qt.drop n t
theorem Qt.none_of:∀{xs:List V}{us:List Value}{i:Nat},Qt xs us->xs[i]? =none->us[i]? =none:=λ{xs us i} r e=>by
 have h1:=r.length
 have h2:xs.length<=i:=Zbx.mp e
 exact Zbx.mpr (by omega)
noncomputable def QcC:Option V->Option Value->Prop
 | some v,some u=>RelV v u
 | none,none=>True
 | _,_=>False
noncomputable def KV{κ:Type}:List (κ×V)->List (κ×Value)->Prop:=Paired λ(p:κ×V) (q:κ×Value)=>p.1=q.1/\RelV p.2 q.2
noncomputable def kV:Key->V
 | .inl i=> .int i
 | .inr x=> .str x
inductive HO where
 | lst (xs:List V)
 | tup (xs:List V)
 | dK (kvs:List (Key×V)) | dT (kvs:List (List Key×V))
 | set (S:Int->Bool) (n:Nat)
 | ins (C dx:Addr) (fs:List (Str×V))
 | own (x:Addr)
 | xd (fs:List (Str×V))
 | met (f x:Addr)
 | rng (lo hi:Int)
 | frz (o:Obj) (u:HO)
 | tbl (ps:Array Value)
 | ext (φ:Heap->Prop)
noncomputable abbrev Hp:=Addr->Option HO
noncomputable def upd(H:Hp)(a:Addr)(o:HO):Hp:=λb=>if b=a then some o else H b
theorem Qag{H:Hp}{a:Addr}{o:HO}:upd H a o a=some o:=by unfold upd;rw[if_pos rfl]
theorem Qz{H:Hp}{a b:Addr}{o:HO}(h:b≠a):upd H a o b=H b:=by unfold upd;rw[if_neg h]
theorem Qj3{H:Hp}{a b:Addr}{o u:HO}(h:H a=some o)(h':H b=some u)(d:o≠u):a≠b:=by
 intro e;subst e;rw[h]at h';exact d (Option.some.inj h')
theorem Qbk{H:Hp}{a b:Addr}{o:HO}(h:H a=some o)(h':H b=none):a≠b:=by
 intro e;subst e;rw[h]at h';cases h'
section
variable (P:Program) (w:World)
noncomputable def Qbu(H:Hp)(h:Heap)(a:Addr):HO->Prop
 | .lst xs=>xs.length<=sizeLine/\∃(its:List Value) (n:Nat),Qt xs its/\h.get? a=some {cls:= .type "list",data:= .seq its.toArray n}
 | .tup xs=>xs.length<=sizeLine/\∃its:List Value,Qt xs its/\IsTup h a its.toArray
 | .dK kvs=>kvs.length<=sizeLine/\(a == sysModules)=false/\∃vs,KV kvs vs/\h.DictOf (Qiu P w) a vs
 | .dT kvs=>kvs.length<=sizeLine/\(a == sysModules)=false/\∃xs:List (List Key×Addr×Value),
   Paired (λ(p:List Key×V) (q:List Key×Addr×Value)=>p.1=q.1/\H q.2.1=some (.tup (p.1.map kV))/\RelV p.2 q.2.2) kvs xs∧
   ∃o es ep,h.get? a=some o/\o.ExactDict/\o.data= .dict es ep/\es.toList=xs.map (entryOfKey (tupleKind (Qiu P w)))/\(xs.map (·.1)).Nodup
 | .set S n=>h.SetOf (intKind P w) a S n
 | .ins C dx fs=>H dx=some (.own a)/\fs.length<=1000/\dx≠a/\h.get? a=some (PySem.W.instObj C dx)∧
   ∃mA,h.Ns1 dx mA/\(∀f,QcC (fs.lookup f) (mA f))/\PySem.Within mA (fs.map (·.1))
 | .own _=>∃o,h.get? a=some o
 | .xd fs=>∃mA,h.Ns1 a mA/\∀f,QcC (fs.lookup f) (mA f)
 | .rng lo hi=>∃t u v,h.get? a=some {cls:= .type "range",data:= .fields #[.int lo t,.int hi u,.int 1 v]}
 | .frz o u=>h.get? a=some o/\Qbu H h a u
 | .tbl ps=>h.get? a=some {cls:= .none,data:= .fields ps}
 | .met f x=>h.get? a=some (PySem.W.methodObj (.ref f) (.ref x))
 | .ext φ=>φ h/\(∃o,h.get? a=some o)/\∀h1 h2:Heap,φ h1->(∀o,h1.get? a=some o->h2.get? a=some o)->φ h2
def HOk(H:Hp)(h:Heap):Prop:=∀a o,H a=some o->Qbu P w H h a o
end
section
variable {P:Program}{w:World}{H H':Hp}{h h':Heap}{a:Addr}{o:HO}
theorem Qbu.lt(x:Qbu P w H h a o):a<h.objs.size:=by
 cases o with
 | lst xs=>obtain⟨_,_,_,_,e⟩:=x;exact Zx e
 | tup xs=>obtain⟨_,_,_,p⟩:=x;exact p.lt
 | dK kvs=>obtain⟨_,_,_,_,o,_,_,e,_⟩:=x;exact Zx e
 | dT kvs=>obtain⟨_,_,_,_,o,_,_,e,_⟩:=x;exact Zx e
 | set S n=>obtain⟨o,_,_,_,e,_⟩:=x;exact Zx e
 | ins C dx fs=>obtain⟨_,_,_,e,_⟩:=x;exact Zx e
 | own y=>obtain⟨_,e⟩:=x;exact Zx e
 | xd fs=>obtain⟨_,⟨_,_,_,e,_⟩,_⟩:=x;exact Zx e
 | rng lo hi=>obtain⟨_,_,_,e⟩:=x;exact Zx e
 | frz ob u=>obtain⟨e,_⟩:=x;exact Zx e
 | tbl ps=>exact Zx (show h.get? a=some _ from x)
 | met f y=>exact Zx (show h.get? a=some _ from x)
 | ext φ=>obtain⟨_,⟨_,e⟩,_⟩:=x;exact Zx e
theorem Paired.Qfp{α β:Type}{F G:α->β->Prop}:∀{l₁:List α}{l₂:List β},Paired F l₁ l₂->(∀a b,F a b->G a b)->Paired G l₁ l₂
 | _,_,.nil,_=> .nil
 | _,_,.cons r t,f=> .cons (f _ _ r) (Paired.Qfp t f)
theorem Qbu.QfE(x:Qbu P w H h a o)(k:∀b u,(b=a∨H b=some (.own a))->h.get? b=some u->h'.get? b=some u)
  (ho:∀b,H b=some (.own a)->H' b=some (.own a)) (ht:∀b xs,H b=some (.tup xs)->H' b=some (.tup xs)):Qbu P w H' h' a o:=by
 induction o with
 | lst xs=>obtain⟨z,its,n,r,e⟩:=x;exact⟨z,its,n,r,k _ _ (.inl rfl) e⟩
 | tup xs=>obtain⟨z,its,r,ob,e,c⟩:=x;exact⟨z,its,r,ob,k _ _ (.inl rfl) e,c⟩
 | dK kvs=>obtain⟨z,y,vs,r,ob,es,ep,e,c⟩:=x;exact⟨z,y,vs,r,ob,es,ep,k _ _ (.inl rfl) e,c⟩
 | dT kvs=>
  obtain⟨z,y,xs,r,ob,es,ep,e,c⟩:=x
  exact⟨z,y,xs,Paired.Qfp r λp q z=>⟨z.1,ht _ _ z.2.1,z.2.2⟩,ob,es,ep,k _ _ (.inl rfl) e,c⟩
 | set S n=>obtain⟨ob,es,ep,t,e,c⟩:=x;exact⟨ob,es,ep,t,k _ _ (.inl rfl) e,c⟩
 | ins C dx fs=>
  obtain⟨d,z,ne,e,mA,⟨od,es,ep,e2,c⟩,r⟩:=x
  exact⟨ho _ d,z,ne,k _ _ (.inl rfl) e,mA,⟨od,es,ep,k _ _ (.inr d) e2,c⟩,r⟩
 | own y=>obtain⟨ob,e⟩:=x;exact⟨ob,k _ _ (.inl rfl) e⟩
 | xd fs=>obtain⟨mA,⟨od,es,ep,e,c⟩,r⟩:=x;exact⟨mA,⟨od,es,ep,k _ _ (.inl rfl) e,c⟩,r⟩
 | rng lo hi=>obtain⟨t,u,v,e⟩:=x;exact⟨t,u,v,k _ _ (.inl rfl) e⟩
 | frz ob u ih=>obtain⟨e,q⟩:=x;exact⟨k _ _ (.inl rfl) e,ih q⟩
 | tbl ps=>
  have e:h.get? a=some {cls:= .none,data:= .fields ps}:=x
  show h'.get? a=some {cls:= .none,data:= .fields ps}
  exact k a _ (.inl rfl) e
 | met f y=>
  have e:h.get? a=some (PySem.W.methodObj (.ref f) (.ref y)):=x
  show h'.get? a=some (PySem.W.methodObj (.ref f) (.ref y))
  exact k a _ (.inl rfl) e
 | ext φ=>obtain⟨p,⟨o,e⟩,st⟩:=x;exact⟨st _ _ p λo q=>k _ _ (.inl rfl) q,⟨o,k _ _ (.inl rfl) e⟩,st⟩
theorem HOk.lt(x:HOk P w H h)(e:H a=some o):a<h.objs.size:=(x a o e).lt
theorem HOk.fresh(x:HOk P w H h)(e:h.objs.size<=a):H a=none:=by
 cases q:H a with
 | none=>rfl
 | some u=>exact absurd (Zz (x.lt q) e) (ZV _)
theorem HOk.kept(x:HOk P w H h)(k:∀b u,h.get? b=some u->h'.get? b=some u):HOk P w H h':=λa o e=>
 (x a o e).QfE (λb u _ q=>k b u q) (λ_ q=>q) λ_ _ q=>q
theorem HOk.laid(x:HOk P w H h)(k:∀b u,h.get? b=some u->h'.get? b=some u)(hp:h.objs.size<=a)(new:Qbu P w (upd H a o) h' a o):HOk P w (upd H a o) h':=λb u e=>by
 have hn:=x.fresh hp
 by_cases hb:b=a
 ·subst hb;rw[Qag]at e;cases e;exact new
 ·rw[Qz hb]at e
  exact(x b u e).QfE (λc v _ q=>k c v q) (λc q=>by rw[Qz (Qbk q hn)];exact q) λc xs q=>by rw[Qz (Qbk q hn)];exact q
end
def Rd(H:Hp)(a:Addr)(u:HO):Prop:=H a=some u∨∃o,H a=some (.frz o u)
theorem Rd.of{H:Hp}{a:Addr}{u:HO}(h:H a=some u):Rd H a u:= .inl h
theorem Rd.ok{P:Program}{w:World}{H:Hp}{h:Heap}{a:Addr}{u:HO}(r:Rd H a u)(x:HOk P w H h):Qbu P w H h a u:=by
 rcases r with r | ⟨o,r⟩
 ·exact x a u r
 ·obtain⟨_,q⟩:=x a _ r
  exact q
noncomputable def Mut:Option HO->Prop
 | some (.lst _)=>True
 | some (.dK _)=>True
 | some (.dT _)=>True
 | some (.set _ _)=>True
 | some (.ins _ _ _)=>True
 | some (.ext _)=>True
 | _=>False
section
variable {P:Program}{w:World}{H:Hp}{h h':Heap}{x e:Addr}{o':HO}
theorem HOk.write(ok:HOk P w H h)(mu:Mut (H x))(he:e=x∨H e=some (.own x))(k:∀b u,b≠e->h.get? b=some u->h'.get? b=some u)(heo:∃u,h'.get? e=some u)
  (new:Qbu P w (upd H x o') h' x o'):HOk P w (upd H x o') h':=λb u q=>by
 have nown:∀c y,H c=some (.own y)->c≠x:=λc y r z=>by subst z;rw[r]at mu;exact mu
 have ntup:∀c xs,H c=some (.tup xs)->c≠x:=λc xs r z=>by subst z;rw[r]at mu;exact mu
 by_cases hb:b=x
 ·subst hb;rw[Qag]at q;cases q;exact new
 ·rw[Qz hb]at q
  by_cases hbe:b=e
  ·have q':H b=some (.own x):=by
    rcases he with z | z
    ·exact absurd (hbe.trans z) hb
    ·rw[hbe];exact z
   rw[q]at q';cases q'
   obtain⟨v,hv⟩:=heo
   exact⟨v,by rw[hbe];exact hv⟩
  ·refine(ok b u q).QfE (λc v hc r=>k c v ?_ r) (λc r=>by rw[Qz (nown c b r)];exact r) λc xs r=>by rw[Qz (ntup c xs r)];exact r
   rcases hc with rfl | hc
   ·exact hbe
   ·rintro rfl
    rcases he with z | z
    ·exact nown c b hc z
    ·rw[hc]at z;cases z;exact hb rfl
end
structure Un (fs ex:List Addr) (H H':Hp) (h h':Heap):Prop where
 keep:∀b o,h.get? b=some o->H b=none->b∉fs->b∉ex->h'.get? b=some o
 slot:∀b o,h.get? b=some o->H b=none->b∈fs->b∉ex->∃sl,h'.get? b=some {o with slots:=sl}
 free:∀b o,h.get? b=some o->H b=none->b∉ex->H' b=none
 there:∀b o,h.get? b=some o->b∉ex->∃o',h'.get? b=some o'
 tups:∀b xs,H b=some (.tup xs)->H' b=some (.tup xs)
 frzs:∀b o u,H b=some (.frz o u)->H' b=some (.frz o u)
 tbls:∀b ps,H b=some (.tbl ps)->∃more,H' b=some (.tbl (ps++more))
section
variable {fs fs' ex ex':List Addr}{H H1 H2:Hp}{h h1 h2 h':Heap}{a x e:Addr}{o:HO}
theorem Un.any(u:Un fs ex H H1 h h1){b:Addr}{ob:Obj}(q:h.get? b=some ob)(n:H b=none)(hx:b∉ex):∃sl,h1.get? b=some {ob with slots:=sl}:=by
 by_cases hb:b∈fs
 ·exact u.slot b ob q n hb hx
 ·exact⟨ob.slots,u.keep b ob q n hb hx⟩
theorem Un.trans(a:Un fs ex H H1 h h1)(b:Un fs ex H1 H2 h1 h2):Un fs ex H H2 h h2 where
 keep:=λc ob q n hc hx=>b.keep c ob (a.keep c ob q n hc hx) (a.free c ob q n hx) hc hx
 slot:=λc ob q n hc hx=>by
  obtain⟨sl,e1⟩:=a.slot c ob q n hc hx
  obtain⟨sl',e2⟩:=b.slot c _ e1 (a.free c ob q n hx) hc hx
  exact⟨sl',e2⟩
 free:=λc ob q n hx=>by
  obtain⟨o',e1⟩:=a.there c ob q hx
  exact b.free c o' e1 (a.free c ob q n hx) hx
 there:=λc ob q hx=>by
  obtain⟨o',e1⟩:=a.there c ob q hx
  exact b.there c o' e1 hx
 tups:=λc xs q=>b.tups c xs (a.tups c xs q)
 frzs:=λc ob xs q=>b.frzs c ob xs (a.frzs c ob xs q)
 tbls:=λc ps q=>by
  obtain⟨m1,e1⟩:=a.tbls c ps q
  obtain⟨m2,e2⟩:=b.tbls c _ e1
  exact⟨m1++m2,by rw[e2,Array.append_assoc]⟩
theorem Un.kept(k:∀b u,h.get? b=some u->h'.get? b=some u):Un fs ex H H h h':=
 ⟨λb ob q _ _ _=>k b ob q,λb ob q _ _ _=>⟨ob.slots,k b ob q⟩,λ_ _ _ n _=>n,λb ob q _=>⟨ob,k b ob q⟩,λ_ _ q=>q,λ_ _ _ q=>q,λ_ ps q=>⟨#[],by rw[q];simp⟩⟩
theorem Un.refl:Un fs ex H H h h:=Un.kept λ_ _ q=>q
theorem Un.laid(k:∀b u,h.get? b=some u->h'.get? b=some u)(hp:h.objs.size<=a)(hn:H a=none):Un fs ex H (upd H a o) h h' where
 keep:=λb u q _ _ _=>k b u q
 slot:=λb u q _ _ _=>⟨u.slots,k b u q⟩
 free:=λb u q n _=>by rw[Qz (ZN (Zz (Zx q) hp))];exact n
 there:=λb u q _=>⟨u,k b u q⟩
 tups:=λb xs q=>by rw[Qz (Qbk q hn)];exact q
 frzs:=λb u xs q=>by rw[Qz (Qbk q hn)];exact q
 tbls:=λb ps q=>⟨#[],by rw[Qz (Qbk q hn),q];simp⟩
theorem Un.write(mu:Mut (H x))(he:e=x∨H e=some (.own x))(k:∀b u,b≠e->h.get? b=some u->h'.get? b=some u)(heo:∃u,h'.get? e=some u):Un fs ex H (upd H x o) h h':=by
 have hx:∀b,H b=none->b≠x:=λb n z=>by subst z;rw[n]at mu;exact mu
 have hb:∀b,H b=none->b≠e:=λb n z=>by
  subst z
  rcases he with r | r
  ·exact hx b n r
  ·rw[n]at r;cases r
 have hm:∀b u,H b=some u->¬Mut (some u)->b≠x:=λb u q nm z=>by subst z;rw[q]at mu;exact nm mu
 refine⟨λb u q n _ _=>k b u (hb b n) q,λb u q n _ _=>⟨u.slots,k b u (hb b n) q⟩,λb u q n _=>by rw[Qz (hx b n)];exact n,λb u q _=>?_,
  λb xs q=>by rw[Qz (hm b _ q λz=>z)];exact q,λb u xs q=>by rw[Qz (hm b _ q λz=>z)];exact q,λb ps q=>⟨#[],by rw[Qz (hm b _ q λz=>z),q];simp⟩⟩
 by_cases hbe:b=e
 ·subst hbe;exact heo
 ·exact⟨u,k b u hbe q⟩
theorem Un.mono(u:Un fs ex H H1 h h1)(hs:∀b∈fs,b∈fs')(hx:∀b∈ex,b∈ex'):Un fs' ex' H H1 h h1:=
 ⟨λb ob q n hb he=>u.keep b ob q n (λz=>hb (hs b z)) λz=>he (hx b z),λ_ _ q n _ he=>u.any q n λz=>he (hx _ z),λb ob q n he=>u.free b ob q n λz=>he (hx b z),λb ob q he=>u.there b ob q λz=>he (hx b z),u.tups,u.frzs,u.tbls⟩
end
noncomputable def trk(h:Heap)(H:Hp):List Addr:=(List.range h.objs.size).filter λa=>(H a).isSome
noncomputable def Qfk(h:Heap)(H:Hp):Heap:=PySem.W.hideAll h (trk h H)
theorem QoW(h:Heap)(H:Hp):(Qfk h H).objs.size=h.objs.size:=PySem.W.hideAll_size _ _
theorem QpU{h:Heap}{H:Hp}{b:Addr}{o:Obj}(e:h.get? b=some o)(n:H b=none):(Qfk h H).get? b=some o:=
 PySem.W.hideAll_get _ e λhm=>by
  have q:(H b).isSome=true:=(Zax.mp hm).2
  rw[n]at q;simp at q
theorem Qsp{h:Heap}{H:Hp}{b:Addr}{o:Obj}(e:(Qfk h H).get? b=some o):h.get? b=some o/\H b=none:=by
 have e':h.get? b=some o:=PySem.W.of_hideAll (trk h H) e
 refine⟨e',?_⟩
 cases q:H b with
 | none=>rfl
 | some x=>
  have hm:b∈trk h H:=Zax.mpr ⟨ZG.mpr (Zx e'),by simp[q]⟩
  have z:(Qfk h H).get? b=none:=PySem.W.hideAll_none (trk h H) hm
  rw[z]at e;cases e
noncomputable def Qsm(g h:Heap)(L:Addr):List (Addr×Obj):=(List.range h.objs.size).filterMap λa=>if a=L∨(g.get? a).isSome=true then none else(h.get? a).map λo=>(a,o)
noncomputable def rest(g h:Heap)(L d:Addr):List (Addr×Obj):=(Qsm g h L).filter λp=>decide (p.1≠d)
end L2
namespace L2
open PySem PySem.Spec PyProof.Rows
structure Mod (K:PySem.W.Frag) (mg:Str->Option Value) (base:Heap):Prop where
 kin:K.In base
 glob:base.Ns mainGlobals mg
 blt:∃mb,base.Ns builtinsNs mb/\∀x:Str,x≠ "__name__" ->mb x=bootBuiltins x
 nolimit:base.NoLimit
structure Cx where
 prog:Program
 w:World
 K:PySem.W.Frag
 mg:Str->Option Value
 base:Heap
 A:Around
 N:List Str
 s₀:Shared
 H₀:Hp
 env:Env
 outer:List Env
 stack:List Env
 ex:List Addr
 fn:Str->Bool
 calm:Bool
 pn:List (Addr×Obj)
 xe:Value->Shared->Prop
noncomputable def frs(l:List Env):List Addr:=l.filterMap (·.frame)
noncomputable abbrev Cx.fs(X:Cx):List Addr:=frs X.outer
def Vis(sc:Scope)(x:Str):Prop:=sc.names.lookup x=some .local ∨sc.names.lookup x=some .cell∨sc.names.lookup x=some .free
def Loc(sc:Scope)(x:Str):Prop:=sc.names.lookup x=some .local ∨sc.names.lookup x=some .cell
def Look(env:Env)(h:Heap)(m:Str->Option Value)(x:Str)(u:Value):Prop:=
 (env.kindOf x=some .local /\m x=some u)∨((env.kindOf x=some .cell∨env.kindOf x=some .free)/\∃c,env.cells.lookup x=some c/\h.IsCell c (some u))
structure Cx.Ok (X:Cx):Prop where
 mod:Mod X.K X.mg X.base
 kind:X.env.scope.kind= .function
 glob:X.env.globals=mainGlobals
 blt:X.env.builtins=builtinsNs
 above:X.s₀.heap.objs.size<=X.env.locals
 inj:∀x y c,X.env.cells.lookup x=some c->X.env.cells.lookup y=some c->x=y
 has:∀x,(X.env.kindOf x=some .cell∨X.env.kindOf x=some .free)->∃c,X.env.cells.lookup x=some c
 cab:∀x c,X.fn x=true->X.env.cells.lookup x=some c->X.s₀.heap.objs.size<=c
 hd:X.calm=true->X.A.handled=none
 frames:X.A.frames=some X.stack
 stk:X.stack=X.outer∨(X.stack=X.env::X.outer/\X.env.frame=some X.env.locals)
 exf:∀b∈X.ex,b≠X.env.locals/\∀x c,X.env.cells.lookup x=some c->c≠b
 bs:∀b o,X.base.get? b=some o->X.s₀.heap.get? b=some o/\X.H₀ b=none
 bsz:X.base.objs.size<=X.s₀.heap.objs.size
 noex:∀b o,X.base.get? b=some o->b∉X.ex
 exfs:∀b∈X.ex,b∉X.fs
 QcP:X.s₀.heap.FunFrames X.base X.outer
 frf:∀b∈X.fs,X.H₀ b=none
structure Inv (X:Cx) (pins:List (Addr×Obj)) (σ:List (Option V)) (H:Hp) (s:Shared):Prop where
 ok:X.Ok
 os:s.os=X.s₀.os
 bare:AllBare s.gens
 base:Un X.fs X.ex X.H₀ H X.s₀.heap s.heap
 loc:∃m,s.heap.Ns X.env.locals m/\∀(i:Nat) (x:Str) (v:V),X.N[i]? =some x->σ[i]? =some (some v)->Vis X.env.scope x->∃u,RelV v u/\Look X.env s.heap m x u
 cell:∀x c,X.env.cells.lookup x=some c->∃v,s.heap.IsCell c v
 free:H X.env.locals=none
 freeC:∀x c,X.env.cells.lookup x=some c->H c=none
 pin:∀p∈X.pn++pins,s.heap.get? p.1=some p.2/\H p.1=none/\p.1≠X.env.locals/\p.1∉X.fs/\∀v,p.2.data≠ .cell v
 hok:HOk X.prog X.w H s.heap
 len:σ.length=X.N.length
section
variable {X:Cx}{pins:List (Addr×Obj)}{σ:List (Option V)}{H H':Hp}{s:Shared}{h':Heap}
theorem Cx.Ok.QxE(ok:X.Ok){b:Addr}{o:Obj}(e:X.base.get? b=some o):b∉X.fs:=λhb=>by
 have:=(ok.QcP.mem hb).1
 rw[e]at this;cases this
theorem Inv.bs(I:Inv X pins σ H s):∀b o,X.base.get? b=some o->s.heap.get? b=some o/\H b=none:=λb o e=>
 ⟨I.base.keep b o (I.ok.bs b o e).1 (I.ok.bs b o e).2 (I.ok.QxE e) (I.ok.noex b o e),I.base.free b o (I.ok.bs b o e).1 (I.ok.bs b o e).2 (I.ok.noex b o e)⟩
theorem Inv.bk(I:Inv X pins σ H s):∀b o,X.base.get? b=some o->s.heap.get? b=some o:=λb o e=>(I.bs b o e).1
theorem Inv.mod(I:Inv X pins σ H s):Mod X.K X.mg X.base:=I.ok.mod
theorem Inv.kIn(I:Inv X pins σ H s):X.K.In s.heap:=I.ok.mod.kin.keeps I.bk
theorem Inv.nolimit(I:Inv X pins σ H s):s.heap.NoLimit:=I.ok.mod.nolimit.keeps I.bk
theorem Inv.fr(I:Inv X pins σ H s):∃m,Fr X.base X.env.locals s.heap m:=
 let ⟨m,hn,_⟩:=I.loc
 ⟨m,hn,I.bk,ZF I.ok.bsz I.ok.above⟩
theorem Inv.lt(I:Inv X pins σ H s):X.env.locals<s.heap.objs.size:=let ⟨_,hn,_⟩:=I.loc;hn.lt
theorem Inv.sz(I:Inv X pins σ H s):X.s₀.heap.objs.size<=s.heap.objs.size:=ZF I.ok.above (Nat.le_of_lt I.lt)
theorem Inv.Qxp(I:Inv X pins σ H s){a:Addr}(h:s.heap.objs.size<=a):a∉X.fs:=λhb=>by
 obtain⟨_,o,ho,_⟩:=I.ok.QcP.mem hb
 exact absurd (Zz (Zx ho) (ZF I.sz h)) (ZV _)
theorem Inv.cne(I:Inv X pins σ H s):∀x c,X.env.cells.lookup x=some c->c≠X.env.locals:=λx c e z=>by
 obtain⟨v,o,ho,hd⟩:=I.cell x c e
 obtain⟨m,⟨o',es,ep,ho',hd',_⟩,_⟩:=I.loc
 rw[z,ho']at ho;cases ho;rw[hd']at hd;cases hd
theorem Inv.QcP(I:Inv X pins σ H s):s.heap.FunFrames X.base X.outer:=by
 have all:∀(l:List Env),(∀b∈frs l,b∈X.fs)->X.s₀.heap.FunFrames X.base l->s.heap.FunFrames X.base l:=by
  intro l
  induction l with
  | nil=>intro _ _;trivial
  | cons env r ih=>
   intro hs hl
   obtain⟨hk,⟨L,o,hf,hn,ho,hd⟩,hr⟩:=hl
   have hL:L∈X.fs:=hs L (by unfold frs;rw[Zbr,hf];exact Zf)
   obtain⟨sl,e⟩:=I.base.slot L o ho (I.ok.frf L hL) hL λz=>I.ok.exfs L z hL
   exact⟨hk,⟨L,_,hf,hn,e,hd⟩,ih (λb hb=>hs b (by unfold frs;rw[Zbr,hf];exact Zb _ hb)) hr⟩
 exact all X.outer (λ_ hb=>hb) I.ok.QcP
theorem Inv.stack(I:Inv X pins σ H s):s.heap.FunFrames X.base X.stack:=by
 rcases I.ok.stk with e | ⟨e,hf⟩
 ·rw[e];exact I.QcP
 ·rw[e]
  obtain⟨m,hn,_⟩:=I.loc
  refine .cons (by rw[I.ok.kind];decide) hf hn ?_ I.QcP
  exact Heap.get?_none_of_le (ZF I.ok.bsz I.ok.above)
theorem Inv.QhJ(I:Inv X pins σ H s):∀b∈frs X.stack,b∈X.env.locals::X.fs:=λb hb=>by
 rcases I.ok.stk with e | ⟨e,hf⟩
 ·rw[e]at hb;exact Zb _ hb
 ·rw[e]at hb
  unfold frs at hb
  rw[Zbr,hf]at hb
  exact hb
theorem Inv.Qmt(I:Inv X pins σ H s):∀b∈frs X.stack,H b=none:=λb hb=>by
 rcases Zo.mp (I.QhJ b hb)with e | hb
 ·rw[e];exact I.free
 ·obtain⟨_,o,ho,_⟩:=I.ok.QcP.mem hb
  exact I.base.free b o ho (I.ok.frf b hb) λz=>I.ok.exfs b z hb
theorem Inv.step{g':Array GenState}{t':Nat}{d':Drawn}{ch:List Addr}(I:Inv X pins σ H s)
  (hch:∀b∈ch,(b∈X.ex∨X.s₀.heap.objs.size<=b)/\b≠X.env.locals/\(∀x c,X.env.cells.lookup x=some c->c≠b)/\∀p∈X.pn++pins,p.1≠b)
  (keep:∀b o,b≠X.env.locals->b∉X.fs->b∉ch->s.heap.get? b=some o->H b=none->h'.get? b=some o)
  (slot:∀b o,b≠X.env.locals->b∈X.fs->b∉ch->s.heap.get? b=some o->H b=none->∃sl,h'.get? b=some {o with slots:=sl}) (free:∀b o,b∉ch->s.heap.get? b=some o->H b=none->H' b=none)
  (there:∀b o,b∉ch->s.heap.get? b=some o->∃o',h'.get? b=some o')
  (tups:∀b xs,H b=some (.tup xs)->H' b=some (.tup xs)) (frzs:∀b o u,H b=some (.frz o u)->H' b=some (.frz o u)) (tbls:∀b ps,H b=some (.tbl ps)->∃more,H' b=some (.tbl (ps++more)))
  (ns:∀m,s.heap.Ns X.env.locals m->h'.Ns X.env.locals m) (hok:HOk X.prog X.w H' h') (hg:AllBare g'):
  Inv X pins σ H' {s with heap:=h',gens:=g',drawn:=d',toks:=t'}:=by
 have neL:∀b o,X.s₀.heap.get? b=some o->b≠X.env.locals:=λb o e=>ZN (Zz (Zx e) I.ok.above)
 have neC:∀b o,X.s₀.heap.get? b=some o->b∉X.ex->b∉ch:=λb o e hx hb=>by
  rcases(hch b hb).1 with z | z
  ·exact hx z
  ·exact absurd (Zz (Zx e) z) (ZV _)
 have cellK:∀x c,X.env.cells.lookup x=some c->∀v,s.heap.IsCell c v->h'.IsCell c v:=λx c e v hpt=>by
  obtain⟨o,ho,hd⟩:=hpt
  have nch:c∉ch:=λz=>(hch c z).2.2.1 x c e rfl
  by_cases hc:c∈X.fs
  ·obtain⟨sl,q⟩:=slot c o (I.cne x c e) hc nch ho (I.freeC x c e)
   exact⟨_,q,hd⟩
  ·exact⟨o,keep c o (I.cne x c e) hc nch ho (I.freeC x c e),hd⟩
 refine⟨I.ok,I.os,hg,⟨λb o e n hb hx=>?_,λb o e n hb hx=>?_,λb o e n hx=>?_,λb o e hx=>?_,λb xs e=>tups b xs (I.base.tups b xs e),λb o xs e=>frzs b o xs (I.base.frzs b o xs e),λb ps e=>?_⟩,?_,λx c e=>?_,?_,λx c e=>?_,λp hp=>?_,hok,I.len⟩
 ·exact keep b o (neL b o e) hb (neC b o e hx) (I.base.keep b o e n hb hx) (I.base.free b o e n hx)
 ·obtain⟨sl,e1⟩:=I.base.slot b o e n hb hx
  obtain⟨sl',e2⟩:=slot b _ (neL b o e) hb (neC b o e hx) e1 (I.base.free b o e n hx)
  exact⟨sl',e2⟩
 ·obtain⟨o',e1⟩:=I.base.there b o e hx
  exact free b o' (neC b o e hx) e1 (I.base.free b o e n hx)
 ·obtain⟨o',e1⟩:=I.base.there b o e hx
  exact there b o' (neC b o e hx) e1
 ·obtain⟨m1,e1⟩:=I.base.tbls b ps e
  obtain⟨m2,e2⟩:=tbls b _ e1
  exact⟨m1++m2,by rw[e2,Array.append_assoc]⟩
 ·obtain⟨m,hn,hl⟩:=I.loc
  refine⟨m,ns m hn,λi x v e1 e2 e3=>?_⟩
  obtain⟨u,r,l⟩:=hl i x v e1 e2 e3
  refine⟨u,r,?_⟩
  rcases l with l | ⟨k,c,e,z⟩
  ·exact .inl l
  ·exact .inr ⟨k,c,e,cellK x c e _ z⟩
 ·obtain⟨v,z⟩:=I.cell x c e
  exact⟨v,cellK x c e v z⟩
 ·obtain⟨m,⟨o,_,_,ho,_⟩,_⟩:=I.loc
  exact free _ o (λz=>(hch _ z).2.1 rfl) ho I.free
 ·obtain⟨v,o,ho,hd⟩:=I.cell x c e
  exact free c o (λz=>(hch c z).2.2.1 x c e rfl) ho (I.freeC x c e)
 ·obtain⟨e,n,ne,nf,d⟩:=I.pin p hp
  have nch:p.1∉ch:=λz=>(hch p.1 z).2.2.2 p hp rfl
  exact⟨keep p.1 p.2 ne nf nch e n,free p.1 p.2 nch e n,ne,nf,d⟩
theorem Inv.un{t':Nat}(I:Inv X pins σ H s)(u:Un X.fs [] H H' s.heap h')(hok:HOk X.prog X.w H' h'):Inv X pins σ H' {s with heap:=h',toks:=t'}:=by
 obtain⟨m,⟨o,es,ep,ho,r⟩,_⟩:=id I.loc
 obtain⟨sl,hL⟩:=u.any ho I.free (by simp)
 exact I.step (g':=s.gens) (d':=s.drawn) (ch:=[]) (λ_ z=>nomatch z) (λb o _ hb _ e n=>u.keep b o e n hb (by simp)) (λb o _ hb _ e n=>u.slot b o e n hb (by simp)) (λb o _ e n=>u.free b o e n (by simp)) (λb o _ e=>u.there b o e (by simp)) u.tups u.frzs u.tbls (λm' hm=>by
  obtain⟨o',es',ep',ho',r'⟩:=hm
  rw[ho]at ho';cases ho'
  exact⟨_,es',ep',hL,r'⟩) hok I.bare
theorem Inv.call{g':Array GenState}{t':Nat}{d':Drawn}{ch:List Addr}(I:Inv X pins σ H s)(u:Un (frs X.stack) ch H H' s.heap h')(hok:HOk X.prog X.w H' h')(hg:AllBare g')
  (hch:∀b∈ch,(b∈X.ex∨X.s₀.heap.objs.size<=b)/\b≠X.env.locals/\(∀x c,X.env.cells.lookup x=some c->c≠b)/\∀p∈X.pn++pins,p.1≠b):
  Inv X pins σ H' {s with heap:=h',gens:=g',drawn:=d',toks:=t'}:=by
 obtain⟨m,⟨o,es,ep,ho,r⟩,_⟩:=id I.loc
 obtain⟨sl,hL⟩:=u.any ho I.free λz=>(hch _ z).2.1 rfl
 exact I.step (ch:=ch) hch (λb o hL hb hc e n=>u.keep b o e n (λz=>(Zo.mp (I.QhJ b z)).elim hL hb) hc) (λb o _ _ hc e n=>u.any e n hc) (λb o hc e n=>u.free b o e n hc) (λb o hc e=>u.there b o e hc) u.tups u.frzs u.tbls (λm' hm=>by
  obtain⟨o',es',ep',ho',r'⟩:=hm
  rw[ho]at ho';cases ho'
  exact⟨_,es',ep',hL,r'⟩) hok hg
theorem Inv.turned{t':Nat}{it:Addr}(I:Inv X pins σ H s)(k:∀b o,b≠it->s.heap.get? b=some o->h'.get? b=some o)(hn:H it=none)(hL:it≠X.env.locals)
  (h1:it∈X.ex∨X.s₀.heap.objs.size<=it) (h2:∀x c,X.env.cells.lookup x=some c->c≠it) (h3:∀p∈X.pn++pins,p.1≠it):Inv X pins σ H {s with heap:=h',toks:=t'}:=by
 have nit:∀b u,H b=some u->b≠it:=λb u e z=>by rw[z,hn]at e;cases e
 refine I.step (g':=s.gens) (d':=s.drawn) (ch:=[it]) (λb hb=>?_) (λb o _ _ hc e _=>k b o (λz=>hc (by simp[z])) e) (λb o _ _ hc e _=>⟨o.slots,k b o (λz=>hc (by simp[z])) e⟩) (λ_ _ _ _ n=>n)
  (λb o hc e=>⟨o,k b o (λz=>hc (by simp[z])) e⟩) (λ_ _ e=>e) (λ_ _ _ e=>e) (λb ps e=>⟨#[],by rw[e];simp⟩) (λm hm=>?_) (λb u e=>?_) I.bare
 ·have e:b=it:=by simpa using hb
  subst e
  exact⟨h1,hL,h2,h3⟩
 ·obtain⟨o,es,ep,ho,r⟩:=hm
  exact⟨o,es,ep,k _ o (Ne.symm hL) ho,r⟩
 ·refine(I.hok b u e).QfE (λc v hc q=>k c v ?_ q) (λ_ q=>q) λ_ _ q=>q
  rcases hc with z | z
  ·rw[z];exact nit b u e
  ·exact nit c _ z
theorem Inv.tok(I:Inv X pins σ H s)(t:Nat):Inv X pins σ H {s with toks:=t}:=I.un (h':=s.heap) (t':=t) Un.refl I.hok
theorem Inv.kept{t':Nat}(I:Inv X pins σ H s)(k:∀b u,s.heap.get? b=some u->h'.get? b=some u):Inv X pins σ H {s with heap:=h',toks:=t'}:=I.un (Un.kept k) (I.hok.kept k)
theorem Inv.laid{a:Addr}{o:HO}{t':Nat}(I:Inv X pins σ H s)(k:∀b u,s.heap.get? b=some u->h'.get? b=some u)(hp:s.heap.objs.size<=a)(new:Qbu X.prog X.w (upd H a o) h' a o):
  Inv X pins σ (upd H a o) {s with heap:=h',toks:=t'}:=I.un (Un.laid k hp (I.hok.fresh hp)) (I.hok.laid k hp new)
theorem Inv.write{x e:Addr}{o:HO}{t':Nat}(I:Inv X pins σ H s)(mu:Mut (H x))(he:e=x∨H e=some (.own x))(k:∀b u,b≠e->s.heap.get? b=some u->h'.get? b=some u)(heo:∃u,h'.get? e=some u)
  (new:Qbu X.prog X.w (upd H x o) h' x o):Inv X pins σ (upd H x o) {s with heap:=h',toks:=t'}:=I.un (Un.write mu he k heo) (I.hok.write mu he k heo new)
theorem Inv.weak{σ':List (Option V)}(I:Inv X pins σ H s)(hl:σ'.length=σ.length)(w:∀(i:Nat) v,σ'[i]? =some (some v)->σ[i]? =some (some v)):Inv X pins σ' H s:=
 ⟨I.ok,I.os,I.bare,I.base,let ⟨m,hn,hl'⟩:=I.loc;⟨m,hn,λi x v e1 e2 e3=>hl' i x v e1 (w i v e2) e3⟩,I.cell,I.free,I.freeC,I.pin,I.hok,hl.trans I.len⟩
theorem Inv.Qml{pins':List (Addr×Obj)}(I:Inv X pins σ H s)(h:∀p∈pins',s.heap.get? p.1=some p.2/\H p.1=none/\p.1≠X.env.locals/\p.1∉X.fs/\∀v,p.2.data≠ .cell v):Inv X pins' σ H s:=
 ⟨I.ok,I.os,I.bare,I.base,I.loc,I.cell,I.free,I.freeC,λp hp=>(Zr.mp hp).elim (λz=>I.pin p (Zh _ z)) (h p),I.hok,I.len⟩
theorem QkT{N:List Str}(hN:N.Nodup){i j:Nat}{x:Str}(a:N[i]? =some x)(b:N[j]? =some x):i=j:=by
 obtain⟨h1,e1⟩:=Zd.mp a
 obtain⟨h2,e2⟩:=Zd.mp b
 exact(List.getElem_inj hN).mp (e1.trans e2.symm)
theorem Qjc{M:Model}{A:Around}{E:Value->Shared->Prop}{i:Nat}{x:Str}{v:V}{u:Value}{Q:Unit->Shared->Prop}(I:Inv X pins σ H s)(hN:X.N.Nodup)(hi:X.N[i]? =some x)(hx:Loc X.env.scope x)(r:RelV v u)
  (h:∀s',Inv X pins (σ.set i (some v)) H s'->(∃a,Heap.SameBut a s.heap s'.heap/\(a=X.env.locals∨X.env.cells.lookup x=some a))->Q () s') (hf:X.fn x=true∨X.env.scope.names.lookup x=some .local :=by first | exact .inl rfl | exact .inr rfl | assumption):wpAny M A (storeName X.env x u) Q E s:=by
 obtain⟨m,hn,hl⟩:=id I.loc
 have hcls:(X.env.scope.kind == .class || (X.env.scope.kind == .module && X.env.locals != X.env.globals))=false:=by rw[I.ok.kind];rfl
 have hiσ:i<σ.length:=by rw[I.len];exact(Zd.mp hi).1
 have cne:=I.cne
 have tracked:∀{a:Addr}{h':Heap},(∃o,s.heap.get? a=some o/\H a=none)->Heap.SameBut a s.heap h'->HOk X.prog X.w H h':=λ{a h'} ha hs b ob e=>by
  obtain⟨_,_,hfree⟩:=ha
  refine(I.hok b ob e).QfE (λc w' hc q=>(hs.2 c ?_).trans q) (λ_ q=>q) λ_ _ q=>q
  rintro rfl
  rcases hc with rfl | hc
  ·rw[hfree]at e;cases e
  ·rw[hfree]at hc;cases hc
 rcases hx with hk | hk
 ·refine wpAny_storeName_local hk hn (λh' hn' hs=>?_) hcls
  obtain⟨oL,_,_,hoL,_⟩:=id hn
  refine h _ ⟨I.ok,I.os,I.bare,⟨λb o e n hb hx=>?_,λb o e n hb hx=>?_,I.base.free,λb o e hx=>?_,I.base.tups,I.base.frzs,I.base.tbls⟩,⟨_,hn',λj y v' e1 e2 e3=>?_⟩,λy c e=>?_,I.free,I.freeC,λp hp=>?_,tracked ⟨oL,hoL,I.free⟩ hs,by simpa using I.len⟩ ⟨_,hs,.inl rfl⟩
  ·exact(hs.2 b (ZN (Zz (Zx e) I.ok.above))).trans (I.base.keep b o e n hb hx)
  ·obtain⟨sl,e1⟩:=I.base.slot b o e n hb hx
   exact⟨sl,(hs.2 b (ZN (Zz (Zx e) I.ok.above))).trans e1⟩
  ·obtain⟨o',e1⟩:=I.base.there b o e hx
   exact⟨o',(hs.2 b (ZN (Zz (Zx e) I.ok.above))).trans e1⟩
  ·by_cases hj:j=i
   ·subst hj
    rw[hi]at e1;cases e1
    rw[Zt hiσ]at e2
    cases e2
    exact⟨u,r,.inl ⟨hk,by simp⟩⟩
   ·rw[Zi (Ne.symm hj)]at e2
    obtain⟨u',r',q⟩:=hl j y v' e1 e2 e3
    refine⟨u',r',?_⟩
    rcases q with⟨k,e⟩ | ⟨k,c,e,z⟩
    ·refine .inl ⟨k,?_⟩
     have:y≠x:=λe=>hj (QkT hN e1 (e▸hi))
     simp[this,e]
    ·exact .inr ⟨k,c,e,z.sameBut hs (cne y c e)⟩
  ·obtain⟨w',z⟩:=I.cell y c e
   exact⟨w',z.sameBut hs (cne y c e)⟩
  ·obtain⟨e,n,ne,nf,d⟩:=I.pin p hp
   exact⟨(hs.2 p.1 ne).trans e,n,ne,nf,d⟩
 ·have hfn:X.fn x=true:=by
   rcases hf with z | z
   ·exact z
   ·rw[z]at hk;cases hk
  obtain⟨c,hc⟩:=I.ok.has x (.inl hk)
  obtain⟨w',z⟩:=I.cell x c hc
  refine wpAny_storeName_cell I.ok.kind hk hc z (λh' hc' hs=>?_)
  obtain⟨oc,hoc,hocd⟩:=id z
  refine h {s with heap:=h'} ⟨I.ok,I.os,I.bare,⟨λb o e n hb hx=>?_,λb o e n hb hx=>?_,I.base.free,λb o e hx=>?_,I.base.tups,I.base.frzs,I.base.tbls⟩,⟨m,hn.sameBut hs (Ne.symm (cne x c hc)),λj y v' e1 e2 e3=>?_⟩,λy c' e=>?_,I.free,I.freeC,λp hp=>?_,tracked ⟨oc,hoc,I.freeC x c hc⟩ hs,by simpa using I.len⟩ ⟨c,hs,.inr hc⟩
  ·exact(hs.2 b (ZN (Zz (Zx e) (I.ok.cab x c hfn hc)))).trans (I.base.keep b o e n hb hx)
  ·obtain⟨sl,e1⟩:=I.base.slot b o e n hb hx
   exact⟨sl,(hs.2 b (ZN (Zz (Zx e) (I.ok.cab x c hfn hc)))).trans e1⟩
  ·obtain⟨o',e1⟩:=I.base.there b o e hx
   exact⟨o',(hs.2 b (ZN (Zz (Zx e) (I.ok.cab x c hfn hc)))).trans e1⟩
  ·by_cases hj:j=i
   ·subst hj
    rw[hi]at e1;cases e1
    rw[Zt hiσ]at e2
    cases e2
    exact⟨u,r,.inr ⟨.inl hk,c,hc,hc'⟩⟩
   ·rw[Zi (Ne.symm hj)]at e2
    obtain⟨u',r',q⟩:=hl j y v' e1 e2 e3
    refine⟨u',r',?_⟩
    rcases q with q | ⟨k,c',e,z'⟩
    ·exact .inl q
    ·refine .inr ⟨k,c',e,z'.sameBut hs ?_⟩
     rintro rfl
     exact hj (QkT hN e1 (I.ok.inj _ _ _ e hc▸hi))
  ·by_cases hcc:c'=c
   ·subst hcc;exact⟨_,hc'⟩
   ·obtain⟨w2,z2⟩:=I.cell y c' e
    exact⟨w2,z2.sameBut hs hcc⟩
  ·obtain⟨e,n,ne,nf,d⟩:=I.pin p hp
   refine⟨(hs.2 p.1 ?_).trans e,n,ne,nf,d⟩
   intro q
   rw[q,hoc]at e
   have q':oc=p.2:=Option.some.inj e
   exact d w' (by rw[← q'];exact hocd)
theorem Qkm{M:Model}{A:Around}{E:Value->Shared->Prop}{i:Nat}{x:Str}{v:V}{u:Value}{Q:Unit->Shared->Prop}(I:Inv X pins σ H s)(hN:X.N.Nodup)(hi:X.N[i]? =some x)(hx:Loc X.env.scope x)(r:RelV v u)
  (h:∀s',Inv X pins (σ.set i (some v)) H s'->Q () s') (hf:X.fn x=true∨X.env.scope.names.lookup x=some .local :=by first | exact .inl rfl | exact .inr rfl | assumption):wpAny M A (storeName X.env x u) Q E s:=
 Qjc I hN hi hx r (λs' I' _=>h s' I') hf
theorem Inv.QwJ{s':Shared}{ch:List Addr}(I:Inv X pins σ H s)(ho:s'.os=s.os)(u:Un (frs X.stack) ch H H' s.heap s'.heap)(hok:HOk X.prog X.w H' s'.heap)(hg:AllBare s'.gens)
  (hch:∀b∈ch,(b∈X.ex∨X.s₀.heap.objs.size<=b)/\b≠X.env.locals/\(∀x c,X.env.cells.lookup x=some c->c≠b)/\∀p∈X.pn++pins,p.1≠b):Inv X pins σ H' s':=by
 obtain⟨h',g',d',t',o'⟩:=s'
 have e:o'=s.os:=ho
 subst e
 exact I.call (g':=g') (t':=t') (d':=d') u hok hg hch
end
noncomputable abbrev XK:=Value->Option Addr->Hp->Prop
noncomputable abbrev St:=List (Option V)
noncomputable abbrev VK:=V->Hp->Prop
noncomputable abbrev TE:=St->Hp->VK->Prop
noncomputable abbrev TT:=St->Hp->(Bool->Hp->Prop)->Prop
noncomputable abbrev TA:=St->Hp->(List V->Hp->Prop)->Prop
structure Ends where
 nx:St->Hp->Prop
 rt:VK
 bk:St->Hp->Prop:=λ_ _=>False
 ct:St->Hp->Prop:=λ_ _=>False
noncomputable abbrev TS:=Ends->St->Hp->Prop
def EP(X:Cx)(pins:List (Addr×Obj))(σ:St)(Q:VK)(u:Value)(s':Shared):Prop:=∃v H',Inv X pins σ H' s'/\RelV v u/\Q v H'
def TP(X:Cx)(pins:List (Addr×Obj))(σ:St)(Q:Bool->Hp->Prop)(b:Bool)(s':Shared):Prop:=∃H',Inv X pins σ H' s'/\Q b H'
def AP(X:Cx)(pins:List (Addr×Obj))(σ:St)(Q:List V->Hp->Prop)(us:List Value)(s':Shared):Prop:=∃vs H',Inv X pins σ H' s'/\Qt vs us/\Q vs H'
def SP(X:Cx)(pins:List (Addr×Obj))(D:Ends)(f:Flow)(s':Shared):Prop:=
 match f with
 | .next=>∃σ' H',Inv X pins σ' H' s'/\D.nx σ' H'
 | .brk=>∃σ' H',Inv X pins σ' H' s'/\D.bk σ' H'
 | .cont=>∃σ' H',Inv X pins σ' H' s'/\D.ct σ' H'
 | .ret u=>∃v σ' H',Inv X pins σ' H' s'/\RelV v u/\D.rt v H'
def PE(X:Cx)(e:Expr)(t:TE):Prop:=
 ∀(pins:List (Addr×Obj)) (s:Shared) (σ:St) (H:Hp) (Q:VK),Inv X pins σ H s->t σ H Q->wpAny (model X.prog X.w) X.A (eval e X.env) (EP X pins σ Q) X.xe s
def PT(X:Cx)(e:Expr)(t:TT):Prop:=
 ∀(pins:List (Addr×Obj)) (s:Shared) (σ:St) (H:Hp) (Q:Bool->Hp->Prop),Inv X pins σ H s->t σ H Q->wpAny (model X.prog X.w) X.A (isTrue e X.env (eval e X.env)) (TP X pins σ Q) X.xe s
def PW(X:Cx)(e:Expr)(t:TT):Prop:=
 ∀(whole:Sem Value) (pins:List (Addr×Obj)) (s:Shared) (σ:St) (H:Hp) (Q:Bool->Hp->Prop),Inv X pins σ H s->t σ H Q->wpAny (model X.prog X.w) X.A (isTrue e X.env whole) (TP X pins σ Q) X.xe s
theorem PW.pt{X:Cx}{e:Expr}{t:TT}(h:PW X e t):PT X e t:=h _
def PA(X:Cx)(es:List Expr)(t:TA):Prop:=
 ∀(pos:Pos) (pins:List (Addr×Obj)) (s:Shared) (σ:St) (H:Hp) (Q:List V->Hp->Prop),Inv X pins σ H s->t σ H Q->wpAny (model X.prog X.w) X.A (spliced (backTo pos (starEach es X.env))) (AP X pins σ Q) X.xe s
def PS(X:Cx)(st:Stmt)(t:TS):Prop:=
 ∀(pins:List (Addr×Obj)) (s:Shared) (σ:St) (H:Hp) (D:Ends),Inv X pins σ H s->t D σ H->wpAny (model X.prog X.w) X.A (exec st X.env) (SP X pins D) X.xe s
def PSs(X:Cx)(st:List Stmt)(t:TS):Prop:=
 ∀(pins:List (Addr×Obj)) (s:Shared) (σ:St) (H:Hp) (D:Ends),Inv X pins σ H s->t D σ H->wpAny (model X.prog X.w) X.A (execs st X.env) (SP X pins D) X.xe s
theorem thn{α:Type}{t:Sem α}{Q Q':α->Shared->Prop}{M:Model}{A:Around}{E:Value->Shared->Prop}{s:Shared}(h:wpAny M A t Q E s)(hQ:∀a s,Q a s->Q' a s):wpAny M A t Q' E s:=wpAny_mono h hQ λ_ _ x=>x
end L2
namespace L2
open PySem PySem.Spec PyProof.Rows
section
variable {X:Cx}
noncomputable def Qfj(i:Nat):TE:=λσ H Q=>∃v,σ[i]? =some (some v)/\Q v H
noncomputable def tC(v:V):TE:=λ_ H Q=>Q v H
theorem QuO{i:Nat}{x:Str}{pos:Pos}(hN:X.N[i]? =some x)(hv:Vis X.env.scope x)(hd:(x == ("__debug__" :Str))=false:=by decide)(hcd:(x == ("__classdict__" :Str))=false:=by decide):PE X (.Name x pos) (Qfj i):=by
 intro pins s σ H Q I h
 obtain⟨v,e,h⟩:=h
 obtain⟨m,hn,hl⟩:=I.loc
 obtain⟨u,r,l⟩:=hl i x v hN e hv
 have fin:EP X pins σ Q u s:=⟨v,H,I,r,h⟩
 rcases l with⟨hk,hm⟩ | ⟨hk,c,hc,hcell⟩
 ·exact wpAny_Name (wpAny_loadName_local I.ok.kind hk hn hm fin) hd
 ·rcases hk with hk | hk
  ·exact wpAny_Name (wpAny_loadName_cell I.ok.kind hk hc hcell fin) hd
  ·exact wpAny_Name (wpAny_loadName_free I.ok.kind hk hc hcell fin hcd) hd
theorem QuA{i j pos}:PE X (.Constant (.int i) j pos) (tC (.int i)):=λ_ _ _ H _ I h=>wpAny_Constant_int ⟨.int i,H,I.tok _,⟨_,rfl⟩,h⟩
theorem Qwn{b j pos}:PE X (.Constant (.bool b) j pos) (tC (.bl b)):=λ_ _ _ H _ I h=>Constant_bool ⟨.bl b,H,I,rfl,h⟩
theorem Qu8{j pos}:PE X (.Constant .none j pos) (tC .non):=λ_ _ _ H _ I h=>Constant_none ⟨.non,H,I,rfl,h⟩
theorem QuW{x j pos}:PE X (.Constant (.str x) j pos) (tC (.str x)):=λ_ _ _ H _ I h=>Calls.Constant_str ⟨.str x,H,I.tok _,⟨_,rfl⟩,h⟩
def Gl(X:Cx)(x:Str):Prop:=X.env.kindOf x=some .globalImplicit
theorem QeX{E:Value->Shared->Prop}{pins:List (Addr×Obj)}{s:Shared}{σ:St}{H:Hp}{x:Str}{u:Value}{pos:Pos}{Q:Value->Shared->Prop}(I:Inv X pins σ H s)(hg:Gl X x)(hm:X.mg x=some u)(h:Q u s)
  (hd:(x == ("__debug__" :Str))=false:=by decide):wpAny (model X.prog X.w) X.A (eval (.Name x pos) X.env) Q E s:=
 Calls.Name_function_global I.ok.kind hg (Calls.loadGlobal_global (by rw[I.ok.glob];exact I.mod.glob.keeps I.bk) hm h) hd
theorem Qc3{E:Value->Shared->Prop}{pins:List (Addr×Obj)}{s:Shared}{σ:St}{H:Hp}{x:Str}{u:Value}{pos:Pos}{Q:Value->Shared->Prop}(I:Inv X pins σ H s)(hg:Gl X x)(hm:X.mg x=none)(hv:bootBuiltins x=some u)(h:Q u s)
  (hn:x≠ "__name__" :=by decide) (hd:(x == ("__debug__" :Str))=false:=by decide):wpAny (model X.prog X.w) X.A (eval (.Name x pos) X.env) Q E s:=by
 obtain⟨mb,h1,h2⟩:=I.mod.blt
 exact Calls.Name_function_global I.ok.kind hg (Calls.loadGlobal_builtin (by rw[I.ok.glob];exact I.mod.glob.keeps I.bk) hm (by rw[I.ok.blt];exact h1.keeps I.bk) ((h2 x hn).trans hv) h) hd
theorem Qmb{x:Str}{v:V}{u:Value}{pos:Pos}(hg:Gl X x)(hm:X.mg x=some u)(r:RelV v u)(hd:(x == ("__debug__" :Str))=false:=by decide):PE X (.Name x pos) (tC v):=
 λ_ _ _ H _ I h=>QeX I hg hm ⟨v,H,I,r,h⟩ hd
theorem QeW{x:Str}{v:V}{u:Value}{pos:Pos}(hg:Gl X x)(hm:X.mg x=none)(hv:bootBuiltins x=some u)(r:RelV v u)(hn:x≠ "__name__" :=by decide)(hd:(x == ("__debug__" :Str))=false:=by decide):PE X (.Name x pos) (tC v):=
 λ_ _ _ H _ I h=>Qc3 I hg hm hv ⟨v,H,I,r,h⟩ hn hd
variable {a b:Expr}{ta tb:TE}{pos:Pos}
variable {tA tB':TT}{rest:List Expr}
noncomputable def Qxn(t u:TT):TT:=λσ H Q=>t σ H λc H1=>if c=true then u σ H1 Q else Q false H1
noncomputable def tOr(t u:TT):TT:=λσ H Q=>t σ H λc H1=>if c=true then Q true H1 else u σ H1 Q
noncomputable def Qx3(t:TT):TT:=λσ H Q=>t σ H λc H1=>Q (!c) H1
theorem Qtt(ha:PT X a tA):PW X (.BoolOp .And [a] pos) tA:=by
 intro wh pins s σ H Q I h
 refine isTrue_and (thn (ha pins s σ H Q I h) λc s1 e=>?_)
 cases c with
 | true=>exact isTrue_and_nil e
 | false=>exact e
theorem Qvm(ha:PT X a tA):PW X (.BoolOp .Or [a] pos) tA:=by
 intro wh pins s σ H Q I h
 refine isTrue_or (thn (ha pins s σ H Q I h) λc s1 e=>?_)
 cases c with
 | false=>exact isTrue_or_nil e
 | true=>exact e
theorem Qvv(ha:PT X a tA)(hb:PW X (.BoolOp .And (b::rest) pos) tB'):PW X (.BoolOp .And (a::b::rest) pos) (Qxn tA tB'):=by
 intro wh pins s σ H Q I h
 refine isTrue_and (thn (ha pins s σ H _ I h) λc s1 hpt=>?_)
 obtain⟨H1,I1,q1⟩:=hpt
 cases c with
 | true=>exact hb wh pins s1 σ H1 Q I1 q1
 | false=>exact⟨H1,I1,q1⟩
theorem Qwi(ha:PT X a tA)(hb:PW X (.BoolOp .Or (b::rest) pos) tB'):PW X (.BoolOp .Or (a::b::rest) pos) (tOr tA tB'):=by
 intro wh pins s σ H Q I h
 refine isTrue_or (thn (ha pins s σ H _ I h) λc s1 hpt=>?_)
 obtain⟨H1,I1,q1⟩:=hpt
 cases c with
 | true=>exact⟨H1,I1,q1⟩
 | false=>exact hb wh pins s1 σ H1 Q I1 q1
theorem Qup(ha:PT X a tA):PT X (.UnaryOp .Not a pos) (Qx3 tA):=by
 intro pins s σ H Q I h
 exact isTrue_not (ha pins s σ H (λc H1=>Q (!c) H1) I h)
theorem Qvp{op}{t:TE}(h:PE X a t):PE X (.BoolOp op [a] pos) t:=λpins s σ H Q I hw=>BoolOp_one (h pins s σ H Q I hw)
noncomputable def tIf(t:TT)(ta tb:TE):TE:=λσ H Q=>t σ H λc H1=>if c=true then ta σ H1 Q else tb σ H1 Q
theorem Qp8{c:Expr}(hc:PT X c tA)(ha:PE X a ta)(hb:PE X b tb):PE X (.IfExp c a b pos) (tIf tA ta tb):=by
 intro pins s σ H Q I h
 refine wpAny_IfExp (thn (hc pins s σ H _ I h) λd s1 hpt=>?_)
 obtain⟨H1,I1,q1⟩:=hpt
 cases d with
 | true=>exact ha pins s1 σ H1 Q I1 q1
 | false=>exact hb pins s1 σ H1 Q I1 q1
end
end L2
namespace L2
open PySem PySem.Spec PyProof.Rows
def SqL(K:PySem.W.Frag)(H:Hp)(a:Addr)(xs:List V):Prop:=
 Rd H a (.lst xs)∨
  ∃(o:Obj) (its:Array Value) (n:Nat),K.lookup a=some o/\o.cls= .type "list" /\o.dict=none/\o.data= .seq its n/\its.size<=sizeLine/\Qt xs its.toList
def SqT(K:PySem.W.Frag)(H:Hp)(a:Addr)(xs:List V):Prop:=
 Rd H a (.tup xs)∨
  ∃(o:Obj) (its:Array Value) (n:Nat),K.lookup a=some o/\o.cls= .type "tuple" /\o.data= .seq its n/\its.size<=sizeLine/\Qt xs its.toList
noncomputable def Qxs:Value->Option V
 | .none=>some .non
 | .bool b=>some (.bl b)
 | .int i _=>some (.int i)
 | .str x _=>some (.str x)
 | .bytes b _=>some (.byt b)
 | .float b _=>some (.flt b)
 | .ref a=>some (.ref a)
 | .type n=>some (.ty n)
 | _=>none
theorem RelV.abs{x:V}{u:Value}(r:RelV x u):Qxs u=some x:=by
 cases x with
 | non=>cases r;rfl
 | bl _=>cases r;rfl
 | int _=>obtain⟨t,rfl⟩:=r;rfl
 | str _=>obtain⟨t,rfl⟩:=r;rfl
 | byt _=>obtain⟨t,rfl⟩:=r;rfl
 | flt _=>obtain⟨t,rfl⟩:=r;rfl
 | ref _=>cases r;rfl
 | ty _=>cases r;rfl
theorem RelV.inj{x y:V}{u:Value}(r:RelV x u)(q:RelV y u):x=y:=Option.some.inj (r.abs.symm.trans q.abs)
theorem Qt.inj:∀{xs ys:List V}{us:List Value},Qt xs us->Qt ys us->xs=ys
 | _,_,_,.nil,.nil=>rfl
 | _,_,_,.cons r t,.cons r' t'=>by rw[r.inj r',Qt.inj t t']
section
variable {X:Cx}{pins:List (Addr×Obj)}{σ:St}{H:Hp}{s:Shared}{a:Addr}{xs ys:List V}
theorem SqL.of{K:PySem.W.Frag}(h:H a=some (.lst xs)):SqL K H a xs:= .inl (.inl h)
theorem SqT.of{K:PySem.W.Frag}(h:H a=some (.tup xs)):SqT K H a xs:= .inl (.inl h)
theorem Inv.list(I:Inv X pins σ H s)(h:SqL X.K H a xs):∃its:List Value,Qt xs its/\PlainL s.heap a its.toArray/\xs.length<=sizeLine:=by
 rcases h with h | ⟨o,its,n,hk,hc,hd,hs,hz,r⟩
 ·obtain⟨z,its,n,r,e⟩:=h.ok I.hok
  exact⟨its,r,⟨_,n,e,rfl,rfl,rfl⟩,z⟩
 ·refine⟨its.toList,r,⟨o,n,I.kIn a o hk,hc,hd,by simpa using hs⟩,?_⟩
  have e:=r.length
  simp only[ZL]at e
  omega
theorem Inv.tuple(I:Inv X pins σ H s)(h:SqT X.K H a xs):∃its:List Value,Qt xs its/\IsTup s.heap a its.toArray/\xs.length<=sizeLine:=by
 rcases h with h | ⟨o,its,n,hk,hc,hs,hz,r⟩
 ·obtain⟨z,its,r,p⟩:=h.ok I.hok
  exact⟨its,r,p,z⟩
 ·refine⟨its.toList,r,⟨o,I.kIn a o hk,hc,n,by simpa using hs⟩,?_⟩
  have e:=r.length
  simp only[ZL]at e
  omega
theorem Inv.Qfc(I:Inv X pins σ H s)(h:SqL X.K H a xs)(h':SqL X.K H a ys):xs=ys:=by
 obtain⟨its,r,⟨o,n,e,_,_,d⟩,_⟩:=I.list h
 obtain⟨its',r',⟨o',n',e',_,_,d'⟩,_⟩:=I.list h'
 rw[e]at e';cases e'
 rw[d]at d'
 injection d' with d1 _
 have:its=its':=by simpa using congrArg Array.toList d1
 subst this
 exact r.inj r'
theorem Inv.QoQ(I:Inv X pins σ H s)(h:SqT X.K H a xs)(h':SqT X.K H a ys):xs=ys:=by
 obtain⟨its,r,⟨o,e,_,n,d⟩,_⟩:=I.tuple h
 obtain⟨its',r',⟨o',e',_,n',d'⟩,_⟩:=I.tuple h'
 rw[e]at e';cases e'
 rw[d]at d'
 injection d' with d1 _
 have:its=its':=by simpa using congrArg Array.toList d1
 subst this
 exact r.inj r'
end
noncomputable abbrev Cx.Qdj(X:Cx)(E:Value->Shared->Prop):Cx:={X with xe:=E}
noncomputable abbrev Cx.nox(X:Cx):Cx:=X.Qdj λ_ _=>False
theorem Cx.Ok.Qdj{X:Cx}(ok:X.Ok)(E:Value->Shared->Prop):(X.Qdj E).Ok:=
 ⟨ok.mod,ok.kind,ok.glob,ok.blt,ok.above,ok.inj,ok.has,ok.cab,ok.hd,ok.frames,ok.stk,ok.exf,ok.bs,ok.bsz,ok.noex,ok.exfs,ok.QcP,ok.frf⟩
theorem Cx.Ok.QcG{X:Cx}{E:Value->Shared->Prop}(ok:(X.Qdj E).Ok):X.Ok:=
 ⟨ok.mod,ok.kind,ok.glob,ok.blt,ok.above,ok.inj,ok.has,ok.cab,ok.hd,ok.frames,ok.stk,ok.exf,ok.bs,ok.bsz,ok.noex,ok.exfs,ok.QcP,ok.frf⟩
section
variable {X:Cx}{pins:List (Addr×Obj)}{σ:St}{H:Hp}{s:Shared}{E:Value->Shared->Prop}
theorem Inv.Qdj(I:Inv X pins σ H s)(E:Value->Shared->Prop):Inv (X.Qdj E) pins σ H s:=⟨I.ok.Qdj E,I.os,I.bare,I.base,I.loc,I.cell,I.free,I.freeC,I.pin,I.hok,I.len⟩
theorem Inv.QcG(I:Inv (X.Qdj E) pins σ H s):Inv X pins σ H s:=⟨I.ok.QcG,I.os,I.bare,I.base,I.loc,I.cell,I.free,I.freeC,I.pin,I.hok,I.len⟩
theorem SP.QcG{D:Ends}{f:Flow}{s':Shared}(h:SP (X.Qdj E) pins D f s'):SP X pins D f s':=by
 cases f with
 | next=>obtain⟨σ',H',I,q⟩:=h;exact⟨σ',H',I.QcG,q⟩
 | brk=>obtain⟨σ',H',I,q⟩:=h;exact⟨σ',H',I.QcG,q⟩
 | cont=>obtain⟨σ',H',I,q⟩:=h;exact⟨σ',H',I.QcG,q⟩
 | ret u=>obtain⟨v,σ',H',I,r,q⟩:=h;exact⟨v,σ',H',I.QcG,r,q⟩
theorem PE.nox{e:Expr}{t:TE}(h:PE X.nox e t):PE X e t:=λpins s σ H Q I hw=>
 wpAny_mono (h pins s σ H Q (I.Qdj _) hw) (λ_ _ ⟨v,H',I',r,q⟩=>⟨v,H',I'.QcG,r,q⟩) λ_ _ z=>False.elim z
theorem PT.nox{e:Expr}{t:TT}(h:PT X.nox e t):PT X e t:=λpins s σ H Q I hw=>
 wpAny_mono (h pins s σ H Q (I.Qdj _) hw) (λ_ _ ⟨H',I',q⟩=>⟨H',I'.QcG,q⟩) λ_ _ z=>False.elim z
theorem PSs.nox{st:List Stmt}{t:TS}(h:PSs X.nox st t):PSs X st t:=λpins s σ H D I hw=>
 wpAny_mono (h pins s σ H D (I.Qdj _) hw) (λ_ _ q=>q.QcG) λ_ _ z=>False.elim z
end
section
variable {X:Cx}{st:Stmt}{rest:List Stmt}{t u:TS}{e:Expr}{te:TE}{pos:Pos}
noncomputable def Qnj:TS:=λD σ H=>D.nx σ H
noncomputable def Qxz(t u:TS):TS:=λD σ H=>t {D with nx:=u D} σ H
theorem Qte:PSs X [] Qnj:=λ_ _ σ H _ I h=>wpAny_execs_nil ⟨σ,H,I,h⟩
theorem QpD(h1:PS X st t)(h2:PSs X rest u):PSs X (st::rest) (Qxz t u):=by
 intro pins s σ H D I h
 refine wpAny_execs_cons (thn (h1 pins s σ H {D with nx:=u D} I h) λf s1 q=>?_)
 cases f with
 | next=>
  obtain⟨σ',H',I',q⟩:=q
  exact h2 pins s1 σ' H' D I' q
 | ret v=>exact q
 | brk=>exact q
 | cont=>exact q
noncomputable def Qus:TS:=λD σ H=>D.bk σ H
noncomputable def QwM:TS:=λD σ H=>D.ct σ H
theorem QrK:PS X (.Pass pos) Qnj:=λ_ _ σ H _ I h=>wpAny_Pass ⟨σ,H,I,h⟩
theorem QpY:PS X (.Break pos) Qus:=λ_ _ σ H _ I h=>wpAny_Break ⟨σ,H,I,h⟩
theorem QlG:PS X (.Continue pos) QwM:=λ_ _ σ H _ I h=>wpAny_Continue ⟨σ,H,I,h⟩
theorem Inv.quiet{pins:List (Addr×Obj)}{σ:St}{H:Hp}{s:Shared}(I:Inv X pins σ H s):interactive X.env=false:=by simp[interactive,I.ok.kind]
theorem QuC{x j pos pos'}:PS X (.Expr (.Constant (.str x) j pos) pos') Qnj:=λ_ s σ H _ I h=>wpAny_Expr (Calls.Constant_str (show SP X _ _ .next {s with toks:=s.toks+1}from⟨σ,H,I.tok _,h⟩)) I.quiet
noncomputable def QhZ(te:TE):TS:=λD σ H=>te σ H λ_ H1=>D.nx σ H1
theorem Qgx(he:PE X e te)(hs:swapsWith e none pos.line X.env=pure false:=by rfl):PS X (.Expr e pos) (QhZ te):=by
 intro pins s σ H D I h
 exact wpAny_Expr_any (thn (he pins s σ H _ I h) λv s1 ⟨x,H1,I1,r1,q1⟩=>⟨σ,H1,I1,q1⟩) I.quiet hs
noncomputable def Qxj(te:TE):TS:=λD σ H=>te σ H D.rt
theorem QoD(he:PE X e te):PS X (.Return (some e) pos) (Qxj te):=by
 intro pins s σ H D I h
 exact wpAny_Return_some (thn (he pins s σ H _ I h) λv s1 ⟨x,H1,I1,r1,q1⟩=>⟨x,σ,H1,I1,r1,q1⟩)
noncomputable def Qyb(c:TT)(t u:TS):TS:=λD σ H=>c σ H λb H1=>if b=true then t D σ H1 else u D σ H1
theorem Qw5{c:Expr}{a b:List Stmt}{tc:TT}(hc:PT X c tc)(ha:PSs X a t)(hb:PSs X b u):PS X (.If c a b pos) (Qyb tc t u):=by
 intro pins s σ H D I h
 refine wpAny_If (thn (hc pins s σ H _ I h) λd s1 hpt=>?_)
 obtain⟨H1,I1,q1⟩:=hpt
 cases d with
 | true=>exact ha pins s1 σ H1 D I1 q1
 | false=>exact hb pins s1 σ H1 D I1 q1
noncomputable def QuM:TS:=λ_ _ _=>False
theorem Qqb:PS X st QuM:=λ_ _ _ _ _ _ h=>h.elim
end
noncomputable abbrev TG:=V->St->Hp->(St->Hp->Prop)->Prop
noncomputable abbrev TGs:=List V->St->Hp->(St->Hp->Prop)->Prop
def PG(X:Cx)(target:Expr)(t:TG):Prop:=
 ∀(pins:List (Addr×Obj)) (s:Shared) (σ:St) (H:Hp) (v:V) (u:Value) (Q:St->Hp->Prop),Inv X pins σ H s->RelV v u->t v σ H Q→
  wpAny (model X.prog X.w) X.A (assign target X.env u) (λ_ s'=>∃σ' H',Inv X pins σ' H' s'/\Q σ' H') X.xe s
def PGs(X:Cx)(ts:List Expr)(t:TGs):Prop:=
 ∀(pins:List (Addr×Obj)) (s:Shared) (σ:St) (H:Hp) (vs:List V) (us:List Value) (Q:St->Hp->Prop),Inv X pins σ H s->Qt vs us->t vs σ H Q→
  wpAny (model X.prog X.w) X.A (assignInOrder ((assignEach ts X.env).map (·.2)) us) (λ_ s'=>∃σ' H',Inv X pins σ' H' s'/\Q σ' H') X.xe s
noncomputable abbrev QkR:=V->V->V->Hp->(Hp->Prop)->Prop
def Qp3(X:Cx)(t:QkR):Prop:=
 ∀(pins:List (Addr×Obj)) (s:Shared) (σ:St) (H:Hp) (o i v:V) (ov iv u:Value) (Q:Hp->Prop),Inv X pins σ H s->RelV o ov->RelV i iv->RelV v u->t o i v H Q→
  wpAny (model X.prog X.w) X.A (setItem ov iv u) (λ_ s'=>∃H',Inv X pins σ H' s'/\Q H') X.xe s
noncomputable abbrev TIp:=V->V->Hp->VK->Prop
def PIp(X:Cx)(op:Operator)(t:TIp):Prop:=
 ∀(pins:List (Addr×Obj)) (s:Shared) (σ:St) (H:Hp) (x y:V) (v u:Value) (Q:VK),Inv X pins σ H s->RelV x v->RelV y u->t x y H Q→
  wpAny (model X.prog X.w) X.A (inplaceOp op v u) (EP X pins σ Q) X.xe s
section
variable {X:Cx}{pos:Pos}
noncomputable def Qgq(i:Nat):TG:=λv σ H Q=>Q (σ.set i (some v)) H
theorem Ql8{i:Nat}{x:Str}(hN:X.N.Nodup)(hi:X.N[i]? =some x)(hx:Loc X.env.scope x)(hf:X.fn x=true∨X.env.scope.names.lookup x=some .local :=by first | exact .inl rfl | exact .inr rfl | assumption):PG X (.Name x pos) (Qgq i):=by
 intro pins s σ H v u Q I r h
 exact wpAny_assign_Name (Qkm I hN hi hx r (λs' I'=>⟨_,H,I',h⟩) hf)
noncomputable def QtX:TGs:=λvs σ H Q=>vs=[]/\Q σ H
noncomputable def Qrq(t:TG)(u:TGs):TGs:=λvs σ H Q=>∃v r,vs=v::r/\t v σ H λσ' H'=>u r σ' H' Q
theorem Qr2:PGs X [] QtX:=by
 intro pins s σ H vs us Q I r h
 obtain⟨e,h⟩:=h
 subst e
 cases r
 exact assignInOrder_nil ⟨σ,H,I,h⟩
theorem Qql{e:Expr}{es:List Expr}{t:TG}{u:TGs}(h1:PG X e t)(h2:PGs X es u)
  (hs:(assignEach (e::es) X.env).map (·.2)=assign e X.env::(assignEach es X.env).map (·.2):=by rfl):PGs X (e::es) (Qrq t u):=by
 intro pins s σ H vs us Q I r h
 obtain⟨v,vr,e1,h⟩:=h
 subst e1
 cases r with
 | cons r rr=>
  rw[hs]
  refine assignInOrder_cons (thn (h1 pins s σ H _ _ _ I r h) λ_ s1 hpt=>?_)
  obtain⟨σ1,H1,I1,q1⟩:=hpt
  exact h2 pins s1 σ1 H1 _ _ Q I1 rr q1
noncomputable def QxN(K:PySem.W.Frag)(n:Nat)(t:TGs):TG:=λv σ H Q=>∃a xs,v= .ref a/\SqT K H a xs/\xs.length=n/\t xs σ H Q
theorem Quw{es:List Expr}{k:Nat}{t:TGs}{n:Nat}(hc:X.calm=true)(h:PGs X es t)
  (hn:(assignEach es X.env).length=n:=by rfl) (hst:(assignEach es X.env).findIdx? (·.1)=none:=by rfl):PG X (.Tuple es k pos) (QxN X.K n t):=by
 intro pins s σ H v u Q I r hw
 obtain⟨a,xs,e1,hq,hl,hw⟩:=hw
 subst e1
 cases r
 obtain⟨its,rv,ht,hz⟩:=I.tuple hq
 refine assign_Tuple_tuple (I.ok.hd hc) ht (by simp[hn,← hl,rv.length]) hst λh' hx=>?_
 have I1:Inv X pins σ H {s with heap:=h'}:=I.kept (t':=s.toks) λb o e=>hx b o (ZN (Zx e)) e
 exact h pins _ σ H xs _ Q I1 (by simpa using rv) hw
noncomputable def Qdo(to ti:TE)(t:QkR):TG:=λv σ H Q=>to σ H λo H1=>ti σ H1 λi H2=>t o i v H2 λH3=>Q σ H3
theorem QuJ{o i:Expr}{to ti:TE}{t:QkR}(ho:PE X o to)(hi:PE X i ti)(hs:Qp3 X t)
  (ha:∀v,assign (.Subscript o i pos) X.env v=(do
   let ov ← holding [v] (eval o X.env)
   let iv ← holding [v,ov] (eval i X.env)
   standAt pos
   holding [v,ov,iv] (setItem ov iv v)
   release [v,ov,iv] []):=by intro _;rfl):PG X (.Subscript o i pos) (Qdo to ti t):=by
 intro pins s σ H v u Q I r h
 rw[ha]
 refine wpAny_bind (wpAny_holding (thn (ho pins s σ H _ I h) λov s1=>exJ λx H1 I1 r1 q1=>?_))
 refine wpAny_bind (wpAny_holding (thn (hi pins s1 σ H1 _ I1 q1) λiv s2=>exJ λy H2 I2 r2 q2=>?_))
 refine wpAny_bind (wpAny_standAt (wpAny_bind (wpAny_holding (thn (hs pins s2 σ H2 x y v ov iv u _ I2 r1 r2 r q2) λ_ s3 hpt=>?_))))
 obtain⟨H3,I3,q3⟩:=hpt
 exact wpAny_release ⟨σ,H3,I3,q3⟩
noncomputable def QkK(te:TE)(g:TG):TS:=λD σ H=>te σ H λx H1=>g x σ H1 D.nx
theorem Qow{tg e:Expr}{te:TE}{g:TG}(he:PE X e te)(hg:PG X tg g)(hs:swapsWithSole [tg] e pos.line X.env=pure false:=by rfl)(hw:swappedStores [tg] e X.env=pure none:=by rfl)
  (h1:(assignEach [tg] X.env).map (·.2)=[assign tg X.env]:=by rfl):PS X (.Assign [tg] e pos) (QkK te g):=by
 intro pins s σ H D I h
 refine wpAny_Assign_stores (thn (he pins s σ H _ I h) λv s1 ⟨x,H1,I1,r1,q1⟩=>?_) hs hw
 rw[h1]
 exact thn (hg pins s1 σ H1 x v _ I1 r1 q1) λ_ s2 q=>q
theorem Qf7{i:Nat}{x:Str}{e:Expr}{te:TE}{pos':Pos}(hN:X.N.Nodup)(hi:X.N[i]? =some x)(hx:Loc X.env.scope x)(he:PE X e te)(hs:swapsWith e (some (.Name x pos')) pos.line X.env=pure false:=by rfl)(hf:X.fn x=true∨X.env.scope.names.lookup x=some .local :=by first | exact .inl rfl | exact .inr rfl | assumption):
  PS X (.Assign [.Name x pos'] e pos) (QkK te (Qgq i)):=by
 intro pins s σ H D I h
 refine wpAny_Assign_Name (thn (he pins s σ H _ I h) λv s1 ⟨y,H1,I1,r1,q1⟩=>?_) hs
 exact Qkm I1 hN hi hx r1 (λs2 I2=>⟨_,H1,I2,q1⟩) hf
noncomputable def QwG(to ti te:TE)(tget:V->V->Hp->VK->Prop)(tip:TIp)(tset:QkR):TS:=λD σ H=>to σ H λo H1=>ti σ H1 λi H2=>tget o i H2 λx H3=>te σ H3 λy H4=>tip x y H4 λz H5=>tset o i z H5 λH6=>D.nx σ H6
def QuH(X:Cx)(t:V->V->Hp->VK->Prop):Prop:=
 ∀(pins:List (Addr×Obj)) (s:Shared) (σ:St) (H:Hp) (o i:V) (ov iv:Value) (Q:VK),Inv X pins σ H s->RelV o ov->RelV i iv->t o i H Q→
  wpAny (model X.prog X.w) X.A (getItem ov iv) (EP X pins σ Q) X.xe s
theorem Qr1{o i e:Expr}{to ti te:TE}{tget:V->V->Hp->VK->Prop}{tip:TIp}{tset:QkR}{op:Operator}{tpos:Pos}(ho:PE X o to)(hi:PE X i ti)(hg:QuH X tget)(he:PE X e te)(hp:PIp X op tip)(hs:Qp3 X tset)
  (ha:∀ov iv new,augStore i ov iv new=(do holding [new,ov,iv] (setItem ov iv new);release [new,ov,iv] [];pure .next):=by intros;rfl):PS X (.AugAssign (.Subscript o i tpos) op e pos) (QwG to ti te tget tip tset):=by
 intro pins s σ H D I h
 refine wpAny_AugAssign_SubscriptAny (thn (ho pins s σ H _ I h) λov s1 ⟨x1,H1,I1,r1,q1⟩=>?_) ha
 refine thn (hi pins s1 σ H1 _ I1 q1) λiv s2=>exJ λx2 H2 I2 r2 q2=>?_
 refine thn (hg pins s2 σ H2 x1 x2 ov iv _ I2 r1 r2 q2) λold s3=>exJ λx3 H3 I3 r3 q3=>?_
 refine thn (he pins s3 σ H3 _ I3 q3) λv s4=>exJ λx4 H4 I4 r4 q4=>?_
 refine thn (hp pins s4 σ H4 x3 x4 old v _ I4 r3 r4 q4) λnew s5=>exJ λx5 H5 I5 r5 q5=>?_
 exact thn (hs pins s5 σ H5 x1 x2 x5 ov iv new _ I5 r1 r2 r5 q5) λ_ s6 ⟨H6,I6,q6⟩=>⟨σ,H6,I6,q6⟩
end
section
variable {X:Cx}{pos:Pos}
noncomputable def Qvf(c:TT)(tb:TS):TS:=λD σ H=>∃W:Nat->St->Hp->Prop,(∃m,W m σ H)/\∀m σ H,W m σ H→
 c σ H λb H1=>if b=true then ∃N:St->Hp->Prop,(∀σ' H',N σ' H'->∃m',m'<m/\W m' σ' H')/\tb {D with nx:=N,ct:=N,bk:=D.nx} σ H1 else D.nx σ H1
theorem QqY{c:Expr}{body:List Stmt}{tc:TT}{tb:TS}(hp:PassesOwn (model X.prog X.w) X.A X.env X.xe)(hc:PT X c tc)(hb:PSs X body tb):PS X (.While c body [] pos) (Qvf tc tb):=by
 intro pins s σ H D I h
 obtain⟨W,⟨m0,w0⟩,turn⟩:=h
 refine wpAny_While (codeAny_whileLoop (λn s'=>∃σ' H',Inv X pins σ' H' s'/\W n σ' H') ?_ m0 ⟨σ,H,I,w0⟩)
 rintro n s1 ⟨σ1,H1,I1,w1⟩
 refine wpAny_passesOwn hp (thn (hc pins s1 σ1 H1 _ I1 (turn n σ1 H1 w1)) λb s2 hpt=>?_)
 obtain⟨H2,I2,q2⟩:=hpt
 cases b with
 | true=>
  obtain⟨N,hN,q2⟩:=q2
  rw[if_pos rfl]
  refine wpAny_passesOwn hp (thn (hb pins s2 σ1 H2 _ I2 q2) λf s3 q3=>?_)
  cases f with
  | next=>
   obtain⟨σ3,H3,I3,n3⟩:=q3
   obtain⟨m',hm,w3⟩:=hN σ3 H3 n3
   exact⟨m',hm,σ3,H3,I3,w3⟩
  | cont=>
   obtain⟨σ3,H3,I3,n3⟩:=q3
   obtain⟨m',hm,w3⟩:=hN σ3 H3 n3
   exact⟨m',hm,σ3,H3,I3,w3⟩
  | brk=>exact q3
  | ret v=>exact q3
 | false=>
  rw[if_neg ZZ]
  exact wpAny_execs_nil ⟨σ1,H2,I2,q2⟩
end
structure It where
 go:Nat->Hp->Prop
 yld:Nat->Hp->V->Hp->Prop
 stop:Nat->Hp->Prop
def Qde(X:Cx)(pins:List (Addr×Obj))(H:Hp)(b:Addr):Prop:=
 H b=none/\b≠X.env.locals/\b∉X.fs/\(b∈X.ex∨X.s₀.heap.objs.size<=b)/\(∀x c,X.env.cells.lookup x=some c->c≠b)/\∀p∈X.pn++pins,p.1≠b
theorem Inv.Qg6{X:Cx}{pins:List (Addr×Obj)}{σ:St}{H H':Hp}{s:Shared}{b:Addr}(I:Inv X pins σ H s)(hb:s.heap.objs.size<=b)(hn:H' b=none):Qde X pins H' b:=by
 refine⟨hn,Nat.ne_of_gt (Zz I.lt hb),I.Qxp hb,.inr (ZF I.sz hb),λx c e z=>?_,λp hp z=>?_⟩
 ·obtain⟨v,q⟩:=I.cell x c e
  exact absurd (Zz q.lt (by rw[z];exact hb)) (ZV _)
 ·exact absurd (Zz (Zx (I.pin p hp).1) (by rw[z];exact hb)) (ZV _)
structure Turn (P:Program) (w:World) (K:PySem.W.Frag) (tg:Expr) (J:It) (fp:List Addr) (it:Addr) (tn:Nat->Heap->Prop):Prop where
 mem:it∈fp
 obj:∀i h,tn i h->∀b∈fp,∃o,h.get? b=some o/\∀v,o.data≠ .cell v
 keep:∀i h h',tn i h->(∀b∈fp,∀o,h.get? b=some o->h'.get? b=some o)->tn i h'
 item:∀(X:Cx),X.prog=P->X.w=w->X.K=K->X.calm=true->∀(i:Nat) (pins:List (Addr×Obj)) (s:Shared) (σ:St) (H:Hp) (E:Value->Shared->Prop),Inv X pins σ H s->(∀b∈fp,Qde X pins H b)->tn i s.heap->J.go i H→
  wpAny (model P w) X.A (pyNext (.ref it)) (λr s1=>∃u,r=some u∧
   wpAny (model P w) X.A (letOwnedTupleGo tg (.ref it) u) (λ_ s2=>∃x H',Inv X pins σ H' s2/\RelV x u/\J.yld i H x H'/\tn (i+1) s2.heap/\∀b∈fp,H' b=none) E s1) E s
 done:∀(X:Cx),X.prog=P->X.w=w->X.K=K->X.calm=true->∀(i:Nat) (pins:List (Addr×Obj)) (s:Shared) (σ:St) (H:Hp) (E:Value->Shared->Prop),Inv X pins σ H s->(∀b∈fp,Qde X pins H b)->tn i s.heap->J.stop i H→
  wpAny (model P w) X.A (pyNext (.ref it)) (λr s1=>r=none/\Inv X pins σ H s1) E s
 self:∀(A:Around) (i:Nat) (s:Shared) (Q:Value->Shared->Prop) (E:Value->Shared->Prop),tn i s.heap->Q (.ref it) s->wpAny (model P w) A (pyIter (.ref it)) Q E s
noncomputable abbrev TI:=St->Hp->(It->Hp->Prop)->Prop
def PIE(X:Cx)(pins:List (Addr×Obj))(σ:St)(tg:Expr)(R:It->Hp->Prop)(itv:Value)(s2:Shared):Prop:=
 ∃(it:Addr) (fp:List Addr) (tn:Nat->Heap->Prop) (J:It) (H':Hp),itv= .ref it/\Inv X pins σ H' s2/\Turn X.prog X.w X.K tg J fp it tn/\tn 0 s2.heap/\(∀b∈fp,Qde X pins H' b)/\R J H'
def PI(X:Cx)(tg iter:Expr)(wi:TI):Prop:=
 ∀(pins:List (Addr×Obj)) (s:Shared) (σ:St) (H:Hp) (R:It->Hp->Prop),Inv X pins σ H s->wi σ H R→
  wpAny (model X.prog X.w) X.A (eval iter X.env) (λv s1=>wpAny (model X.prog X.w) X.A (pyIter v) (PIE X pins σ tg R) X.xe s1) X.xe s
theorem QhR{M:Model}{A:Around}{E:Value->Shared->Prop}{s:Shared}{tg:Expr}{it:Addr}{u:Value}{o:Obj}{n:String}{vs:Array Value}{Q:Unit->Shared->Prop}(ho:s.heap.get? it=some o)(hc:o.cls= .type n)(hd:o.data= .fields vs)
    (hn:["enumerate","zip","dict_itemiterator","dict_reverseitemiterator","odict_iterator","itertools.zip_longest","itertools.pairwise"].contains n=false) (hQ:Q () s):wpAny M A (letOwnedTupleGo tg (.ref it) u) Q E s:=by
  unfold letOwnedTupleGo
  cases tg<;>first
    | exact wpAny_pure hQ
    | (cases u<;>first
        | exact wpAny_pure hQ
        | (refine wpAny_bind (wpAny_load ho ?_)
           rw[hc,hd]
           show wpAny M A (if(["enumerate","zip","dict_itemiterator","dict_reverseitemiterator","odict_iterator","itertools.zip_longest","itertools.pairwise"].contains n && vs[0]? == some (rawInt _))=true then _ else _) Q E s
           rw[if_neg (by intro h;rw[hn,Bool.false_and]at h;cases h)]
           exact wpAny_pure hQ))
noncomputable def Itl(K:PySem.W.Frag)(a:Addr):It:=
 ⟨λi H=>∃xs x,SqL K H a xs/\xs[i]? =some x,λi H x H'=>H'=H/\∀xs,SqL K H a xs->xs[i]? =some x,λi H=>∃xs,SqL K H a xs/\xs.length<=i⟩
noncomputable def Itt(K:PySem.W.Frag)(a:Addr):It:=
 ⟨λi H=>∃xs x,SqT K H a xs/\xs[i]? =some x,λi H x H'=>H'=H/\∀xs,SqT K H a xs->xs[i]? =some x,λi H=>∃xs,SqT K H a xs/\xs.length<=i⟩
noncomputable def Itr(lo:Int)(n:Nat):It:=⟨λi _=>i<n,λi H x H'=>H'=H/\x= .int (lo+i),λi _=>n<=i⟩
theorem Qpd{P:Program}{w:World}{K:PySem.W.Frag}{tg:Expr}(a it:Addr):Turn P w K tg (Itl K a) [it] it (λi h=>h.IsListIter it a i) where
 mem:=by simp
 obj:=λi h st b hb=>by
  have e:b=it:=by simpa using hb
  subst e
  obtain⟨o,e,c,d⟩:=st
  exact⟨o,e,λv z=>by rw[d]at z;cases z⟩
 keep:=λi h h' st k=>st.at λo e=>k it (by simp) o e
 item:=by
  intro X hP hw hK hc i pins s σ H E I hf st hg
  subst hP hw hK
  obtain⟨xs,x,hq,hx⟩:=hg
  obtain⟨its,rv,p,hz⟩:=I.list hq
  obtain⟨u,hu,ru⟩:=rv.get hx
  obtain⟨f0,f1,f2,f3,f4,f5⟩:=hf it (by simp)
  refine wpAny_pyNext_list_item st p.isList (x:=u) (by simpa using hu) λh' st' sb=>?_
  have I1:Inv X pins σ H {s with heap:=h'}:=I.turned (t':=s.toks) (λb o hb e=>(sb.2 b hb).trans e) f0 f1 f3 f4 f5
  obtain⟨o,e,c,d⟩:=id st'
  exact⟨u,rfl,QhR (s:={s with heap:=h'}) e c d (by decide) ⟨x,H,I1,ru,⟨rfl,λys hy=>by rw[I.Qfc hy hq];exact hx⟩,st',λb hb=>(hf b hb).1⟩⟩
 done:=by
  intro X hP hw hK hc i pins s σ H E I hf st hg
  subst hP hw hK
  obtain⟨xs,hq,hx⟩:=hg
  obtain⟨its,rv,p,hz⟩:=I.list hq
  obtain⟨f0,f1,f2,f3,f4,f5⟩:=hf it (by simp)
  have hl:=rv.length
  exact wpAny_pyNext_list_end (I.ok.hd hc) st p.isList (by simp;omega) λh' eb=>⟨rfl,I.turned (t':=s.toks) (λb o hb e=>eb b o hb e) f0 f1 f3 f4 f5⟩
 self:=λ_ _ _ _ _ st h=>wpAny_pyIter_listiter st h
theorem QmR{P:Program}{w:World}{K:PySem.W.Frag}{tg:Expr}(a it:Addr):Turn P w K tg (Itt K a) [it] it (λi h=>h.IsTupleIter it a i) where
 mem:=by simp
 obj:=λi h st b hb=>by
  have e:b=it:=by simpa using hb
  subst e
  obtain⟨o,e,c,d⟩:=st
  exact⟨o,e,λv z=>by rw[d]at z;cases z⟩
 keep:=λi h h' st k=>st.at λo e=>k it (by simp) o e
 item:=by
  intro X hP hw hK hc i pins s σ H E I hf st hg
  subst hP hw hK
  obtain⟨xs,x,hq,hx⟩:=hg
  obtain⟨its,rv,p,hz⟩:=I.tuple hq
  obtain⟨u,hu,ru⟩:=rv.get hx
  obtain⟨f0,f1,f2,f3,f4,f5⟩:=hf it (by simp)
  refine wpAny_pyNext_tuple_item st (show s.heap.IsTuple a its.toArray from p) (x:=u) (by simpa using hu) λh' st' sb=>?_
  have I1:Inv X pins σ H {s with heap:=h'}:=I.turned (t':=s.toks) (λb o hb e=>(sb.2 b hb).trans e) f0 f1 f3 f4 f5
  obtain⟨o,e,c,d⟩:=id st'
  exact⟨u,rfl,QhR (s:={s with heap:=h'}) e c d (by decide) ⟨x,H,I1,ru,⟨rfl,λys hy=>by rw[I.QoQ hy hq];exact hx⟩,st',λb hb=>(hf b hb).1⟩⟩
 done:=by
  intro X hP hw hK hc i pins s σ H E I hf st hg
  subst hP hw hK
  obtain⟨xs,hq,hx⟩:=hg
  obtain⟨its,rv,p,hz⟩:=I.tuple hq
  obtain⟨f0,f1,f2,f3,f4,f5⟩:=hf it (by simp)
  have hl:=rv.length
  exact wpAny_pyNext_tuple_end (I.ok.hd hc) st (show s.heap.IsTuple a its.toArray from p) (by simp;omega) λh' eb=>⟨rfl,I.turned (t':=s.toks) (λb o hb e=>eb b o hb e) f0 f1 f3 f4 f5⟩
 self:=λ_ _ _ _ _ st h=>wpAny_pyIter_tupleiter st h
theorem Qni{P:Program}{w:World}{K:PySem.W.Frag}{tg:Expr}(it:Addr)(lo:Int)(n:Nat):Turn P w K tg (Itr lo n) [it] it (λi h=>IsRangeIter h it (lo+(i:Nat)*1) ((n:Int)-(i:Nat)) 1) where
 mem:=by simp
 obj:=λi h st b hb=>by
  have e:b=it:=by simpa using hb
  subst e
  exact⟨_,st,λv z=>by
   have z':Data.fields _=Data.cell v:=z
   cases z'⟩
 keep:=λi h h' st k=>k it (by simp) _ st
 item:=by
  intro X hP hw hK hc i pins s σ H E I hf st hg
  subst hP hw hK
  obtain⟨f0,f1,f2,f3,f4,f5⟩:=hf it (by simp)
  have W:=Walks.range (prog:=X.prog) (w:=X.w) (I.ok.hd hc) it lo 1 n
  refine W.item i s _ _ hg st λv h' tk hv st' kk=>?_
  obtain⟨t,rfl⟩:=hv
  have I1:Inv X pins σ H {s with heap:=h',toks:=tk}:=I.turned (λb o hb e=>kk b o (by simpa using hb) e) f0 f1 f3 f4 f5
  refine⟨_,rfl,QhR (s:={s with heap:=h',toks:=tk}) (n:= "range_iterator") st' rfl rfl (by decide) ⟨.int (lo+i),H,I1,⟨t,?_⟩,⟨rfl,rfl⟩,st',λb hb=>(hf b hb).1⟩⟩
  rw[ZbW]
 done:=by
  intro X hP hw hK hc i pins s σ H E I hf st hg
  subst hP hw hK
  obtain⟨f0,f1,f2,f3,f4,f5⟩:=hf it (by simp)
  exact wpAny_pyNext_range_end (I.ok.hd hc) st (by have:n<=i:=hg;omega) λh' eb=>⟨rfl,I.turned (t':=s.toks) (λb o hb e=>eb b o hb e) f0 f1 f3 f4 f5⟩
 self:=λ_ _ _ _ _ st h=>wpAny_pyIter_rangeiter st h
end L2
namespace L2
open PySem PySem.Spec PyProof.Rows
section
variable {X:Cx}{tg:Expr}
theorem Qqc{pins:List (Addr×Obj)}{σ:St}{H:Hp}{s:Shared}{R:It->Hp->Prop}{E:Value->Shared->Prop}{lo hi:Int}{t u v:Tok}{tk:Nat}(I:Inv X pins σ H s)(h1: -(2^62)<=lo)(h2:lo<2^62)(h3: -(2^62)<=hi)(h4:hi<2^62)
  (q:R (Itr lo (hi-lo).toNat) H):wpAny (model X.prog X.w) X.A (pyIter (.ref s.heap.objs.size)) (PIE X pins σ tg R) E {s with heap:=s.heap.push {cls:= .type "range",data:= .fields #[.int lo t,.int hi u,.int 1 v]},toks:=tk}:=by
 refine wpAny_pyIter_range (IsRange.new ..) (small_one h1 h2 h3 h4) ?_
 have I1:Inv X pins σ H {s with heap:=s.heap.push {cls:= .type "range",data:= .fields #[.int lo t,.int hi u,.int 1 v]},toks:=tk}:=I.kept λb o e=>Zn _ e
 refine⟨(s.heap.push {cls:= .type "range",data:= .fields #[.int lo t,.int hi u,.int 1 v]}).objs.size,[(s.heap.push {cls:= .type "range",data:= .fields #[.int lo t,.int hi u,.int 1 v]}).objs.size],_,_,H,rfl,
  I1.kept (t':=tk) λb o e=>Zn _ e,Qni _ lo (hi-lo).toNat,?_,λb hb=>?_,q⟩
 ·have e1:lo+((0:Nat):Int)*1=lo:=by simp
  have e2:(((hi-lo).toNat:Nat):Int)-((0:Nat):Int)=Builtin.Range.rangeSize lo hi 1:=by rw[rangeSize_one];split<;>omega
  show IsRangeIter _ _ (lo+((0:Nat):Int)*1) ((((hi-lo).toNat:Nat):Int)-((0:Nat):Int)) 1
  rw[e1,e2]
  exact ZD _ rfl
 ·have e:b=(s.heap.push {cls:= .type "range",data:= .fields #[.int lo t,.int hi u,.int 1 v]}).objs.size:=by simpa using hb
  subst e
  exact I1.Qg6 (Zm _) (I1.hok.fresh (Zm _))
noncomputable def QwK(ta:TA):TI:=λσ H R=>ta σ H λvs H1=>∃j:Int,vs=[.int j]/\ -(2^62)<=j/\j<2^62/\R (Itr 0 j.toNat) H1
theorem Qox{a:Expr}{ta:TA}{p pos:Pos}(hg:Gl X "range")(hm:X.mg "range" =none)(ha:PA X [a] ta)(hs:starEach [a] X.env=[(false,eval a X.env)]:=by rfl):PI X tg (.Call (.Name "range" p) [a] [] pos) (QwK ta):=by
 intro pins s σ H R I h
 refine Call_ (Qc3 I hg hm boot_range (Zaa (thn (ha pos pins s σ H _ I h) λus s1 ⟨vs,H1,I1,r1,q1⟩=>?_) hs rfl))
 obtain⟨j,e,q1,q2,q⟩:=q1
 subst e
 cases r1 with
 | cons r rr=>
  cases rr
  obtain⟨t,rfl⟩:=r
  exact call_range_1 (Qqc I1 (by omega) (by omega) q1 q2 (by simpa using q))
noncomputable def QxW(wi:TI)(g:TG)(tb:TS):TS:=λD σ H=>wi σ H λJ H1=>∃W:Nat->Nat->St->Hp->Prop,(∃m,W 0 m σ H1)/\∀i m σ H,W i m σ H→
 (J.stop i H/\D.nx σ H)∨(J.go i H/\∃N:St->Hp->Prop,(∀σ' H',N σ' H'->∃m',m'<m/\W (i+1) m' σ' H')/\∀x H',J.yld i H x H'->g x σ H' λσ2 H2=>tb {D with nx:=N,ct:=N,bk:=D.nx} σ2 H2)
noncomputable def Qf8(fp:List Addr)(h:Heap):List (Addr×Obj):=fp.filterMap λb=>(h.get? b).map λo=>(b,o)
theorem Qfm{fp:List Addr}{h:Heap}{b:Addr}{o:Obj}(hb:b∈fp)(e:h.get? b=some o):(b,o)∈Qf8 fp h:=Zbf.mpr ⟨b,hb,by rw[e];rfl⟩
theorem QnZ{fp:List Addr}{h:Heap}{p:Addr×Obj}(hp:p∈Qf8 fp h):p.1∈fp/\h.get? p.1=some p.2:=by
 obtain⟨b,hb,e⟩:=Zbf.mp hp
 cases q:h.get? b with
 | none=>rw[q]at e;cases e
 | some o=>
  rw[q]at e
  have e':(b,o)=p:=Option.some.inj e
  subst e'
  exact⟨hb,q⟩
theorem Inv.pinned{pins:List (Addr×Obj)}{σ:St}{H:Hp}{s:Shared}{fp:List Addr}(I:Inv X pins σ H s)(hf:∀b∈fp,Qde X pins H b)(ho:∀b∈fp,∃o,s.heap.get? b=some o/\∀v,o.data≠ .cell v):Inv X (pins++Qf8 fp s.heap) σ H s:=
 I.Qml λp hp=>(Zr.mp hp).elim (λz=>I.pin p (Ze _ z)) λz=>by
  obtain⟨hb,e⟩:=QnZ z
  obtain⟨f0,f1,f2,_⟩:=hf p.1 hb
  obtain⟨o,e',d⟩:=ho p.1 hb
  rw[e]at e';cases e'
  exact⟨e,f0,f1,f2,d⟩
theorem Inv.Qfv{pins pl:List (Addr×Obj)}{σ:St}{H:Hp}{s:Shared}(I:Inv X (pins++pl) σ H s):Inv X pins σ H s:=I.Qml λp hp=>I.pin p (Ze _ (Zh _ hp))
theorem Qt8{iter:Expr}{body:List Stmt}{wi:TI}{g:TG}{tb:TS}{pos:Pos}(hp:PassesOwn (model X.prog X.w) X.A X.env X.xe)(hc:X.calm=true)(hi:PI X tg iter wi)(hg:PG X tg g)(hb:PSs X body tb)
  (hs:∀x,foldedSetIterable iter X.env x=pure x:=by intro _;rfl):PS X (.For tg iter body [] pos) (QxW wi g tb):=by
 intro pins s σ H D I h
 refine wpAny_For (thn (hi pins s σ H _ I h) λv s1 h1=>thn h1 λitv s2 h2=>?_) hs
 obtain⟨it,fp,tn,J,H2,e,I2,T,st2,f2,W,⟨m0,w0⟩,turn⟩:=h2
 subst e
 have stat:∀{H':Hp},(∀b∈fp,H' b=none)->∀b∈fp,Qde X pins H' b:=λhn b hb=>⟨hn b hb,(f2 b hb).2⟩
 refine codeAny_forLoop_any (λn s'=>∃i σ' H',Inv X pins σ' H' s'/\tn i s'.heap/\(∀b∈fp,H' b=none)/\W i n σ' H') ?_ m0 ⟨0,σ,H2,I2,st2,λb hb=>(f2 b hb).1,w0⟩
 rintro n s3 ⟨i,σ3,H3,I3,st3,fr3,w3⟩
 rcases turn i n σ3 H3 w3 with⟨stop,qn⟩ | ⟨go,N,hN,step⟩
 ·refine wpAny_passesOwn hp (thn (T.done X rfl rfl rfl hc i pins s3 σ3 H3 X.xe I3 (stat fr3) st3 stop) λr s4 hpt=>?_)
  obtain⟨hr,I4⟩:=hpt
  subst hr
  exact wpAny_execs_nil ⟨σ3,H3,I4,qn⟩
 ·refine wpAny_passesOwn hp (thn (T.item X rfl rfl rfl hc i pins s3 σ3 H3 X.xe I3 (stat fr3) st3 go) λr s4 hpt=>?_)
  obtain⟨u,hr,h4⟩:=hpt
  subst hr
  refine wpAny_passesOwn hp (thn h4 λ_ s5 hpt=>?_)
  obtain⟨x,H5,I5,r5,y5,st5,fr5⟩:=hpt
  have I5':=I5.pinned (stat fr5) (T.obj _ _ st5)
  refine wpAny_passesOwn hp (thn (hg _ s5 σ3 H5 x u _ I5' r5 (step x H5 y5)) λ_ s6 hpt=>?_)
  obtain⟨σ6,H6,I6,q6⟩:=hpt
  refine wpAny_passesOwn hp (thn (hb _ s6 σ6 H6 _ I6 q6) λf s7 q7=>?_)
  have again:∀{σ7:St}{H7:Hp},Inv X (pins++Qf8 fp s5.heap) σ7 H7 s7->N σ7 H7->∃m,m<n/\∃i σ' H',Inv X pins σ' H' s7/\tn i s7.heap/\(∀b∈fp,H' b=none)/\W i m σ' H':=λ{σ7 H7} I7 n7=>by
   obtain⟨m',hm,w7⟩:=hN σ7 H7 n7
   refine⟨m',hm,i+1,σ7,H7,I7.Qfv,T.keep _ _ _ st5 λb hb o e=>(I7.pin (b,o) (Ze _ (Ze _ (Qfm hb e)))).1,λb hb=>?_,w7⟩
   obtain⟨o,e,d⟩:=T.obj _ _ st5 b hb
   exact(I7.pin (b,o) (Ze _ (Ze _ (Qfm hb e)))).2.1
  cases f with
  | next=>obtain⟨σ7,H7,I7,n7⟩:=q7;exact again I7 n7
  | cont=>obtain⟨σ7,H7,I7,n7⟩:=q7;exact again I7 n7
  | brk=>obtain⟨σ7,H7,I7,q7⟩:=q7;exact⟨σ7,H7,I7.Qfv,q7⟩
  | ret v=>obtain⟨x7,σ7,H7,I7,r7,q7⟩:=q7;exact⟨x7,σ7,H7,I7.Qfv,r7,q7⟩
end
end L2
namespace L2
open PySem PySem.Spec PyProof.Rows
noncomputable abbrev R2:=V->V->Hp->VK->Prop
def OpR(X:Cx)(f:Value->Value->Sem Value)(r:R2):Prop:=
 ∀(pins:List (Addr×Obj)) (s:Shared) (σ:St) (H:Hp) (x y:V) (v u:Value) (Q:VK),Inv X pins σ H s->RelV x v->RelV y u->r x y H Q→
  wpAny (model X.prog X.w) X.A (f v u) (EP X pins σ Q) X.xe s
def UnR(X:Cx)(f:Value->Sem Value)(r:V->Hp->VK->Prop):Prop:=
 ∀(pins:List (Addr×Obj)) (s:Shared) (σ:St) (H:Hp) (x:V) (v:Value) (Q:VK),Inv X pins σ H s->RelV x v->r x H Q→
  wpAny (model X.prog X.w) X.A (f v) (EP X pins σ Q) X.xe s
def QaX(X:Cx)(f:Value)(r:List V->Hp->VK->Prop):Prop:=
 ∀(pins:List (Addr×Obj)) (s:Shared) (σ:St) (H:Hp) (xs:List V) (us:List Value) (Q:VK),Inv X pins σ H s->Qt xs us->r xs H Q→
  wpAny (model X.prog X.w) X.A (call f us) (EP X pins σ Q) X.xe s
def Qya(X:Cx)(r:V->Hp->(Bool->Hp->Prop)->Prop):Prop:=
 ∀(pins:List (Addr×Obj)) (s:Shared) (σ:St) (H:Hp) (x:V) (v:Value) (Q:Bool->Hp->Prop),Inv X pins σ H s->RelV x v->r x H Q→
  wpAny (model X.prog X.w) X.A (truthy v) (TP X pins σ Q) X.xe s
noncomputable def tOp(r:R2)(ta tb:TE):TE:=λσ H Q=>ta σ H λx H1=>tb σ H1 λy H2=>r x y H2 Q
noncomputable def tUn(r:V->Hp->VK->Prop)(ta:TE):TE:=λσ H Q=>ta σ H λx H1=>r x H1 Q
noncomputable def rI(C:Int->Int->Prop)(g:Int->Int->V):R2:=λx y H Q=>∃i j,x= .int i/\y= .int j/\C i j/\Q (g i j) H
noncomputable def rI0(g:Int->Int->V):R2:=λx y H Q=>∃i j,x= .int i/\y= .int j/\Q (g i j) H
noncomputable def rU(g:Int->V):V->Hp->VK->Prop:=λx H Q=>∃i,x= .int i/\Q (g i) H
section
variable {X:Cx}{a b c:Expr}{ta tb tc:TE}{pos:Pos}
theorem Qnd(ha:PE X a ta)(hb:PE X b tb){pins:List (Addr×Obj)}{s:Shared}{σ:St}{H:Hp}{R:V->V->Hp->Prop}(I:Inv X pins σ H s)
  (h:ta σ H λx H1=>tb σ H1 λy H2=>R x y H2) {Q:Value->Shared->Prop}{f:Value->Value->Sem Value}
  (hf:∀v u s2 x y H2,Inv X pins σ H2 s2->RelV x v->RelV y u->R x y H2->wpAny (model X.prog X.w) X.A (f v u) Q X.xe s2):
  wpAny (model X.prog X.w) X.A (eval a X.env) (λv s₁=>wpAny (model X.prog X.w) X.A (eval b X.env) (λu s₂=>wpAny (model X.prog X.w) X.A (f v u) Q X.xe s₂) X.xe s₁) X.xe s:=by
 refine thn (ha pins s σ H _ I h) λv s1=>exJ λx H1 I1 r1 q1=>?_
 refine thn (hb pins s1 σ H1 _ I1 q1) λu s2=>exJ λy H2 I2 r2 q2=>?_
 exact hf v u s2 x y H2 I2 r1 r2 q2
theorem Qnx{op:Operator}{r:R2}(ho:OpR X (binaryOp op) r)(ha:PE X a ta)(hb:PE X b tb):PE X (.BinOp a op b pos) (tOp r ta tb):=by
 intro pins s σ H Q I h
 exact wpAny_BinOp (Qnd ha hb I h λv u s2 x y H2 I2 rx ry q=>ho pins s2 σ H2 x y v u Q I2 rx ry q)
theorem Qv9{op:UnaryOp}{r:V->Hp->VK->Prop}(ho:UnR X (unaryOp op) r)(ha:PE X a ta):PE X (.UnaryOp op a pos) (tUn r ta):=by
 intro pins s σ H Q I h
 exact UnaryOp_ (thn (ha pins s σ H _ I h) λv s1 ⟨x,H1,I1,r1,q1⟩=>ho pins s1 σ H1 x v Q I1 r1 q1)
theorem Qxh{op:Operator}{r:R2}(ho:OpR X (inplaceOp op) r){pins:List (Addr×Obj)}{s:Shared}{σ:St}{H:Hp}{x y:V}{v u:Value}{Q:VK}(I:Inv X pins σ H s)
  (rx:RelV x v) (ry:RelV y u) (q:r x y H Q):wpAny (model X.prog X.w) X.A (inplaceOp op v u) (EP X pins σ Q) X.xe s:=ho pins s σ H x y v u Q I rx ry q
theorem opI{f:Value->Value->Sem Value}{C:Int->Int->Prop}{g:Int->Int->Int}
  (rule:∀(i j:Int) (t u:Tok) (s:Shared) (Q:Value->Shared->Prop) (E:Value->Shared->Prop),C i j->Q (.int (g i j) s.toks) {s with toks:=s.toks+1}->wpAny (model X.prog X.w) X.A (f (.int i t) (.int j u)) Q E s):
  OpR X f (rI C λi j=> .int (g i j)):=by
 intro pins s σ H x y v u Q I rx ry h
 obtain⟨i,j,rfl,rfl,hc,q⟩:=h
 obtain⟨t,rfl⟩:=rx
 obtain⟨t',rfl⟩:=ry
 exact rule i j t t' s _ _ hc ⟨.int (g i j),H,I.tok _,⟨_,rfl⟩,q⟩
theorem Qnf{f:Value->Value->Sem Value}{g:Int->Int->Int}
  (rule:∀(i j:Int) (t u:Tok) (s:Shared) (Q:Value->Shared->Prop) (E:Value->Shared->Prop),Q (.int (g i j) s.toks) {s with toks:=s.toks+1}->wpAny (model X.prog X.w) X.A (f (.int i t) (.int j u)) Q E s):
  OpR X f (rI0 λi j=> .int (g i j)):=by
 intro pins s σ H x y v u Q I rx ry h
 obtain⟨i,j,rfl,rfl,q⟩:=h
 obtain⟨t,rfl⟩:=rx
 obtain⟨t',rfl⟩:=ry
 exact rule i j t t' s _ _ ⟨.int (g i j),H,I.tok _,⟨_,rfl⟩,q⟩
theorem Qna{f:Value->Value->Sem Value}{g:Int->Int->Bool}
  (rule:∀(i j:Int) (t u:Tok) (s:Shared) (Q:Value->Shared->Prop) (E:Value->Shared->Prop),Q (.bool (g i j)) s->wpAny (model X.prog X.w) X.A (f (.int i t) (.int j u)) Q E s):
  OpR X f (rI0 λi j=> .bl (g i j)):=by
 intro pins s σ H x y v u Q I rx ry h
 obtain⟨i,j,rfl,rfl,q⟩:=h
 obtain⟨t,rfl⟩:=rx
 obtain⟨t',rfl⟩:=ry
 exact rule i j t t' s _ _ ⟨.bl (g i j),H,I,rfl,q⟩
def QvU(i j:Int):Prop:=(-(2^64)<i/\i<2^64)∨(-(2^64)<j/\j<2^64)
theorem QvU.ok{i j:Int}(h:QvU i j):IntMulOk i j:=by
 rcases h with⟨h1,h2⟩ | ⟨h1,h2⟩
 ·exact .of_left (intBits_le_64 h1 h2)
 ·exact .of_right (intBits_le_64 h1 h2)
theorem QnE(k:Nat):(0:Int)<=2^k:=by
 rw[two_pow_cast]
 exact Int.natCast_nonneg _
theorem QvD:OpR X (binaryOp .Add) (rI0 λi j=> .int (i+j)):=Qnf λ_ _ _ _ _ _ _ q=>add_int q
theorem Qt7:OpR X (binaryOp .Sub) (rI0 λi j=> .int (i-j)):=Qnf λ_ _ _ _ _ _ _ q=>sub_int q
theorem QvZ:OpR X (binaryOp .RShift) (rI (λ_ j=>0<=j) λi j=> .int (i / 2^j.toNat)):=opI λi j _ _ _ _ _ hc q=>
 rshift_int hc (by rw[Zbu i (QnE _)];exact q)
theorem QrM:OpR X (inplaceOp .Add) (rI0 λi j=> .int (i+j)):=Qnf λ_ _ _ _ _ _ _ q=>iadd_int q
theorem QsE:OpR X (inplaceOp .Sub) (rI0 λi j=> .int (i-j)):=Qnf λ_ _ _ _ _ _ _ q=>isub_int q
theorem unI{f:Value->Sem Value}{g:Int->Int}
  (rule:∀(i:Int) (t:Tok) (s:Shared) (Q:Value->Shared->Prop) (E:Value->Shared->Prop),Q (.int (g i) s.toks) {s with toks:=s.toks+1}->wpAny (model X.prog X.w) X.A (f (.int i t)) Q E s):
  UnR X f (rU λi=> .int (g i)):=by
 intro pins s σ H x v Q I rx h
 obtain⟨i,rfl,q⟩:=h
 obtain⟨t,rfl⟩:=rx
 exact rule i t s _ _ ⟨.int (g i),H,I.tok _,⟨_,rfl⟩,q⟩
theorem Quq:UnR X (unaryOp .USub) (rU λi=> .int (-i)):=unI λ_ _ _ _ _ q=>neg_int q
end
section
variable {X:Cx}{a b c:Expr}{ta tb tc:TE}{pos:Pos}
theorem Qov{pins:List (Addr×Obj)}{σ:St}{H:Hp}{s:Shared}{Q:VK}{k k':Bool}(I:Inv X pins σ H s)(q:Q (.bl k) H)(e:k=k'):EP X pins σ Q (.bool k') s:=by
 subst e
 exact⟨.bl k,H,I,rfl,q⟩
theorem Qw0:OpR X (compareOp .Lt) (rI0 λi j=> .bl (decide (i<j))):=Qna λ_ _ _ _ _ _ _ q=>lt_int q
theorem QwY:OpR X (compareOp .LtE) (rI0 λi j=> .bl (decide (i<=j))):=Qna λ_ _ _ _ _ _ _ q=>le_int q
theorem QwV:OpR X (compareOp .Gt) (rI0 λi j=> .bl (decide (j<i))):=Qna λ_ _ _ _ _ _ _ q=>gt_int q
theorem Qv2:OpR X (compareOp .GtE) (rI0 λi j=> .bl (decide (j<=i))):=Qna λ_ _ _ _ _ _ _ q=>ge_int q
theorem Qok:OpR X (compareOp .In) (λx y H Q=>∃i j,x= .str i/\y= .str j/\Q (.bl (!(Builtin.Str.occurrences j i 0 j.length 1).isEmpty)) H):=by
 intro pins s σ H x y v u Q I rx ry h
 obtain⟨i,j,rfl,rfl,q⟩:=h
 obtain⟨t,rfl⟩:=rx
 obtain⟨t',rfl⟩:=ry
 exact in_str (Qov I q rfl)
theorem QkD:OpR X (compareOp .NotIn) (λx y H Q=>∃i j,x= .str i/\y= .str j/\Q (.bl (!(!(Builtin.Str.occurrences j i 0 j.length 1).isEmpty))) H):=by
 intro pins s σ H x y v u Q I rx ry h
 obtain⟨i,j,rfl,rfl,q⟩:=h
 obtain⟨t,rfl⟩:=rx
 obtain⟨t',rfl⟩:=ry
 exact notIn_str (Qov I q rfl)
theorem OpR.or{f:Value->Value->Sem Value}{r r':R2}(h:OpR X f r)(h':OpR X f r'):OpR X f (λx y H Q=>r x y H Q∨r' x y H Q):=by
 intro pins s σ H x y v u Q I rx ry q
 rcases q with q | q
 ·exact h pins s σ H x y v u Q I rx ry q
 ·exact h' pins s σ H x y v u Q I rx ry q
theorem Qyj(b:Expr){op:CmpOp}(h:op≠ .In:=by decide)(h2:op≠ .NotIn:=by decide):behindInMarks op b=false:=by
 have e1:(op == CmpOp.In)=false:=by cases op<;>first | rfl | exact absurd rfl h
 have e2:(op == CmpOp.NotIn)=false:=by cases op<;>first | rfl | exact absurd rfl h2
 cases b<;>simp[behindInMarks,e1,e2]
theorem QrR{op:CmpOp}{r:R2}(ho:OpR X (compareOp op) r)(ha:PE X a ta)(hb:PE X b tb)(hm:behindInMarks op b=false):PE X (.Compare a [op] [b] pos) (tOp r ta tb):=by
 intro pins s σ H Q I h
 exact wpAny_Compare1 (Qnd ha hb I h λv u s2 x y H2 I2 rx ry q=>ho pins s2 σ H2 x y v u Q I2 rx ry q) hm
noncomputable def QwL(t:TE):TT:=λσ H Q=>t σ H λx H'=>∃k,x= .bl k/\Q k H'
theorem QsL{op:CmpOp}{r:R2}(ho:OpR X (compareOp op) r)(ha:PE X a ta)(hb:PE X b tb)(hm:behindInMarks op b=false):PT X (.Compare a [op] [b] pos) (QwL (tOp r ta tb)):=by
 intro pins s σ H Q I h
 refine wpAny_isTrue_Compare1 (thn (ha pins s σ H _ I h) λv s1 ⟨x,H1,I1,r1,q1⟩=>thn (hb pins s1 σ H1 _ I1 q1) λu s2 ⟨y,H2,I2,r2,q2⟩=>
  thn (ho pins s2 σ H2 x y v u _ I2 r1 r2 q2) λc s3 ⟨z,H3,I3,r3,k,e,q3⟩=>?_) hm
 subst e
 cases r3
 exact wpAny_truthy_bool ⟨H3,I3,q3⟩
def Qpz(K:PySem.W.Frag)(x:V)(H:Hp)(k:Bool):Prop:=
 match x with
 | .non=>k=false
 | .bl b=>k=b
 | .int i=>k=(i != 0)
 | .str y=>y.length<=sizeLine/\k=((y.length:Int) != 0)
 | .byt y=>y.size<=sizeLine/\k=((y.size:Int) != 0)
 | .ref p=>(∃xs,SqL K H p xs/\k= !xs.isEmpty)∨(∃xs,SqT K H p xs/\k= !xs.isEmpty)∨∃kvs,H p=some (.dK kvs)/\k= !kvs.isEmpty
 | _=>False
theorem QnA{κ:Type}{kvs:List (κ×V)}{vs:List (κ×Value)}(r:KV kvs vs):(!vs.isEmpty)= !kvs.isEmpty:=by
 cases r<;>rfl
theorem Qh4{xs:List V}{its:List Value}(r:Qt xs its):(!its.toArray.isEmpty)= !xs.isEmpty:=by
 cases r<;>simp
theorem Qd8:(sizeLine:Nat)<2^63:=by rw[sizeLine_eq];decide
theorem QhM:Qya X (λx H Q=>∃k,Qpz X.K x H k/\Q k H):=by
 intro pins s σ H x v Q I rx h
 obtain⟨k,e,q⟩:=h
 have hl:=Qd8
 have hs:sizeLine=16777216:=sizeLine_eq
 cases x with
 | non=>
  cases rx
  have e':k=false:=e
  subst e'
  exact truthy_none ⟨H,I,q⟩
 | bl b=>
  cases rx
  have e':k=b:=e
  subst e'
  exact wpAny_truthy_bool ⟨H,I,q⟩
 | int i=>
  obtain⟨t,rfl⟩:=rx
  have e':k=(i != 0):=e
  subst e'
  exact PySem.P.truthy_int ⟨H,I,q⟩
 | str y=>
  obtain⟨t,rfl⟩:=rx
  obtain⟨hy,e'⟩:y.length<=sizeLine/\k=((y.length:Int) != 0):=e
  subst e'
  exact PySem.P.truthy_str (by omega) ⟨H,I.tok _,q⟩
 | byt y=>
  obtain⟨t,rfl⟩:=rx
  obtain⟨hy,e'⟩:y.size<=sizeLine/\k=((y.size:Int) != 0):=e
  subst e'
  exact PySem.W.truthy_bytes (by omega) ⟨H,I.tok _,q⟩
 | ref p=>
  cases rx
  have e':(∃xs,SqL X.K H p xs/\k= !xs.isEmpty)∨(∃xs,SqT X.K H p xs/\k= !xs.isEmpty)∨∃kvs,H p=some (.dK kvs)/\k= !kvs.isEmpty:=e
  rcases e' with⟨xs,hx,e'⟩ | ⟨xs,hx,e'⟩ | ⟨kvs,hx,e'⟩
  ·subst e'
   obtain⟨its,r,pl,hz⟩:=I.list hx
   have hlen:=r.length
   exact wpAny_truthy_list pl.isList (by simp only[Zw];omega) ⟨H,I.tok _,by rw[Qh4 r];exact q⟩
  ·subst e'
   obtain⟨its,r,pl,hz⟩:=I.tuple hx
   have hlen:=r.length
   exact truthy_tuple pl (by simp only[Zw];omega) ⟨H,I.tok _,by rw[Qh4 r];exact q⟩
  ·subst e'
   obtain⟨hz,hS,vs,r,m⟩:kvs.length<=sizeLine/\(p == sysModules)=false/\∃vs,KV kvs vs/\s.heap.DictOf (Qiu X.prog X.w) p vs:=I.hok p _ hx
   have hlen:kvs.length=vs.length:=Paired.length r
   exact wpAny_truthy_dict hS m (by omega) ⟨H,I.tok _,by rw[QnA r];exact q⟩
 | _=>exact(show False from e).elim
theorem Qqx(ha:PE X a ta)(he:∀whole,isTrue a X.env whole=(do let v ← whole;standAt a.pos;holding [v] (truthy v))):
  PT X a (λσ H Q=>ta σ H λx H'=>∃k,Qpz X.K x H' k/\Q k H'):=by
 intro pins s σ H Q I h
 exact isTrue_plain (thn (ha pins s σ H _ I h) λv s1 ⟨x,H1,I1,r1,q1⟩=>QhM pins s1 σ H1 x v Q I1 r1 q1) (he _)
theorem QnJ:OpR X (binaryOp .Add) (λx y H Q=>∃i j,x= .str i/\y= .str j/\i.length+j.length<=sizeLine/\Q (.str (i++j)) H):=by
 intro pins s σ H x y v u Q I rx ry h
 obtain⟨i,j,rfl,rfl,hz,q⟩:=h
 obtain⟨t,rfl⟩:=rx
 obtain⟨t',rfl⟩:=ry
 exact add_str (λt' tk=>⟨.str (i++j),H,I.tok _,⟨_,rfl⟩,q⟩) hz
def Qp6(b:Expr):Prop:=∀o i,subscripted b false o i=operate [o,i] (getItem o i)
theorem Ql3(ha:PE X a ta)(hb:PE X b tb)(hs:Qp6 b):
  PE X (.Subscript a b pos) (tOp (λx y H Q=>∃z i c,x= .str z/\y= .int i/\0<=i/\i<2^63/\i<z.length/\z.cps[i.toNat]? =some c/\Q (.str ⟨#[c]⟩) H) ta tb):=by
 intro pins s σ H Q I h
 refine Subscript_ (Qnd ha hb I h λv u s2 x y H2 I2 rx ry q=>?_)
 obtain⟨z,i,c,rfl,rfl,h0,h63,h1,hc,q⟩:=q
 obtain⟨t,rfl⟩:=rx
 obtain⟨t',rfl⟩:=ry
 have e:seqIndex? i z.length=some i.toNat:=PySem.StrLaws.seqIndex_nonneg h0 h1
 exact tail_any (typeIs_str s2 z t) slot_str_getitem.lookup (getItem_str (c:=c) (by
  have e1:decide (i< -(2^63:Int))=false:=decide_eq_false (by omega)
  have e2:decide (i≥2^63)=false:=decide_eq_false (by omega)
  rw[e1,e2]<;>rfl) (by rw[e];exact hc) ⟨.str ⟨#[c]⟩,H2,I2.tok _,⟨_,rfl⟩,q⟩) (hs _ _)
theorem vals1{x:V}{us:List Value}(r:Qt [x] us):∃u,us=[u]/\RelV x u:=by
 cases r with
 | cons r1 r2=>cases r2;exact⟨_,rfl,r1⟩
theorem vals2{x y:V}{us:List Value}(r:Qt [x,y] us):∃u w',us=[u,w']/\RelV x u/\RelV y w':=by
 cases r with
 | cons r1 r2=>
  cases r2 with
  | cons r3 r4=>cases r4;exact⟨_,_,rfl,r1,r3⟩
theorem Qn0(hc:X.calm=true):QaX X (.builtin "max") (λxs H Q=>∃i j,xs=[.int i,.int j]/\Q (.int (if j>i then j else i)) H):=by
 intro pins s σ H xs us Q I r h
 obtain⟨i,j,rfl,q⟩:=h
 obtain⟨u,w',rfl,⟨t,rfl⟩,⟨t',rfl⟩⟩:=vals2 r
 refine max_two_ints (I.ok.hd hc) λh' tk k=>⟨_,H,I.kept k,?_,q⟩
 by_cases hj:j>i
 ·rw[if_pos hj,if_pos hj];exact⟨_,rfl⟩
 ·rw[if_neg hj,if_neg hj];exact⟨_,rfl⟩
theorem QoC(hc:X.calm=true):QaX X (.builtin "min") (λxs H Q=>∃i j,xs=[.int i,.int j]/\Q (.int (if j<i then j else i)) H):=by
 intro pins s σ H xs us Q I r h
 obtain⟨i,j,rfl,q⟩:=h
 obtain⟨u,w',rfl,⟨t,rfl⟩,⟨t',rfl⟩⟩:=vals2 r
 refine min_two_ints (I.ok.hd hc) λh' tk k=>⟨_,H,I.kept k,?_,q⟩
 by_cases hj:j<i
 ·rw[if_pos hj,if_pos hj];exact⟨_,rfl⟩
 ·rw[if_neg hj,if_neg hj];exact⟨_,rfl⟩
theorem Qky:QaX X (.type "str") (λxs H Q=>∃i,xs=[.int i]/\i.natAbs.log2<1920/\Q (.str (toString i)) H):=by
 intro pins s σ H xs us Q I r h
 obtain⟨i,rfl,hz,q⟩:=h
 obtain⟨u,rfl,t,rfl⟩:=vals1 r
 exact PySem.P.str_of_int hz ⟨.str _,H,I.tok _,⟨_,rfl⟩,q⟩
end
end L2
namespace L2
open PySem PySem.Spec PyProof.Rows
structure Qhc (h:Heap) (x dx C:Addr) (mA:Str->Option Value):Prop where
 obj:h.get? x=some (PySem.W.instObj C dx)
 ns:h.Ns1 dx mA
 ne:dx≠x
theorem Qou{h:Heap}{dx:Addr}{mA:Str->Option Value}(n:h.Ns1 dx mA):∃od,h.get? dx=some od/\∀name,PySem.W.lookIn name od=some (mA name):=by
 obtain⟨o,es,ep,ho,hd,hk,_,hm⟩:=n
 refine⟨o,ho,λname=>?_⟩
 have e:=hm name
 unfold nsFind findBy at e
 rw[← Array.find?_toList]at e
 unfold PySem.W.lookIn
 rw[hd]
 dsimp only
 split
 ·rename_i y q
  rw[q]at e
  exact congrArg some e
 ·rename_i q
  rw[q]at e
  have a:es.toList.any (·.refKey)=false:=by
   rw[List.any_eq_false]
   intro y hy
   obtain⟨z,t,hkey⟩:=hk y (Array.mem_toList_iff.mp hy)
   simp[DictEntry.refKey,hkey]
  have a':¬es.toList.any (·.refKey)=true:=by rw[a];exact ZZ
  rw[if_neg a']
  exact congrArg some e
theorem Qhc.look{h:Heap}{x dx C:Addr}{mA:Str->Option Value}(I:Qhc h x dx C mA):∃od,PySem.W.InstAt h x (PySem.W.instObj C dx) C (some od)/\∀name,PySem.W.lookIn name od=some (mA name):=
 let ⟨od,ho,hl⟩:=Qou I.ns
 ⟨od,⟨I.obj,rfl,rfl,ho⟩,hl⟩
section
variable {prog:Program}{w:World}{A:Around}{E:Value->Shared->Prop}{s:Shared}{K:PySem.W.Frag}{x dx C f:Addr}{mA:Str->Option Value}{name:Str}{v:Value}
theorem get_map{expr:Bool}{Q:Value->Shared->Prop}(X:K.In s.heap)(I:Qhc s.heap x dx C mA)(hg:PySem.W.plainGet K C name=true)(hh:PySem.W.hasDictIn K C=true)
  (ha:PySem.W.findIn K (.ref C) name=some none) (hv:mA name=some v) (hv':PySem.W.handedIn v=true) (h:Q v {s with toks:=s.toks+1}):
  wpAny (model prog w) A (getAttr (.ref x) name expr) Q E s:=by
 obtain⟨od,J,hl⟩:=I.look
 exact PySem.W.get_value X J (Zbs hg).1 (PySem.W.findObj_own hh ha rfl (by rw[hl,hv])) hv' h
theorem QpB{pl:Sem Bool}{Q:Value×List Value->Shared->Prop}(X:K.In s.heap)(I:Qhc s.heap x dx C mA)(hg:PySem.W.plainGet K C name=true)
  (hf:PySem.W.findIn K (.ref C) name=some (some (.ref f))) (ht:PySem.W.isFn K (.ref f)=true) (hv:mA name=none) (h:Q (.ref f,[.ref x]) s):
  wpAny (model prog w) A (getMethod (.ref x) name pl) Q E s:=by
 obtain⟨od,J,hl⟩:=I.look
 exact PySem.W.method_fn X J (Zbs hg).1 (Zbs hg).2 hf (beq_iff_eq.mp ht) (by show(PySem.W.lookIn name od).map (·.isSome)=some false;rw[hl,hv];rfl) h
theorem Qsr{ns:List Str}{Q:Unit->Shared->Prop}(X:K.In s.heap)(I:Qhc s.heap x dx C mA)
  (hs:PySem.W.findIn K (.ref C) "__setattr__" =some (some (.builtin "object.__setattr__"))) (hp:PySem.W.plainOver K C=true) (ht:PySem.W.takerIn K C name=some none) (hh:PySem.W.hasDictIn K C=true)
  (hw:PySem.Within mA ns) (hsz:ns.length<=sizeLine)
  (h:∀h',Qhc h' x dx C (λy=>if y=name then some v else mA y)->Heap.SameBut dx s.heap h'->Q () {s with heap:=h',toks:=s.toks+2}):
  wpAny (model prog w) A (setAttr (.ref x) name v) Q E s:=by
 obtain⟨od,J,hl⟩:=I.look
 refine PySem.W.set_plain X J hs (PySem.W.osa_open (s:={s with toks:=s.toks+1}) (r:=none) X J hp ht λb=>?_)
 obtain⟨cd,hc,hd'⟩:=PySem.W.any_some hh
 have hx:s.heap.get? x=some ⟨.ref C,some dx,.plain,#[]⟩:=I.obj
 refine wpAny_bind (wpAny_pure (wpAny_bind (wpAny_bind (wpAny_loadPart hx (wpAny_bind (PySem.W.Looks.here (s:={s with toks:=s.toks+1}) (PySem.W.looks_clsIn X hc) ?_))))))
 rw[hd']
 refine wpAny_pure (a:=some dx) (wpAny_bind (wpAny_pure (wpAny_bind ?_)))
 refine wpAny_nsSet1 (s:={s with toks:=s.toks+1}) I.ns λh' hn2 hs2=>?_
 obtain⟨oD,esD,epD,hoD,hdD,hcD⟩:=hn2.count (PySem.Within.cons name v hw)
 refine wpAny_bind (wpAny_lookBehind hoD (by rw[hdD];exact pastItsLine_dict (ZF hcD (by rw[Zk];omega))) ?_)
 exact wpAny_pure (h _ ⟨(hs2.2 _ (Ne.symm I.ne)).trans I.obj,hn2,I.ne⟩ hs2)
theorem Qq2{R:Result->Shared->Prop}{vs:List Value}{kw:List (Str×Value)}(X:K.In s.heap)(hm:PySem.W.makesIn K C=true)
  (hi:PySem.W.findIn K (.ref C) "__init__" =some (some (.ref f))) (hf:PySem.W.typeIn K (.ref f)=some (.type "function"))
  (h:codeAny (model prog w) (A.under (.builtin "type.__call__" ⟨.ref C::vs,kw⟩)) (.call (.ref f) ⟨.ref (s.heap.objs.size+1)::vs,kw⟩) (PySem.W.InitBack (s.heap.objs.size+1) R)
   {s with heap:=(s.heap.push PySem.W.emptyDict).push (PySem.W.instObj C s.heap.objs.size)}):
  codeAny (model prog w) A (.call (.ref C) ⟨vs,kw⟩) R s:=by
 obtain⟨hh,g,d,t,os⟩:=s
 exact PySem.W.make_core (ZbG X hm) (PySem.W.looks_findIn X hi) (λself=>PySem.W.bind_fn X self hf) (.inl rfl) h
theorem Qol{R:Result->Shared->Prop}(X:K.In s.heap)(hm:PySem.W.makesIn K C=true)
  (hi:PySem.W.findIn K (.ref C) "__init__" =some (some (.builtin "object.__init__")))
  (hb:∀self,PySem.W.Looks (model prog w) s.heap (bindSpecial (.builtin "object.__init__") self) (.builtin "object.__init__",[self]))
  (h:codeAny (model prog w) (A.under (.builtin "type.__call__" ⟨[.ref C],[]⟩)) (.call (.builtin "object.__init__") ⟨[.ref (s.heap.objs.size+1)],[]⟩) (PySem.W.InitBack (s.heap.objs.size+1) R)
   {s with heap:=(s.heap.push PySem.W.emptyDict).push (PySem.W.instObj C s.heap.objs.size)}):
  codeAny (model prog w) A (.call (.ref C) ⟨[],[]⟩) R s:=by
 obtain⟨hh,g,d,t,os⟩:=s
 exact PySem.W.make_core (ZbG X hm) (PySem.W.looks_findIn X hi) hb (.inr ⟨rfl,rfl⟩) h
end
noncomputable def Qa4(f:Str)(v:V):List (Str×V)->List (Str×V)
 | []=>[(f,v)]
 | (g,x)::r=>if g=f then(g,v)::r else(g,x)::Qa4 f v r
theorem QgX(f g:Str)(v:V):∀fs:List (Str×V),(Qa4 f v fs).lookup g=if g=f then some v else fs.lookup g
 | []=>by
  show List.lookup g [(f,v)]=_
  by_cases h:g=f
  ·have hb:(g == f)=true:=beq_iff_eq.mpr h
   simp only[List.lookup,hb,if_pos h]
  ·have hb:(g == f)=false:=beq_eq_false_iff_ne.mpr h
   simp only[List.lookup,hb,if_neg h]
 | (k,x)::r=>by
  have ih:=QgX f g v r
  rw[show Qa4 f v ((k,x)::r)=(if k=f then(k,v)::r else(k,x)::Qa4 f v r)from rfl]
  by_cases hk:k=f
  ·rw[if_pos hk]
   by_cases h:g=k
   ·have hb:(g == k)=true:=beq_iff_eq.mpr h
    simp only[List.lookup,hb,if_pos (h.trans hk)]
   ·have hb:(g == k)=false:=beq_eq_false_iff_ne.mpr h
    simp only[List.lookup,hb,if_neg (λe:g=f=>h (e.trans hk.symm))]
  ·rw[if_neg hk]
   by_cases h:g=k
   ·have hb:(g == k)=true:=beq_iff_eq.mpr h
    simp only[List.lookup,hb,if_neg (λe:g=f=>hk (h.symm.trans e))]
   ·have hb:(g == k)=false:=beq_eq_false_iff_ne.mpr h
    simp only[List.lookup,hb]
    exact ih
theorem Qga(f:Str)(v:V):∀fs:List (Str×V),f∈(Qa4 f v fs).map (·.1)/\∀g,g∈fs.map (·.1)->g∈(Qa4 f v fs).map (·.1)
 | []=>⟨by simp[Qa4],λg h=>by simp at h⟩
 | (k,x)::r=>by
  obtain⟨i1,i2⟩:=Qga f v r
  rw[show Qa4 f v ((k,x)::r)=(if k=f then(k,v)::r else(k,x)::Qa4 f v r)from rfl]
  by_cases hk:k=f
  ·rw[if_pos hk]
   subst hk
   exact⟨by simp,λg h=>by simpa using h⟩
  ·rw[if_neg hk]
   refine⟨?_,λg h=>?_⟩
   ·rw[Zq]
    exact Zb _ i1
   ·rw[Zq]at h ⊢
    rcases Zo.mp h with e | e
    ·exact Zo.mpr (.inl e)
    ·exact Zb _ (i2 g e)
theorem QgT(f:Str)(v:V):∀fs:List (Str×V),(Qa4 f v fs).length<=fs.length+1
 | []=>by simp[Qa4]
 | (k,x)::r=>by
  have ih:=QgT f v r
  rw[show Qa4 f v ((k,x)::r)=(if k=f then(k,v)::r else(k,x)::Qa4 f v r)from rfl]
  by_cases hk:k=f
  ·rw[if_pos hk,Zk,Zk];omega
  ·rw[if_neg hk,Zk,Zk];omega
theorem QcC.some_of{v:V}{o:Option Value}(r:QcC (some v) o):∃u,o=some u/\RelV v u:=by
 cases o with
 | none=>exact(show False from r).elim
 | some u=>exact⟨u,rfl,r⟩
theorem QcC.none_of{o:Option Value}(r:QcC none o):o=none:=by
 cases o with
 | none=>rfl
 | some u=>exact(show False from r).elim
theorem Qn6{v:V}{u:Value}(r:RelV v u):PySem.W.handedIn u=true:=by
 cases v with
 | non=>cases(show u=Value.none from r);rfl
 | bl b=>cases(show u=Value.bool b from r);rfl
 | int i=>obtain⟨t,e⟩:=(show ∃t,u=Value.int i t from r);cases e;rfl
 | str x=>obtain⟨t,e⟩:=(show ∃t,u=Value.str x t from r);cases e;rfl
 | byt b=>obtain⟨t,e⟩:=(show ∃t,u=Value.bytes b t from r);cases e;rfl
 | flt b=>obtain⟨t,e⟩:=(show ∃t,u=Value.float b t from r);cases e;rfl
 | ref a=>cases(show u=Value.ref a from r);rfl
 | ty n=>cases(show u=Value.type n from r);rfl
section
variable {P:Program}{w:World}{H H':Hp}{h h':Heap}{a C dx:Addr}{fs fs':List (Str×V)}
theorem QiC(hok:HOk P w H h)(e:H a=some (.ins C dx fs)):∃mA,Qhc h a dx C mA/\(∀f,QcC (fs.lookup f) (mA f))/\PySem.Within mA (fs.map (·.1))/\fs.length<=1000/\H dx=some (.own a):=by
 obtain⟨d,z,ne,ob,mA,n,r,q⟩:=(show Qbu P w H h a (.ins C dx fs)from hok a _ e)
 exact⟨mA,⟨ob,n,ne⟩,r,q,z,d⟩
end
structure Cls (K:PySem.W.Frag) (C:Addr):Prop where
 pg:PySem.W.plainGet K C Str.empty=true
 hd:PySem.W.hasDictIn K C=true
 po:PySem.W.plainOver K C=true
 sa:PySem.W.findIn K (.ref C) "__setattr__" =some (some (.builtin "object.__setattr__"))
theorem Cls.get{K:PySem.W.Frag}{C:Addr}(c:Cls K C)(f:Str):PySem.W.plainGet K C f=true:=c.pg
def QbF(K:PySem.W.Frag)(C:Addr)(f:Str):Prop:=PySem.W.findIn K (.ref C) f=some none
theorem QbF.Qv5{K:PySem.W.Frag}{C:Addr}{f:Str}(n:QbF K C f):PySem.W.takerIn K C f=some none:=by
 unfold PySem.W.takerIn
 rw[show PySem.W.findIn K (.ref C) f=some none from n]
 rfl
structure Con (K:PySem.W.Frag) (C:Addr) (f:Str) (v:V) (u:Value):Prop where
 at_:PySem.W.findIn K (.ref C) f=some (some u)
 rel:RelV v u
 get:PySem.W.specialIn K u "__get__" =some none
 cp:PySem.W.copiedNames.contains f=false
structure QiN (K:PySem.W.Frag) (C:Addr) (m:Str) (f:Addr):Prop where
 at_:PySem.W.findIn K (.ref C) m=some (some (.ref f))
 fn:PySem.W.isFn K (.ref f)=true
 kp:PySem.W.keepIn K (.ref f)=true
section
variable {X:Cx}{pins:List (Addr×Obj)}{σ:St}{H:Hp}{s:Shared}{a C dx:Addr}{fs:List (Str×V)}{f:Str}{v:V}{A:Around}{E:Value->Shared->Prop}
theorem Qij{b:Bool}{Q:Value->Shared->Prop}(I:Inv X pins σ H s)(e:H a=some (.ins C dx fs))(c:Cls X.K C)(n:QbF X.K C f)(l:fs.lookup f=some v)
  (h:∀u s',Inv X pins σ H s'->RelV v u->Q u s'):wpAny (model X.prog X.w) A (getAttr (.ref a) f b) Q E s:=by
 obtain⟨mA,O,r,_,_,_⟩:=QiC I.hok e
 obtain⟨u,hu,ru⟩:=QcC.some_of (v:=v) (o:=mA f) (by rw[← l];exact r f)
 exact get_map I.kIn O (c.get f) c.hd n hu (Qn6 ru) (h u _ (I.tok _) ru)
theorem QmU{m:Str}{g:Addr}{pl:Sem Bool}{Q:Value×List Value->Shared->Prop}(I:Inv X pins σ H s)(e:H a=some (.ins C dx fs))(c:Cls X.K C)(k:QiN X.K C m g)(l:fs.lookup m=none)
  (h:Q (.ref g,[.ref a]) s):wpAny (model X.prog X.w) A (getMethod (.ref a) m pl) Q E s:=by
 obtain⟨mA,O,r,_,_,_⟩:=QiC I.hok e
 have hn:mA m=none:=QcC.none_of (by rw[← l];exact r m)
 exact QpB I.kIn O (c.get m) k.at_ k.fn hn h
theorem Qh7{y:V}{u:Value}{Q:Unit->Shared->Prop}(I:Inv X pins σ H s)(e:H a=some (.ins C dx fs))(c:Cls X.K C)(n:QbF X.K C f)(hl:fs.length<1000)(ry:RelV y u)
  (h:∀s',Inv X pins σ (upd H a (.ins C dx (Qa4 f y fs))) s'->Q () s'):wpAny (model X.prog X.w) A (setAttr (.ref a) f u) Q E s:=by
 obtain⟨mA,O,r,wi,_,ho⟩:=QiC I.hok e
 have hz:(fs.map (·.1)).length<=sizeLine:=by rw[Zj,sizeLine_eq];omega
 refine Qsr I.kIn O c.sa c.po n.Qv5 c.hd wi hz λh' O' sb=>h _ ?_
 have hd:∃o,h'.get? dx=some o:=let ⟨o,_,_,e',_⟩:=O'.ns;⟨o,e'⟩
 refine I.write (x:=a) (e:=dx) (by rw[e];exact True.intro) (.inr ho) (λb q hb z=>(sb.2 b hb).trans z) hd ?_
 refine⟨by rw[Qz O.ne];exact ho,?_,O.ne,O'.obj,_,O'.ns,λg=>?_,λg hg=>?_⟩
 ·have:=QgT f y fs;omega
 ·show QcC ((Qa4 f y fs).lookup g) (if g=f then some u else mA g)
  rw[QgX]
  by_cases q:g=f
  ·rw[if_pos q,if_pos q];exact ry
  ·rw[if_neg q,if_neg q];exact r g
 ·by_cases q:g=f
  ·rw[q];exact(Qga f y fs).1
  ·refine(Qga f y fs).2 g (wi g λz=>hg ?_)
   show(if g=f then some u else mA g)=none
   rw[if_neg q];exact z
theorem Inv.made(I:Inv X pins σ H s):Inv X pins σ (upd (upd H s.heap.objs.size (.own (s.heap.objs.size+1))) (s.heap.objs.size+1) (.ins C s.heap.objs.size []))
  {s with heap:=(s.heap.push PySem.W.emptyDict).push (PySem.W.instObj C s.heap.objs.size)}:=by
 have e1:(s.heap.push PySem.W.emptyDict).get? s.heap.objs.size=some PySem.W.emptyDict:=ZD s.heap rfl
 have e2:((s.heap.push PySem.W.emptyDict).push (PySem.W.instObj C s.heap.objs.size)).get? (s.heap.objs.size+1)=some (PySem.W.instObj C s.heap.objs.size):=by
  have:=ZD (s.heap.push PySem.W.emptyDict) (o:=PySem.W.instObj C s.heap.objs.size) rfl
  rwa[ZaA]at this
 have e3:(s.heap.push PySem.W.emptyDict).Ns s.heap.objs.size (λ_=>none):=⟨PySem.W.emptyDict,#[],_,e1,rfl,(λe he=>absurd he (by simp)),λ_=>rfl⟩
 have I1:=I.laid (a:=s.heap.objs.size) (o:= .own (s.heap.objs.size+1)) (h':=s.heap.push PySem.W.emptyDict) (t':=s.toks) (λb u q=>Zn _ q) (Zm _) ⟨_,e1⟩
 refine I1.laid (a:=s.heap.objs.size+1) (o:= .ins C s.heap.objs.size []) (t':=s.toks) (λb u q=>Zn _ q) (Nat.le_of_eq (ZaA _ _)) ?_
 have ne:s.heap.objs.size≠s.heap.objs.size+1:=ZN (Zaz _)
 refine⟨by rw[Qz ne,Qag],Zaf _,ne,e2,λ_=>none,(Heap.Ns1.of_empty e3).at λo q=>Zn _ q,λ_=>True.intro,λy hy=>absurd rfl hy⟩
theorem QtG{prog:Program}{w:World}{env:Env}{e:Expr}{f:Str}{pos:Pos}{s:Shared}{Q:Value->Shared->Prop}(hb:attributeBase e f env (eval e env)=eval e env)
  (h:wpAny (model prog w) A (eval e env) (λo s₁=>wpAny (model prog w) A (getAttr o f true) Q E s₁) E s):wpAny (model prog w) A (eval (.Attribute e f pos) env) Q E s:=
 Attribute_any_ h (by rw[arm_eval_Attribute,hb])
end
noncomputable def QxO(K:PySem.W.Frag)(ta:TE)(f:Str):TE:=λσ H Q=>ta σ H λx H1=>∃a C dx fs v,x= .ref a/\H1 a=some (.ins C dx fs)/\Cls K C/\QbF K C f/\fs.lookup f=some v/\Q v H1
noncomputable def Qx5(K:PySem.W.Frag)(ta tv:TE)(f:Str):TS:=λD σ H=>tv σ H λy H1=>ta σ H1 λx H2=>∃a C dx fs,x= .ref a/\H2 a=some (.ins C dx fs)/\Cls K C/\QbF K C f/\fs.length<1000∧
 D.nx σ (upd H2 a (.ins C dx (Qa4 f y fs)))
def Quh(X:Cx)(op:Operator)(rd:V->V->Hp->VK->Prop):Prop:=
 ∀(pins:List (Addr×Obj)) (s:Shared) (σ:St) (H:Hp) (x y:V) (u v:Value) (Q:VK),Inv X pins σ H s->RelV x u->RelV y v->rd x y H Q->wpAny (model X.prog X.w) X.A (inplaceOp op u v) (EP X pins σ Q) X.xe s
noncomputable def QrU(K:PySem.W.Frag)(ta tv:TE)(rd:V->V->Hp->VK->Prop)(f:Str):TS:=λD σ H=>ta σ H λx H1=>∃a C dx fs v,x= .ref a/\H1 a=some (.ins C dx fs)/\Cls K C/\QbF K C f/\fs.lookup f=some v∧
 tv σ H1 λy H2=>rd v y H2 λz H3=>∃dx' fs',H3 a=some (.ins C dx' fs')/\fs'.length<1000/\D.nx σ (upd H3 a (.ins C dx' (Qa4 f z fs')))
section
variable {X:Cx}{o e value:Expr}{f:Str}{pos pos' tpos:Pos}{ta tv:TE}
theorem QtZ(he:PE X e ta)(hb:attributeBase e f X.env (eval e X.env)=eval e X.env):PE X (.Attribute e f pos) (QxO X.K ta f):=by
 intro pins s σ H Q I h
 refine QtG hb (thn (he pins s σ H _ I h) λu s1 hpt=>?_)
 obtain⟨x,H1,I1,rx,a,C,dx,fs,v,ex,ea,c,n,l,q⟩:=hpt
 subst ex
 obtain rfl:u=Value.ref a:=rx
 exact Qij I1 ea c n l λu' s2 I2 ru=>⟨v,H1,I2,ru,q⟩
theorem QvM(ha:PE X o ta)(hv:PE X value tv)(hs:swapsWith value (some (.Attribute o f pos')) pos.line X.env=pure false):PS X (.Assign [.Attribute o f pos'] value pos) (Qx5 X.K ta tv f):=by
 intro pins s σ H D I h
 refine plainObj_wpAny_Assign_Attribute (thn (hv pins s σ H _ I h) λu s1 ⟨y,H1,I1,ry,q⟩=>thn (ha pins s1 σ H1 _ I1 q) λov s2 ⟨x,H2,I2,rx,a,C,dx,fs,ex,ea,c,n,l,q2⟩=>?_) hs
 subst ex
 obtain rfl:ov=Value.ref a:=rx
 exact Qh7 I2 ea c n l ry λs3 I3=>⟨σ,_,I3,q2⟩
theorem Qpo{op:Operator}{rd:V->V->Hp->VK->Prop}(ha:PE X o ta)(hv:PE X value tv)(hop:Quh X op rd):PS X (.AugAssign (.Attribute o f tpos) op value pos) (QrU X.K ta tv rd f):=by
 intro pins s σ H D I h
 refine wpAny_AugAssign_AttributeAny (thn (ha pins s σ H _ I h) λov s1 hpt=>?_)
 obtain⟨x,H1,I1,rx,a,C,dx,fs,v,ex,ea,c,n,l,q⟩:=hpt
 subst ex
 obtain rfl:ov=Value.ref a:=rx
 refine Qij I1 ea c n l λu s2 I2 ru=>thn (hv pins s2 σ H1 _ I2 q) λw3 s3 ⟨y,H2,I3,ry,q3⟩=>thn (hop pins s3 σ H2 v y u w3 _ I3 ru ry q3) λw4 s4 hpt=>?_
 obtain⟨z,H3,I4,rz,dx',fs',ea',l',q4⟩:=hpt
 exact Qh7 I4 ea' c n l' rz λs5 I5=>⟨σ,_,I5,q4⟩
noncomputable def Qx7:V->V->Hp->VK->Prop:=λx y H Q=>∃i j,x= .int i/\y= .int j/\Q (.int (i+j)) H
theorem Qu0:Quh X .Add Qx7:=by
 rintro pins s σ H x y u v Q I rx ry ⟨i,j,rfl,rfl,q⟩
 obtain⟨t,rfl⟩:=(show ∃t,u=Value.int i t from rx)
 obtain⟨t',rfl⟩:=(show ∃t',v=Value.int j t' from ry)
 exact PyProof.Rows.iadd_int ⟨.int (i+j),H,I.tok _,⟨_,rfl⟩,q⟩
end
section
variable {X:Cx}{pins:List (Addr×Obj)}{σ:St}{H:Hp}{s:Shared}{A:Around}{E:Value->Shared->Prop}{Q:Value->Shared->Prop}{c:Value}{b:Bool}
end
end L2
namespace L2
open PySem PySem.Spec PyProof.Rows
structure QZ (k:Nat) (A:Around):Prop where
 hd:A.handled=none
 dp:A.depth+3*k+5<recursionLimit
 un:A.units+16*k+200<cLine
theorem QZ.mono{j k:Nat}{A:Around}(r:QZ k A)(h:j<=k):QZ j A:=⟨r.hd,by have:=r.dp;omega,by have:=r.un;omega⟩
theorem QZ.deeper{k:Nat}{A:Around}(r:QZ (k+1) A)(env:Env):QZ k (A.deeper env):=
 ⟨r.hd,by have:=r.dp;show A.depth+1+3*k+5<_;omega,by have:=r.un;show A.units+3+16*k+200<_;omega⟩
theorem QZ.in1{k:Nat}{A:Around}(r:QZ (k+1) A):QZ k A.in1:=
 ⟨r.hd,by have:=r.dp;show A.depth+3*k+5<_;omega,by have:=r.un;show A.units+1+16*k+200<_;omega⟩
theorem QnC{A:Around}{C:Addr}{us:List Value}{kw:List (Str×Value)}:(A.under (.builtin "type.__call__" ⟨.ref C::us,kw⟩)).depth=A.depth+1:=by
 first | rfl | simp[Around.under,Code.weight,Code.isCreation,Code.isGuard,Code.isCaller,Code.frames,Code.isFrame,guardIds]
theorem QmP{A:Around}{C:Addr}{us:List Value}{kw:List (Str×Value)}:(A.under (.builtin "type.__call__" ⟨.ref C::us,kw⟩)).units=A.units+1:=by
 first | rfl | simp[Around.under,Code.cUnits,Code.frames,Code.isFrame]
theorem QZ.make{k:Nat}{A:Around}(r:QZ (k+1) A)(C:Addr)(us:List Value)(kw:List (Str×Value)):QZ k (A.under (.builtin "type.__call__" ⟨.ref C::us,kw⟩)):=
 ⟨r.hd,by have:=r.dp;rw[QnC];omega,by have:=r.un;rw[QmP];omega⟩
theorem QZ.depth{k:Nat}{A:Around}(r:QZ k A):A.depth<recursionLimit:=by have:=r.dp;omega
theorem QZ.units{k:Nat}{A:Around}(r:QZ k A):A.units+64<cLine:=by have:=r.un;omega
noncomputable def QeC:TA:=λ_ H Q=>Q [] H
noncomputable def Qc2(ta:TE)(tr:TA):TA:=λσ H Q=>ta σ H λx H1=>tr σ H1 λxs H2=>Q (x::xs) H2
section
variable {X:Cx}{e:Expr}{es:List Expr}{te:TE}{t:TA}{pos:Pos}
theorem QbW:PA X [] QeC:=λ_ _ _ _ H Q I h=>Calls.spliced_nil ⟨[],H,I,.nil,h⟩
theorem Qan(ha:PE X e te)(hr:PA X es t)(hs:starEach (e::es) X.env=(false,eval e X.env)::starEach es X.env:=by rfl):PA X (e::es) (Qc2 te t):=by
 intro pos pins s σ H Q I h
 rw[hs]
 show wpAny _ _ (spliced ((false,eval e X.env)::backTo pos (starEach es X.env))) _ _ s
 refine Calls.spliced_cons (thn (ha pins s σ H _ I h) λu s1=>exJ λx H1 I1 r1 q1=>?_)
 exact thn (hr pos pins s1 σ H1 _ I1 q1) λus s2 ⟨xs,H2,I2,r2,q2⟩=>⟨x::xs,H2,I2,.cons r1 r2,q2⟩
noncomputable def Qx8(t:TA):TE:=λσ H Q=>t σ H λxs H1=>xs.length<=sizeLine/\∀p,H1 p=none->Q (.ref p) (upd H1 p (.tup xs))
noncomputable def QxS(t:TA):TE:=λσ H Q=>t σ H λxs H1=>xs.length<=sizeLine/\∀p,H1 p=none->Q (.ref p) (upd H1 p (.lst xs))
theorem Qve{x1}(h:PA X es t):PE X (.Tuple es x1 pos) (Qx8 t):=by
 intro pins s σ H Q I hq
 refine wpAny_Tuple_spliced (thn (h pos pins s σ H _ I hq) λus s1 ⟨xs,H1,I1,r,z,q⟩=>⟨by rw[← r.length];exact z,?_⟩)
 have hf:H1 s1.heap.objs.size=none:=I1.hok.fresh (Zm _)
 refine⟨.ref s1.heap.objs.size,upd H1 s1.heap.objs.size (.tup xs),I1.laid (t':=s1.toks) (λb u e=>Zn _ e) (Zm _) ?_,rfl,q _ hf⟩
 exact⟨z,us,r,⟨_,ZD _ rfl,rfl,_,rfl⟩⟩
theorem Qt5(h:PA X es t):PE X (.List es pos) (QxS t):=by
 intro pins s σ H Q I hq
 refine wpAny_List_spliced (thn (h pos pins s σ H _ I hq) λus s1 ⟨xs,H1,I1,r,z,q⟩=>⟨by rw[← r.length];exact z,?_⟩)
 have hf:H1 s1.heap.objs.size=none:=I1.hok.fresh (Zm _)
 refine⟨.ref s1.heap.objs.size,upd H1 s1.heap.objs.size (.lst xs),I1.laid (t':=s1.toks) (λb u e=>Zn _ e) (Zm _) ?_,rfl,q _ hf⟩
 exact⟨z,us,0,r,ZD _ rfl⟩
end
noncomputable abbrev Sp:=List V->Hp->VK->XK->Prop
noncomputable abbrev CXT:=List Env->Hp->Shared->XK->Value->Shared->Prop
structure QdY (P:Program) (w:World) (K:PySem.W.Frag) (mg:Str->Option Value) (base:Heap) (A:Around) (outer:List Env) (s:Shared) (H:Hp):Prop where
 frames:A.frames=some outer
 mod:Mod K mg base
 bs:∀b o,base.get? b=some o->s.heap.get? b=some o/\H b=none
 bsz:base.objs.size<=s.heap.objs.size
 QcP:s.heap.FunFrames base outer
 frf:∀b∈frs outer,H b=none
 hok:HOk P w H s.heap
 bare:AllBare s.gens
def CE(outer:List Env)(P:Program)(w:World)(H:Hp)(s:Shared)(Q:VK)(u:Value)(s':Shared):Prop:=
 ∃v H',s'.os=s.os/\AllBare s'.gens/\Un (frs outer) [] H H' s.heap s'.heap/\HOk P w H' s'.heap/\RelV v u/\Q v H'
def CR(CX:CXT)(outer:List Env)(P:Program)(w:World)(H:Hp)(s:Shared)(Q:VK)(E:XK)(r:Result)(s':Shared):Prop:=
 match r with
 | .ok (.ret u)=>CE outer P w H s Q u s'
 | .ok _=>False
 | .error e=>CX outer H s E e s'
structure Qab (P:Program) (w:World) (K:PySem.W.Frag) (mg:Str->Option Value) (base:Heap) (CX:CXT) (k:Nat) (f:Addr) (fd:FuncData) (ps:List Str) (sp:Sp):Prop where
 len:∀vs H Q E,sp vs H Q E->vs.length=ps.length
 run:∀(A:Around) (outer:List Env) (s:Shared) (H:Hp) (args:Args) (us:List Value) (vs:List V) (Q:VK) (E:XK),QZ k A->QdY P w K mg base A outer s H->BindsTo s fd args (ps.zip us)->Qt vs us->sp vs H Q E→
  codeAny (model P w) A (.call (.ref f) args) (CR CX outer P w H s Q E) s
theorem Qab.mono{P:Program}{w:World}{K:PySem.W.Frag}{mg:Str->Option Value}{base:Heap}{CX:CXT}{j k:Nat}{f:Addr}{fd:FuncData}{ps:List Str}{sp:Sp}(F:Qab P w K mg base CX j f fd ps sp)(h:j<=k):
  Qab P w K mg base CX k f fd ps sp:=⟨F.len,λA outer s H args us vs Q E hr=>F.run A outer s H args us vs Q E (hr.mono h)⟩
theorem Qab.imp{P:Program}{w:World}{K:PySem.W.Frag}{mg:Str->Option Value}{base:Heap}{CX:CXT}{k:Nat}{f:Addr}{fd:FuncData}{ps:List Str}{sp sp':Sp}(F:Qab P w K mg base CX k f fd ps sp)
  (h:∀vs H Q E,sp' vs H Q E->sp vs H Q E):Qab P w K mg base CX k f fd ps sp':=
 ⟨λvs H Q E q=>F.len vs H Q E (h _ _ _ _ q),λA outer s H args us vs Q E hr he hb hv hs=>F.run A outer s H args us vs Q E hr he hb hv (h _ _ _ _ hs)⟩
theorem QdY.make{P:Program}{w:World}{K:PySem.W.Frag}{mg:Str->Option Value}{base:Heap}{A:Around}{outer:List Env}{s:Shared}{H:Hp}(e:QdY P w K mg base A outer s H)(C:Addr)(us:List Value)(kw:List (Str×Value)):
  QdY P w K mg base (A.under (.builtin "type.__call__" ⟨.ref C::us,kw⟩)) outer s H:=⟨by first | exact e.frames | (simpa[Around.under,Code.envs,Code.isFrame,pushEnvs]using e.frames),e.mod,e.bs,e.bsz,e.QcP,e.frf,e.hok,e.bare⟩
theorem QdY.in1{P:Program}{w:World}{K:PySem.W.Frag}{mg:Str->Option Value}{base:Heap}{A:Around}{outer:List Env}{s:Shared}{H:Hp}(e:QdY P w K mg base A outer s H):
  QdY P w K mg base A.in1 outer s H:=⟨e.frames,e.mod,e.bs,e.bsz,e.QcP,e.frf,e.hok,e.bare⟩
section
variable {X:Cx}{pins:List (Addr×Obj)}{σ:St}{H:Hp}{s s':Shared}
theorem Inv.QuT(I:Inv X pins σ H s):QdY X.prog X.w X.K X.mg X.base X.A X.stack s H:=
 ⟨I.ok.frames,I.ok.mod,I.bs,ZF I.ok.bsz I.sz,I.stack,I.Qmt,I.hok,I.bare⟩
theorem Inv.after{Q:VK}{u:Value}(I:Inv X pins σ H s)(h:CE X.stack X.prog X.w H s Q u s'):EP X pins σ Q u s':=by
 obtain⟨v,H',os,bare,un,hok,r,q⟩:=h
 obtain⟨hh,g,d,t,os'⟩:=s'
 obtain rfl:os'=s.os:=os
 exact⟨v,H',I.call (h':=hh) (g':=g) (d':=d) (t':=t) (ch:=[]) un hok bare (λb z=>absurd z (by simp)),r,q⟩
end
noncomputable def Qm7(sp:Sp)(dvs:List V)(E:XK)(t:TA):TE:=λσ H Q=>t σ H λvs H1=>sp (vs++dvs) H1 Q E
noncomputable def Qwm(C:Addr)(m:Str)(sp:Sp)(dvs:List V)(E:XK)(ta:TE)(t:TA):TE:=λσ H Q=>ta σ H λx H1=>∃a dx fs,x= .ref a/\H1 a=some (.ins C dx fs)/\fs.lookup m=none∧
 t σ H1 λvs H2=>sp (x::(vs++dvs)) H2 Q E
noncomputable def Qv3(C:Addr)(sp:Sp)(dvs:List V)(E:XK)(t:TA):TE:=λσ H Q=>t σ H λvs H1=>∀x dx,H1 x=none->H1 dx=none->dx≠x→
 sp (.ref x::(vs++dvs)) (upd (upd H1 dx (.own x)) x (.ins C dx [])) (λv H2=>v= .non/\Q (.ref x) H2) E
def Binds(K:PySem.W.Frag)(fd:FuncData)(ps:List Str)(ds:List Value):Prop:=
 ∀(s:Shared) (us:List Value),K.In s.heap->(us++ds).length=ps.length->BindsTo s fd ⟨us,[]⟩ (ps.zip (us++ds))
theorem Binds.all{K:PySem.W.Frag}{fd:FuncData}{ps:List Str}(h:∀us:List Value,us.length=ps.length->bindArgs fd ⟨us,[]⟩=pure (ps.zip us)):Binds K fd ps []:=λs us _ hl=>by
 rw[ZM]at hl ⊢
 exact .of_eq (h us hl)
def Qeh(CX:CXT)(X:Cx)(E:XK):Prop:=∀(pins:List (Addr×Obj)) (σ:St) (H:Hp) (s:Shared) (e:Value) (s':Shared),Inv X pins σ H s->CX X.stack H s E e s'->X.xe e s'
section
variable {X:Cx}{CX:CXT}{k:Nat}{f C:Addr}{fd:FuncData}{ps:List Str}{sp:Sp}{dvs:List V}{ds:List Value}{E:XK}{x m:Str}{p pos apos:Pos}{e o:Expr}{es:List Expr}{ta:TE}{t:TA}
theorem Qkr{pins:List (Addr×Obj)}{σ:St}{H:Hp}{s:Shared}{Q:VK}{us:List Value}{vs:List V}(F:Qab X.prog X.w X.K X.mg X.base CX k f fd ps sp)(hr:QZ k X.A)(hb:Binds X.K fd ps ds)(hd:Qt dvs ds)(hx:Qeh CX X E)
  (I:Inv X pins σ H s) (r:Qt vs us) (h:sp (vs++dvs) H Q E):wpAny (model X.prog X.w) X.A (call (.ref f) us) (EP X pins σ Q) X.xe s:=by
 have r2:Qt (vs++dvs) (us++ds):=r.append hd
 have hl:(us++ds).length=ps.length:=by rw[← r2.length];exact F.len _ _ _ _ h
 refine wpAny_call (codeAny_mono (F.run X.A X.stack s H ⟨us,[]⟩ (us++ds) (vs++dvs) Q E hr I.QuT (hb s us I.kIn hl) r2 h) λr s' hq=>?_)
 cases r with
 | error e=>exact hx pins σ H s e s' I hq
 | ok fl=>
  cases fl with
  | ret u=>exact I.after hq
  | next=>exact False.elim hq
  | brk=>exact False.elim hq
  | cont=>exact False.elim hq
theorem QiJ(F:Qab X.prog X.w X.K X.mg X.base CX k f fd ps sp)(hr:QZ k X.A)(hg:Gl X x)(hm:X.mg x=some (.ref f))(hk:PySem.W.keepIn X.K (.ref f)=true)(hb:Binds X.K fd ps ds)(hd:Qt dvs ds)(hx:Qeh CX X E)
  (ha:PA X (e::es) t) (hdb:(x == ("__debug__" :Str))=false:=by decide) (he:starEach (e::es) X.env=(false,eval e X.env)::starEach es X.env:=by rfl) (hpl:(backTo pos (starEach es X.env)).any (·.1)=false:=by rfl):
  PE X (.Call (.Name x p) (e::es) [] pos) (Qm7 sp dvs E t):=by
 intro pins s σ H Q I h
 refine wpAny_Call_Name_kw (QeX I hg hm ?_ hdb)
 refine Zbv (h₀:=X.base) I.ok.mod.kin hk (thn (ha pos pins s σ H _ I h) λus s1 ⟨vs,H1,I1,r,q⟩=>⟨I1.kIn,?_⟩) he hpl
 exact Qkr F hr hb hd hx I1 r q
theorem Qqt(F:Qab X.prog X.w X.K X.mg X.base CX k f fd ps sp)(hr:QZ k X.A)(hg:Gl X x)(hm:X.mg x=some (.ref f))(hk:PySem.W.keepIn X.K (.ref f)=true)(hb:Binds X.K fd ps ds)(hd:Qt dvs ds)(hx:Qeh CX X E)
  (hdb:(x == ("__debug__" :Str))=false:=by decide):PE X (.Call (.Name x p) [] [] pos) (Qm7 sp dvs E QeC):=by
 intro pins s σ H Q I h
 refine wpAny_Call_Name_kw (QeX I hg hm ?_ hdb)
 exact PySem.W.callWith_K0 I.kIn hk (Qkr (us:=[]) F hr hb hd hx I .nil h)
theorem Qs1{pl:Sem Bool}(he:PE X o ta)(c:Cls X.K C)(hm:QiN X.K C m f)(F:Qab X.prog X.w X.K X.mg X.base CX k f fd ps sp)(hr:QZ k X.A)(hb:Binds X.K fd ps ds)(hd:Qt dvs ds)(hx:Qeh CX X E)(ha:PA X (e::es) t)
  (hst:starEach (e::es) X.env=(false,eval e X.env)::starEach es X.env:=by rfl) (hpl:(backTo pos (starEach es X.env)).any (·.1)=false:=by rfl)
  (ht:eval (.Call (.Attribute o m apos) (e::es) [] pos) X.env=(do
   let ov ← eval o X.env
   standAt apos.atName
   let (f,first) ← holding [ov] (getMethod ov m pl)
   callWith pos f first (backTo pos (starEach (e::es) X.env)) (backToKw pos (keywordEach [] X.env))):=by rfl):
  PE X (.Call (.Attribute o m apos) (e::es) [] pos) (Qwm C m sp dvs E ta t):=by
 intro pins s σ H Q I h
 refine PySem.W.methodCall_KW (pl:=pl) (thn (he pins s σ H _ I h) λu s1 ⟨x,H1,I1,rx,a,dx,fs,ex,ea,l,q⟩=>?_) ht
 subst ex
 obtain rfl:u=Value.ref a:=rx
 refine QmU I1 ea c hm l ?_
 refine Zbv (first:=[.ref a]) (h₀:=X.base) I.ok.mod.kin hm.kp (thn (ha pos pins s1 σ H1 _ I1 q) λus s2 ⟨vs,H2,I2,r,q2⟩=>⟨I2.kIn,?_⟩) hst hpl
 exact Qkr (us:= .ref a::us) (vs:= .ref a::vs) F hr hb hd hx I2 (.cons rfl r) q2
structure Mk (K:PySem.W.Frag) (C f:Addr):Prop where
 makes:PySem.W.makesIn K C=true
 init:PySem.W.findIn K (.ref C) "__init__" =some (some (.ref f))
 fn:PySem.W.isFn K (.ref f)=true
 kp:PySem.W.keepIn K (.ref C)=true
theorem Qqi{pins:List (Addr×Obj)}{σ:St}{H:Hp}{s:Shared}{Q:VK}{us:List Value}{vs:List V}(M:Mk X.K C f)(F:Qab X.prog X.w X.K X.mg X.base CX k f fd ps sp)(hr:QZ (k+1) X.A)(hb:Binds X.K fd ps ds)(hd:Qt dvs ds)
  (hx:Qeh CX X E) (I:Inv X pins σ H s) (r:Qt vs us)
  (h:∀x dx,H x=none->H dx=none->dx≠x->sp (.ref x::(vs++dvs)) (upd (upd H dx (.own x)) x (.ins C dx [])) (λv H2=>v= .non/\Q (.ref x) H2) E):
  wpAny (model X.prog X.w) X.A (call (.ref C) us) (EP X pins σ Q) X.xe s:=by
 have hq:=h (s.heap.objs.size+1) s.heap.objs.size (I.hok.fresh (ZaB _)) (I.hok.fresh (Zm _)) (ZN (Zaz _))
 have I2:=Inv.made (C:=C) I
 have r2:Qt (V.ref (s.heap.objs.size+1)::(vs++dvs)) (Value.ref (s.heap.objs.size+1)::(us++ds)):= .cons rfl (r.append hd)
 have hl:(Value.ref (s.heap.objs.size+1)::us++ds).length=ps.length:=by
  have e:=r2.length
  rw[F.len _ _ _ _ hq]at e
  exact e.symm
 refine wpAny_call (Qq2 (f:=f) I.kIn M.makes M.init (beq_iff_eq.mp M.fn) (codeAny_mono (F.run _ X.stack _ _ ⟨Value.ref (s.heap.objs.size+1)::us,[]⟩ (Value.ref (s.heap.objs.size+1)::(us++ds)) _ _ E (hr.make C us [])
  (I2.QuT.make C us []) (hb _ (Value.ref (s.heap.objs.size+1)::us) I2.kIn hl) r2 hq) λr s' hq'=>?_))
 cases r with
 | error e=>exact hx pins σ _ _ e s' I2 hq'
 | ok fl=>
  cases fl with
  | ret u=>
   obtain⟨v,H',I3,rv,ev,q3⟩:=I2.after hq'
   subst ev
   exact⟨rv,⟨V.ref (s.heap.objs.size+1),H',I3,rfl,q3⟩⟩
  | next=>exact False.elim hq'
  | brk=>exact False.elim hq'
  | cont=>exact False.elim hq'
theorem Qty(M:Mk X.K C f)(F:Qab X.prog X.w X.K X.mg X.base CX k f fd ps sp)(hr:QZ (k+1) X.A)(hg:Gl X x)(hm:X.mg x=some (.ref C))(hb:Binds X.K fd ps ds)(hd:Qt dvs ds)(hx:Qeh CX X E)
  (ha:PA X (e::es) t) (hdb:(x == ("__debug__" :Str))=false:=by decide) (he:starEach (e::es) X.env=(false,eval e X.env)::starEach es X.env:=by rfl) (hpl:(backTo pos (starEach es X.env)).any (·.1)=false:=by rfl):
  PE X (.Call (.Name x p) (e::es) [] pos) (Qv3 C sp dvs E t):=by
 intro pins s σ H Q I h
 refine wpAny_Call_Name_kw (QeX I hg hm ?_ hdb)
 refine Zbv (h₀:=X.base) I.ok.mod.kin M.kp (thn (ha pos pins s σ H _ I h) λus s1 ⟨vs,H1,I1,r,q⟩=>⟨I1.kIn,?_⟩) he hpl
 exact Qqi M F hr hb hd hx I1 r q
end
section
variable {X:Cx}{CX:CXT}{k:Nat}{f C:Addr}{fd:FuncData}{ps ks:List Str}{sp:Sp}{E:XK}{x m:Str}{p pos apos kpos:Pos}{e o:Expr}{es:List Expr}{kws:List Keyword}{te ta:TE}{t tk:TA}{nm:Option Str}
structure Qyi (K:PySem.W.Frag) (fd:FuncData) (ps ks:List Str) (g:List Value->List Value->List Value) (gV:List V->List V->List V):Prop where
 to:∀(s:Shared) (us ws:List Value),K.In s.heap->(g us ws).length=ps.length->BindsTo s fd ⟨us,ks.zip ws⟩ (ps.zip (g us ws))
 rel:∀{vs:List V}{us:List Value}{zs:List V}{ws:List Value},Qt vs us->Qt zs ws->Qt (gV vs zs) (g us ws)
variable {g:List Value->List Value->List Value}{gV:List V->List V->List V}
end
structure QaZ (N P:List Str) (sc:Scope):Prop where
 kind:sc.kind= .function
 co:sc.isCoroutine=false
 gen:sc.isGenerator=false
 nd:N.Nodup
 pre:N.take P.length=P
 par:∀x∈P,sc.names.lookup x=some .local ∨sc.names.lookup x=some .cell
 nofree:∀y∈sc.names,y.2≠ .free
theorem Qja{kindOf:Str->Option NameKind}{x:Str}:∀{binds:List (Str×Value)}{m:Str->Option Value},(∀v,(x,v)∉binds)->bindL kindOf binds m x=m x
 | [],_,_=>rfl
 | (n,v)::r,m,h=>by
  unfold bindL
  rw[Qja λw hw=>h w (Zb _ hw)]
  split
  ·have:x≠n:=by rintro rfl;exact h v Zf
   simp[this]
  ·rfl
theorem Qjt{kindOf:Str->Option NameKind}{x:Str}:∀{binds:List (Str×Value)}{m:Str->Option Value},(∀v,(x,v)∉binds)->bindC kindOf binds m x=m x
 | [],_,_=>rfl
 | (n,v)::r,m,h=>by
  unfold bindC
  rw[Qjt λw hw=>h w (Zb _ hw)]
  split
  ·rfl
  ·have:x≠n:=by rintro rfl;exact h v Zf
   simp[this]
theorem Qju{kindOf:Str->Option NameKind}{x:Str}{v:Value}:∀{P:List Str}{vs:List Value}{i:Nat}{m:Str->Option Value},P.Nodup->P[i]? =some x->vs[i]? =some v->kindOf x=some .local →
  bindL kindOf (P.zip vs) m x=some v
 | [],_,_,_,_,h,_,_=>by simp at h
 | _::_,[],_,_,_,_,h,_=>by simp at h
 | p::P,w::vs,0,m,nd,h1,h2,hk=>by
  simp at h1 h2;subst h1;subst h2
  show bindL kindOf ((p,w)::P.zip vs) m p=_
  unfold bindL
  rw[Qja λv hv=>(ZS.mp nd).1 (ZbS hv).1,if_pos hk]
  simp
 | p::P,w::vs,i+1,m,nd,h1,h2,hk=>by
  show bindL kindOf ((p,w)::P.zip vs) m x=_
  unfold bindL
  exact Qju (i:=i) (ZS.mp nd).2 (by simpa using h1) (by simpa using h2) hk
theorem Qjq{kindOf:Str->Option NameKind}{x:Str}{v:Value}:∀{P:List Str}{vs:List Value}{i:Nat}{m:Str->Option Value},P.Nodup->P[i]? =some x->vs[i]? =some v->kindOf x≠some .local →
  bindC kindOf (P.zip vs) m x=some v
 | [],_,_,_,_,h,_,_=>by simp at h
 | _::_,[],_,_,_,_,h,_=>by simp at h
 | p::P,w::vs,0,m,nd,h1,h2,hk=>by
  simp at h1 h2;subst h1;subst h2
  show bindC kindOf ((p,w)::P.zip vs) m p=_
  unfold bindC
  rw[Qjt λv hv=>(ZS.mp nd).1 (ZbS hv).1,if_neg hk]
  simp
 | p::P,w::vs,i+1,m,nd,h1,h2,hk=>by
  show bindC kindOf ((p,w)::P.zip vs) m x=_
  unfold bindC
  exact Qjq (i:=i) (ZS.mp nd).2 (by simpa using h1) (by simpa using h2) hk
noncomputable def start(N:List Str)(vs:List V):St:=vs.map some++List.replicate (N.length-vs.length) none
noncomputable def QdW(CX:CXT)(P:Program)(w:World)(K:PySem.W.Frag)(mg:Str->Option Value)(base:Heap)(N:List Str)(qual:Str)(scope:Scope)(f:Addr)(cd:Value)(A:Around)(outer:List Env)(s:Shared)(H:Hp)(E:XK):Cx where
 prog:=P
 w:=w
 K:=K
 mg:=mg
 base:=base
 A:=A.deeper (envOfC qual scope s.heap.objs.size f cd)
 N:=N
 s₀:=s
 H₀:=H
 env:=envOfC qual scope s.heap.objs.size f cd
 outer:=outer
 stack:=envOfC qual scope s.heap.objs.size f cd::outer
 ex:=[]
 calm:=decide (A.handled=none)
 fn:=λ_=>true
 pn:=[]
 xe:=λe s'=>wpAny (model P w) (A.deeper (envOfC qual scope s.heap.objs.size f cd)) (leaving (envOfC qual scope s.heap.objs.size f cd) e) (λ_ s''=>CX outer H s E e s'') (λe' s''=>CX outer H s E e' s'') s'
theorem Qlq{sc:Scope}{n:Nat}{x:Str}(h:sc.names.lookup x=some .cell):∃c,(cellsFrom n sc.names []).lookup x=some c:=by
 have q:=ZbM sc.names n [] (.inl h)
 exact ZbC.mp q
theorem Qpi{CX:CXT}{P:Program}{w:World}{K:PySem.W.Frag}{mg:Str->Option Value}{base:Heap}{N ps:List Str}{qual:Str}{scope:Scope}{f:Addr}{cd:Value}{A:Around}{outer:List Env}{s s1:Shared}{H:Hp}{E:XK}{us:List Value}{vs:List V}
  (S:QaZ N ps scope) (e0:QdY P w K mg base A outer s H) (hl:vs.length=ps.length) (r:Qt vs us)
  (x:InCallC s s.heap.objs.size (bindL (envOfC qual scope s.heap.objs.size f cd).kindOf (ps.zip us) λ_=>none) (cellsFrom (s.heap.objs.size+1) scope.names []) (bindC (envOfC qual scope s.heap.objs.size f cd).kindOf (ps.zip us) λ_=>none) s1):
  Inv (QdW CX P w K mg base N qual scope f cd A outer s H E) [] (start N vs) H s1:=by
 have hpl:ps.length<=N.length:=by have:=congrArg List.length S.pre;rw[ZW]at this;omega
 obtain⟨h1,tk,rfl,hk⟩:=x.done
 have noA:∀b:Addr,b∉(QdW CX P w K mg base N qual scope f cd A outer s H E).ex:=λb z=>absurd (show b∈([]:List Addr)from z) (by simp)
 refine⟨⟨e0.mod,S.kind,rfl,rfl,Zm _,λy z c h1 h2=>?_,λy hy=>?_,λy c _ h=>?_,λh=>of_decide_eq_true h,Around.frames_deeper e0.frames,.inr ⟨rfl,rfl⟩,λb z=>absurd z (noA b),e0.bs,e0.bsz,λb _ _=>noA b,λb z=>absurd z (noA b),e0.QcP,e0.frf⟩,
  rfl,e0.bare,Un.kept hk,⟨_,x.toInCall.ns,λi y v h1 h2 h3=>?_⟩,λy c h=>⟨_,x.cell y c h⟩,e0.hok.fresh (Zm _),λy c h=>?_,λp hp=>absurd (show p∈([]:List (Addr×Obj))from hp) (by simp),e0.hok.kept hk,?_⟩
 ·exact name_of_addr x.apart (Zal h1) (Zal h2)
 ·have hy:scope.names.lookup y=some .cell∨scope.names.lookup y=some .free:=hy
  rcases hy with hy | hy
  ·exact Qlq hy
  ·exact absurd rfl (S.nofree _ (Zal hy))
 ·exact Nat.le_of_lt (x.above y c (Zal h))
 ·have hi:i<vs.length:=by
   unfold start at h2
   by_cases hi:i<vs.length
   ·exact hi
   ·rw[Zaw (by simpa using hi)]at h2
    rw[ZbH]at h2
    split at h2<;>cases h2
  have ha:vs[i]? =some v:=by
   unfold start at h2
   rw[ZT (by simpa using hi),Zv]at h2
   cases e:vs[i]? with
   | none=>rw[e]at h2;cases h2
   | some a=>rw[e]at h2;cases h2;rfl
  obtain⟨u,hu,rv⟩:=r.get ha
  have hp:ps[i]? =some y:=by
   rw[← S.pre,List.getElem?_take_of_lt (by omega)];exact h1
  have ndP:ps.Nodup:=by rw[← S.pre];exact S.nd.sublist (List.take_sublist _ _)
  refine⟨u,rv,?_⟩
  rcases S.par y (ZC hp)with k | k
  ·exact .inl ⟨k,Qju ndP hp hu k⟩
  ·obtain⟨c,e⟩:=Qlq (n:=s.heap.objs.size+1) k
   refine .inr ⟨.inl k,c,e,?_⟩
   have q:=x.cell y c e
   rw[Qjq ndP hp hu (by show scope.names.lookup y≠_;rw[k];decide)]at q
   exact q
 ·exact e0.hok.fresh (Nat.le_of_lt (x.above y c (Zal h)))
 ·unfold start
  show _=N.length
  rw[Zp,Zj,List.length_replicate]
  omega
theorem Qv7{CX:CXT}{P:Program}{w:World}{K:PySem.W.Frag}{mg:Str->Option Value}{base:Heap}{k:Nat}{f:Addr}{name qual:Str}{params:Arguments}{body:List Stmt}{scope:Scope}{dV kV doc pm cdv ct oc:Value}{an od:Option Addr}
  {osl:Array (Option Value)}{N ps:List Str}{sp:Sp}(lk:K.lookup f=some ⟨oc,od,.func (PySem.W.fnOf name qual params body scope dV kV doc pm an cdv ct),osl⟩) (hcd:PySem.W.codeIn K cdv qual=true) (S:QaZ N ps scope)
  (len:∀vs H Q E,sp vs H Q E->vs.length=ps.length)
  (hbody:∀(A:Around) (outer:List Env) (s:Shared) (H:Hp) (vs:List V) (Q:VK) (E:XK),QZ k (A.deeper (envOfC qual scope s.heap.objs.size f cdv))->sp vs H Q E→
   ∃t,PSs (QdW CX P w K mg base N qual scope f cdv A outer s H E) body t/\t {nx:=λ_ H'=>Q .non H',rt:=Q} (start N vs) H):
  Qab P w K mg base CX (k+1) f (PySem.W.fnOf name qual params body scope dV kV doc pm an cdv ct) ps sp:=by
 refine⟨len,λA outer s H args us vs Q E hr e0 hb r hsp=>?_⟩
 have hl:=len _ _ _ _ hsp
 have KX:K.In s.heap:=e0.mod.kin.keeps λb o e=>(e0.bs b o e).1
 have lim:s.heap.NoLimit:=e0.mod.nolimit.keeps λb o e=>(e0.bs b o e).1
 have hkind:∀y∈ps.zip us,scope.names.lookup y.1=some .local ∨(scope.names.lookup y.1=some .cell/\((cellsFrom (s.heap.objs.size+1) scope.names []).lookup y.1).isSome=true):=λhpt hy=>by
  obtain⟨n,v⟩:=hpt
  rcases S.par n (ZbS hy).1 with q | q
  ·exact .inl q
  ·exact .inr ⟨q,ZbM _ _ _ (.inl q)⟩
 refine codeAny_call_function hr.depth (KX _ _ lk) rfl S.co S.gen rfl (PySem.W.codeRec_of KX hcd) (hb _ _ _ _ ?_)
 refine wpAny_newFunctionEnv_cells S.kind hkind λenv he s1 x=>?_
 subst he
 refine⟨lim.keeps x.toInCall.keep,codeAny_func ?_⟩
 obtain⟨t,ht,hq⟩:=hbody A outer s H vs Q E (hr.deeper _) hsp
 have I:Inv (QdW CX P w K mg base N qual scope f cdv A outer s H E) [] (start N vs) H s1:=Qpi S e0 hl r x
 refine wpAny_mono (ht [] s1 (start N vs) H _ I hq) (λfl s' hs=>?_) λe s' hs=>hs
 have fin:∀{σ':St}{H':Hp}{v:V}{u:Value},Inv (QdW CX P w K mg base N qual scope f cdv A outer s H E) [] σ' H' s'->RelV v u->Q v H'->CE outer P w H s Q u s':=
  λ{σ' H' v u} J rv q=>⟨v,H',J.os,J.bare,J.base,J.hok,rv,q⟩
 cases fl with
 | ret u=>
  obtain⟨v,σ',H',J,rv,q⟩:=hs
  exact fin J rv q
 | next=>
  obtain⟨σ',H',J,q⟩:=hs
  exact fin (v:=V.non) (u:=Value.none) J rfl q
 | brk=>
  obtain⟨_,_,_,q⟩:=hs
  exact False.elim q
 | cont=>
  obtain⟨_,_,_,q⟩:=hs
  exact False.elim q
end L2
namespace L2
open PySem PySem.Spec PyProof.Rows
section
variable {X:Cx}{x:Str}{p pos:Pos}{e:Expr}{es:List Expr}{t:TA}{id T:String}{r:List V->Hp->VK->Prop}
noncomputable def tCB(r:List V->Hp->VK->Prop)(t:TA):TE:=λσ H Q=>t σ H λvs H1=>r vs H1 Q
theorem Qhk(hc:QaX X (.builtin id) r)(hg:Gl X x)(hm:X.mg x=none)(hv:bootBuiltins x=some (.builtin id))(ha:PA X (e::es) t)(hn:x≠ "__name__" :=by decide)(hdb:(x == ("__debug__" :Str))=false:=by decide)
  (he:starEach (e::es) X.env=(false,eval e X.env)::starEach es X.env:=by rfl) (hpl:(backTo pos (starEach es X.env)).any (·.1)=false:=by rfl):PE X (.Call (.Name x p) (e::es) [] pos) (tCB r t):=by
 intro pins s σ H Q I h
 refine wpAny_Call_Name_kw (Qc3 I hg hm hv ?_ hn hdb)
 exact PyProof.Rows.callWith_builtin1 (thn (ha pos pins s σ H _ I h) λus s1 ⟨vs,H1,I1,r1,q1⟩=>hc pins s1 σ H1 vs us Q I1 r1 q1) he hpl
theorem Qjo(hc:QaX X (.type T) r)(hg:Gl X x)(hm:X.mg x=none)(hv:bootBuiltins x=some (.type T))(ha:PA X (e::es) t)(hn:x≠ "__name__" :=by decide)(hdb:(x == ("__debug__" :Str))=false:=by decide)
  (he:starEach (e::es) X.env=(false,eval e X.env)::starEach es X.env:=by rfl) (hpl:(backTo pos (starEach es X.env)).any (·.1)=false:=by rfl):PE X (.Call (.Name x p) (e::es) [] pos) (tCB r t):=by
 intro pins s σ H Q I h
 refine wpAny_Call_Name_kw (Qc3 I hg hm hv ?_ hn hdb)
 exact Zaa (thn (ha pos pins s σ H _ I h) λus s1 ⟨vs,H1,I1,r1,q1⟩=>hc pins s1 σ H1 vs us Q I1 r1 q1) he hpl
end
end L2
namespace HT
open PySem PyProof.Rows
section
open PySem.SeqAt
open PySem.AutoSeq1 (wpAny_loadPart')
open PySem.MeetsSeq PySem.MeetsSeq2 PySem.MeetsSeq3
end
section
variable {prog:Program}{w:World}{A:Around}{E:Value->Shared->Prop}{s:Shared}
noncomputable def sIx(n d:Nat):Option Int->Nat
 | none=>d
 | some v=>if v<0 then(v+(n:Int)).toNat else min v.toNat n
theorem Qg7(n d:Nat):sIx n d none=d:=rfl
theorem QgA(n d k:Nat):sIx n d (some (k:Int))=min k n:=by
 show(if(k:Int)<0 then((k:Int)+(n:Int)).toNat else min (k:Int).toNat n)=min k n
 rw[if_neg (by omega),ZO]
end
end HT
namespace L2
open PySem PySem.Spec PyProof.Rows
noncomputable abbrev TO:=St->Hp->(Option Int->Hp->Prop)->Prop
def PO(X:Cx)(e:Option Expr)(t:TO):Prop:=
 ∀(pins:List (Addr×Obj)) (s:Shared) (σ:St) (H:Hp) (Q:Option Int->Hp->Prop),Inv X pins σ H s->t σ H Q→
  wpAny (model X.prog X.w) X.A (evalPart e X.env) (λu s'=>∃o H',Inv X pins σ H' s'/\IsPart u o/\Q o H') X.xe s
noncomputable def QtJ:TO:=λ_ H Q=>Q none H
noncomputable def QwA(t:TE):TO:=λσ H Q=>t σ H λx H1=>∃i,x= .int i/\Q (some i) H1
theorem intsAre_of{ns:List Int}:∀{us:List Value},Qt (ns.map V.int) us->IntsAre us ns:=by
 induction ns with
 | nil=>intro us r;rw[ZbN]at r;cases r;exact .nil
 | cons n ns ih=>
  intro us r
  rw[Zq]at r
  cases r with
  | cons r1 r2=>
   obtain⟨t,e⟩:=r1
   subst e
   exact .cons n t (ih r2)
section
variable {X:Cx}{e:Expr}{te:TE}{lo hi:Option Expr}{tl th:TO}{pos p2:Pos}
theorem QsN:PO X none QtJ:=by
 intro pins s σ H Q I h
 rw[evalPart_none]
 exact wpAny_pure ⟨none,H,I,.none,h⟩
theorem QrO(h:PE X e te):PO X (some e) (QwA te):=by
 intro pins s σ H Q I hw
 rw[evalPart_some]
 refine thn (h pins s σ H _ I hw) λu s1=>exJ λx H1 I1 r1 q1=>?_
 obtain⟨i,rfl,q⟩:=q1
 obtain⟨t,rfl⟩:=r1
 exact⟨some i,H1,I1,.int i t,q⟩
def SlR(X:Cx)(r:V->Option Int->Option Int->Hp->VK->Prop):Prop:=
 ∀(pins:List (Addr×Obj)) (s:Shared) (σ:St) (H:Hp) (x:V) (v vl vu:Value) (lo hi:Option Int) (sl:Addr) (Q:VK),Inv X pins σ H s->RelV x v->s.heap.IsSliceOf sl vl vu .none->IsPart vl lo->IsPart vu hi->r x lo hi H Q→
  ∃T id,typeLookup (.type T) "__getitem__" =pure (some (.builtin id))/\s.TypeIs v T/\wpAny (model X.prog X.w) X.A (getItem v (.ref sl)) (EP X pins σ Q) X.xe s
theorem SlR.or{r r':V->Option Int->Option Int->Hp->VK->Prop}(h:SlR X r)(h':SlR X r'):SlR X (λx lo hi H Q=>r x lo hi H Q∨r' x lo hi H Q):=by
 intro pins s σ H x v vl vu lo hi sl Q I rx hs pl pu q
 rcases q with q | q
 ·exact h pins s σ H x v vl vu lo hi sl Q I rx hs pl pu q
 ·exact h' pins s σ H x v vl vu lo hi sl Q I rx hs pl pu q
noncomputable def tSl(r:V->Option Int->Option Int->Hp->VK->Prop)(te:TE)(tl th:TO):TE:=λσ H Q=>te σ H λx H1=>tl σ H1 λl H2=>th σ H2 λu H3=>r x l u H3 Q
theorem QpW{r:V->Option Int->Option Int->Hp->VK->Prop}(hr:SlR X r)(he:PE X e te)(hl:PO X lo tl)(hu:PO X hi th):PE X (.Subscript e (.Slice lo hi none p2) pos) (tSl r te tl th):=by
 intro pins s σ H Q I h
 refine Subscript_ (thn (he pins s σ H _ I h) λv s1=>exJ λx H1 I1 r1 q1=>?_)
 refine wpAny_Slice (thn (hl pins s1 σ H1 _ I1 q1) λvl s2 ⟨l,H2,I2,pl,q2⟩=>thn (hu pins s2 σ H2 _ I2 q2) λvu s3=>exJ λu H3 I3 pu q3=>?_)
 rw[evalPart_none]
 refine wpAny_pure ?_
 have I4:Inv X pins σ H3 {s3 with heap:=s3.heap.push {cls:= .type "slice",data:= .fields #[vl,vu,.none]}}:=I3.kept (t':=s3.toks) λb ob q=>Zn _ q
 obtain⟨T,id,hT,ht,hg⟩:=hr pins {s3 with heap:=s3.heap.push {cls:= .type "slice",data:= .fields #[vl,vu,.none]}} σ H3 x v vl vu l u s3.heap.objs.size Q I4 r1 (Heap.IsSliceOf.new ..) pl pu q3
 show wpAny (model X.prog X.w) X.A (subscriptTail e (.Slice lo hi none p2) v (.ref s3.heap.objs.size)) (EP X pins σ Q) X.xe {s3 with heap:=s3.heap.push {cls:= .type "slice",data:= .fields #[vl,vu,.none]}}
 exact tail_any (ops:=[.ref s3.heap.objs.size,v]) ht hT hg (by with_unfolding_all rfl)
noncomputable def Qiq(xs:List V)(lo hi:Option Int):List V:=(xs.drop (HT.sIx xs.length 0 lo)).take (HT.sIx xs.length xs.length hi-HT.sIx xs.length 0 lo)
theorem Ql0(xs:List V)(lo hi:Option Int):(Qiq xs lo hi).length<=xs.length:=by
 unfold Qiq
 rw[ZW,Zap]
 omega
end
end L2
namespace L2
open PySem PySem.Spec PyProof.Rows
noncomputable def ixN(n:Nat)(i:Int):Option Nat:=if 0<=i then(if i<n then some i.toNat else none)else if-(n:Int)<=i then some (i+n).toNat else none
noncomputable def atI{α:Type}(xs:List α)(i:Int):Option α:=(ixN xs.length i).bind λj=>xs[j]?
theorem Qgr{n:Nat}{i:Int}{j:Nat}(h:ixN n i=some j):seqIndex? i n=some j/\j<n/\ -(n:Int)<=i/\i<n:=by
 unfold ixN at h
 by_cases h0:0<=i
 ·rw[if_pos h0]at h
  by_cases h1:i<n
  ·rw[if_pos h1]at h
   have e:i.toNat=j:=Option.some.inj h
   exact⟨by rw[seqIndex_of h0 h1,e],by omega,by omega,h1⟩
  ·rw[if_neg h1]at h;cases h
 ·rw[if_neg h0]at h
  by_cases h1: -(n:Int)<=i
  ·rw[if_pos h1]at h
   have e:(i+n).toNat=j:=Option.some.inj h
   exact⟨by rw[seqIndex_neg (by omega) h1,e],by omega,h1,by omega⟩
  ·rw[if_neg h1]at h;cases h
theorem Qi4{α:Type}{xs:List α}{i:Int}{v:α}(h:atI xs i=some v):∃j,seqIndex? i xs.length=some j/\xs[j]? =some v/\j<xs.length/\ -(xs.length:Int)<=i/\i<xs.length:=by
 unfold atI at h
 cases e:ixN xs.length i with
 | none=>rw[e]at h;cases h
 | some j=>
  rw[e]at h
  obtain⟨h1,h2,h3,h4⟩:=Qgr e
  exact⟨j,h1,h,h2,h3,h4⟩
def Qgy(b:Expr):Prop:=∀o i,subscripted b false o i=operate [o,i] (getItem o i)
def IxR(X:Cx)(r:R2):Prop:=
 ∀(value slice:Expr) (pins:List (Addr×Obj)) (s:Shared) (σ:St) (H:Hp) (x y:V) (v u:Value) (Q:VK),Inv X pins σ H s->RelV x v->RelV y u->r x y H Q→
  subscripted slice false v u=operate [v,u] (getItem v u)->wpAny (model X.prog X.w) X.A (subscriptTail value slice v u) (EP X pins σ Q) X.xe s
def MtR(X:Cx)(id:String)(r:V->List V->Hp->VK->Prop):Prop:=
 ∀(pins:List (Addr×Obj)) (s:Shared) (σ:St) (H:Hp) (x:V) (xs:List V) (v:Value) (us:List Value) (Q:VK),Inv X pins σ H s->RelV x v->Qt xs us->r x xs H Q→
  wpAny (model X.prog X.w) X.A (call (.builtin id) (v::us)) (EP X pins σ Q) X.xe s
section
variable {X:Cx}{a b:Expr}{ta tb:TE}{pos:Pos}
theorem IxR.or{r r':R2}(h:IxR X r)(h':IxR X r'):IxR X (λx y H Q=>r x y H Q∨r' x y H Q):=by
 intro value slice pins s σ H x y v u Q I rx ry q hs
 rcases q with q | q
 ·exact h value slice pins s σ H x y v u Q I rx ry q hs
 ·exact h' value slice pins s σ H x y v u Q I rx ry q hs
theorem MtR.or{id:String}{r r':V->List V->Hp->VK->Prop}(h:MtR X id r)(h':MtR X id r'):MtR X id (λx xs H Q=>r x xs H Q∨r' x xs H Q):=by
 intro pins s σ H x xs v us Q I rx rs q
 rcases q with q | q
 ·exact h pins s σ H x xs v us Q I rx rs q
 ·exact h' pins s σ H x xs v us Q I rx rs q
theorem Qrl{r:R2}(hr:IxR X r)(ha:PE X a ta)(hb:PE X b tb)(hs:Qgy b):PE X (.Subscript a b pos) (tOp r ta tb):=by
 intro pins s σ H Q I h
 exact Subscript_ (Qnd ha hb I h λv u s2 x y H2 I2 rx ry q=>hr a b pins s2 σ H2 x y v u Q I2 rx ry q (hs _ _))
noncomputable def Qvw(K:PySem.W.Frag):R2:=λx y H Q=>∃p xs i v,x= .ref p/\y= .int i/\SqL K H p xs/\atI xs i=some v/\Q v H
noncomputable def QxH(K:PySem.W.Frag):R2:=λx y H Q=>∃p xs i v,x= .ref p/\y= .int i/\SqT K H p xs/\atI xs i=some v/\Q v H
theorem Ql7:IxR X (Qvw X.K):=by
 intro value slice pins s σ H x y v u Q I rx ry h hs
 obtain⟨p,xs,i,z,rfl,rfl,hq,he,q⟩:=h
 cases rx
 obtain⟨t,rfl⟩:=ry
 obtain⟨its,r,pl,hz⟩:=I.list hq
 obtain⟨j,h1,h2,h3,h4,h5⟩:=Qi4 he
 obtain⟨w,ew,rw'⟩:=r.get h2
 have hl:=r.length
 have hn:=Qd8
 have fin:EP X pins σ Q w s:=⟨z,H,I,rw',q⟩
 by_cases h0:0<=i
 ·have hj:i.toNat=j:=by
   rw[seqIndex_of h0 h5]at h1
   exact Option.some.inj h1
  exact item_listR pl.isList h0 (by omega) (by rw[hj];simpa using ew) fin hs
 ·have hj:(i+(its.toArray.size:Int)).toNat=j:=by
   rw[seqIndex_neg (by omega) h4]at h1
   rw[Zw,← hl]
   exact Option.some.inj h1
  exact subscriptTail_builtinR (x:=w) pl.isList.typeIs slot_list_getitem.lookup
   (wpAny_getItem_list_neg (Q:=λr s'=>r=w/\EP X pins σ Q r s') pl.isList (by omega) (by rw[Zw]<;>omega) (by omega) (by rw[hj];simpa using ew) ⟨rfl,fin⟩) hs
theorem QoF:IxR X (QxH X.K):=by
 intro value slice pins s σ H x y v u Q I rx ry h hs
 obtain⟨p,xs,i,z,rfl,rfl,hq,he,q⟩:=h
 cases rx
 obtain⟨t,rfl⟩:=ry
 obtain⟨its,r,pl,hz⟩:=I.tuple hq
 obtain⟨j,h1,h2,h3,h4,h5⟩:=Qi4 he
 obtain⟨w,ew,rw'⟩:=r.get h2
 have hl:=r.length
 have hn:=Qd8
 have fin:EP X pins σ Q w s:=⟨z,H,I,rw',q⟩
 exact subscriptTail_builtinR (x:=w) pl.typeIs slot_tuple_getitem.lookup
  (getItem_tuple (j:=j) (Q:=λr s'=>r=w/\EP X pins σ Q r s') pl (by omega) (by omega) (by rw[Zw,← hl];exact h1) (by simpa using ew) ⟨rfl,fin⟩) hs
theorem QmV(its:List Value)(n j:Nat)(u:Value):Obj.mapSeq (·.setIfInBounds j u) {cls:= .type "list",data:= .seq its.toArray n}={cls:= .type "list",data:= .seq (its.set j u).toArray n}:=by
 simp[Obj.mapSeq]
theorem Inv.lst{pins:List (Addr×Obj)}{σ:St}{H:Hp}{s:Shared}{p:Addr}{xs:List V}(I:Inv X pins σ H s)(h:H p=some (.lst xs)):
  ∃(its:List Value) (n:Nat),Qt xs its/\s.heap.get? p=some {cls:= .type "list",data:= .seq its.toArray n}/\xs.length<=sizeLine:=by
 obtain⟨z,its,n,r,e⟩:=I.hok p _ h
 exact⟨its,n,r,e,z⟩
theorem Inv.Qvl{pins:List (Addr×Obj)}{σ:St}{H:Hp}{s:Shared}{p:Addr}{xs ys:List V}{its its':List Value}{n n':Nat}{f:Obj->Obj}(I:Inv X pins σ H s)(h:H p=some (.lst xs))
  (ho:s.heap.get? p=some {cls:= .type "list",data:= .seq its.toArray n}) (hf:f {cls:= .type "list",data:= .seq its.toArray n}={cls:= .type "list",data:= .seq its'.toArray n'}) (r:Qt ys its') (hz:ys.length<=sizeLine) (t:Nat):
  Inv X pins σ (upd H p (.lst ys)) {s with heap:=s.heap.update p f,toks:=t}:=by
 have e:(s.heap.update p f).get? p=some {cls:= .type "list",data:= .seq its'.toArray n'}:=by
  rw[Heap.get?_update_self f ho (by rw[hf]<;>rfl),hf]
 refine I.write (x:=p) (e:=p) (by rw[h];trivial) (.inl rfl) (λb u hb q=>(Heap.get?_update_other _ _ (Ne.symm hb)).trans q) ⟨_,e⟩ ?_
 exact⟨hz,its',n',r,e⟩
noncomputable def QrC:V->V->V->Hp->(Hp->Prop)->Prop:=λo i v H Q=>∃p xs k j,o= .ref p/\i= .int k/\H p=some (.lst xs)/\ixN xs.length k=some j/\Q (upd H p (.lst (xs.set j v)))
theorem set_list:Qp3 X QrC:=by
 intro pins s σ H o i v ov iv u Q I ro ri rv h
 obtain⟨p,xs,k,j,rfl,rfl,hp,hj,q⟩:=h
 cases ro
 obtain⟨t,rfl⟩:=ri
 obtain⟨its,n,r,ho,hz⟩:=I.lst hp
 obtain⟨h1,h2,h3,h4⟩:=Qgr hj
 have hl:=r.length
 have hn:=Qd8
 have I':Inv X pins σ (upd H p (.lst (xs.set j v))) {s with heap:=s.heap.update p (Obj.mapSeq (·.setIfInBounds j u))}:=
  I.Qvl hp ho (QmV its n j u) (r.set rv j) (by rw[ZaQ];exact hz) s.toks
 by_cases h0:0<=k
 ·have hk:k.toNat=j:=by
   rw[seqIndex_of h0 h4]at h1
   exact Option.some.inj h1
  exact PySem.W.ki_setAt ho h0 (by omega) (by rw[Zw,← hl];exact h4) (by rw[hk];exact⟨_,I',q⟩)
 ·have hk:(k+(its.toArray.size:Int)).toNat=j:=by
   rw[seqIndex_neg (by omega) h3]at h1
   rw[Zw,← hl]
   exact Option.some.inj h1
  exact PySem.W.ki_setBack ho (by omega) (by rw[Zw,← hl];exact h3) (by omega) (by rw[hk];exact⟨_,I',q⟩)
theorem QkA(lo hi:Option Int)(n:Nat):(sliceBounds lo hi none n).1=((HT.sIx n 0 lo:Nat):Int)/\(sliceBounds lo hi none n).2.1=((HT.sIx n n hi:Nat):Int)/\(sliceBounds lo hi none n).2.2=1:=by
 refine⟨?_,?_,rfl⟩
 ·cases lo with
  | none=>simp[sliceBounds,HT.sIx]
  | some i=>
   simp only[sliceBounds,HT.sIx,Option.getD_none,show(1:Int)>0 by decide,if_true]
   by_cases h:i<0
   ·simp only[h,if_true]<;>omega
   ·simp only[h,if_false]<;>omega
 ·cases hi with
  | none=>simp[sliceBounds,HT.sIx]
  | some i=>
   simp only[sliceBounds,HT.sIx,Option.getD_none,show(1:Int)>0 by decide,if_true]
   by_cases h:i<0
   ·simp only[h,if_true]<;>omega
   ·simp only[h,if_false]<;>omega
theorem QjJ(its:List Value)(lo hi:Option Int):slicePick its.toArray lo hi none=((its.drop (HT.sIx its.length 0 lo)).take (HT.sIx its.length its.length hi-HT.sIx its.length 0 lo)).toArray:=by
 obtain⟨h1,h2,h3⟩:=QkA lo hi its.toArray.size
 unfold slicePick
 rw[h1,h2,h3]
 simp only[sliceRange_one,pick_run,Zw]<;>rfl
noncomputable def QxQ(K:PySem.W.Frag):V->Option Int->Option Int->Hp->VK->Prop:=λx lo hi H Q=>∃a xs,x= .ref a/\SqL K H a xs/\∀p,H p=none->Q (.ref p) (upd H p (.lst (Qiq xs lo hi)))
theorem Qsy:SlR X (QxQ X.K):=by
 intro pins s σ H x v vl vu lo hi sl Q I rx hs pl pu h
 obtain⟨a,xs,rfl,hx,q⟩:=h
 cases rx
 obtain⟨its,r,ht,hz⟩:=I.list hx
 have hlen:=r.length
 refine⟨"list",_,slot_list_getitem.lookup,ht.isList.typeIs,?_⟩
 refine wpAny_getItem_list_slice ht.isList hs pl pu .none (by simp) ?_ (by rw[Zw]<;>omega)
 rw[QjJ,← hlen]
 refine⟨.ref s.heap.objs.size,_,I.laid (t':=s.toks) (o:= .lst (Qiq xs lo hi)) (λb ob q=>Zn _ q) (Zm _) ?_,rfl,q _ (I.hok.fresh (Zm _))⟩
 exact⟨ZF (Ql0 xs lo hi) hz,_,0,(r.drop (HT.sIx xs.length 0 lo)).take (HT.sIx xs.length xs.length hi-HT.sIx xs.length 0 lo),ZD _ rfl⟩
theorem QlD:QaX X (.builtin "len") (λxs H Q=>∃p ys,xs=[.ref p]/\(SqL X.K H p ys∨SqT X.K H p ys)/\Q (.int ys.length) H):=by
 intro pins s σ H xs us Q I r h
 obtain⟨p,ys,rfl,hq,q⟩:=h
 obtain⟨u,rfl,rx⟩:=vals1 r
 cases rx
 have hn:=Qd8
 rcases hq with hq | hq
 ·obtain⟨its,r',pl,hz⟩:=I.list hq
  have hlen:=r'.length
  exact Calls.call_len_list pl.isList (by simp only[Zw]<;>omega) ⟨.int ys.length,H,I.tok _,⟨s.toks+1,by rw[Zw,hlen]⟩,q⟩
 ·obtain⟨its,r',pl,hz⟩:=I.tuple hq
  have hlen:=r'.length
  exact len_tuple pl (by simp only[Zw]<;>omega) ⟨.int ys.length,H,I.tok _,⟨s.toks+1,by rw[Zw,hlen]⟩,q⟩
theorem Qlc:QaX X (.builtin "len") (λxs H Q=>∃z,xs=[.str z]/\z.length<=sizeLine/\Q (.int z.length) H):=by
 intro pins s σ H xs us Q I r h
 obtain⟨z,rfl,hz,q⟩:=h
 obtain⟨u,rfl,t,rfl⟩:=vals1 r
 have hn:=Qd8
 exact len_str (by omega) ⟨.int z.length,H,I.tok _,⟨_,rfl⟩,q⟩
theorem QaX.or{f:Value}{r r':List V->Hp->VK->Prop}(h:QaX X f r)(h':QaX X f r'):QaX X f (λxs H Q=>r xs H Q∨r' xs H Q):=by
 intro pins s σ H xs us Q I rs q
 rcases q with q | q
 ·exact h pins s σ H xs us Q I rs q
 ·exact h' pins s σ H xs us Q I rs q
theorem Qka:QaX X (.type "list") (λxs H Q=>∃p ys,xs=[.ref p]/\(SqL X.K H p ys∨SqT X.K H p ys)/\∀l,H l=none->Q (.ref l) (upd H l (.lst ys))):=by
 intro pins s σ H xs us Q I r h
 obtain⟨p,ys,rfl,hq,q⟩:=h
 obtain⟨u,rfl,rx⟩:=vals1 r
 cases rx
 have fin:∀(its:List Value),Qt ys its->ys.length<=sizeLine->∀(h':Heap) (c':Nat),(∀b o',s.heap.get? b=some o'->h'.get? b=some o')→
   h'.get? s.heap.objs.size=some {cls:= .type "list",dict:=none,data:= .seq its.toArray c',slots:= #[]}->EP X pins σ Q (.ref s.heap.objs.size) {s with heap:=h'}:=λits r' hz h' c' kp e=>
  ⟨.ref s.heap.objs.size,_,I.laid (t':=s.toks) kp (Zm _) (show Qbu X.prog X.w _ h' _ (.lst ys)from⟨hz,its,c',r',e⟩),rfl,q _ (I.hok.fresh (Zm _))⟩
 rcases hq with hq | hq
 ·obtain⟨its,r',pl,hz⟩:=I.list hq
  have hlen:=r'.length
  obtain⟨o,ho,hc,n,hd⟩:=pl.isList
  exact call_list_seq p (.inl rfl) ho hc hd (λh' c' kp e=>fin its r' hz h' c' kp e) (by simp only[Zw]<;>omega)
 ·obtain⟨its,r',pl,hz⟩:=I.tuple hq
  have hlen:=r'.length
  obtain⟨o,ho,hc,n,hd⟩:=pl
  exact call_list_seq p (.inr rfl) ho hc hd (λh' c' kp e=>fin its r' hz h' c' kp e) (by simp only[Zw]<;>omega)
def tyV(K:PySem.W.Frag)(T:String)(x:V)(H:Hp):Prop:=match x with
 | .str _=>T= "str"
 | .int _=>T= "int"
 | .ref p=>(T= "list" /\∃xs,SqL K H p xs)∨(T= "tuple" /\∃o,K.lookup p=some o/\o.cls= .type "tuple" /\o.dict=none)∨
   (T= "dict" /\((∃kvs,H p=some (.dK kvs))∨∃kvs,H p=some (.dT kvs)))∨(T= "set" /\∃S n,H p=some (.set S n))
 | _=>False
theorem QnU{pins:List (Addr×Obj)}{σ:St}{H:Hp}{s:Shared}{T:String}{x:V}{v:Value}(I:Inv X pins σ H s)(r:RelV x v)(ty:tyV X.K T x H):
  s.TypeIs v T/\∀a,v= .ref a->∃ob,s.heap.get? a=some ob/\ob.dict=none:=by
 cases x with
 | str z=>
  obtain⟨t,rfl⟩:=r
  cases(show T= "str" from ty)
  exact⟨typeIs_str s z t,λ_ e=>nomatch e⟩
 | int i=>
  obtain⟨t,rfl⟩:=r
  cases(show T= "int" from ty)
  exact⟨typeIs_int s i t,λ_ e=>nomatch e⟩
 | ref p=>
  cases r
  rcases ty with⟨rfl,xs,hq⟩ | ⟨rfl,o,hk,hc,hd⟩ | ⟨rfl,hk⟩ | ⟨rfl,S,n,hk⟩
  ·obtain⟨its,_,pl,_⟩:=I.list hq
   refine⟨pl.isList.typeIs,λa e=>?_⟩
   cases e
   obtain⟨o,n,e,c,hd,_⟩:=pl
   exact⟨o,e,hd⟩
  ·refine⟨⟨o,I.kIn p o hk,hc⟩,λa e=>?_⟩
   cases e
   exact⟨o,I.kIn _ o hk,hd⟩
  ·have z:∃o,s.heap.get? p=some o/\o.ExactDict:=by
    rcases hk with⟨kvs,hk⟩ | ⟨kvs,hk⟩
    ·obtain⟨_,_,_,_,o,_,_,e,ex,_⟩:=I.hok p _ hk
     exact⟨o,e,ex⟩
    ·obtain⟨_,_,_,_,o,_,_,e,ex,_⟩:=I.hok p _ hk
     exact⟨o,e,ex⟩
   obtain⟨o,e,ex⟩:=z
   refine⟨⟨o,e,ex.1⟩,λa e2=>?_⟩
   cases e2
   exact⟨o,e,ex.2.1⟩
  ·obtain⟨o,_,_,_,e,ex,_⟩:=I.hok p _ hk
   refine⟨⟨o,e,ex.1⟩,λa e2=>?_⟩
   cases e2
   exact⟨o,e,ex.2.1⟩
 | _=>exact False.elim ty
noncomputable def Qye(K:PySem.W.Frag)(T:String)(r:V->List V->Hp->VK->Prop)(to:TE):TE:=λσ H Q=>to σ H λx H1=>tyV K T x H1/\r x [] H1 Q
noncomputable def tBM(K:PySem.W.Frag)(T:String)(r:V->List V->Hp->VK->Prop)(to:TE)(t:TA):TE:=λσ H Q=>to σ H λx H1=>tyV K T x H1/\t σ H1 λxs H2=>r x xs H2 Q
variable {o e:Expr}{es:List Expr}{to:TE}{t:TA}{name:Str}{apos cpos:Pos}{T id:String}{r:V->List V->Hp->VK->Prop}
theorem QvA(pa:PlainAttrs T)(slot:Slot T name id)(hty:typeOf (.builtin id)=pure (.type "method_descriptor"))(hm:MtR X id r)(ho:PE X o to)
  (hbase:attributeBase o name X.env (eval o X.env)=eval o X.env:=by rfl) (hline:(apos.endLine == cpos.line)=true:=by rfl):PE X (.Call (.Attribute o name apos) [] [] cpos) (Qye X.K T r to):=by
 intro pins s σ H Q I h
 refine wpAny_Call_method0_late hbase hline (thn (ho pins s σ H _ I h) λv s1 hpt=>?_)
 obtain⟨x,H1,I1,r1,ty,q1⟩:=hpt
 obtain⟨h1,h2⟩:=QnU I1 r1 ty
 exact⟨T,id,pa,slot,hty,h1,h2,Calls.callWith_builtin rfl (PySem.evalArgs_none (hm pins s1 σ H1 x [] v [] Q I1 r1 .nil q1))⟩
theorem QgB(pa:PlainAttrs T)(slot:Slot T name id)(hty:typeOf (.builtin id)=pure (.type "method_descriptor"))(hm:MtR X id r)(ho:PE X o to)(ha:PA X (e::es) t)
  (hbase:attributeBase o name X.env (eval o X.env)=eval o X.env:=by rfl)
  (hfew:((backTo cpos (starEach (e::es) X.env)).all (λx=> !x.1) && (backToKw cpos (keywordEach [] X.env)).all (λx=>x.1.isSome)
   && decide ((e::es).length+([]:List Keyword).length+(if([]:List Keyword).isEmpty then 0 else 1)<30))=true:=by rfl)
  (hline:(apos.endLine == cpos.line)=true:=by rfl) (hs:starEach (e::es) X.env=(false,eval e X.env)::starEach es X.env:=by rfl) (hplain:(backTo cpos (starEach es X.env)).any (·.1)=false:=by rfl):
  PE X (.Call (.Attribute o name apos) (e::es) [] cpos) (tBM X.K T r to t):=by
 intro pins s σ H Q I h
 refine wpAny_Call_method_late hbase hfew hline rfl (thn (ho pins s σ H _ I h) λv s1 hpt=>?_)
 obtain⟨x,H1,I1,r1,ty,q1⟩:=hpt
 obtain⟨h1,h2⟩:=QnU I1 r1 ty
 refine⟨T,id,pa,slot,hty,h1,h2,?_⟩
 have hA:=ha cpos pins s1 σ H1 _ I1 q1
 rw[hs]at hA ⊢
 refine Calls.callWith_builtin (by show(false || (backTo cpos (starEach es X.env)).any (·.1))=false;rw[hplain]<;>rfl) (Calls.evalArgs_plain ?_)
 exact thn hA λus s2 ⟨vs,H2,I2,r2,q2⟩=>hm pins s2 σ H2 x vs v us Q I2 r1 r2 q2
end
end L2
namespace L2
open PySem PySem.Spec PyProof.Rows
def MtM(X:Cx)(id:String)(r:V->List V->Hp->VK->Prop):Prop:=
 ∀(pins:List (Addr×Obj)) (s:Shared) (σ:St) (H:Hp) (x:V) (xs:List V) (v:Value) (us:List Value) (Q:VK),Inv X pins σ H s->RelV x v->Qt xs us->r x xs H Q→
  wpAny (model X.prog X.w) X.A (call (.builtin id) (v::us)) (EP X pins σ Q) X.xe s
theorem Qt.one{x:V}{us:List Value}(r:Qt [x] us):∃u,us=[u]/\RelV x u:=vals1 r
theorem Qt.two{x y:V}{us:List Value}(r:Qt [x,y] us):∃u v,us=[u,v]/\RelV x u/\RelV y v:=vals2 r
theorem Qt.zero:∀{us:List Value},Qt [] us->us=[]
 | _,.nil=>rfl
theorem Qt.eraseIdx:∀{xs:List V}{us:List Value}(i:Nat),Qt xs us->Qt (xs.eraseIdx i) (us.eraseIdx i)
 | _,_,_,.nil=> .nil
 | _,_,0,.cons _ t=>t
 | _,_,i+1,.cons r t=> .cons r (Qt.eraseIdx i t)
theorem Qt.reverse{xs:List V}{us:List Value}(h:Qt xs us):Qt xs.reverse us.reverse:=by
 induction h with
 | nil=>exact .nil
 | cons r t ih=>rw[ZaX,ZaX];exact Qt.append ih (.cons r .nil)
theorem Qt.rep{xs:List V}{us:List Value}(h:Qt xs us):∀k:Nat,Qt (List.replicate k xs).flatten (List.replicate k us).flatten
 | 0=> .nil
 | k+1=>by
  rw[Zam,Zam,Zat,Zat]
  exact Qt.append h (Qt.rep h k)
theorem QjE{α:Type}:∀(l:List α) (i:Nat),(l.eraseIdx i).length<=l.length
 | [],_=>Zm _
 | _::_,0=>ZaB _
 | _::r,i+1=>Nat.succ_le_succ (QjE r i)
theorem foldl_rep(its:List Value):∀(k:Nat) (acc:List Value),
  List.foldl (λx1 x2=>x1++x2) acc.toArray (List.replicate k its.toArray)=(acc++(List.replicate k its).flatten).toArray
 | 0,acc=>by simp
 | k+1,acc=>by
  have e:acc.toArray++its.toArray=(acc++its).toArray:=by simp
  have e2:(acc++its)++(List.replicate k its).flatten=acc++(List.replicate (k+1) its).flatten:=by
   rw[Zam,Zat,ZaH]
  rw[← e2,← foldl_rep its k (acc++its),← e,Zam,ZbT]
section
variable {X:Cx}{pins:List (Addr×Obj)}{σ:St}{H:Hp}{s:Shared}{l b:Addr}{xs ys zs:List V}
theorem Inv.Qqy{its its':List Value}{n:Nat}{f:Array Value->Array Value}{t':Nat}(I:Inv X pins σ H s)(hH:H l=some (.lst xs))
  (e:s.heap.get? l=some {cls:= .type "list",data:= .seq its.toArray n}) (hf:f its.toArray=its'.toArray) (hv:Qt ys its') (hz:ys.length<=sizeLine):
  Inv X pins σ (upd H l (.lst ys)) {s with heap:=s.heap.update l (Obj.mapSeq f),toks:=t'}:=by
 have q:=PySem.IsL.update e f
 rw[hf]at q
 refine I.write (x:=l) (e:=l) (by rw[hH];exact trivial) (.inl rfl) (λb' u hb hu=>(Heap.get?_update_other s.heap (Obj.mapSeq f) (Ne.symm hb)).trans hu) ⟨_,q⟩ ?_
 exact⟨hz,its',_,hv,q⟩
theorem Inv.Qvj{its:List Value}{t':Nat}(I:Inv X pins σ H s)(hv:Qt ys its)(hz:ys.length<=sizeLine):
  Inv X pins σ (upd H s.heap.objs.size (.lst ys)) {s with heap:=s.heap.push {cls:= .type "list",data:= .seq its.toArray},toks:=t'}:=
 I.laid (λ_ _ q=>Zn _ q) (Zm _) ⟨hz,its,0,hv,ZD _ rfl⟩
theorem Inv.fresh(I:Inv X pins σ H s):H s.heap.objs.size=none:=I.hok.fresh (Zm _)
theorem Inv.QmL(I:Inv X pins σ H s)(hH:H l=some (.lst xs)):xs.length<=sizeLine/\∃(its:List Value) (n:Nat),Qt xs its/\xs.length=its.length/\s.heap.get? l=some {cls:= .type "list",data:= .seq its.toArray n}:=by
 obtain⟨z,its,n,r,e⟩:=I.hok l _ hH
 exact⟨z,its,n,r,r.length,e⟩
theorem Qrc{n:Nat}(h:n<=sizeLine):Builtin.List.listTooLong n=false:=by
 unfold Builtin.List.listTooLong
 exact decide_eq_false (by omega)
end
section
variable {X:Cx}
noncomputable def Qi0:V->List V->Hp->VK->Prop:=λx vs H Q=>∃l xs y,x= .ref l/\vs=[y]/\H l=some (.lst xs)/\xs.length<sizeLine/\Q .non (upd H l (.lst (xs++[y])))
theorem QfU:MtM X "list.append" Qi0:=by
 intro pins s σ H x vs v us Q I rx rv h
 obtain⟨l,xs,y,rfl,rfl,hH,hz,q⟩:=h
 cases rx
 obtain⟨u,rfl,ru⟩:=rv.one
 obtain⟨z,its,n,r,hl,e⟩:=I.QmL hH
 refine call_meets F.slot_list_append ⟨_,e,rfl⟩ F.entry_list_append (F.args_list_append_2 _ _) (PySem.list_append l its.toArray n u (by rw[Zw];omega)) ⟨e,?_⟩
 refine⟨.non,_,I.Qqy (its':=its++[u]) hH e (by simp) (r.append (.cons ru .nil)) ?_,rfl,q⟩
 rw[Zp,ZaV]
 omega
noncomputable def QkQ:V->List V->Hp->VK->Prop:=λx vs H Q=>∃l xs i k y,x= .ref l/\vs=[.int i]/\H l=some (.lst xs)/\ -(2^63)<=i/\i<2^63/\seqIndex? i xs.length=some k/\xs[k]? =some y/\Q y (upd H l (.lst (xs.eraseIdx k)))
theorem Qqp:MtM X "list.pop" QkQ:=by
 intro pins s σ H x vs v us Q I rx rv h
 obtain⟨l,xs,i,k,y,rfl,rfl,hH,h1,h2,hk,hy,q⟩:=h
 cases rx
 obtain⟨u,rfl,ru⟩:=rv.one
 obtain⟨t,rfl⟩:=ru
 obtain⟨z,its,n,r,hl,e⟩:=I.QmL hH
 obtain⟨w,hw,rw'⟩:=r.get hy
 refine call_meets F.slot_list_pop ⟨_,e,rfl⟩ F.entry_list_pop (F.args_list_pop_2 _ _)
  (MeetsSeq.list_pop_at l its.toArray n i t k w (fitsIndex_both h1 h2) (by rw[Zw,← hl];exact hk) (by rw[← ZaW];exact hw) (by rw[Zw];omega)) ⟨e,?_⟩
 refine⟨y,_,I.Qqy (its':=its.eraseIdx k) hH e ?_ (r.eraseIdx k) ?_,rw',q⟩
 ·show its.toArray.eraseIdxIfInBounds k=(its.eraseIdx k).toArray
  rw[List.eraseIdxIfInBounds_toArray]
 ·have:=QjE xs k
  omega
theorem len_rep{α:Type}(xs:List α)(k:Nat):(List.replicate k xs).flatten.length=k*xs.length:=by
 induction k with
 | zero=>simp
 | succ k ih=>rw[Zam,Zat,Zp,ih,Nat.succ_mul,Nat.add_comm]
end
section
variable {prog:Program}{w:World}{A:Around}{E:Value->Shared->Prop}{s:Shared}
end
section
variable {X:Cx}
end
end L2
namespace Att
open PySem PySem.W PySem.Calls PyProof.Rows
theorem QhH{P:Params}{h:Heap}:∀(ns:List Int) (vs:List Value),WellAll P h vs (ns.map WData.int)->IntsAre vs ns:=by
 intro ns
 induction ns with
 | nil=>
  intro vs w
  rw[ZbN]at w
  cases w
  exact .nil
 | cons n ns ih=>
  intro vs w
  rw[Zq]at w
  cases w with
  | cons a b=>
   cases a
   exact .cons _ _ (ih _ b)
theorem QoX{l:OpenLaw}{n:Nat}(hn:l.most=some n){P:Params}{h:Heap}{args:List WData}{vals:List Value}
  (hpre:l.row.toRowW.claim.pre args=true) (hwl:WellAll P h vals args):
  ∃a vs ns,vals=[Value.ref a]/\args=[WData.list (ns.map WData.int)]/\h.get? a=some {cls:= .type "list",data:= .seq vs.toArray}/\IntsAre vs ns/\ns.length<=n:=by
 have hsh:WShape.hasAll [] args [.list .int]=true:=(pre_splitW hpre).1
 have hc:l.pre.holds [] {args:=args}=true:=(pre_splitW hpre).2
 obtain⟨d,r,rfl,h1,h2⟩:=hasAllW_cons hsh
 obtain rfl:=hasAllW_nil h2
 obtain⟨xs,rfl,h3⟩:=hasW_list h1
 obtain⟨ns,rfl⟩:=items_int h3
 have hlen:ns.length<=n:=by
  unfold OpenLaw.pre at hc
  have h4:(WTm.not (.lt (.lit (.int (n:Int))) (.len (.arg 0)))).holds [] {args:=[.list (ns.map .int)]}=true:=by
   have h4:=(holds_andW hc).1
   rw[hn]at h4
   exact h4
  have h5:=condW_of h4 (w_not (w_lt w_lit (w_len_list (w_arg rfl))))
  rw[Zj]at h5
  refine Nat.le_of_not_lt λq=>?_
  have q':(n:Int)<((ns.length:Nat):Int):=by omega
  first
   | (rw[decide_eq_true q']at h5;exact absurd h5 (by decide))
   | (simp at h5;omega)
 cases hwl with
 | cons w1 w2=>
  cases w2
  cases w1 with
  | list ho hall=>exact⟨_,_,ns,rfl,rfl,ho,QhH ns _ hall,hlen⟩
theorem Qn7(l:OpenLaw)(args:List WData):l.row.toRowW.claim.post args (.bool true) args=true:=
 postW_of (r:=l.row.toRowW) (X:=(true == true))
  (show WShape.has [] (.bool true) .bool=true by first | rfl | decide | simp[WShape.has,WShape.arms,WShape.armsAll])
  (show(WTm.eq .res (.lit (.bool true))).value [] {args:=args,res:=some (.bool true),after:=args}=some (.bool (true == true))from w_eq_bool (w_res rfl) w_lit) rfl
theorem QgS{l:OpenLaw}{n:Nat}{q:Program}{loose:List Str}{XP:(Str->Option Value)->Heap->Prop}{YP:World->Heap->Prop}{d:DefRec}
  (hn:l.most=some n) (hdf:d.params.defaults=[])
  (call:∀(w:World) (s₀ s₁:Shared) (mg mb:Str->Option Value) (fa:Addr) (o:Obj) (pm cd doc:Value) (a:Addr) (vs:List Value) (ns:List Int),
   Ground q loose [] XP w s₀ mg mb s₁.heap->YP w s₁.heap→
   s₁.heap.get? fa=some o->o.data= .func (docDef d.name d.params d.body d.scope pm cd doc)->s₁.heap.CodeRec cd d.name->mg d.name=some (.ref fa)→
   s₁.heap.get? a=some {cls:= .type "list",data:= .seq vs.toArray}->IntsAre vs ns->ns.length<=n->s₁.gens= #[]→
   codeAny (model l.prog w) callerA (.call (.ref fa) ⟨[.ref a],[]⟩) (λr s'=>r= .ok (.ret (.bool true))/\OldK s₁.heap s'.heap/\s'.os=s₁.os/\AllBare s'.gens) s₁):
  WalkO q loose XP YP l.row.toRowW d [] (λf vs=>PySem.call f vs):=by
 intro w s₀ s₁ mg mb G Y fa o pm cd doc dV kV ho hd hcd hD hmg hg args vals as hpre hlay hrd hwl hlo
 obtain rfl:dV= .none:=Dflts.none hD hdf
 obtain rfl:kV= .none:=Dflts.noKw hD
 obtain⟨a,vs,ns,rfl,rfl,hobj,hints,hlen⟩:=QoX hn hpre hwl
 refine enter_call (codeAny_mono (call w s₀ s₁ mg mb fa o pm cd doc a vs ns G Y ho (fd_plain hd) hcd hmg hobj hints hlen hg) λr s' hq=>?_)
 obtain⟨rfl,h2,h3,h4⟩:=hq
 exact⟨.inl ⟨.bool true,.bool true,[],rfl,λ_=>rfl,.bool true,Qn7 l _,λ_=>⟨List.Pairwise.nil,λ_ hm=>(nomatch hm)⟩⟩,h2,h3,h4⟩
section
variable {prog:Program}{w:World}{A:Around}{E:Value->Shared->Prop}{s:Shared}{K:Frag}
noncomputable def ledger(h:Heap)(L d:Addr):List (Addr×Obj):=(List.range h.objs.size).filterMap λa=>if a=L∨a=d then none else(h.get? a).map λo=>(a,o)
end
end Att
namespace L2
open PySem PySem.Spec PyProof.Rows
theorem Qa9:∀{vs:List Value}{ns:List Int},IntsAre vs ns->Qt (ns.map V.int) vs
 | _,_,.nil=> .nil
 | _,_,.cons n t h=> .cons ⟨t,rfl⟩ (Qa9 h)
def Qri(H:Hp):Prop:=∀b,H b=none∨∃o xs,H b=some (.frz o (.lst xs))
theorem Qkf{P:Program}{w:World}{K:PySem.W.Frag}{mg mb:Str->Option Value}{CX:CXT}{k:Nat}{fa a:Addr}{fd:FuncData}{x:Str}{sp:Sp}{s₁:Shared}{vs:List Value}{ns:List Int}
  (KX:K.In s₁.heap) (hns:s₁.heap.Ns mainGlobals mg) (hb:s₁.heap.Ns builtinsNs mb) (hbb:∀x:Str,x≠ "__name__" ->mb x=bootBuiltins x) (hlim:s₁.heap.NoLimit) (hg:s₁.gens= #[])
  (ha:s₁.heap.get? a=some {cls:= .type "list",data:= .seq vs.toArray}) (hi:IntsAre vs ns) (hl:ns.length<=sizeLine) (hr:QZ k callerA)
  (F:∀base:Heap,K.In base->base.Ns mainGlobals mg->Qab P w K mg base CX k fa fd [x] sp) (hbind:∀(s:Shared) (u:Value),BindsTo s fd ⟨[u],[]⟩ [(x,u)])
  (hsp:∀H:Hp,Qri H->SqL K H a (ns.map V.int)->sp [.ref a] H (λv _=>v= .bl true) λ_ _ _=>False)
  (hCX:∀H e s',CX [] H s₁ (λ_ _ _=>False) e s'->False):
  codeAny (model P w) callerA (.call (.ref fa) ⟨[.ref a],[]⟩) (λr s'=>r= .ok (.ret (.bool true))/\OldK s₁.heap s'.heap/\s'.os=s₁.os/\AllBare s'.gens) s₁:=by
 have rv:=Qa9 hi
 have lenV:=hi.length
 have core:∀H:Hp,Qri H->SqL K H a (ns.map V.int)->HOk P w H s₁.heap->(∀b,H b≠none->b=a)->(H a≠none->K.lookup a=none)→
   codeAny (model P w) callerA (.call (.ref fa) ⟨[.ref a],[]⟩) (λr s'=>r= .ok (.ret (.bool true))/\OldK s₁.heap s'.heap/\s'.os=s₁.os/\AllBare s'.gens) s₁:=by
  intro H hO hS hok hA hK
  have base_of:∀{b:Addr}{o:Obj},s₁.heap.get? b=some o->H b=none->(Qfk s₁.heap H).get? b=some o:=λe n=>QpU e n
  have noA:∀{b:Addr}{o:Obj}{es:Array DictEntry}{ep:Nat},s₁.heap.get? b=some o->o.data= .dict es ep->H b=none:=λ{b o es ep} e d=>by
   cases q:H b with
   | none=>rfl
   | some u=>
    have e':b=a:=hA b (by rw[q];simp)
    subst e'
    rw[ha]at e;cases e
    have d':Data.seq vs.toArray _=Data.dict es ep:=d
    cases d'
  have nsK:∀{b:Addr}{m:Str->Option Value},s₁.heap.Ns b m->(Qfk s₁.heap H).Ns b m:=λ{b m} ⟨o,es,ep,e,d,r⟩=>⟨o,es,ep,base_of e (noA e d),d,r⟩
  have hKb:K.In (Qfk s₁.heap H):=λb o e=>base_of (KX b o e) (by
   cases q:H b with
   | none=>rfl
   | some u=>
    have e':b=a:=hA b (by rw[q];simp)
    subst e'
    rw[hK (by rw[q];simp)]at e;cases e)
  have hM:Mod K mg (Qfk s₁.heap H):=⟨hKb,nsK hns,⟨mb,nsK hb,hbb⟩,let ⟨mc,h1,h2⟩:=hlim;⟨mc,nsK h1,h2⟩⟩
  have e0:QdY P w K mg (Qfk s₁.heap H) callerA [] s₁ H:=⟨rfl,hM,λb o e=>Qsp e,Nat.le_of_eq (QoW _ _),trivial,λb hb=>absurd (show b∈([]:List Addr)from hb) (by simp),hok,.of_eq hg⟩
  refine codeAny_mono ((F _ hKb (nsK hns)).run callerA [] s₁ H ⟨[.ref a],[]⟩ [.ref a] [.ref a] _ _ hr e0 (hbind s₁ (.ref a)) (.cons rfl .nil) (hsp H hO hS)) λr s' h=>?_
  cases r with
  | error e=>exact(hCX H e s' h).elim
  | ok fl=>
   cases fl with
   | next=>exact False.elim h
   | brk=>exact False.elim h
   | cont=>exact False.elim h
   | ret u=>
    obtain⟨v,H',os,bare,un,hok',r',q⟩:=h
    have q':v= .bl true:=q
    subst q'
    obtain rfl:u=Value.bool true:=r'
    refine⟨rfl,OldK.of_keep λb o e=>?_,os,bare⟩
    cases q:H b with
    | none=>exact un.keep b o e q (by intro z;exact absurd (show b∈([]:List Addr)from z) (by simp)) (by simp)
    | some u=>
     rcases hO b with z | ⟨ob,xs,z⟩
     ·rw[q]at z;cases z
     ·have z2:=un.frzs b ob _ z
      obtain⟨e1,_⟩:=hok b _ z
      obtain⟨e2,_⟩:=hok' b _ z2
      rw[e]at e1;cases e1
      exact e2
 cases hk:K.lookup a with
 | some o=>
  have e:=KX a o hk
  rw[ha]at e
  cases e
  refine core (λ_=>none) (λ_=> .inl rfl) (.inr ⟨_,vs.toArray,_,hk,rfl,rfl,rfl,by rw[Zw,lenV];exact hl,by simpa using rv⟩) (λb u z=>by have z':(none:Option HO)=some u:=z;cases z') (λb z=>absurd rfl z) λz=>absurd rfl z
 | none=>
  refine core (λb=>if b=a then some (.frz {cls:= .type "list",data:= .seq vs.toArray} (.lst (ns.map V.int)))else none) (λb=>?_) (.inl (.inr ⟨{cls:= .type "list",data:= .seq vs.toArray},if_pos rfl⟩)) (λb u z=>?_) (λb z=>?_) λ_=>hk
  ·by_cases hb:b=a
   ·exact .inr ⟨_,_,if_pos hb⟩
   ·exact .inl (if_neg hb)
  ·by_cases hb:b=a
   ·have z':=(if_pos hb).symm.trans z
    cases z'
    subst hb
    exact⟨ha,by rw[Zj];exact hl,vs,_,rv,ha⟩
   ·have z':=(if_neg hb).symm.trans z
    cases z'
  ·by_cases hb:b=a
   ·exact hb
   ·exact absurd (if_neg hb) z
end L2
namespace L2
open PySem PySem.Spec PyProof.Rows
noncomputable abbrev KOf{K:PySem.W.Frag}{h:Heap}(_:K.In h):PySem.W.Frag:=K
theorem Qyf{l:PySem.W.OpenLaw}{n k:Nat}{q:Program}{loose:List Str}{XP:(Str->Option Value)->Heap->Prop}{YP:World->Heap->Prop}{d:DefRec}{K:Params->PySem.W.Frag}{CX:World->CXT}{sp:World->Sp}{x:Str}
  (hn:l.most=some n) (hn2:n<=sizeLine) (hdf:d.params.defaults=[]) (hr:QZ k callerA)
  (hY:∀(w:World) (h:Heap),YP w h->(K w.params).In h)
  (F:∀(w:World) (mg:Str->Option Value) (fa:Addr) (h:Heap),(K w.params).In h->h.Ns mainGlobals mg->mg d.name=some (.ref fa)→
   ∃fd:FuncData,(∀(s:Shared) (u:Value),BindsTo s fd ⟨[u],[]⟩ [(x,u)])∧
    ∀base:Heap,(K w.params).In base->base.Ns mainGlobals mg->Qab l.prog w (K w.params) mg base (CX w) k fa fd [x] (sp w))
  (hsp:∀(w:World) (H:Hp) (a:Addr) (ns:List Int),ns.length<=n->Qri H->SqL (K w.params) H a (ns.map V.int)->sp w [.ref a] H (λv _=>v= .bl true) λ_ _ _=>False)
  (hCX:∀(w:World) (H:Hp) (s:Shared) (e:Value) (s':Shared),CX w [] H s (λ_ _ _=>False) e s'->False):
  PySem.W.WalkO q loose XP YP l.row.toRowW d [] (λf vs=>PySem.call f vs):=by
 refine Att.QgS hn hdf λw s₀ s₁ mg mb fa o pm cd doc a vs ns G Y ho hd hcd hmg hobj hints hlen hg=>?_
 have KX:=hY w _ Y
 obtain⟨fd,hb,hF⟩:=F w mg fa _ KX G.T.g hmg
 exact Qkf KX G.T.g G.T.b G.T.builtins G.T.nolimit hg hobj hints (ZF hlen hn2) hr hF hb (λH hO hS=>hsp w H a ns hlen hO hS) λH e s'=>hCX w H s₁ e s'
end L2
namespace L2
open PySem PySem.Spec PyProof.Rows
noncomputable def inClass(s:Stmt)(j:Nat):Stmt:=match s with
 | .ClassDef _ _ _ body _ _ _ _ _ _ _=>body.getD j (.Pass ⟨0,0,0,0⟩)
 | _=> .Pass ⟨0,0,0,0⟩
noncomputable def QcQ(s:Stmt):Arguments:=match s with
 | .FunctionDef _ a _ _ _ _ _ _ _ _=>a
 | _=>{posonlyargs:=[],args:=[],vararg:=none,kwonlyargs:=[],kw_defaults:=[],kwarg:=none,defaults:=[]}
noncomputable def Qah(s:Stmt):List Stmt:=match s with
 | .FunctionDef _ _ b _ _ _ _ _ _ _=>b
 | _=>[]
noncomputable def Qh(s:Stmt):Scope:=match s with
 | .FunctionDef _ _ _ _ _ _ sc _ _ _=>sc
 | _=>{kind:= .function,names:=[],isGenerator:=false,isCoroutine:=false}
noncomputable abbrev CX0:CXT:=λ_ _ _ _ _ _=>False
noncomputable abbrev E0:XK:=λ_ _ _=>False
theorem Qgm{X:Cx}:Qeh CX0 X E0:=λ_ _ _ _ _ _ _ h=>h.elim
structure Fun (K:PySem.W.Frag) (x qual:Str) (st:Stmt) (f:Addr) (fd:FuncData):Prop where
 ex:∃(oc:Value) (od:Option Addr) (kV doc pm:Value) (an:Option Addr) (cdv ct:Value) (osl:Array (Option Value)),
  fd=PySem.W.fnOf x qual (QcQ st) (Qah st) (Qh st) .none kV doc pm an cdv ct/\K.lookup f=some ⟨oc,od,.func fd,osl⟩/\PySem.W.codeIn K cdv qual=true
 kp:PySem.W.keepIn K (.ref f)=true
section
variable {P:Program}{w:World}{K:PySem.W.Frag}{mg:Str->Option Value}{base:Heap}
theorem Fun.ok{x qual:Str}{st:Stmt}{f:Addr}{fd:FuncData}{N ps:List Str}{k:Nat}{sp:Sp}(F:Fun K x qual st f fd)(S:QaZ N ps (Qh st))(len:∀vs H Q E,sp vs H Q E->vs.length=ps.length)
  (hbody:∀(cdv:Value) (A:Around) (outer:List Env) (s:Shared) (H:Hp) (vs:List V) (Q:VK) (E:XK),QZ k (A.deeper (envOfC qual (Qh st) s.heap.objs.size f cdv))->sp vs H Q E→
   ∃t,PSs (QdW CX0 P w K mg base N qual (Qh st) f cdv A outer s H E).nox (Qah st) t/\t {nx:=λ_ H'=>Q .non H',rt:=Q} (start N vs) H):Qab P w K mg base CX0 (k+1) f fd ps sp:=by
 obtain⟨oc,od,kV,doc,pm,an,cdv,ct,osl,rfl,lk,hcd⟩:=F.ex
 refine Qv7 lk hcd S len λA outer s H vs Q E hr hsp=>?_
 obtain⟨t,h,q⟩:=hbody cdv A outer s H vs Q E hr hsp
 exact⟨t,h.nox,q⟩
theorem Fun.binds{x qual:Str}{st:Stmt}{f:Addr}{fd:FuncData}{ps:List Str}(F:Fun K x qual st f fd)
  (h:∀(kV doc pm:Value) (an:Option Addr) (cdv ct:Value) (us:List Value),us.length=ps.length->bindArgs (PySem.W.fnOf x qual (QcQ st) (Qah st) (Qh st) .none kV doc pm an cdv ct) ⟨us,[]⟩=pure (ps.zip us)):Binds K fd ps []:=by
 obtain⟨oc,od,kV,doc,pm,an,cdv,ct,osl,rfl,lk,hcd⟩:=F.ex
 exact .all (h kV doc pm an cdv ct)
theorem Qoo{x qual:Str}{st:Stmt}{f:Addr}{oc:Value}{od an:Option Addr}{osl:Array (Option Value)}{kV doc pm cdv ct:Value}(l:K.lookup f=some ⟨oc,od,.func (PySem.W.fnOf x qual (QcQ st) (Qah st) (Qh st) .none kV doc pm an cdv ct),osl⟩)
  (c:PySem.W.codeIn K cdv qual=true) (k:PySem.W.keepIn K (.ref f)=true):Fun K x qual st f (PySem.W.fnOf x qual (QcQ st) (Qah st) (Qh st) .none kV doc pm an cdv ct):=⟨⟨oc,od,kV,doc,pm,an,cdv,ct,osl,rfl,l,c⟩,k⟩
end
section
variable {X:Cx}
end
theorem QpG{A B:Prop}(h:B):if false=true then A else B:=by
 rw[if_neg ZZ]
 exact h
theorem QqG{A B:Prop}(h:A):if true=true then A else B:=by
 rw[if_pos rfl]
 exact h
def Qw(H H':Hp):Prop:=∀b o,H b=some o->H' b=some o
theorem Qw.refl(H:Hp):Qw H H:=λ_ _ h=>h
theorem Qw.trans{H H1 H2:Hp}(a:Qw H H1)(b:Qw H1 H2):Qw H H2:=λc o h=>b c o (a c o h)
theorem Qw.free{H H':Hp}(e:Qw H H'){l:Addr}(h:H' l=Option.none):H l=Option.none:=by
 cases q:H l with
 | none=>rfl
 | some o=>
  rw[e l o q]at h
  cases h
theorem Qw.seq{K:PySem.W.Frag}{H H':Hp}{a:Addr}{xs:List V}(e:Qw H H')(h:SqL K H a xs):SqL K H' a xs:=by
 rcases h with(h | ⟨o,h⟩) | h
 ·exact .inl (.inl (e _ _ h))
 ·exact .inl (.inr ⟨o,e _ _ h⟩)
 ·exact .inr h
end L2
namespace L2
open PySem PySem.Spec PyProof.Rows
section
variable {κ:Type} [DecidableEq κ]
noncomputable def QdB(kvs:List (κ×V))(k:κ):Option V:=(kvs.find? λkv=>decide (kv.1=k)).map (·.2)
noncomputable def putK(kvs:List (κ×V))(k:κ)(v:V):List (κ×V):=
 if(kvs.any λkv=>decide (kv.1=k))=true then kvs.map (λkv=>if kv.1=k then(kv.1,v)else kv)else kvs++[(k,v)]
noncomputable def Qrv(kvs:List (κ×V))(k:κ):List (κ×V):=kvs.filter λkv=>decide (kv.1≠k)
theorem Qg4{p:κ×V}{r:List (κ×V)}{k:κ}(e:p.1=k):QdB (p::r) k=some p.2:=by simp[QdB,List.find?_cons,e]
theorem Qg8{p:κ×V}{r:List (κ×V)}{k:κ}(e:¬p.1=k):QdB (p::r) k=QdB r k:=by simp[QdB,List.find?_cons,e]
theorem QkM(k:κ):∀kvs:List (κ×V),(kvs.any λkv=>decide (kv.1=k))=(QdB kvs k).isSome
 | []=>rfl
 | p::r=>by
  rw[ZbD]
  by_cases e:p.1=k
  ·simp only[Qg4 e,decide_eq_true e,Bool.true_or,Option.isSome_some]
  ·rw[Qg8 e,decide_eq_false e,Bool.false_or];exact QkM k r
theorem QcC.Qpc{o:Option V}{u:Option Value}(r:QcC o u):o.isSome=u.isSome:=by
 cases o with
 | none=>cases u with
  | none=>rfl
  | some _=>exact(show False from r).elim
 | some _=>cases u with
  | none=>exact(show False from r).elim
  | some _=>rfl
theorem QcC.getD{o:Option V}{u:Option Value}{d:V}{d':Value}(r:QcC o u)(rd:RelV d d'):RelV (o.getD d) (u.getD d'):=by
 cases o with
 | none=>cases u with
  | none=>exact rd
  | some _=>exact(show False from r).elim
 | some _=>cases u with
  | none=>exact(show False from r).elim
  | some _=>exact r
theorem KV.val{kvs:List (κ×V)}{vs:List (κ×Value)}(r:KV kvs vs)(k:κ):QcC (QdB kvs k) (valueAt vs k):=by
 unfold KV at r
 induction r with
 | nil=>exact True.intro
 | @cons p q ps qs h t ih=>
  obtain⟨h1,h2⟩:=h
  by_cases e:p.1=k
  ·have e':q.1=k:=h1.symm.trans e
   have b:valueAt (q::qs) k=some q.2:=by simp[valueAt,List.find?_cons,e']
   rw[Qg4 e,b];exact h2
  ·have e':¬q.1=k:=λz=>e (h1.trans z)
   have b:valueAt (q::qs) k=valueAt qs k:=by simp[valueAt,List.find?_cons,e']
   rw[Qg8 e,b];exact ih
theorem KV.any{kvs:List (κ×V)}{vs:List (κ×Value)}(r:KV kvs vs)(k:κ):(kvs.any λkv=>decide (kv.1=k))=vs.any λkv=>decide (kv.1=k):=by
 unfold KV at r
 induction r with
 | nil=>rfl
 | cons h t ih=>rw[ZbD,ZbD,ih,h.1]
theorem KV.Qqj{kvs:List (κ×V)}{vs:List (κ×Value)}(r:KV kvs vs)(k:κ){y:V}{u:Value}(ry:RelV y u):
  KV (kvs.map λkv=>if kv.1=k then(kv.1,y)else kv) (vs.map λkv=>if kv.1=k then(kv.1,u)else kv):=by
 unfold KV at r ⊢
 induction r with
 | nil=>exact .nil
 | @cons p q ps qs h t ih=>
  rw[Zq,Zq]
  refine .cons ?_ ih
  obtain⟨h1,h2⟩:=h
  by_cases e:p.1=k
  ·rw[if_pos e,if_pos (h1.symm.trans e)];exact⟨h1,ry⟩
  ·rw[if_neg e,if_neg (λz=>e (h1.trans z))];exact⟨h1,h2⟩
theorem KV.put{kvs:List (κ×V)}{vs:List (κ×Value)}(r:KV kvs vs)(k:κ){y:V}{u:Value}(ry:RelV y u):KV (putK kvs k y) (stored vs k u):=by
 unfold putK stored
 rw[r.any k]
 by_cases e:(vs.any λkv=>decide (kv.1=k))=true
 ·rw[if_pos e,if_pos e];exact r.Qqj k ry
 ·rw[if_neg e,if_neg e];exact Paired.snoc r ⟨rfl,ry⟩
theorem KV.drop{kvs:List (κ×V)}{vs:List (κ×Value)}(r:KV kvs vs)(k:κ):KV (Qrv kvs k) (without vs k):=by
 unfold KV at r ⊢
 unfold Qrv without
 induction r with
 | nil=>exact .nil
 | @cons p q ps qs h t ih=>
  obtain⟨h1,h2⟩:=h
  rw[ZaM,ZaM]
  by_cases e:p.1=k
  ·have a:¬decide (p.1≠k)=true:=by simp[e]
   have b:¬decide (q.1≠k)=true:=by simp[h1.symm.trans e]
   rw[if_neg a,if_neg b];exact ih
  ·have e':¬q.1=k:=λz=>e (h1.trans z)
   have a:decide (p.1≠k)=true:=by simp[e]
   have b:decide (q.1≠k)=true:=by simp[e']
   rw[if_pos a,if_pos b];exact .cons ⟨h1,h2⟩ ih
theorem KV.keys{kvs:List (κ×V)}{vs:List (κ×Value)}(r:KV kvs vs):kvs.map (·.1)=vs.map (·.1):=by
 unfold KV at r
 induction r with
 | nil=>rfl
 | cons h t ih=>rw[Zq,Zq,ih,h.1]
theorem KV.length{kvs:List (κ×V)}{vs:List (κ×Value)}(r:KV kvs vs):kvs.length=vs.length:=Paired.length r
end
noncomputable abbrev KT(H:Hp):List (List Key×V)->List (List Key×Addr×Value)->Prop:=Paired λp q=>p.1=q.1/\H q.2.1=some (.tup (p.1.map kV))/\RelV p.2 q.2.2
theorem KT.val{H:Hp}{kvs:List (List Key×V)}{xs:List (List Key×Addr×Value)}(r:KT H kvs xs)(k:List Key):QcC (QdB kvs k) ((atKey xs k).map (·.2)):=by
 induction r with
 | nil=>exact True.intro
 | @cons p q ps qs h t ih=>
  obtain⟨h1,_,h2⟩:=h
  by_cases e:p.1=k
  ·have e':q.1=k:=h1.symm.trans e
   have b:atKey (q::qs) k=some q.2:=by simp[atKey,List.find?_cons,e']
   rw[Qg4 e,b];exact h2
  ·have e':¬q.1=k:=λz=>e (h1.trans z)
   have b:atKey (q::qs) k=atKey qs k:=by simp[atKey,List.find?_cons,e']
   rw[Qg8 e,b];exact ih
theorem KT.Qqj{H:Hp}{kvs:List (List Key×V)}{xs:List (List Key×Addr×Value)}(r:KT H kvs xs)(k:List Key){y:V}{u:Value}(ry:RelV y u):
  KT H (kvs.map λkv=>if kv.1=k then(kv.1,y)else kv) (xs.map (putAt k u)):=by
 induction r with
 | nil=>exact .nil
 | @cons p q ps qs h t ih=>
  rw[Zq,Zq]
  refine .cons ?_ ih
  obtain⟨h1,h2,h3⟩:=h
  unfold putAt
  by_cases e:p.1=k
  ·rw[if_pos e,if_pos (h1.symm.trans e)];exact⟨h1,h2,ry⟩
  ·rw[if_neg e,if_neg (λz=>e (h1.trans z))];exact⟨h1,h2,h3⟩
theorem KT.put{H:Hp}{kvs:List (List Key×V)}{xs:List (List Key×Addr×Value)}(r:KT H kvs xs)(k:List Key){b:Addr}{y:V}{u:Value}(hb:H b=some (.tup (k.map kV)))(ry:RelV y u):
  KT H (putK kvs k y) (storedH xs k b u):=by
 have e:(kvs.any λkv=>decide (kv.1=k))=(atKey xs k).isSome:=by
  rw[QkM,(r.val k).Qpc,Option.isSome_map]
 unfold putK storedH
 rw[e]
 by_cases q:(atKey xs k).isSome=true
 ·rw[if_pos q,if_pos q];exact r.Qqj k ry
 ·rw[if_neg q,if_neg q];exact Paired.snoc r ⟨rfl,hb,ry⟩
theorem KT.keeps{H H':Hp}{kvs:List (List Key×V)}{xs:List (List Key×Addr×Value)}(r:KT H kvs xs)(ht:∀b ys,H b=some (.tup ys)->H' b=some (.tup ys)):KT H' kvs xs:=
 Paired.Qfp r λ_ _ z=>⟨z.1,ht _ _ z.2.1,z.2.2⟩
section
variable {P:Program}{w:World}{H:Hp}{h:Heap}{a:Addr}
end
def Qnp(H:Hp)(a:Addr)(y:V)(r:Option V):Prop:=
 (∃kvs k,Rd H a (.dK kvs)/\y=kV k/\r=QdB kvs k)∨∃kvs k b,Rd H a (.dT kvs)/\y= .ref b/\H b=some (.tup (k.map kV))/\r=QdB kvs k
def QmY(H:Hp)(a:Addr)(y v:V)(H':Hp):Prop:=
 (∃kvs k,H a=some (.dK kvs)/\y=kV k/\kvs.length<sizeLine/\H'=upd H a (.dK (putK kvs k v)))∨
 ∃kvs k b,H a=some (.dT kvs)/\y= .ref b/\H b=some (.tup (k.map kV))/\kvs.length<sizeLine/\H'=upd H a (.dT (putK kvs k v))
theorem Qnp.k{H:Hp}{a:Addr}{kvs:List (Key×V)}{k:Key}(e:H a=some (.dK kvs)):Qnp H a (kV k) (QdB kvs k):= .inl ⟨kvs,k,.inl e,rfl,rfl⟩
theorem Qnp.t{H:Hp}{a b:Addr}{kvs:List (List Key×V)}{k:List Key}(e:H a=some (.dT kvs))(eb:H b=some (.tup (k.map kV))):Qnp H a (.ref b) (QdB kvs k):= .inr ⟨kvs,k,b,.inl e,rfl,eb,rfl⟩
theorem QmY.k{H:Hp}{a:Addr}{kvs:List (Key×V)}{k:Key}{v:V}(e:H a=some (.dK kvs))(hl:kvs.length<sizeLine):QmY H a (kV k) v (upd H a (.dK (putK kvs k v))):= .inl ⟨kvs,k,e,rfl,hl,rfl⟩
theorem QmY.t{H:Hp}{a b:Addr}{kvs:List (List Key×V)}{k:List Key}{v:V}(e:H a=some (.dT kvs))(eb:H b=some (.tup (k.map kV)))(hl:kvs.length<sizeLine):
  QmY H a (.ref b) v (upd H a (.dT (putK kvs k v))):= .inr ⟨kvs,k,b,e,rfl,eb,hl,rfl⟩
section
variable {X:Cx}{pins:List (Addr×Obj)}{σ:St}{H:Hp}{s:Shared}{a:Addr}{y v:V}{u r:Value}{o:Option V}{A:Around}{E:Value->Shared->Prop}
end
section
variable {X:Cx}{pins:List (Addr×Obj)}{σ:St}{H:Hp}{s:Shared}{a:Addr}{kvs:List (Key×V)}{k:Key}{u:Value}{A:Around}{E:Value->Shared->Prop}
end
section
variable {X:Cx}{o i e value:Expr}{pos pos' tpos:Pos}{td ty tv:TE}
end
section
variable {X:Cx}{pos:Pos}
end
end L2
namespace HS
open PySem PySem.Spec L2 PyProof.Rows
noncomputable def Itx(x:Str):It:=⟨λi _=>i<x.cps.size,λi H v H'=>H'=H/\∃c,x.cps[i]? =some c/\v= .str ⟨#[c]⟩,λi _=>i=x.cps.size⟩
theorem Qrh{P:Program}{w:World}{K:PySem.W.Frag}{tg:Expr}{it:Addr}{x:Str}{t:Tok}{T:String}(hW:∀A':Around,A'.handled=none->Walks P w A' it [it] [it] x.cps.size (SignAt x) (λi h=>h.IsStrIter it T x t i))
  (hT:["enumerate","zip","dict_itemiterator","dict_reverseitemiterator","odict_iterator","itertools.zip_longest","itertools.pairwise"].contains T=false)
  (hS:∀(A:Around) (i:Nat) (s:Shared) (Q:Value->Shared->Prop) (E:Value->Shared->Prop),s.heap.IsStrIter it T x t i->Q (.ref it) s->wpAny (model P w) A (pyIter (.ref it)) Q E s):Turn P w K tg (Itx x) [it] it (λi h=>h.IsStrIter it T x t i) where
 mem:=by simp
 obj:=λi h st b hb=>by
  have e:b=it:=by simpa using hb
  subst e
  obtain⟨o,e,c,d⟩:=st
  exact⟨o,e,λv z=>by rw[d]at z;cases z⟩
 keep:=λi h h' st k=>let ⟨o,e,r⟩:=st;⟨o,k it (by simp) o e,r⟩
 item:=by
  intro X hP hw hK hc i pins s σ H E I hf st hg
  subst hP hw hK
  obtain⟨f0,f1,f2,f3,f4,f5⟩:=hf it (by simp)
  refine(hW X.A (I.ok.hd hc)).item i s _ _ hg st λv h' tk hv st' kk=>?_
  obtain⟨c,u,hcx,rfl⟩:=hv
  have I1:Inv X pins σ H {s with heap:=h',toks:=tk}:=I.turned (λb o hb e=>kk b o (by simpa using hb) e) f0 f1 f3 f4 f5
  obtain⟨o,e,c',d⟩:=id st'
  exact⟨_,rfl,QhR (s:={s with heap:=h',toks:=tk}) (n:=T) e c' d hT ⟨.str ⟨#[c]⟩,H,I1,⟨u,rfl⟩,⟨rfl,c,hcx,rfl⟩,st',λb hb=>(hf b hb).1⟩⟩
 done:=by
  intro X hP hw hK hc i pins s σ H E I hf st hg
  subst hP hw hK
  obtain⟨f0,f1,f2,f3,f4,f5⟩:=hf it (by simp)
  have hg:i=x.cps.size:=hg
  subst hg
  exact(hW X.A (I.ok.hd hc)).done s _ _ st λh' tk kk=>⟨rfl,I.turned (λb o hb e=>kk b o (by simpa using hb) e) f0 f1 f3 f4 f5⟩
 self:=λA i s Q E st h=>hS A i s Q E st h
noncomputable def QxI(tl:TE):TI:=λσ H R=>tl σ H λx H1=>∃y,x= .str y/\R (Itx y) H1
theorem Qvh{X:Cx}{tg l:Expr}{tl:TE}(hl:PE X l tl):PI X tg l (QxI tl):=by
 intro pins s σ H R I h
 refine thn (hl pins s σ H _ I h) λv s1=>exJ λx H1 I1 r1 q1=>?_
 obtain⟨y,e,q⟩:=q1
 subst e
 obtain⟨t,rfl⟩:=(show ∃t,v=Value.str y t from r1)
 have fin:∀(o:Obj) (T:String),(∀A':Around,A'.handled=none->Walks X.prog X.w A' s1.heap.objs.size [s1.heap.objs.size] [s1.heap.objs.size] y.cps.size (SignAt y) (λi h=>h.IsStrIter s1.heap.objs.size T y t i))->["enumerate","zip","dict_itemiterator","dict_reverseitemiterator","odict_iterator","itertools.zip_longest","itertools.pairwise"].contains T=false→
   (∀(A:Around) (i:Nat) (s:Shared) (Q:Value->Shared->Prop) (E:Value->Shared->Prop),s.heap.IsStrIter s1.heap.objs.size T y t i->Q (.ref s1.heap.objs.size) s->wpAny (model X.prog X.w) A (pyIter (.ref s1.heap.objs.size)) Q E s)→
   (s1.heap.push o).IsStrIter s1.heap.objs.size T y t 0->PIE X pins σ tg R (.ref s1.heap.objs.size) {s1 with heap:=s1.heap.push o}:=λo T hW hT hS h0=>by
  refine⟨s1.heap.objs.size,[s1.heap.objs.size],_,_,H1,rfl,I1.kept (t':=s1.toks) λb o e=>Zn _ e,Qrh hW hT hS,h0,λb hb=>?_,q⟩
  have e:b=s1.heap.objs.size:=by simpa using hb
  subst e
  exact I1.Qg6 (Zm _) (I1.hok.fresh (Zm _))
 cases ha:y.cps.all (· <128)
 ·exact wpAny_pyIter_wide ha (fin _ _ (λA' hA=>Walks.strWide hA _ y t) (by decide) (λA i s Q E st h=>wpAny_pyIter_striter_wide st h) ⟨_,ZD _ rfl,rfl,rfl⟩)
 ·exact wpAny_pyIter_ascii ha (fin _ _ (λA' hA=>Walks.strAscii hA _ y t) (by decide) (λA i s Q E st h=>wpAny_pyIter_striter_ascii st h) ⟨_,ZD _ rfl,rfl,rfl⟩)
section
variable {X:Cx}
theorem QsG{e:Expr}{t u:TE}(h1:PE X e t)(h2:PE X e u):PE X e (λσ H Q=>t σ H Q∨u σ H Q):=λpins s σ H Q I q=>q.elim (h1 pins s σ H Q I) (h2 pins s σ H Q I)
theorem QkL{v:Value}{o:Option Int}(h:IsPart v o):∃l:Option (Int×Tok),v=partValue l/\o=l.map (·.1):=by
 cases h with
 | none=>exact⟨none,rfl,rfl⟩
 | int i t=>exact⟨some (i,t),rfl,rfl⟩
theorem QuK:SlR X (λx lo hi H Q=>∃z,x= .str z/\z.length<=sizeLine/\Q (.str (Txt.slice z lo hi)) H):=by
 intro pins s σ H x v vl vu lo hi sl Q I rx hs pl pu q
 obtain⟨z,rfl,hz,q⟩:=q
 obtain⟨t,rfl⟩:=(show ∃t,v=Value.str z t from rx)
 obtain⟨l,rfl,rfl⟩:=QkL pl
 obtain⟨u,rfl,rfl⟩:=QkL pu
 obtain⟨o,ho,hc,hd⟩:=hs
 exact⟨"str",_,F.slot_str_getitem.lookup,typeIs_str _ _ _,wpAny_getItem_str_slice (l:=l) (u:=u) (st:=none) ⟨o,ho,hc,hd⟩ rfl (post_val_or_str ⟨ZF (Txt.slice_le z _ _) hz,λt' k=>⟨.str _,H,I.tok _,⟨t',rfl⟩,q⟩⟩)⟩
theorem QjD:∀l:List (Str×Tok),Qt (l.map λp=>V.str p.1) (strValues l)
 | []=> .nil
 | p::l=> .cons ⟨p.2,rfl⟩ (QjD l)
theorem Qjg:∀{ts:List Str}{its:List Value},Qt (ts.map V.str) its->∃l:List (Str×Tok),its=strValues l/\l.map (·.1)=ts
 | [],its,h=>by cases h;exact⟨[],rfl,rfl⟩
 | t::ts,its,h=>by
  cases h with
  | cons r h=>
   obtain⟨l,rfl,e⟩:=Qjg h
   obtain⟨k,rfl⟩:=r
   exact⟨(t,k)::l,rfl,by rw[Zq,e]⟩
theorem QoE:MtR X "str.split" (λx xs H Q=>∃z y,x= .str z/\xs=[.str y]/\(y.length == 0)=false/\z.length+2<=sizeLine/\∀l,H l=none->Q (.ref l) (L2.upd H l (.lst ((Txt.split z y).map .str)))):=by
 intro pins s σ H x xs v us Q I rx rs q
 obtain⟨z,y,rfl,rfl,hy,hsz,q⟩:=q
 obtain⟨t,rfl⟩:=(show ∃t,v=Value.str z t from rx)
 obtain⟨u',rfl,ru⟩:=vals1 rs
 obtain⟨u,rfl⟩:=(show ∃t,u'=Value.str y t from ru)
 have hn:(Builtin.Str.partsBetween z (Builtin.Str.occurrences z y 0 z.length (z.length+1)) y.length).length<=sizeLine:=by
  have e1:=StrLaws.occ_length_le_len z y 0 z.length (z.length+1)
  rw[length_partsBetween];omega
 have fin:∀(l:List (Str×Tok)) (k:Nat),l.length<=sizeLine->l.map (·.1)=Txt.split z y->EP X pins σ Q (.ref s.heap.objs.size) {s with heap:=s.heap.push {cls:= .type "list",data:= .seq (strValues l).toArray},toks:=k}:=λl k hl e=>by
  have e2:(Txt.split z y).map V.str=l.map λp=>V.str p.1:=by rw[← e,Zaq];rfl
  refine⟨.ref s.heap.objs.size,_,I.laid (t':=k) (λb o h=>Zn _ h) (Zm _) (show Qbu X.prog X.w _ _ _ (.lst ((Txt.split z y).map .str))from⟨by rw[e2,Zj];exact hl,strValues l,0,by rw[e2];exact QjD l,ZD _ rfl⟩),rfl,q _ (I.hok.fresh (Zm _))⟩
 cases h1:(decide (z.length<y.length) || decide (Builtin.Str.strKind z<Builtin.Str.strKind y))
 ·cases hf:(Builtin.Str.occurrences z y 0 z.length (z.length+1)).isEmpty
  ·refine call_meets F.slot_str_split (typeIs_str _ _ _) F.entry_str_split (F.args_str_split_2 _ _) (meets_str_split_sep z y t u h1 hy hf (by omega) hn) ?_
   show wants _ _ _ {s with toks:=_,heap:=s.heap.push {cls:= .type "list",data:= .seq (strsFrom s.toks (Builtin.Str.partsBetween z (Builtin.Str.occurrences z y 0 z.length (z.length+1)) y.length)).toArray}}
   rw[strsFrom_eq]
   have en:=numbered_texts s.toks (Builtin.Str.partsBetween z (Builtin.Str.occurrences z y 0 z.length (z.length+1)) y.length)
   exact fin (numbered s.toks _) _ (by rw[← Zj (f:=(·.1)),en];exact hn) (en.trans ((if_neg (ne_true_of_eq_false h1)).trans (if_neg (ne_true_of_eq_false hf))).symm)
  ·exact call_meets F.slot_str_split (typeIs_str _ _ _) F.entry_str_split (F.args_str_split_2 _ _) (meets_str_split_not_found z y t u h1 hy hf) (fin [(z,t)] s.toks (show 1<=sizeLine by decide) ((if_neg (ne_true_of_eq_false h1)).trans (if_pos hf)).symm)
 ·exact call_meets F.slot_str_split (typeIs_str _ _ _) F.entry_str_split (F.args_str_split_2 _ _) (meets_str_split_cannot_occur z y t u h1) (fin [(z,t)] s.toks (show 1<=sizeLine by decide) (if_pos h1).symm)
theorem Qs6:MtR X "str.join" (λx xs H Q=>∃z p ts,x= .str z/\xs=[.ref p]/\SqL X.K H p (ts.map V.str)/\JoinOk z ts=true/\Q (.str (Txt.join z ts)) H):=by
 intro pins s σ H x xs v us Q I rx rs q
 obtain⟨z,p,ts,rfl,rfl,hq,hj,q⟩:=q
 obtain⟨t,rfl⟩:=(show ∃t,v=Value.str z t from rx)
 obtain⟨u',rfl,ru⟩:=vals1 rs
 cases ru
 obtain⟨its,rv,pl,hz⟩:=I.list hq
 obtain⟨l,rfl,e⟩:=Qjg rv
 exact SC.join pl.isList e hj λt' k=>⟨.str _,H,I.tok _,⟨t',rfl⟩,q⟩
theorem QnY:MtR X "str.startswith" (λx xs H Q=>∃z y,x= .str z/\xs=[.str y]/\Q (.bl (Txt.startswith z y)) H):=by
 intro pins s σ H x xs v us Q I rx rs q
 obtain⟨z,y,rfl,rfl,q⟩:=q
 obtain⟨t,rfl⟩:=(show ∃t,v=Value.str z t from rx)
 obtain⟨u',rfl,ru⟩:=vals1 rs
 obtain⟨u,rfl⟩:=(show ∃t,u'=Value.str y t from ru)
 exact SC.startswith ⟨.bl _,H,I,rfl,q⟩
end
end HS
namespace L2
open PySem PySem.Spec PyProof.Rows
theorem QiK(env:Env)(body:Str×NameKind->List (Str×Addr)->Sem (ForInStep (List (Str×Addr))))
  (hb:∀n k cs,body (n,k) cs=if(k == NameKind.free)=true then(do let c ← cellOf env n;pure (ForInStep.yield ((n,c)::cs)))else pure (ForInStep.yield cs)):
  ∀(names:List (Str×NameKind)) (acc:List (Str×Addr)),(∀y∈names,y.2= .free->∃c,env.cells.lookup y.1=some c)->(∀x c,acc.lookup x=some c->env.cells.lookup x=some c)→
   ∃cl,forIn names acc body=(pure cl:Sem _)/\(∀x c,cl.lookup x=some c->env.cells.lookup x=some c)/\(∀x,acc.lookup x≠none->cl.lookup x≠none)/\∀y∈names,y.2= .free->cl.lookup y.1≠none
 | [],acc,_,ha=>⟨acc,rfl,ha,λ_ h=>h,λy hy=>by simp at hy⟩
 | (n,k)::r,acc,hn,ha=>by
  rw[List.forIn_cons,hb]
  have hr:∀y∈r,y.2= .free->∃c,env.cells.lookup y.1=some c:=λy hy=>hn y (Zb _ hy)
  by_cases hk:k= .free
  ·subst hk
   obtain⟨c,hc⟩:=hn (n,.free) Zf rfl
   have hce:cellOf env n=pure c:=by unfold cellOf;rw[show env.cells.lookup n=some c from hc]
   rw[if_pos (by rfl),hce]
   obtain⟨cl,e,h1,h2,h3⟩:=QiK env body hb r ((n,c)::acc) hr (λx c' e=>by
    rw[Zu]at e
    cases q:x == n with
    | true=>rw[q]at e;cases e;rw[beq_iff_eq]at q;rw[q];exact hc
    | false=>rw[q]at e;exact ha x c' e)
   have hcons:∀x,((n,c)::acc).lookup x≠none->cl.lookup x≠none:=h2
   refine⟨cl,by simpa using e,h1,λx hx=>hcons x ?_,λy hy hf=>?_⟩
   ·rw[Zu];cases x == n with
    | true=>simp
    | false=>exact hx
   ·rcases Zo.mp hy with rfl | hy
    ·exact hcons _ (by simp[Zu])
    ·exact h3 y hy hf
  ·rw[if_neg (by simpa using hk)]
   obtain⟨cl,e,h1,h2,h3⟩:=QiK env body hb r acc hr ha
   refine⟨cl,by simpa using e,h1,h2,λy hy hf=>?_⟩
   rcases Zo.mp hy with rfl | hy
   ·exact absurd hf hk
   ·exact h3 y hy hf
theorem Qtz(h:∀y∈scope.names,y.2= .free->∃c,env.cells.lookup y.1=some c):
  ∃cl,closureFor scope env=pure cl/\(∀x c,cl.lookup x=some c->env.cells.lookup x=some c)/\∀y∈scope.names,y.2= .free->∃c,cl.lookup y.1=some c:=by
 unfold closureFor
 obtain⟨cl,e,h1,_,h3⟩:=QiK env (λx cs=>match x with | (name,kind)=>if(kind == NameKind.free)=true then(do let c ← cellOf env name;pure (ForInStep.yield ((name,c)::cs)))else pure (ForInStep.yield cs)) (λ_ _ _=>rfl) scope.names [] h (λx c e=>by simp at e)
 refine⟨cl,?_,h1,λy hy hf=>Option.ne_none_iff_exists'.mp (h3 y hy hf)⟩
 show(forIn scope.names [] _ >>= λr=>pure r)=_
 rw[e];rfl
noncomputable def cxc(X:Cx)(N':List Str)(scope:Scope)(cl:List (Str×Addr))(C:Addr)(fp:List Addr)(s3:Shared)(H3:Hp):Cx:=
 {X with N:=N',s₀:=s3,H₀:=H3,env:=compEnvC scope cl C X.env,outer:=X.stack,ex:=fp,fn:=λx=>decide (scope.names.lookup x=some .cell),pn:=[],xe:=λ_ _=>False}
def PTs(X:Cx)(ifs:List Expr)(t:TT):Prop:=
 ∀(pins:List (Addr×Obj)) (s:Shared) (σ:St) (H:Hp) (Q:Bool->Hp->Prop),Inv X pins σ H s->t σ H Q→
  wpAny (model X.prog X.w) X.A (forIn ifs true λc r=>if r=true then do let ok ← isTrue c X.env (eval c X.env);pure (ForInStep.yield ok)else pure (ForInStep.yield r)) (TP X pins σ Q) X.xe s
noncomputable def QxX:TT:=λ_ H Q=>Q true H
theorem Qsd:PTs X [] QxX:=λ_ _ _ H _ I h=>wpAny_tests_nil ⟨H,I,h⟩
theorem Qta(h:PT X c t):PTs X [c] t:=λpins s σ H Q I q=>wpAny_tests_one (h pins s σ H Q I q)
def QhD(X:Cx)(N':List Str)(scope:Scope)(σ σ':St):Prop:=
 σ'.length=N'.length/\∀(j:Nat) (x:Str) (v:V),N'[j]? =some x->σ'[j]? =some (some v)->scope.names.lookup x=some .free/\∃i:Nat,X.N[i]? =some x/\σ[i]? =some (some v)/\(X.env.kindOf x=some .cell∨X.env.kindOf x=some .free)
noncomputable def QjW(wi:TI)(cap:St->St->Prop)(g:TG)(tc:TT)(te:TE):TE:=λσ H Q=>wi σ H λJ H1=>∃σc,cap σ σc/\∀D,H1 D=none->∃W:Nat->Nat->List V->Hp->Prop,
 (∃m,W 0 m [] (upd H1 D (.lst [])))/\∀i m acc H2,W i m acc H2->(J.stop i H2/\Q (.ref D) H2)∨
  (J.go i H2/\∀x H3,J.yld i H2 x H3->g x σc H3 λσ2 H4=>(∀(j:Nat) v,σc[j]? =some (some v)->σ2[j]? =some (some v))/\tc σ2 H4 λb H5=>if b=true then
   te σ2 H5 λy H6=>H6 D=some (.lst acc)/\acc.length<sizeLine/\∃m',m'<m/\W (i+1) m' (acc++[y]) (upd H6 D (.lst (acc++[y])))
   else ∃m',m'<m/\W (i+1) m' acc H5)
theorem Qcc{env:Env}:∀{names:List (Str×NameKind)}{x:Str},names.lookup x=some .free→
  (names.map λ(n,k)=>if(k == NameKind.free && env.scope.kind == .function && env.kindOf n == some .cell)then(n,NameKind.cell)else(n,k)).lookup x=some .cell∨
  (names.map λ(n,k)=>if(k == NameKind.free && env.scope.kind == .function && env.kindOf n == some .cell)then(n,NameKind.cell)else(n,k)).lookup x=some .free
 | [],_,h=>by simp at h
 | (n,k)::r,x,h=>by
  have ih:= @Qcc env r x
  rw[Zq]
  cases hx:x == n with
  | true=>
   simp only[Zu,hx]at h
   cases h
   dsimp only
   split
   ·left;simp[Zu,hx]
   ·right;simp[Zu,hx]
  | false=>
   simp only[Zu,hx]at h
   dsimp only
   split
   ·simp only[Zu,hx];exact ih h
   ·simp only[Zu,hx];exact ih h
theorem Qdw{env:Env}:∀{names:List (Str×NameKind)}{x:Str},
  ((names.map λ(n,k)=>if(k == NameKind.free && env.scope.kind == .function && env.kindOf n == some .cell)then(n,NameKind.cell)else(n,k)).lookup x=some .cell∨
  (names.map λ(n,k)=>if(k == NameKind.free && env.scope.kind == .function && env.kindOf n == some .cell)then(n,NameKind.cell)else(n,k)).lookup x=some .free)→
  ∃k,(x,k)∈names/\(k= .free∨k= .cell)
 | [],_,h=>by simp at h
 | (n,k)::r,x,h=>by
  have ih:= @Qdw env r x
  rw[Zq]at h
  cases hx:x == n with
  | true=>
   have hn:x=n:=by simpa using hx
   subst hn
   dsimp only at h
   split at h
   ·rename_i hc
    simp only[Zg]at hc
    refine⟨k,Zf,.inl (by simpa using hc.1.1)⟩
   ·simp only[Zu,hx]at h
    refine⟨k,Zf,?_⟩
    rcases h with h | h
    ·exact .inr (Option.some.inj h)
    ·exact .inl (Option.some.inj h)
  | false=>
   dsimp only at h
   have:∃k,(x,k)∈r/\(k= .free∨k= .cell):=by
    apply ih
    split at h
    ·simpa only[Zu,hx]using h
    ·simpa only[Zu,hx]using h
   obtain⟨k',h1,h2⟩:=this
   exact⟨k',Zb _ h1,h2⟩
theorem Qe6:∀(names:List (Str×NameKind)) (n:Nat) (acc:List (Str×Addr)) (x:Str) (c:Addr),(cellsFrom n names acc).lookup x=some c->acc.lookup x=some c∨(n<=c/\(x,NameKind.cell)∈names)
 | [],_,_,_,_,h=> .inl h
 | (nm,k)::r,n,acc,x,c,h=>by
  unfold cellsFrom at h
  split at h
  ·rename_i hk
   have hk:k= .cell:=by simpa using hk
   rcases Qe6 r (n+1) ((nm,n)::acc) x c h with h | ⟨h1,h2⟩
   ·rw[Zu]at h
    cases q:x == nm with
    | true=>
     rw[q]at h
     cases h
     have:x=nm:=by simpa using q
     exact .inr ⟨Zm _,by rw[this,hk];exact Zf⟩
    | false=>rw[q]at h;exact .inl h
   ·exact .inr ⟨by omega,Zb _ h2⟩
  ·rcases Qe6 r n acc x c h with h | ⟨h1,h2⟩
   ·exact .inl h
   ·exact .inr ⟨h1,Zb _ h2⟩
theorem Qkj:∀(names:List (Str×NameKind)) (n:Nat) (acc:List (Str×Addr)) (x:Str) (c:Addr),(x,NameKind.cell)∈names->(cellsFrom n names acc).lookup x=some c->n<=c
 | (nm,k)::r,n,acc,x,c,hm,h=>by
  unfold cellsFrom at h
  split at h
  ·by_cases hr:(x,NameKind.cell)∈r
   ·have:=Qkj r (n+1) _ x c hr h
    omega
   ·have hx:x=nm:=by
     rcases Zo.mp hm with e | e
     ·exact(Prod.mk.inj e).1
     ·exact absurd e hr
    rcases Qe6 r (n+1) ((nm,n)::acc) x c h with h | ⟨h1,_⟩
    ·rw[Zu,show(x == nm)=true by simpa using hx]at h
     cases h
     exact Zm _
    ·omega
  ·rename_i hk
   rcases Zo.mp hm with e | e
   ·exact absurd (by rw[← (Prod.mk.inj e).2];rfl) hk
   ·exact Qkj r n acc x c e h
theorem Qj8:∀(names:List (Str×NameKind)) (n:Nat) (acc:List (Str×Addr)),(∀x y c,acc.lookup x=some c->acc.lookup y=some c->x=y)->(∀x c,acc.lookup x=some c->c<n)→
  ∀x y c,(cellsFrom n names acc).lookup x=some c->(cellsFrom n names acc).lookup y=some c->x=y
 | [],_,_,hi,_,x,y,c,h1,h2=>hi x y c h1 h2
 | (nm,k)::r,n,acc,hi,hb,x,y,c,h1,h2=>by
  unfold cellsFrom at h1 h2
  split at h1
  ·rename_i hk
   rw[if_pos hk]at h2
   refine Qj8 r (n+1) ((nm,n)::acc) (λx y c h1 h2=>?_) (λx c h=>?_) x y c h1 h2
   ·rw[Zu]at h1 h2
    cases qx:x == nm with
    | true=>
     rw[qx]at h1
     cases h1
     cases qy:y == nm with
     | true=>rw[show x=nm by simpa using qx,show y=nm by simpa using qy]
     | false=>rw[qy]at h2;exact absurd (hb y _ h2) (ZV _)
    | false=>
     rw[qx]at h1
     cases qy:y == nm with
     | true=>rw[qy]at h2;cases h2;exact absurd (hb x _ h1) (ZV _)
     | false=>rw[qy]at h2;exact hi x y c h1 h2
   ·rw[Zu]at h
    cases qx:x == nm with
    | true=>rw[qx]at h;cases h;exact Zaz _
    | false=>rw[qx]at h;exact ZaI (hb x c h)
  ·rename_i hk
   rw[if_neg hk]at h2
   exact Qj8 r n acc hi hb x y c h1 h2
theorem Qe4:∀(names:List (Str×NameKind)) (n:Nat) (acc:List (Str×Addr)) (x:Str),(∃c,acc.lookup x=some c)->∃c,(cellsFrom n names acc).lookup x=some c
 | [],_,_,_,h=>h
 | (nm,k)::r,n,acc,x,h=>by
  unfold cellsFrom
  split
  ·refine Qe4 r (n+1) _ x ?_
   rw[Zu]
   cases x == nm with
   | true=>exact⟨n,rfl⟩
   | false=>exact h
  ·exact Qe4 r n acc x h
theorem Qkg:∀(names:List (Str×NameKind)) (n:Nat) (acc:List (Str×Addr)) (x:Str),(x,NameKind.cell)∈names->∃c,(cellsFrom n names acc).lookup x=some c
 | (nm,k)::r,n,acc,x,hm=>by
  unfold cellsFrom
  rcases Zo.mp hm with e | e
  ·obtain⟨e1,e2⟩:=Prod.mk.inj e
   subst e1
   rw[← e2,if_pos (by rfl)]
   exact Qe4 r (n+1) _ x ⟨n,by simp[Zu]⟩
  ·split
   ·exact Qkg r (n+1) _ x e
   ·exact Qkg r n acc x e
theorem QiB(lo:Nat):∀(names:List (Str×NameKind)) (h:Heap) (acc:List (Str×Addr)),(∀x c,acc.lookup x=some c->lo<=c->h.IsCell c none)->lo<=h.objs.size→
  ∀x c,(cellsFrom h.objs.size names acc).lookup x=some c->lo<=c->(pushCells h names).IsCell c none
 | [],_,_,ha,_,x,c,e,hl=>ha x c e hl
 | (nm,k)::r,h,acc,ha,hlo,x,c,e,hl=>by
  unfold cellsFrom at e
  unfold pushCells
  split at e
  ·rename_i hk
   rw[if_pos hk]
   have hs:=ZaA h {cls:= .type "cell",data:= .cell none}
   refine QiB lo r (h.push {cls:= .type "cell",data:= .cell none}) ((nm,h.objs.size)::acc) (λx c e hl=>?_) (by rw[hs];omega) x c (by rw[hs];exact e) hl
   rw[Zu]at e
   cases q:x == nm with
   | true=>rw[q]at e;cases e;exact⟨_,ZD _ rfl,rfl⟩
   | false=>rw[q]at e;exact(ha x c e hl).keeps λb o e=>Zn _ e
  ·rename_i hk
   rw[if_neg hk]
   exact QiB lo r h acc ha hlo x c e hl
theorem Qm0
  (hQ:∀h':Heap,h'.Ns s.heap.objs.size (λ_=>none)->(∀b o,s.heap.get? b=some o->h'.get? b=some o)->((∀x c,cl.lookup x=some c->c<s.heap.objs.size)->∀x c,(cellsFrom (s.heap.objs.size+1) scope.names cl).lookup x=some c->s.heap.objs.size+1<=c->h'.IsCell c none)→
   Q (newEnv scope s.heap.objs.size globals (cellsFrom (s.heap.objs.size+1) scope.names cl) qual none .none (some env) builtins) {s with heap:=h'}):
  wpAny M A (newFunctionEnv scope globals cl [] qual none .none (some env) builtins) Q E s:=by
 simp only[newFunctionEnv,Option.isSome_some,if_true]
 refine wpAny_bind (wpAny_alloc ?_)
 refine wpAny_bind (wpAny_layCells _ (λname kind cells=>by cases hkc:kind == NameKind.cell<;>simp[hkc]) _ _ _ _ ?_)
 have hs:=ZaA s.heap {cls:= .type "dict",data:= .dict #[]}
 rw[show({s with heap:=s.heap.push {cls:= .type "dict",data:= .dict #[]}}:Shared).heap.objs.size=s.heap.objs.size+1 from hs]
 refine wpAny_bind (wpAny_pure (wpAny_pure ?_))
 refine hQ _ ((Heap.Ns.new s.heap (.type "dict")).keeps (pushCells_keeps _ _)) (λb o e=>pushCells_keeps _ _ b o (Zn _ e)) λhb x c e hl=>?_
 refine QiB (s.heap.objs.size+1) scope.names (s.heap.push {cls:= .type "dict",data:= .dict #[]}) cl (λx c e hl=>?_) (by rw[hs];exact Zm _) x c (by rw[hs];exact e) hl
 exact absurd (Zz (hb x c e) (ZF (ZaB _) hl)) (ZV _)
section
variable {X:Cx}{tg iter elt:Expr}{ifs:List Expr}{scope:Scope}{N':List Str}{pos:Pos}
structure Qdx (X:Cx) (N':List Str) (scope:Scope):Prop where
 kind:scope.kind= .function
 own:∀y∈scope.names,y.2= .cell->scope.names.lookup y.1=some .cell
 loc:∀y∈scope.names,y.2= .local ->scope.names.lookup y.1=some .local
 free:∀y∈scope.names,y.2= .free->X.env.kindOf y.1=some .cell∨X.env.kindOf y.1=some .free
theorem QqN{pins:List (Addr×Obj)}{σ σc:St}{H3:Hp}{s3:Shared}{fp:List Addr}{cl:List (Str×Addr)}{h':Heap}{tk:Nat}(S:Qdx X N' scope)(I:Inv X pins σ H3 s3)
  (hf:∀b∈fp,Qde X pins H3 b) (hfl:∀b∈fp,b<s3.heap.objs.size) (hc1:∀x c,cl.lookup x=some c->X.env.cells.lookup x=some c) (hc2:∀y∈scope.names,y.2= .free->∃c,cl.lookup y.1=some c) (cap:QhD X N' scope σ σc)
  (hns:h'.Ns s3.heap.objs.size (λ_=>none)) (hk:∀b o,s3.heap.get? b=some o->h'.get? b=some o)
  (hown:(∀x c,cl.lookup x=some c->c<s3.heap.objs.size)->∀x c,(cellsFrom (s3.heap.objs.size+1) scope.names cl).lookup x=some c->s3.heap.objs.size+1<=c->h'.IsCell c none):
  Inv (cxc X N' scope (cellsFrom (s3.heap.objs.size+1) scope.names cl) s3.heap.objs.size fp s3 H3) [] σc H3 {s3 with heap:=h',toks:=tk}:=by
 have nold:∀b,b∈fp->b≠s3.heap.objs.size:=λb hb e=>absurd (hfl b hb) (by rw[e];exact ZV _)
 have cellOld:∀x c,cl.lookup x=some c->∃v,s3.heap.IsCell c v:=λx c e=>I.cell x c (hc1 x c e)
 have cellLt:∀x c,cl.lookup x=some c->c<s3.heap.objs.size:=λx c e=>let ⟨v,q⟩:=cellOld x c e;q.lt
 have cellNew:∀c v,s3.heap.IsCell c v->h'.IsCell c v:=λc v ⟨o,ho,hd⟩=>⟨o,hk c o ho,hd⟩
 have hown:=hown cellLt
 have look:∀x c,(cellsFrom (s3.heap.objs.size+1) scope.names cl).lookup x=some c->cl.lookup x=some c∨(s3.heap.objs.size+1<=c/\(x,NameKind.cell)∈scope.names):=Qe6 scope.names _ cl
 refine⟨⟨I.ok.mod,S.kind,I.ok.glob,I.ok.blt,Zm _,Qj8 scope.names _ cl (λx y c h1 h2=>I.ok.inj x y c (hc1 x c h1) (hc1 y c h2)) (λx c e=>ZaI (cellLt x c e)),λx hx=>?_,λx c e1 e2=>?_,I.ok.hd,I.ok.frames,.inl rfl,λb hb=>⟨nold b hb,λx c e=>?_⟩,
  I.bs,ZF I.ok.bsz I.sz,λb o e hb=>?_,λb hb hs=>?_,I.stack,I.Qmt⟩,rfl,I.bare,Un.kept hk,⟨_,hns,λj x v h1 h2 h3=>?_⟩,λx c e=>?_,I.hok.fresh (Zm _),λx c e=>?_,λp hp=>absurd (show p∈([]:List (Addr×Obj))from hp) (by simp),I.hok.kept hk,cap.1⟩
 ·obtain⟨k,hm,hk'⟩:=Qdw hx
  rcases hk' with rfl | rfl
  ·exact Qe4 scope.names _ cl x (hc2 _ hm rfl)
  ·exact Qkg scope.names _ cl x hm
 ·have e1:decide (scope.names.lookup x=some .cell)=true:=e1
  have:=Qkj scope.names _ cl x c (Zal (of_decide_eq_true e1)) e2
  exact ZF (ZaB _) this
 ·rcases look x c e with e | ⟨e,_⟩
  ·exact(hf b hb).2.2.2.2.1 x c (hc1 x c e)
  ·intro z
   rw[z]at e
   exact absurd (Zz (hfl b hb) (ZF (ZaB _) e)) (ZV _)
 ·rcases(hf b hb).2.2.2.1 with z | z
  ·exact I.ok.noex b o e z
  ·exact absurd (Zz (Zx e) (ZF I.ok.bsz z)) (ZV _)
 ·rcases Zo.mp (I.QhJ b hs)with e | z
  ·exact(hf b hb).2.1 e
  ·exact(hf b hb).2.2.1 z
 ·obtain⟨hl,i,e1,e2,e3⟩:=cap.2 j x v h1 h2
  obtain⟨m,hn,look'⟩:=I.loc
  obtain⟨u,r,l⟩:=look' i x v e1 e2 (e3.elim (λz=> .inr (.inl z)) λz=> .inr (.inr z))
  refine⟨u,r,.inr ⟨Qcc hl,?_⟩⟩
  rcases l with⟨k,_⟩ | ⟨_,c,ec,hcell⟩
  ·rcases e3 with z | z<;>(rw[k]at z;cases z)
  ·obtain⟨c',ec'⟩:=Qe4 scope.names (s3.heap.objs.size+1) cl x (hc2 (x,.free) (Zal hl) rfl)
   rcases look x c' ec' with q | ⟨_,q⟩
   ·have:=hc1 x c' q
    rw[ec]at this;cases this
    exact⟨c,ec',cellNew c _ hcell⟩
   ·have:=S.own _ q rfl
    rw[hl]at this
    cases this
 ·rcases look x c e with q | ⟨q,_⟩
  ·obtain⟨v,q⟩:=cellOld x c q
   exact⟨v,cellNew c v q⟩
  ·exact⟨none,hown x c e q⟩
 ·rcases look x c e with q | ⟨q,_⟩
  ·exact I.freeC x c (hc1 x c q)
  ·exact I.hok.fresh (by omega)
theorem QoS(J:Nat->Shared->Prop)
  (turn:∀n s,J n s->wpAny (model prog w) A (pyNext it) (λr s1=>match r with
   | none=>R (.ok .next) s1
   | some v=>wpAny (model prog w) A (letOwnedTupleGo tg it v) (λ_ s2=>wpAny (model prog w) A (assign tg env v) (λ_ s3=>
     wpAny (model prog w) A (forIn ifs true λc r=>if r=true then do let ok ← isTrue c env (eval c env);pure (ForInStep.yield ok)else pure (ForInStep.yield r)) (λok s4=>
      if ok=true then wpAny (model prog w) A (eval elt env) (λx s5=>wpAny (model prog w) A (call (.builtin "list.append") [acc,x]) (λ_ s6=>∃m,m<n/\J m s6) (λ_ _=>False) s5) (λ_ _=>False) s4
      else ∃m,m<n/\J m s4) (λ_ _=>False) s3) (λ_ _=>False) s2) (λ_ _=>False) s1) (λ_ _=>False) s)
  (n:Nat) (h:J n s0):codeAny (model prog w) A (.compLoop (.ListComp elt [⟨tg,iter,ifs,0⟩] scope pos) 0 it acc env) R s0:=by
 have up:∀{α:Type}{t:Sem α}{Q:α->Shared->Prop}{E:Value->Shared->Prop}{s:Shared},wpAny (model prog w) A t Q (λ_ _=>False) s->wpAny (model prog w) A t Q E s:=λh=>wpAny_mono h (λ_ _ q=>q) λ_ _ f=>f.elim
 refine codeAny_loop (by rfl) J (λk sk hk=>?_) n h
 show wpAny (model prog w) A ((compTurn (.ListComp elt [⟨tg,iter,ifs,0⟩] scope pos) 0 it acc env).onRaise (λx=>do noteFrame x env;theTreesLotGoes x)) _ _ sk
 refine wpAny_noted (up ?_)
 rw[compTurn_list]
 refine wpAny_bind (wpAny_standAt (wpAny_bind (thn (turn k sk hk) λr s1 h1=>?_)))
 cases r with
 | none=>exact wpAny_pure h1
 | some v=>
  refine wpAny_bind (thn h1 λ_ s2 h2=>wpAny_bind (thn h2 λ_ s3 h3=>wpAny_bind (thn h3 λok s4 h4=>?_)))
  cases ok with
  | false=>exact wpAny_pure ⟨rfl,h4⟩
  | true=>exact wpAny_bind (wpAny_bind (thn h4 λx s5 h5=>wpAny_bind (thn h5 λ_ s6 h6=>wpAny_pure (wpAny_pure ⟨rfl,h6⟩))))
theorem Qpy{it D C:Addr}{fp:List Addr}{tn:Nat->Heap->Prop}{J:It}{cl:List (Str×Addr)}{s3 s4:Shared}{H3:Hp}{σc:St}{g:TG}{tc:TT}{te:TE}{Q:Hp->Prop}(hcalm:X.calm=true)
  (T:Turn X.prog X.w X.K tg J fp it tn)
  (hg:PG (cxc X N' scope cl C fp s3 H3) tg g) (ht:PTs (cxc X N' scope cl C fp s3 H3) ifs tc) (he:PE (cxc X N' scope cl C fp s3 H3) elt te)
  (I:Inv (cxc X N' scope cl C fp s3 H3) [] σc H3 s4) (st:tn 0 s4.heap) (ff:∀b∈fp,Qde (cxc X N' scope cl C fp s3 H3) [] H3 b)
  (W:Nat->Nat->List V->Hp->Prop) (hw:∃m,W 0 m [] H3)
  (turn:∀i m acc H2,W i m acc H2->(J.stop i H2/\Q H2)∨
   (J.go i H2/\∀x H5,J.yld i H2 x H5->g x σc H5 λσ2 H6=>(∀(j:Nat) v,σc[j]? =some (some v)->σ2[j]? =some (some v))/\tc σ2 H6 λb H7=>if b=true then
    te σ2 H7 λy H8=>H8 D=some (.lst acc)/\acc.length<sizeLine/\∃m',m'<m/\W (i+1) m' (acc++[y]) (upd H8 D (.lst (acc++[y])))
    else ∃m',m'<m/\W (i+1) m' acc H7))
  {R:Result->Shared->Prop}(hR:∀H' s',Inv (cxc X N' scope cl C fp s3 H3) [] σc H' s'->Q H'->R (.ok .next) s'):
  codeAny (model X.prog X.w) X.A (.compStart (.ListComp elt [⟨tg,iter,ifs,0⟩] scope pos) 0 (.ref it) (.ref D) (compEnvC scope cl C X.env)) R s4:=by
 obtain⟨m0,w0⟩:=hw
 have stat:∀{H':Hp},(∀b∈fp,H' b=none)->∀b∈fp,Qde (cxc X N' scope cl C fp s3 H3) [] H' b:=λhn b hb=>⟨hn b hb,(ff b hb).2⟩
 have loop:codeAny (model X.prog X.w) X.A (.compLoop (.ListComp elt [⟨tg,iter,ifs,0⟩] scope pos) 0 (.ref it) (.ref D) (compEnvC scope cl C X.env)) R s4:=by
  refine QoS (λn s'=>∃i acc H',Inv (cxc X N' scope cl C fp s3 H3) [] σc H' s'/\tn i s'.heap/\(∀b∈fp,H' b=none)/\W i n acc H') ?_ m0 ⟨0,[],H3,I,st,λb hb=>(ff b hb).1,w0⟩
  rintro n s5 ⟨i,acc,H5,I5,st5,fr5,w5⟩
  rcases turn i n acc H5 w5 with⟨stop,q⟩ | ⟨go,step⟩
  ·refine thn (T.done (cxc X N' scope cl C fp s3 H3) rfl rfl rfl hcalm i [] s5 σc H5 _ I5 (stat fr5) st5 stop) λr s6 hpt=>?_
   obtain⟨hr,I6⟩:=hpt
   subst hr
   exact hR H5 s6 I6 q
  ·refine thn (T.item (cxc X N' scope cl C fp s3 H3) rfl rfl rfl hcalm i [] s5 σc H5 _ I5 (stat fr5) st5 go) λr s6 hpt=>?_
   obtain⟨u,hr,h6⟩:=hpt
   subst hr
   refine thn h6 λ_ s7 hpt=>?_
   obtain⟨x,H7,I7,r7,y7,st7,fr7⟩:=hpt
   have I7':=I7.pinned (stat fr7) (T.obj _ _ st7)
   refine thn (hg _ s7 σc H7 x u _ I7' r7 (step x H7 y7)) λ_ s8=>exJ λσ8 H8 I8 k8 q8=>?_
   refine thn (ht _ s8 σ8 H8 _ I8 q8) λok s9 hpt=>?_
   obtain⟨H9,I9,q9⟩:=hpt
   have again:∀{H':Hp}{s':Shared}{acc':List V},Inv (cxc X N' scope cl C fp s3 H3) ([]++Qf8 fp s7.heap) σ8 H' s'->(∃m',m'<n/\W (i+1) m' acc' H')→
     ∃m,m<n/\∃i acc H',Inv (cxc X N' scope cl C fp s3 H3) [] σc H' s'/\tn i s'.heap/\(∀b∈fp,H' b=none)/\W i m acc H':=λ{H' s' acc'} I' ⟨m',hm,w'⟩=>by
    have pin:∀b∈fp,∀o,s7.heap.get? b=some o->s'.heap.get? b=some o/\H' b=none:=λb hb o e=>by
     have z:=I'.pin (b,o) (Ze _ (Ze _ (Qfm hb e)))
     exact⟨z.1,z.2.1⟩
    refine⟨m',hm,i+1,acc',H',?_,T.keep _ _ _ st7 λb hb o e=>(pin b hb o e).1,λb hb=>?_,w'⟩
    ·exact I'.Qfv.weak (I.len.trans I8.len.symm) k8
    ·obtain⟨o,e,_⟩:=T.obj _ _ st7 b hb
     exact(pin b hb o e).2
   cases ok with
   | false=>
    rw[if_neg ZZ]at q9 ⊢
    exact again I9 q9
   | true=>
    rw[if_pos rfl]at q9 ⊢
    refine thn (he _ s9 σ8 H9 _ I9 q9) λyv s10 hpt=>?_
    obtain⟨y,H10,I10,r10,e10,l10,q10⟩:=hpt
    refine thn (QfU _ s10 σ8 H10 (.ref D) [y] (.ref D) [yv] (λv H11=>H11=upd H10 D (.lst (acc++[y]))) I10 rfl (.cons r10 .nil) ⟨D,acc,y,rfl,rfl,e10,l10,rfl⟩) λ_ s11 hpt=>?_
    obtain⟨_,H11,I11,_,e11⟩:=hpt
    subst e11
    exact again I11 q10
 exact codeAny_compStart_list loop (T.self _ 0 _ _ _ st loop)
theorem QkP{wi:TI}{g:TG}{tc:TT}{te:TE}{cp:Pos}{use:Option (Value->Sem Unit)}{pins:List (Addr×Obj)}{s:Shared}{σ:St}{H:Hp}{QV:Value->Shared->Prop}{Q:VK}(hcalm:X.calm=true)(S:Qdx X N' scope)(hi:PI X tg iter wi)
  (hin:∀cl C fp s3 H3,PG (cxc X N' scope cl C fp s3 H3) tg g/\PTs (cxc X N' scope cl C fp s3 H3) ifs tc/\PE (cxc X N' scope cl C fp s3 H3) elt te)
  (hs:∀x,foldedSetIterable iter X.env x=pure x) (I:Inv X pins σ H s) (h:QjW wi (QhD X N' scope) g tc te σ H Q)
  (fin:∀(D C:Addr) (H':Hp) (s':Shared),Inv X pins σ H' s'->H' C=none->C≠X.env.locals->X.s₀.heap.objs.size<=C->(∀x c,X.env.cells.lookup x=some c->c≠C)->(∀p∈X.pn++pins,p.1≠C)->(∃m,s'.heap.Ns C m)->Q (.ref D) H'→
   compPost (model X.prog X.w) X.A X.xe use QV (.ref D) C (.ok .next) s'):
  wpAny (model X.prog X.w) X.A (comprehension (.ListComp elt [⟨tg,iter,ifs,0⟩] scope pos) scope X.env cp (newList []) false (eval iter X.env) use) QV X.xe s:=by
 obtain⟨cl,hcl,hc1,hc2⟩:=Qtz λy hy hf=>I.ok.has y.1 (S.free y hy hf)
 refine wpAny_comprehension_free rfl hs hcl S.kind S.loc ?_
 refine thn (hi pins s σ H _ I h) λv s1 h1=>thn h1 λitv s2 h2=>?_
 obtain⟨it,fp,tn,J,H2,e,I2,T,st2,f2,σc,cap,hw⟩:=h2
 subst e
 have hD0:H2 s2.heap.objs.size=none:=I2.hok.fresh (Zm _)
 obtain⟨W,hW0,turn⟩:=hw _ hD0
 have fpl:∀b∈fp,b<s2.heap.objs.size:=λb hb=>let ⟨o,e,_⟩:=T.obj _ _ st2 b hb;Zx e
 have hlist:∀D:Addr,D=s2.heap.objs.size->∃x,x=D:=λD _=>⟨D,rfl⟩
 refine wpAny_newObj_type ?_
 have I3:Inv X pins σ (upd H2 s2.heap.objs.size (.lst [])) {s2 with heap:=s2.heap.push {cls:= .type "list",dict:=none,data:= .seq ([]:List Value).toArray}}:=
  I2.laid (t':=s2.toks) (λb o e=>Zn _ e) (Zm _) ⟨Zaf _,[],0,.nil,ZD _ rfl⟩
 generalize hs3:({s2 with heap:=s2.heap.push {cls:= .type "list",dict:=none,data:= .seq ([]:List Value).toArray}}:Shared)=s3 at I3
 have hs3':s3.heap=s2.heap.push {cls:= .type "list",dict:=none,data:= .seq ([]:List Value).toArray}:=by rw[← hs3]
 have sz3:s3.heap.objs.size=s2.heap.objs.size+1:=by rw[hs3',ZaA]
 have old3:∀b o,s2.heap.get? b=some o->s3.heap.get? b=some o:=λb o e=>by rw[hs3'];exact Zn _ e
 have f3:∀b∈fp,Qde X pins (upd H2 s2.heap.objs.size (.lst [])) b:=λb hb=>⟨by rw[Qz (ZN (fpl b hb))];exact(f2 b hb).1,(f2 b hb).2⟩
 have fpl3:∀b∈fp,b<s3.heap.objs.size:=λb hb=>by rw[sz3];exact ZaI (fpl b hb)
 refine Qm0 (λh4 hns4' keep4 hown4=>?_)
 have I4:=QqN (tk:=s3.toks) S I3 f3 fpl3 hc1 hc2 cap hns4' keep4 hown4
 have hout:∀H' s',Inv (cxc X N' scope (cellsFrom (s3.heap.objs.size+1) scope.names cl) s3.heap.objs.size fp s3 (upd H2 s2.heap.objs.size (.lst []))) [] σc H' s'->Inv X pins σ H' s':=λH' s' J'=>
  I3.QwJ J'.os J'.base J'.hok J'.bare λb hb=>⟨(f3 b hb).2.2.2.1,(f3 b hb).2.1,(f3 b hb).2.2.2.2.1,(f3 b hb).2.2.2.2.2⟩
 obtain⟨hg,ht,he⟩:=hin (cellsFrom (s3.heap.objs.size+1) scope.names cl) s3.heap.objs.size fp s3 (upd H2 s2.heap.objs.size (.lst []))
 have fc:∀b∈fp,Qde (cxc X N' scope (cellsFrom (s3.heap.objs.size+1) scope.names cl) s3.heap.objs.size fp s3 (upd H2 s2.heap.objs.size (.lst []))) [] (upd H2 s2.heap.objs.size (.lst [])) b:=λb hb=>
  ⟨(f3 b hb).1,ZN (fpl3 b hb),λhs'=>(Zo.mp (I3.QhJ b hs')).elim (f3 b hb).2.1 (f3 b hb).2.2.1,.inl hb,λx c e=>(by
   rcases Qe6 scope.names _ cl x c e with e | ⟨e,_⟩
   ·exact(f3 b hb).2.2.2.2.1 x c (hc1 x c e)
   ·intro z
    rw[z]at e
    exact absurd (Zz (fpl3 b hb) (ZF (ZaB _) e)) (ZV _)),λp hp=>absurd (show p∈([]:List (Addr×Obj))from hp) (by simp)⟩
 have hC1:s3.heap.objs.size≠X.env.locals:=Ne.symm (ZN I3.lt)
 refine Qpy (W:=W) hcalm T hg ht he I4 (T.keep _ _ _ st2 λb hb o e=>keep4 b o (old3 b o e)) fc hW0 turn λH' s' J' q=>?_
 have O:=hout H' s' J'
 refine fin _ _ H' s' O J'.free hC1 (ZF I3.sz (Zm _)) (λx c e z=>?_) (λp hp z=>?_) (let ⟨m,hn,_⟩:=J'.loc;⟨m,hn⟩) q
 ·obtain⟨v,o,ho,_⟩:=I3.cell x c e
  exact absurd (Zx ho) (by rw[z];exact ZV _)
 ·exact absurd (Zx (I3.pin p hp).1) (by rw[z];exact ZV _)
theorem Inv.Qrn(I:Inv X pins σ H s)(hs:Heap.SameBut C s.heap h')(hn:H C=none)(hL:C≠X.env.locals)(h1:X.s₀.heap.objs.size<=C)
  (h2:∀x c,X.env.cells.lookup x=some c->c≠C) (h3:∀p∈X.pn++pins,p.1≠C):Inv X pins σ H {s with heap:=h'}:=
 I.turned (t':=s.toks) (λb o hb e=>(hs.2 b hb).trans e) hn hL (.inr h1) h2 h3
theorem Qmx(hcalm:X.calm=true)(S:Qdx X N' scope)(hi:PI X tg iter wi)
  (hin:∀cl C fp s3 H3,PG (cxc X N' scope cl C fp s3 H3) tg g/\PTs (cxc X N' scope cl C fp s3 H3) ifs tc/\PE (cxc X N' scope cl C fp s3 H3) elt te)
  (hs:∀x,foldedSetIterable iter X.env x=pure x:=by intro _;rfl):PE X (.ListComp elt [⟨tg,iter,ifs,0⟩] scope pos) (QjW wi (QhD X N' scope) g tc te):=by
 intro pins s σ H Q I h
 rw[eval_ListComp]
 refine QkP hcalm S hi hin hs I h λD C H' s' O h1 h2 h3 h4 h5 hpt q=>?_
 obtain⟨m,hm⟩:=hpt
 exact⟨m,hm,λh' hs'=>⟨.ref D,H',O.Qrn hs' h1 h2 h3 h4 h5,rfl,q⟩⟩
theorem Qsl(hN:X.N.Nodup)(hx1:X.N[i]? =some x)(hx:Loc X.env.scope x)(hf:X.fn x=true∨X.env.scope.names.lookup x=some .local)(hcalm:X.calm=true)(S:Qdx X N' scope)(hi:PI X tg iter wi)
  (hin:∀cl C fp s3 H3,PG (cxc X N' scope cl C fp s3 H3) tg g/\PTs (cxc X N' scope cl C fp s3 H3) ifs tc/\PE (cxc X N' scope cl C fp s3 H3) elt te)
  (hs:∀x,foldedSetIterable iter X.env x=pure x:=by intro _;rfl):
  PS X (.Assign [.Name x pos'] (.ListComp elt [⟨tg,iter,ifs,0⟩] scope pos) spos) (QkK (QjW wi (QhD X N' scope) g tc te) (Qgq i)):=by
 have hb:∃b,swapsWith (.ListComp elt [⟨tg,iter,ifs,0⟩] scope pos) (some (.Name x pos')) spos.line X.env=pure b:=⟨_,rfl⟩
 obtain⟨b,hb⟩:=hb
 cases b with
 | false=>exact Qf7 hN hx1 hx (Qmx hcalm S hi hin hs) hb hf
 | true=>
  intro pins s σ H D I h
  rw[exec_Assign_Name_used _ _ _ _ hb]
  refine wpAny_bind (wpAny_standAt (wpAny_bind ?_))
  show wpAny _ X.A (do let _ ← comprehension (.ListComp elt [⟨tg,iter,ifs,0⟩] scope pos) scope X.env _ (newList []) false (eval iter X.env) (some (assign (.Name x pos') X.env))) _ _ s
  refine wpAny_bind (thn (QkP hcalm S hi hin hs I h λDl C H' s' O h1 h2 h3 h4 h5 ⟨m,hm⟩ q=>?_) λ_ s' hq=>wpAny_pure (wpAny_pure hq))
  refine wpAny_assign_Name (Qjc O hN hx1 hx (v:= .ref Dl) rfl (λs2 I2 hsb=>?_) hf)
  obtain⟨a,sb,ha⟩:=hsb
  have haC:C≠a:=by
   rcases ha with rfl | ha
   ·exact h2
   ·exact Ne.symm (h4 _ _ ha)
  exact⟨m,hm.sameBut sb haC,λh' hs'=>⟨_,H',I2.Qrn hs' h1 h2 h3 h4 h5,q⟩⟩
end
end L2
namespace L2
open PySem PySem.Spec PyProof.Rows
section
theorem Inv.QrI{t':Nat}{ch:List Addr}{T:Addr}{ts:List V}(I:Inv X pins σ H s)(hf:∀b∈ch,Qde X pins H b)(k:∀b o,b∉ch->s.heap.get? b=some o->h'.get? b=some o)(hp:∀b∈ch,∃o,h'.get? b=some o)
  (hT:s.heap.objs.size<=T) (hnew:ts.length<=sizeLine/\∃its:List Value,Qt ts its/\IsTup h' T its.toArray):Inv X pins σ (upd H T (.tup ts)) {s with heap:=h',toks:=t'}:=by
 have hn:H T=none:=I.hok.fresh hT
 have neT:∀b u,H b=some u->b≠T:=λb u e=>Qbk e hn
 have nch:∀b u,H b=some u->b∉ch:=λb u e hb=>by rw[(hf b hb).1]at e;cases e
 have ltT:∀b o,s.heap.get? b=some o->b≠T:=λb o e=>ZN (Zz (Zx e) hT)
 refine I.step (g':=s.gens) (d':=s.drawn) (ch:=ch) (λb hb=>?_) (λb o _ _ hc e _=>k b o hc e) (λb o _ _ hc e _=>⟨o.slots,k b o hc e⟩) (λb o _ e n=>by rw[Qz (ltT b o e)];exact n)
  (λb o hc e=>⟨o,k b o hc e⟩) (λb xs e=>by rw[Qz (neT b _ e)];exact e) (λb o u e=>by rw[Qz (neT b _ e)];exact e) (λb ps e=>⟨#[],by rw[Qz (neT b _ e),e];simp⟩) (λm hm=>?_) (λb u e=>?_) I.bare
 ·obtain⟨f0,f1,f2,f3,f4,f5⟩:=hf b hb
  exact⟨f3,f1,f4,f5⟩
 ·obtain⟨o,es,ep,ho,r⟩:=hm
  exact⟨o,es,ep,k _ o (λz=>(hf _ z).2.1 rfl) ho,r⟩
 ·by_cases hb:b=T
  ·subst hb
   rw[Qag]at e
   cases e
   exact hnew
  ·rw[Qz hb]at e
   refine(I.hok b u e).QfE (λc v hc q=>k c v ?_ q) (λc q=>by rw[Qz (neT c _ q)];exact q) λc xs q=>by rw[Qz (neT c _ q)];exact q
   rcases hc with z | z
   ·rw[z];exact nch b u e
   ·exact nch c _ z
theorem Inv.turns{t':Nat}{ch:List Addr}(I:Inv X pins σ H s)(hf:∀b∈ch,Qde X pins H b)(k:∀b o,b∉ch->s.heap.get? b=some o->h'.get? b=some o):Inv X pins σ H {s with heap:=h',toks:=t'}:=by
 have nch:∀b u,H b=some u->b∉ch:=λb u e hb=>by rw[(hf b hb).1]at e;cases e
 refine I.step (g':=s.gens) (d':=s.drawn) (ch:=ch) (λb hb=>?_) (λb o _ _ hc e _=>k b o hc e) (λb o _ _ hc e _=>⟨o.slots,k b o hc e⟩) (λb o _ e n=>n)
  (λb o hc e=>⟨o,k b o hc e⟩) (λb xs e=>e) (λb o u e=>e) (λb ps e=>⟨#[],by rw[e];simp⟩) (λm hm=>?_) (λb u e=>?_) I.bare
 ·obtain⟨f0,f1,f2,f3,f4,f5⟩:=hf b hb
  exact⟨f3,f1,f4,f5⟩
 ·obtain⟨o,es,ep,ho,r⟩:=hm
  exact⟨o,es,ep,k _ o (λz=>(hf _ z).2.1 rfl) ho,r⟩
 ·refine(I.hok b u e).QfE (λc v hc q=>k c v ?_ q) (λc q=>q) λc xs q=>q
  rcases hc with z | z
  ·rw[z];exact nch b u e
  ·exact nch c _ z
end
noncomputable def Ite(K:PySem.W.Frag)(a:Addr):It:=
 ⟨λi H=>∃xs x,SqL K H a xs/\xs[i]? =some x,λi H v H'=>∃p x,v= .ref p/\H p=none/\H'=upd H p (.tup [.int i,x])/\∀xs,SqL K H a xs->xs[i]? =some x,λi H=>∃xs,SqL K H a xs/\xs.length<=i⟩
theorem mm0{a:Addr}{l:List Addr}:a∈a::l:= .head _
theorem mm1{a b:Addr}{l:List Addr}:a∈b::a::l:= .tail _ mm0
theorem mm2{a b c:Addr}{l:List Addr}:a∈b::c::a::l:= .tail _ mm1
theorem mm3{a b c d:Addr}{l:List Addr}:a∈b::c::d::a::l:= .tail _ mm2
theorem mm4{a b c d e:Addr}{l:List Addr}:a∈b::c::d::e::a::l:= .tail _ mm3
theorem nmm{a b:Addr}{l:List Addr}(hb:b∉l)(ha:a∈l):b≠a:=λe=>hb (e▸ha)
theorem fa1{p:Addr->Prop}{a:Addr}{l:List Addr}(h:p a)(t:∀x∈l,p x):∀x∈a::l,p x:=List.forall_mem_cons.2 ⟨h,t⟩
def NL(h:Heap)(b:Addr):Prop:=∃o,h.get? b=some o/\o.cls≠ .type "list" /\∀v,o.data≠ .cell v
theorem NL.it{h:Heap}(q:h.IsListIter b l k):NL h b:=by
 obtain⟨o,ho,hc,hd⟩:=q
 exact⟨o,ho,by rw[hc];simp,λv z=>by rw[hd]at z;cases z⟩
theorem NL.zip(hz:IsZip h z T1 T2 x):NL h z:=⟨_,hz,by simp,λv z=>by cases z⟩
theorem NL.tup{h:Heap}(q:h.get? b=some {cls:= .type "tuple",data:= .seq a}):NL h b:=⟨_,q,by simp,λv z=>by cases z⟩
theorem NL.obj(n:NL h b):∃o,h.get? b=some o/\∀v,o.data≠ .cell v:=let ⟨o,e,_,v⟩:=n;⟨o,e,v⟩
theorem NL.ex(n:NL h b):∃o,h.get? b=some o:=let ⟨o,e,_⟩:=n;⟨o,e⟩
theorem NL.lt(n:NL h b):b<h.objs.size:=let ⟨_,e⟩:=n.ex;Zx e
theorem NL.apart{X:Cx}{H:Hp}{s:Shared}(n:NL s.heap b)(I:Inv X pins σ H s)(hn:H b=none)(hq:SqL X.K H l ys):l≠b:=λe=>by
 subst e
 rcases hq with(hq | ⟨_,hq⟩) | ⟨o',its,k,hk,hc',_⟩
 ·rw[hn]at hq;cases hq
 ·rw[hn]at hq;cases hq
 ·obtain⟨o,ho,hc,_⟩:=n
  rw[I.kIn l o' hk]at ho
  exact hc (Option.some.inj ho▸hc')
theorem Qof{P:Program}{w:World}{K:PySem.W.Frag}{es:List Expr}{tk:Nat}{tpos:Pos}(a e it:Addr)(hne:e≠it):Turn P w K (.Tuple es tk tpos) (Ite K a) [e,it] e (λi h=>∃old,IsEnum h e it (i:Int) old/\h.IsListIter it a i) where
 mem:=mm0
 obj:=λi h st b hb=>by
  obtain⟨old,he,hi⟩:=st
  exact(fa1 (p:=NL h) ⟨_,he,by simp,λv z=>by cases z⟩ (fa1 (.it hi) (List.forall_mem_nil _)) b hb).obj
 keep:=λi h h' st k=>by
  obtain⟨old,he,hi⟩:=st
  exact⟨old,k e mm0 _ he,hi.at (k it mm1)⟩
 item:=by
  intro X hP hw hK hc i pins s σ H E I hf st hg
  subst hP hw hK
  obtain⟨old,he,hi⟩:=st
  obtain⟨xs,x,hq,hx⟩:=hg
  obtain⟨its,rv,p,hz⟩:=I.list hq
  obtain⟨u,hu,ru⟩:=rv.get hx
  refine wpAny_pyNext_enum_item he hi p.isList (x:=u) (by simpa using hu) hne λh1 heo hi1 ht1 hz1 hk1=>?_
  refine⟨.ref s.heap.objs.size,rfl,wpAny_letOwnedTupleGo_enum heo λh2 he2 hs2=>?_⟩
  replace hs2:Heap.SameBut e h1 h2:=hs2
  have helt:e<s.heap.objs.size:=Zx he
  have hilt:it<s.heap.objs.size:=by obtain⟨o,ho,_⟩:=hi;exact Zx ho
  have ht2:IsTup h2 s.heap.objs.size [Value.int i s.toks,u].toArray:=⟨_,(hs2.2 _ (Nat.ne_of_gt helt)).trans ht1,rfl,_,rfl⟩
  have hi2:h2.IsListIter it a (i+1):=hi1.extBut hs2.extBut (Ne.symm hne)
  have kk:∀b o,b∉[e,it]->s.heap.get? b=some o->h2.get? b=some o:=λb o hb q=>by
   have h1:b≠e:=λz=>hb (by simp[z])
   have h2:b≠it:=λz=>hb (by simp[z])
   exact hs2.extBut b o h1 (hk1 b o h1 h2 q)
  refine⟨.ref s.heap.objs.size,upd H s.heap.objs.size (.tup [.int i,x]),I.QrI (t':=s.toks+1) hf kk (λb hb=>?_) (Zm _) ⟨by show 2<=sizeLine;decide,_,.cons ⟨_,rfl⟩ (.cons ru .nil),ht2⟩,rfl,
   ⟨_,x,rfl,I.hok.fresh (Zm _),rfl,λys hy=>by rw[I.Qfc hy hq];exact hx⟩,⟨u,?_,hi2⟩,λb hb=>?_⟩
  ·have hb:b=e∨b=it:=by simpa using hb
   rcases hb with rfl | rfl
   ·exact⟨_,he2⟩
   ·obtain⟨o,ho,_⟩:=hi2;exact⟨o,ho⟩
  ·have:((i+1:Nat):Int)=(i:Int)+1:=by push_cast;rfl
   rw[this];exact he2
  ·have hb':b=e∨b=it:=by simpa using hb
   have:b≠s.heap.objs.size:=by
    rcases hb' with rfl | rfl
    ·exact ZN helt
    ·exact ZN hilt
   rw[Qz this];exact(hf b hb).1
 done:=by
  intro X hP hw hK hc i pins s σ H E I hf st hg
  subst hP hw hK
  obtain⟨old,he,hi⟩:=st
  obtain⟨xs,hq,hx⟩:=hg
  obtain⟨its,rv,p,hz⟩:=I.list hq
  have hl:=rv.length
  refine wpAny_pyNext_enum_end (I.ok.hd hc) he hi p.isList (by simp;omega) λh1 eb=>⟨rfl,?_⟩
  exact I.turns (t':=s.toks) hf λb o hb q=>eb b o (λz=>hb (by simp[z])) q
 self:=λ_ _ _ _ _ st h=>by
  obtain⟨old,he,hi⟩:=st
  exact wpAny_pyIter_enum he h
section
noncomputable def QwC(K:PySem.W.Frag)(ta:TA):TI:=λσ H R=>ta σ H λvs H1=>∃a,vs=[.ref a]/\(∃xs,SqL K H1 a xs)/\R (Ite K a) H1
theorem Qs3{a:Expr}{ta:TA}{p pos:Pos}{es:List Expr}{tk:Nat}{tpos:Pos}(hg:Gl X "enumerate")(hm:X.mg "enumerate" =none)(ha:PA X [a] ta)(hs:starEach [a] X.env=[(false,eval a X.env)]):
  PI X (.Tuple es tk tpos) (.Call (.Name "enumerate" p) [a] [] pos) (QwC X.K ta):=by
 intro pins s σ H R I h
 refine Call_ (Qc3 I hg hm PyProof.Rows.boot_enumerate (Zaa (thn (ha pos pins s σ H _ I h) λus s1 ⟨vs,H1,I1,r1,q1⟩=>?_) hs rfl))
 obtain⟨l,e,⟨xs,hq⟩,q⟩:=q1
 subst e
 obtain⟨u,rfl,ru⟩:=vals1 r1
 cases ru
 obtain⟨its,rv,pl,hz⟩:=I1.list hq
 refine call_enumerate_list pl.isList λh2 he2 hi2 hz2 hk2=>?_
 have I2:Inv X pins σ H1 {s1 with heap:=h2}:=I1.kept (t':=s1.toks) hk2
 refine wpAny_pyIter_enum he2 ⟨_,[s1.heap.objs.size+1,s1.heap.objs.size],_,_,H1,rfl,I2,Qof l _ _ (Nat.succ_ne_self _),⟨_,he2,hi2⟩,λb hb=>?_,q⟩
 have hb:b=s1.heap.objs.size+1∨b=s1.heap.objs.size:=by simpa using hb
 have hle:s1.heap.objs.size<=b:=by rcases hb with rfl | rfl<;>omega
 exact I1.Qg6 hle (I1.hok.fresh hle)
end
noncomputable def Itz(K:PySem.W.Frag)(a b:Addr):It:=
 ⟨λi H=>∃xs ys x y,SqL K H a xs/\SqL K H b ys/\xs[i]? =some x/\ys[i]? =some y,λi H v H'=>∃p x y,v= .ref p/\H p=none/\H'=upd H p (.tup [x,y])/\(∀xs,SqL K H a xs->xs[i]? =some x)/\∀ys,SqL K H b ys->ys[i]? =some y,
  λi H=>∃xs ys,SqL K H a xs/\SqL K H b ys/\(xs.length<=i∨ys.length<=i)⟩
structure QmF (z TI TO i1 i2:Addr):Prop where
 a:TI≠z
 b:TO≠z
 c:i1≠z
 d:i2≠z
 e:TI≠TO
 f:TI≠i1
 g:TI≠i2
 h:TO≠i1
 i:TO≠i2
 j:i1≠i2
theorem Qik{h:Heap}(hz:IsZip h z T1 T2 x)(hA:IsPair h T1 a b)(hB:IsPair h T2 c d)(h1:h.IsListIter i1 l1 k)(h2:h.IsListIter i2 l2 k):∀b∈[z,T1,T2,i1,i2],NL h b:=
 fa1 (.zip hz) (fa1 (.tup hA) (fa1 (.tup hB) (fa1 (.it h1) (fa1 (.it h2) λ_ h=>nomatch h))))
theorem QoK{X:Cx}{s:Shared}(D:QmF z T1 T2 i1 i2)(I:Inv X pins σ H s)(hf:∀b∈[z,T1,T2,i1,i2],Qde X pins H b)(O:∀b∈[z,T1,T2,i1,i2],NL s.heap b)(hq1:SqL X.K H l1 xs)(hq2:SqL X.K H l2 ys):ZipApart z T1 T2 i1 i2 l1 l2:=by
 have A1:=λb hb=>(O b hb).apart I (hf b hb).1 hq1
 have A2:=λb hb=>(O b hb).apart I (hf b hb).1 hq2
 exact⟨D.a,D.b,D.c,D.d,D.e,D.f,D.g,D.h,D.i,D.j,A1 z mm0,A1 T2 mm2,A1 i1 mm3,A1 i2 mm4,A2 z mm0,A2 T2 mm2,A2 i1 mm3,A2 i2 mm4⟩
theorem Qp9{P:Program}{w:World}{K:PySem.W.Frag}{es:List Expr}{tk:Nat}{tpos:Pos}(l1 l2 z TI TO i1 i2:Addr)(D:QmF z TI TO i1 i2):
  Turn P w K (.Tuple es tk tpos) (Itz K l1 l2) [z,TI,TO,i1,i2] z (λi h=>IsZip h z TI TO .none/\IsPair h TI (.ref i1) (.ref i2)/\(∃a b,IsPair h TO a b)/\h.IsListIter i1 l1 i/\h.IsListIter i2 l2 i) where
 mem:=mm0
 obj:=λi h st b hb=>by
  obtain⟨hz,hTI,⟨p,q,hTO⟩,h1,h2⟩:=st
  exact(Qik hz hTI hTO h1 h2 b hb).obj
 keep:=λi h h' st k=>by
  obtain⟨hz,hTI,⟨p,q,hTO⟩,h1,h2⟩:=st
  exact⟨k z mm0 _ hz,k TI mm1 _ hTI,⟨p,q,k TO mm2 _ hTO⟩,h1.at (k i1 mm3),h2.at (k i2 mm4)⟩
 item:=by
  intro X hP hw hK hc i pins s σ H E I hf st hg
  subst hP hw hK
  obtain⟨hz,hTI,⟨a0,b0,hTO⟩,h1,h2⟩:=st
  obtain⟨xs,ys,x,y,hq1,hq2,hx,hy⟩:=hg
  obtain⟨its,rv,p,hzz⟩:=I.list hq1
  obtain⟨its2,rv2,p2,hzz2⟩:=I.list hq2
  obtain⟨u,hu,ru⟩:=rv.get hx
  obtain⟨u2,hu2,ru2⟩:=rv2.get hy
  have O:=Qik hz hTI hTO h1 h2
  refine wpAny_pyNext_zip_item (QoK D I hf O hq1 hq2) hz hTI hTO h1 h2 p.isList p2.isList (x:=u) (y:=u2) (by simpa using hu) (by simpa using hu2) λh3 z3 TO3 a3 b3 T3 sz3 k3=>?_
  refine⟨.ref s.heap.objs.size,rfl,wpAny_letOwnedTupleGo_zip z3 λh4 z4 hs4=>?_⟩
  replace hs4:Heap.SameBut z h3 h4:=hs4
  have kk:∀b o,b∉[z,TI,TO,i1,i2]->s.heap.get? b=some o->h4.get? b=some o:=λb o hb q=>
   hs4.extBut b o (nmm hb mm0) (k3 b o (nmm hb mm0) (nmm hb mm2) (nmm hb mm3) (nmm hb mm4) q)
  have TI4:IsPair h4 TI (.ref i1) (.ref i2):=hs4.extBut _ _ D.a (k3 _ _ D.a D.e D.f D.g hTI)
  have TO4:IsPair h4 TO u u2:=hs4.extBut _ _ D.b TO3
  have a4:h4.IsListIter i1 l1 (i+1):=a3.extBut hs4.extBut D.c
  have b4:h4.IsListIter i2 l2 (i+1):=b3.extBut hs4.extBut D.d
  exact⟨.ref s.heap.objs.size,upd H s.heap.objs.size (.tup [x,y]),I.QrI (t':=s.toks) hf kk (λb hb=>(Qik z4 TI4 TO4 a4 b4 b hb).ex) (Zm _) ⟨by show 2<=sizeLine;decide,_,.cons ru (.cons ru2 .nil),_,(hs4.2 _ (Nat.ne_of_gt (O z mm0).lt)).trans T3,rfl,_,rfl⟩,rfl,
   ⟨_,x,y,rfl,I.hok.fresh (Zm _),rfl,λzs hy'=>by rw[I.Qfc hy' hq1];exact hx,λzs hy'=>by rw[I.Qfc hy' hq2];exact hy⟩,⟨z4,TI4,⟨_,_,TO4⟩,a4,b4⟩,λb hb=>by rw[Qz (ZN (O b hb).lt)];exact(hf b hb).1⟩
 done:=by
  intro X hP hw hK hc i pins s σ H E I hf st hg
  subst hP hw hK
  obtain⟨hz,hTI,⟨a0,b0,hTO⟩,h1,h2⟩:=st
  obtain⟨xs,ys,hq1,hq2,hx⟩:=hg
  obtain⟨its,rv,p,hzz⟩:=I.list hq1
  obtain⟨its2,rv2,p2,hzz2⟩:=I.list hq2
  have hl:=rv.length
  have hl2:=rv2.length
  refine wpAny_pyNext_zip_end (I.ok.hd hc) (QoK D I hf (Qik hz hTI hTO h1 h2) hq1 hq2) hz hTI hTO h1 h2 p.isList p2.isList (by rcases hx with hx | hx;(left;simp;omega);(right;simp;omega)) λh3 k3=>⟨rfl,?_⟩
  exact I.turns (t':=s.toks) hf λb o hb q=>k3 b o (nmm hb mm0) (nmm hb mm2) (nmm hb mm3) (nmm hb mm4) q
 self:=λ_ _ _ _ _ st h=>wpAny_pyIter_zip st.1 h
section
noncomputable def Qxq(K:PySem.W.Frag)(ta:TA):TI:=λσ H R=>ta σ H λvs H1=>∃a b,vs=[.ref a,.ref b]/\(∃xs,SqL K H1 a xs)/\(∃ys,SqL K H1 b ys)/\R (Itz K a b) H1
theorem QvE{a b:Expr}{ta:TA}{p pos:Pos}{es:List Expr}{tk:Nat}{tpos:Pos}(hg:Gl X "zip")(hm:X.mg "zip" =none)(ha:PA X [a,b] ta)(hs:starEach [a,b] X.env=[(false,eval a X.env),(false,eval b X.env)])(hs2:starEach [b] X.env=[(false,eval b X.env)]):
  PI X (.Tuple es tk tpos) (.Call (.Name "zip" p) [a,b] [] pos) (Qxq X.K ta):=by
 intro pins s σ H R I h
 refine Call_ (Qc3 I hg hm PyProof.Rows.boot_zip (Zaa (thn (ha pos pins s σ H _ I h) λus s1 ⟨vs,H1,I1,r1,q1⟩=>?_) (by rw[hs,hs2]) (by rw[hs2];rfl)))
 obtain⟨l,l2,e,⟨xs,hq⟩,⟨ys,hq2⟩,q⟩:=q1
 subst e
 obtain⟨u,u2,rfl,ru,ru2⟩:=vals2 r1
 cases ru
 cases ru2
 obtain⟨its,rv,pl,hz⟩:=I1.list hq
 obtain⟨its2,rv2,pl2,hz2⟩:=I1.list hq2
 refine call_zip_2 pl.isList pl2.isList λh2 hz hTI hTO h1 h2' hsz hk2=>?_
 have I2:Inv X pins σ H1 {s1 with heap:=h2}:=I1.kept (t':=s1.toks) hk2
 refine wpAny_pyIter_zip hz ⟨_,[s1.heap.objs.size+4,s1.heap.objs.size+2,s1.heap.objs.size+3,s1.heap.objs.size,s1.heap.objs.size+1],_,_,H1,rfl,I2,Qp9 l l2 _ _ _ _ _ ⟨?_,?_,?_,?_,?_,?_,?_,?_,?_,?_⟩,⟨hz,hTI,⟨_,_,hTO⟩,h1,h2'⟩,λb hb=>?_,q⟩
 iterate 10 (exact(by intro e;first | (have e':(s1.heap.objs.size:Nat)+_=_:=e;omega) | (have e':(s1.heap.objs.size:Nat)=_:=e;omega)))
 have hle:s1.heap.objs.size<=b:=by
  simp only[Zo,ZbI,or_false]at hb
  rcases hb with rfl | rfl | rfl | rfl | rfl<;>first | exact Zm _ | exact Nat.le_add_right _ _
 exact I1.Qg6 hle (I1.hok.fresh hle)
end
end L2
namespace L2
open PySem PySem.Spec
section
variable {prog:Program}{w:World}{A:Around}{E:Value->Shared->Prop}{s:Shared}
structure Six (z TI TO i1 i2 i3:Addr):Prop where
 TIz:TI≠z
 TOz:TO≠z
 i1z:i1≠z
 i2z:i2≠z
 i3z:i3≠z
 TITO:TI≠TO
 TIi1:TI≠i1
 TIi2:TI≠i2
 TIi3:TI≠i3
 TOi1:TO≠i1
 TOi2:TO≠i2
 TOi3:TO≠i3
 i12:i1≠i2
 i13:i1≠i3
 i23:i2≠i3
end
section
variable {prog:Program}{w:World}{A:Around}{E:Value->Shared->Prop}{s:Shared}
end
open PyProof.Rows
section
end
end L2
namespace HS
open PySem PySem.Spec PyProof.Rows L2
inductive Ob where
 | ins (x:Str) (ns:List Str) | pin (a:Addr) | pair
noncomputable def Ob.n:Ob->Nat
 | .ins _ _=>1
 | .pin _=>0
 | .pair=>0
inductive D where
 | non | bl (b:Bool) | int (i:Int) | str (x:Str) | tup (xs:List D) | lst (xs:List D) | exc (x:Str) | dk (ks:List (List Int))
 | obj (o:Ob) (xs:List D)
mutual
noncomputable def D.flat:D->Bool
 | .lst _=>false
 | .tup xs=>QB xs
 | .non=>true
 | .bl _=>true
 | .int _=>true
 | .str _=>true
 | .exc _=>true
 | .dk _=>false
 | .obj _ _=>false
noncomputable def QB:List D->Bool
 | []=>true
 | d::ds=>d.flat && QB ds
end
mutual
noncomputable def D.nl:D->Nat
 | .lst xs=>nls xs+1
 | .tup xs=>nls xs
 | .non=>0
 | .bl _=>0
 | .int _=>0
 | .str _=>0
 | .exc _=>0
 | .dk _=>1
 | .obj o xs=>nls xs+o.n
noncomputable def nls:List D->Nat
 | []=>0
 | d::ds=>d.nl+nls ds
end
mutual
theorem Qb0:∀(d:D),d.flat=true->d.nl=0
 | .non,_=>rfl
 | .bl _,_=>rfl
 | .int _,_=>rfl
 | .str _,_=>rfl
 | .exc _,_=>rfl
 | .dk _,h=>by simp[D.flat]at h
 | .obj _ _,h=>by simp[D.flat]at h
 | .tup xs,h=>by simp only[D.nl];simp only[D.flat]at h;exact Qft xs h
 | .lst xs,h=>by simp[D.flat]at h
theorem Qft:∀(ds:List D),QB ds=true->nls ds=0
 | [],_=>rfl
 | d::ds,h=>by simp only[QB,Zg]at h;simp only[nls,Qb0 d h.1,Qft ds h.2]
end
def Fix(K:PySem.W.Frag)(H:Hp)(a:Addr)(vs:List V):Prop:=
 (∃o,H a=some (.frz o (.lst vs)))∨
  ∃(its:List Value) (n:Nat),K.lookup a=some {cls:= .type "list",data:= .seq its.toArray n}/\vs.length<=sizeLine/\Qt vs its
def QxG(a C:Addr)(h:Heap):Prop:=∃o vs,h.get? a=some o/\o.cls= .ref C/\o.data= .fields vs
def ExcAt(K:PySem.W.Frag)(H:Hp)(a:Addr)(x:Str):Prop:=∃C,PySem.W.nsIn K mainGlobals x=some (some (.ref C))/\H a=some (.ext (QxG a C))
theorem QnB{K:PySem.W.Frag}{H H':Hp}{a:Addr}{x:Str}(s:Qw H H')(h:ExcAt K H a x):ExcAt K H' a x:=by
 obtain⟨C,h1,h2⟩:=h
 exact⟨C,h1,s _ _ h2⟩
theorem Qpl{K:PySem.W.Frag}{H:Hp}{a p:Addr}{x:Str}{zs ys:List V}(hp:H p=some (.lst zs))(h:ExcAt K H a x):ExcAt K (upd H p (.lst ys)) a x:=by
 obtain⟨C,h1,h2⟩:=h
 exact⟨C,h1,by rw[Qz (Qj3 h2 hp (by intro z;cases z))];exact h2⟩
noncomputable def dkC(ks:List (List Int)):List (List Key×V):=ks.map λk=>(k.map Sum.inl,V.bl true)
noncomputable def Qcd(K:PySem.W.Frag)(H:Hp)(v:V)(vs:List V)(A:List Addr):Ob->Prop
 | .ins x ns=>∃a C dx,v= .ref a/\A=[a]/\PySem.W.nsIn K mainGlobals x=some (some (.ref C))/\H a=some (.ins C dx (ns.zip vs))/\ns.length=vs.length
 | .pin a=>v= .ref a/\vs=[v]/\A=[]
 | .pair=>A=[]/\v≠ .non/\∃u,vs=[v,u]
theorem Qcd.same{K:PySem.W.Frag}{H H':Hp}{v:V}{vs:List V}{A:List Addr}(s:Qw H H'):∀{o:Ob},Qcd K H v vs A o->Qcd K H' v vs A o
 | .ins _ _,⟨a,C,dx,e1,e2,e3,e4,e5⟩=>⟨a,C,dx,e1,e2,e3,s _ _ e4,e5⟩
 | .pin _,h=>h
 | .pair,h=>h
theorem Qcd.upd{K:PySem.W.Frag}{H:Hp}{v:V}{vs:List V}{A:List Addr}{p:Addr}{u:HO}(hn:p∉A):∀{o:Ob},Qcd K H v vs A o->Qcd K (upd H p u) v vs A o
 | .ins _ _,⟨a,C,dx,e1,e2,e3,e4,e5⟩=>⟨a,C,dx,e1,e2,e3,by rw[Qz (λz=>hn (by rw[e2,← z];exact List.mem_singleton_self a))];exact e4,e5⟩
 | .pin _,h=>h
 | .pair,h=>h
theorem Qcd.mem{K:PySem.W.Frag}{H:Hp}{v:V}{vs:List V}{A:List Addr}:∀{o:Ob},Qcd K H v vs A o->∀a∈A,∃u,H a=some u
 | .ins _ _,⟨a,C,dx,e1,e2,e3,e4,e5⟩,b,hb=>by rw[e2]at hb;rw[Zl.mp hb];exact⟨_,e4⟩
 | .pin _,⟨_,_,e⟩,b,hb=>by rw[e]at hb;simp at hb
 | .pair,⟨e,_⟩,b,hb=>by rw[e]at hb;simp at hb
theorem Qcd.len{K:PySem.W.Frag}{H:Hp}{v:V}{vs:List V}{A:List Addr}:∀{o:Ob},Qcd K H v vs A o->A.length=o.n
 | .ins _ _,⟨a,C,dx,e1,e2,e3,e4,e5⟩=>by rw[e2];rfl
 | .pin _,⟨_,_,e⟩=>by rw[e];rfl
 | .pair,⟨e,_⟩=>by rw[e];rfl
theorem Qcd.ne{K:PySem.W.Frag}{H:Hp}{v:V}{vs:List V}{A:List Addr}:∀{o:Ob},Qcd K H v vs A o->v≠ .non
 | .ins _ _,⟨a,C,dx,e1,_⟩=>by rw[e1];exact V.noConfusion
 | .pin _,⟨e,_,_⟩=>by rw[e];exact V.noConfusion
 | .pair,⟨_,h,_⟩=>h
mutual
noncomputable def Rp(K:PySem.W.Frag)(H:Hp):D->V->List Addr->Prop
 | .non,v,F=>v= .non/\F=[]
 | .bl b,v,F=>v= .bl b/\F=[]
 | .int i,v,F=>v= .int i/\F=[]
 | .str x,v,F=>v= .str x/\F=[]
 | .exc x,v,F=>(∃a,v= .ref a/\ExcAt K H a x)/\F=[]
 | .dk ks,v,F=>∃a,v= .ref a/\F=[a]/\H a=some (.dT (dkC ks))
 | .obj o ds,v,F=>∃vs A G,F=A++G/\Qcd K H v vs A o/\Rps K H ds vs G
 | .tup ds,v,F=>∃a vs,v= .ref a/\SqT K H a vs/\Rps K H ds vs F
 | .lst ds,v,F=>ds.length<=sizeLine/\∃a vs,v= .ref a/\((∃G,F=a::G/\H a=some (.lst vs)/\Rps K H ds vs G)∨(Fix K H a vs/\Rps K H ds vs F))
noncomputable def Rps(K:PySem.W.Frag)(H:Hp):List D->List V->List Addr->Prop
 | [],vs,F=>vs=[]/\F=[]
 | d::ds,vs,F=>∃v ws F1 F2,vs=v::ws/\F=F1++F2/\Rp K H d v F1/\Rps K H ds ws F2
end
theorem Qlh{K:PySem.W.Frag}{H H':Hp}{a:Addr}{vs:List V}(s:Qw H H')(h:SqT K H a vs):SqT K H' a vs:=by
 rcases h with(h | ⟨o,h⟩) | h
 ·exact .inl (.inl (s _ _ h))
 ·exact .inl (.inr ⟨o,s _ _ h⟩)
 ·exact .inr h
theorem QgY{K:PySem.W.Frag}{H H':Hp}{a:Addr}{vs:List V}(s:Qw H H')(h:Fix K H a vs):Fix K H' a vs:=by
 rcases h with⟨o,h⟩ | h
 ·exact .inl ⟨o,s _ _ h⟩
 ·exact .inr h
theorem Qms{K:PySem.W.Frag}{H:Hp}{a p:Addr}{vs zs ys:List V}(hp:H p=some (.lst zs))(h:SqT K H a vs):SqT K (upd H p (.lst ys)) a vs:=by
 rcases h with(h | ⟨o,h⟩) | h
 ·exact .inl (.inl (by rw[Qz (Qj3 h hp (by intro z;cases z))];exact h))
 ·exact .inl (.inr ⟨o,by rw[Qz (Qj3 h hp (by intro z;cases z))];exact h⟩)
 ·exact .inr h
theorem Qtx{K:PySem.W.Frag}{H:Hp}{a p:Addr}{vs zs ys:List V}(hp:H p=some (.lst zs))(h:Fix K H a vs):Fix K (upd H p (.lst ys)) a vs:=by
 rcases h with⟨o,h⟩ | h
 ·exact .inl ⟨o,by rw[Qz (Qj3 h hp (by intro z;cases z))];exact h⟩
 ·exact .inr h
section
variable {K:PySem.W.Frag}{H H':Hp}
mutual
theorem Rp.same(s:Qw H H'):∀{d:D}{v:V}{F:List Addr},Rp K H d v F->Rp K H' d v F
 | .exc _,_,_,h=>by
  simp only[Rp]at h ⊢
  obtain⟨⟨a,e,q⟩,z⟩:=h
  exact⟨⟨a,e,QnB s q⟩,z⟩
 | .dk _,_,_,h=>by
  simp only[Rp]at h ⊢
  obtain⟨a,e,eF,q⟩:=h
  exact⟨a,e,eF,s _ _ q⟩
 | .obj _ _,_,_,h=>by
  simp only[Rp]at h ⊢
  obtain⟨vs,A,G,eF,q,r⟩:=h
  exact⟨vs,A,G,eF,q.same s,Rps.same s r⟩
 | .non,_,_,h=>h
 | .bl _,_,_,h=>h
 | .int _,_,_,h=>h
 | .str _,_,_,h=>h
 | .tup ds,_,_,h=>by
  simp only[Rp]at h ⊢
  obtain⟨a,vs,e,q,r⟩:=h
  exact⟨a,vs,e,Qlh s q,Rps.same s r⟩
 | .lst ds,_,_,h=>by
  simp only[Rp]at h ⊢
  obtain⟨hz,a,vs,e,⟨G,eF,q,r⟩ | ⟨q,r⟩⟩:=h
  ·exact⟨hz,a,vs,e,.inl ⟨G,eF,s _ _ q,Rps.same s r⟩⟩
  ·exact⟨hz,a,vs,e,.inr ⟨QgY s q,Rps.same s r⟩⟩
theorem Rps.same(s:Qw H H'):∀{ds:List D}{vs:List V}{F:List Addr},Rps K H ds vs F->Rps K H' ds vs F
 | [],_,_,h=>h
 | d::ds,_,_,h=>by
  simp only[Rps]at h ⊢
  obtain⟨v,ws,F1,F2,e,eF,r,q⟩:=h
  exact⟨v,ws,F1,F2,e,eF,Rp.same s r,Rps.same s q⟩
end
mutual
theorem Rp.upd{p:Addr}{zs ys:List V}(hp:H p=some (.lst zs)):∀{d:D}{v:V}{F:List Addr},Rp K H d v F->p∉F->Rp K (upd H p (.lst ys)) d v F
 | .exc _,_,_,h,_=>by
  simp only[Rp]at h ⊢
  obtain⟨⟨a,e,q⟩,z⟩:=h
  exact⟨⟨a,e,Qpl hp q⟩,z⟩
 | .dk _,_,_,h,hn=>by
  simp only[Rp]at h ⊢
  obtain⟨a,e,eF,q⟩:=h
  subst eF
  exact⟨a,e,rfl,by rw[Qz (λz=>hn (by rw[z];exact Zf))];exact q⟩
 | .obj _ _,_,_,h,hn=>by
  simp only[Rp]at h ⊢
  obtain⟨vs,A,G,eF,q,r⟩:=h
  subst eF
  exact⟨vs,A,G,rfl,q.upd λz=>hn (Zh _ z),Rps.upd hp r λz=>hn (Ze _ z)⟩
 | .non,_,_,h,_=>h
 | .bl _,_,_,h,_=>h
 | .int _,_,_,h,_=>h
 | .str _,_,_,h,_=>h
 | .tup ds,_,_,h,hn=>by
  simp only[Rp]at h ⊢
  obtain⟨a,vs,e,q,r⟩:=h
  exact⟨a,vs,e,Qms hp q,Rps.upd hp r hn⟩
 | .lst ds,_,_,h,hn=>by
  simp only[Rp]at h ⊢
  obtain⟨hz,a,vs,e,⟨G,eF,q,r⟩ | ⟨q,r⟩⟩:=h
  ·subst eF
   have h1:a≠p:=λz=>hn (by rw[z];exact Zf)
   exact⟨hz,a,vs,e,.inl ⟨G,rfl,by rw[Qz h1];exact q,Rps.upd hp r λz=>hn (Zb _ z)⟩⟩
  ·exact⟨hz,a,vs,e,.inr ⟨Qtx hp q,Rps.upd hp r hn⟩⟩
theorem Rps.upd{p:Addr}{zs ys:List V}(hp:H p=some (.lst zs)):∀{ds:List D}{vs:List V}{F:List Addr},Rps K H ds vs F->p∉F->Rps K (upd H p (.lst ys)) ds vs F
 | [],_,_,h,_=>h
 | d::ds,_,_,h,hn=>by
  simp only[Rps]at h ⊢
  obtain⟨v,ws,F1,F2,e,eF,r,q⟩:=h
  subst eF
  exact⟨v,ws,F1,F2,e,rfl,Rp.upd hp r λz=>hn (Zh _ z),Rps.upd hp q λz=>hn (Ze _ z)⟩
end
mutual
theorem Rp.mem:∀{d:D}{v:V}{F:List Addr},Rp K H d v F->∀a∈F,∃u,H a=some u
 | .non,_,_,h,a,ha=>by simp only[Rp]at h;rw[h.2]at ha;simp at ha
 | .bl _,_,_,h,a,ha=>by simp only[Rp]at h;rw[h.2]at ha;simp at ha
 | .int _,_,_,h,a,ha=>by simp only[Rp]at h;rw[h.2]at ha;simp at ha
 | .str _,_,_,h,a,ha=>by simp only[Rp]at h;rw[h.2]at ha;simp at ha
 | .exc _,_,_,h,a,ha=>by simp only[Rp]at h;rw[h.2]at ha;simp at ha
 | .dk _,_,_,h,a,ha=>by simp only[Rp]at h;obtain⟨b,e,eF,q⟩:=h;subst eF;rw[Zl.mp ha];exact⟨_,q⟩
 | .obj _ _,_,_,h,a,ha=>by
  simp only[Rp]at h
  obtain⟨vs,A,G,eF,q,r⟩:=h
  subst eF
  rcases Zr.mp ha with z | z
  ·exact q.mem a z
  ·exact Rps.mem r a z
 | .tup ds,_,_,h,a,ha=>by
  simp only[Rp]at h
  obtain⟨_,vs,e,q,r⟩:=h
  exact Rps.mem r a ha
 | .lst ds,_,_,h,a,ha=>by
  simp only[Rp]at h
  obtain⟨_,b,vs,e,⟨G,eF,q,r⟩ | ⟨q,r⟩⟩:=h
  ·subst eF
   rcases Zo.mp ha with z | z
   ·exact⟨_,by rw[z];exact q⟩
   ·exact Rps.mem r a z
  ·exact Rps.mem r a ha
theorem Rps.mem:∀{ds:List D}{vs:List V}{F:List Addr},Rps K H ds vs F->∀a∈F,∃u,H a=some u
 | [],_,_,h,a,ha=>by simp only[Rps]at h;rw[h.2]at ha;simp at ha
 | d::ds,_,_,h,a,ha=>by
  simp only[Rps]at h
  obtain⟨v,ws,F1,F2,e,eF,r,q⟩:=h
  subst eF
  rcases Zr.mp ha with z | z
  ·exact Rp.mem r a z
  ·exact Rps.mem q a z
end
mutual
theorem Rp.Qa7:∀{d:D}{v:V}{F:List Addr},Rp K H d v F->d.flat=true->F=[]
 | .non,_,_,h,_=>by simp only[Rp]at h;exact h.2
 | .bl _,_,_,h,_=>by simp only[Rp]at h;exact h.2
 | .int _,_,_,h,_=>by simp only[Rp]at h;exact h.2
 | .str _,_,_,h,_=>by simp only[Rp]at h;exact h.2
 | .exc _,_,_,h,_=>by simp only[Rp]at h;exact h.2
 | .dk _,_,_,h,hf=>by simp[D.flat]at hf
 | .obj _ _,_,_,h,hf=>by simp[D.flat]at hf
 | .tup ds,_,_,h,hf=>by
  simp only[Rp]at h
  simp only[D.flat]at hf
  obtain⟨_,vs,e,q,r⟩:=h
  exact Rps.Qa7 r hf
 | .lst ds,_,_,h,hf=>by simp[D.flat]at hf
theorem Rps.Qa7:∀{ds:List D}{vs:List V}{F:List Addr},Rps K H ds vs F->QB ds=true->F=[]
 | [],_,_,h,_=>by simp only[Rps]at h;exact h.2
 | d::ds,_,_,h,hf=>by
  simp only[Rps]at h
  simp only[QB,Zg]at hf
  obtain⟨v,ws,F1,F2,e,eF,r,q⟩:=h
  rw[eF,Rp.Qa7 r hf.1,Rps.Qa7 q hf.2];rfl
end
mutual
theorem Rp.Q8:∀{d:D}{v:V}{F:List Addr},Rp K H d v F->F.length<=d.nl
 | .non,_,_,h=>by simp only[Rp]at h;rw[h.2];exact Zaf _
 | .bl _,_,_,h=>by simp only[Rp]at h;rw[h.2];exact Zaf _
 | .int _,_,_,h=>by simp only[Rp]at h;rw[h.2];exact Zaf _
 | .str _,_,_,h=>by simp only[Rp]at h;rw[h.2];exact Zaf _
 | .exc _,_,_,h=>by simp only[Rp]at h;rw[h.2];exact Zaf _
 | .dk _,_,_,h=>by simp only[Rp]at h;obtain⟨b,e,eF,q⟩:=h;subst eF;exact Zm _
 | .obj _ _,_,_,h=>by
  simp only[Rp]at h
  obtain⟨vs,A,G,eF,q,r⟩:=h
  rw[eF,Zp,q.len]
  simp only[D.nl]
  have:=Rps.Q8 r
  omega
 | .tup ds,_,_,h=>by
  simp only[Rp]at h
  obtain⟨_,vs,e,q,r⟩:=h
  simp only[D.nl]
  exact Rps.Q8 r
 | .lst ds,_,_,h=>by
  simp only[Rp]at h
  simp only[D.nl]
  obtain⟨_,b,vs,e,⟨G,eF,q,r⟩ | ⟨q,r⟩⟩:=h
  ·rw[eF,Zk];have:=Rps.Q8 r;omega
  ·have:=Rps.Q8 r;omega
theorem Rps.Q8:∀{ds:List D}{vs:List V}{F:List Addr},Rps K H ds vs F->F.length<=nls ds
 | [],_,_,h=>by simp only[Rps]at h;rw[h.2];exact Zaf _
 | d::ds,_,_,h=>by
  simp only[Rps]at h
  obtain⟨v,ws,F1,F2,e,eF,r,q⟩:=h
  simp only[nls]
  rw[eF,Zp]
  have:=Rp.Q8 r
  have:=Rps.Q8 q
  omega
end
theorem Rps.length:∀{ds:List D}{vs:List V}{F:List Addr},Rps K H ds vs F->ds.length=vs.length
 | [],_,_,h=>by simp only[Rps]at h;rw[h.1];rfl
 | d::ds,_,_,h=>by
  simp only[Rps]at h
  obtain⟨v,ws,F1,F2,e,eF,r,q⟩:=h
  rw[e,Zk,Zk,Rps.length q]
theorem Rps.append:∀{ds es:List D}{vs ws:List V}{F G:List Addr},Rps K H ds vs F->Rps K H es ws G->Rps K H (ds++es) (vs++ws) (F++G)
 | [],_,_,_,_,_,h,g=>by simp only[Rps]at h;rw[h.1,h.2];exact g
 | d::ds,_,_,_,_,_,h,g=>by
  simp only[Rps,Zbi]at h ⊢
  obtain⟨v,ws,F1,F2,e,eF,r,q⟩:=h
  subst e eF
  exact⟨v,_,F1,_,rfl,by rw[ZaH],r,Rps.append q g⟩
theorem Rps.get:∀{ds:List D}{vs:List V}{F:List Addr}{i:Nat}{d:D},Rps K H ds vs F->ds[i]? =some d->∃v F1 G F2,vs[i]? =some v/\F=F1++(G++F2)/\Rp K H d v G/\(F.length=nls ds->G.length=d.nl)
 | [],_,_,_,_,_,e=>by simp at e
 | d::ds,_,_,0,_,h,e=>by
  simp only[Rps]at h
  obtain⟨v,ws,F1,F2,e1,eF,r,q⟩:=h
  simp at e;subst e e1 eF
  refine⟨v,[],F1,F2,by simp,rfl,r,λhl=>?_⟩
  simp only[nls,Zp]at hl
  have:=Rp.Q8 r
  have:=Rps.Q8 q
  omega
 | d::ds,_,_,i+1,_,h,e=>by
  simp only[Rps]at h
  obtain⟨v,ws,F1,F2,e1,eF,r,q⟩:=h
  obtain⟨v',G1,G,G2,h1,h2,h3,h4⟩:=Rps.get q (by simpa using e)
  have l1:=Rp.Q8 r
  have l2:=Rps.Q8 q
  subst e1 eF
  refine⟨v',F1++G1,G,G2,by simpa using h1,by rw[h2,ZaH],h3,λhl=>h4 ?_⟩
  simp only[nls,Zp]at hl
  omega
theorem Fix.sq{K:PySem.W.Frag}{H:Hp}{a:Addr}{vs:List V}(h:Fix K H a vs):SqL K H a vs:=by
 rcases h with⟨o,h⟩ | ⟨its,n,h,hz,r⟩
 ·exact .inl (.inr ⟨o,h⟩)
 ·exact .inr ⟨_,its.toArray,n,h,rfl,rfl,rfl,by rw[Zw,← r.length];exact hz,by simpa using r⟩
theorem _root_.L2.Inv.Qkw(I:Inv X pins σ H s)(h:H a=some (.lst vs)∨Fix X.K H a vs):
  vs.length<=sizeLine/\∃(its:List Value) (n:Nat),Qt vs its/\vs.length=its.length/\s.heap.get? a=some {cls:= .type "list",data:= .seq its.toArray n}:=by
 rcases h with h | ⟨o,h⟩ | ⟨its,n,h,hz,r⟩
 ·exact I.QmL h
 ·obtain⟨e,hz,its,n,r,e2⟩:=I.hok a _ h
  exact⟨hz,its,n,r,r.length,e2⟩
 ·exact⟨hz,its,n,r,r.length,I.kIn _ _ h⟩
theorem Rp.lst_inv{K:PySem.W.Frag}{H:Hp}{ds:List D}{v:V}{F:List Addr}(h:Rp K H (.lst ds) v F):
  ∃a vs G,v= .ref a/\(H a=some (.lst vs)∨Fix K H a vs)/\Rps K H ds vs G/\ds.length<=sizeLine/\(F=a::G∨F=G):=by
 simp only[Rp]at h
 obtain⟨hz,a,vs,e,⟨G,eF,q,r⟩ | ⟨q,r⟩⟩:=h
 ·exact⟨a,vs,G,e,.inl q,r,hz,.inl eF⟩
 ·exact⟨a,vs,F,e,.inr q,r,hz,.inr rfl⟩
theorem QT{K:PySem.W.Frag}{H:Hp}{a:Addr}{vs:List V}(h:H a=some (.lst vs)∨Fix K H a vs):SqL K H a vs:=h.elim (λh=>SqL.of h) Fix.sq
theorem Rp.QaC{K:PySem.W.Frag}{H:Hp}{ds:List D}{v:V}{F:List Addr}(h:Rp K H (.tup ds) v F):∃a vs,v= .ref a/\SqT K H a vs/\Rps K H ds vs F:=by
 simp only[Rp]at h
 exact h
theorem Rp.QeU{K:PySem.W.Frag}{H:Hp}{ds:List D}{a:Addr}{vs:List V}{G:List Addr}(h:H a=some (.lst vs))(r:Rps K H ds vs G)(hz:ds.length<=sizeLine):Rp K H (.lst ds) (.ref a) (a::G):=by
 simp only[Rp]
 exact⟨hz,a,vs,rfl,.inl ⟨G,rfl,h,r⟩⟩
theorem Rp.QhV{K:PySem.W.Frag}{H:Hp}{ds:List D}{a:Addr}{vs:List V}{G:List Addr}(h:H a=some (.tup vs))(r:Rps K H ds vs G):Rp K H (.tup ds) (.ref a) G:=by
 simp only[Rp]
 exact⟨a,vs,rfl,SqT.of h,r⟩
theorem Rp.int_inv{K:PySem.W.Frag}{H:Hp}{i:Int}{v:V}{F:List Addr}(h:Rp K H (.int i) v F):v= .int i:=by simp only[Rp]at h;exact h.1
theorem Rp.QeV{K:PySem.W.Frag}{H:Hp}{i:Bool}{v:V}{F:List Addr}(h:Rp K H (.bl i) v F):v= .bl i:=by simp only[Rp]at h;exact h.1
theorem Rp.QeS{K:PySem.W.Frag}{H:Hp}{v:V}{F:List Addr}(h:Rp K H .non v F):v= .non:=by simp only[Rp]at h;exact h.1
theorem Rp.str_inv{K:PySem.W.Frag}{H:Hp}{i:Str}{v:V}{F:List Addr}(h:Rp K H (.str i) v F):v= .str i:=by simp only[Rp]at h;exact h.1
theorem Rp.int_mk{K:PySem.W.Frag}{H:Hp}{i:Int}:Rp K H (.int i) (.int i) []:=by simp[Rp]
theorem Rp.Qcw{K:PySem.W.Frag}{H:Hp}{i:Bool}:Rp K H (.bl i) (.bl i) []:=by simp[Rp]
theorem Rp.Qf3{K:PySem.W.Frag}{H:Hp}:Rp K H .non .non []:=by simp[Rp]
theorem Rp.str_mk{K:PySem.W.Frag}{H:Hp}{i:Str}:Rp K H (.str i) (.str i) []:=by simp[Rp]
theorem QaN(h:H p=none):Qw H (L2.upd H p o):=λb u e=>by rw[Qz (Qbk e h)];exact e
end
end HS
namespace HS
open PySem PySem.Spec L2
noncomputable abbrev En:=List (Option (D×Bool))
structure R where
 d:D
 fr:Bool
 M:List Nat
structure RA where
 ds:List D
 fr:Bool
 M:List Nat
noncomputable abbrev DE:=En->Option R
noncomputable abbrev DA:=En->Option RA
noncomputable abbrev DT:=En->Option Bool
structure Rel (K:PySem.W.Frag) (H0:Hp) (A0:List Addr) (hs:List (V×D×List Addr)) (ρ:En) (F:Nat->List Addr) (σ:St) (H:Hp):Prop where
 len:ρ.length=σ.length
 val:∀(i:Nat) d b,ρ[i]? =some (some (d,b))->∃v,σ[i]? =some (some v)/\Rp K H d v (F i)
 own:∀(i:Nat) d,ρ[i]? =some (some (d,true))->(F i).length=d.nl/\(F i).Nodup/\(∀a∈F i,H0 a=none)/\(∀(j:Nat) d' b',j≠i->ρ[j]? =some (some (d',b'))->∀a∈F i,a∉F j)/\∀t∈hs,∀a∈F i,a∉t.2.2
 src:∀(i:Nat) d b,ρ[i]? =some (some (d,b))->∀a∈F i,H0 a=none∨a∈A0
 held:∀t∈hs,Rp K H t.2.1 t.1 t.2.2/\∀a∈t.2.2,H0 a=none∨a∈A0
 same:Qw H0 H
def Src(ρ:En)(F:Nat->List Addr)(H:Hp)(M:List Nat)(G:List Addr):Prop:=
 ∀a∈G,H a=none∨∃(i:Nat) (d:D) (b:Bool),ρ[i]? =some (some (d,b))/\a∈F i/\(b=true->i∈M)
noncomputable def nw(H:Hp)(a:Addr):Nat:=match H a with | none=>1 | some _=>0
def Cnt(F:Nat->List Addr)(H:Hp)(M:List Nat)(G:List Addr):Prop:=
 ∀a,G.count a<=nw H a+((M.map F).flatten).count a
def QaE(ρ:En)(M:List Nat):Prop:=∀i∈M,∃d,ρ[i]? =some (some (d,true))
structure QO (K:PySem.W.Frag) (ρ:En) (F:Nat->List Addr) (H H':Hp) (r:R) (v:V) (G:List Addr):Prop where
 same:Qw H H'
 rp:Rp K H' r.d v G
 src:Src ρ F H r.M G
 cnt:r.fr=true->Cnt F H r.M G/\G.length=r.d.nl
 own:QaE ρ r.M
structure Qww (K:PySem.W.Frag) (ρ:En) (F:Nat->List Addr) (H H':Hp) (r:RA) (vs:List V) (G:List Addr):Prop where
 same:Qw H H'
 rp:Rps K H' r.ds vs G
 src:Src ρ F H r.M G
 cnt:r.fr=true->Cnt F H r.M G/\G.length=nls r.ds
 own:QaE ρ r.M
noncomputable def tV(K:PySem.W.Frag)(H0:Hp)(A0:List Addr)(f:DE):TE:=λσ H Q=>∃ρ hs F r,Rel K H0 A0 hs ρ F σ H/\f ρ=some r/\∀v H' G,QO K ρ F H H' r v G->Q v H'
noncomputable def tVA(K:PySem.W.Frag)(H0:Hp)(A0:List Addr)(f:DA):TA:=λσ H Q=>∃ρ hs F r,Rel K H0 A0 hs ρ F σ H/\f ρ=some r/\∀v H' G,Qww K ρ F H H' r v G->Q v H'
noncomputable def tVT(K:PySem.W.Frag)(H0:Hp)(A0:List Addr)(f:DT):TT:=λσ H Q=>∃ρ hs F b,Rel K H0 A0 hs ρ F σ H/\f ρ=some b/\∀H',Qw H H'->Q b H'
def SE(X:Cx)(e:Expr)(f:DE):Prop:=∀H0 A0,PE X e (tV X.K H0 A0 f)
def SA(X:Cx)(es:List Expr)(f:DA):Prop:=∀H0 A0,PA X es (tVA X.K H0 A0 f)
def ST(X:Cx)(e:Expr)(f:DT):Prop:=∀H0 A0,PT X e (tVT X.K H0 A0 f)
theorem _root_.L2.PE.mono(h:PE X e t)(m:∀σ H Q,t' σ H Q->t σ H Q):PE X e t':=λpins s σ H Q I q=>h pins s σ H Q I (m σ H Q q)
theorem _root_.L2.PT.mono(h:PT X e t)(m:∀σ H Q,t' σ H Q->t σ H Q):PT X e t':=λpins s σ H Q I q=>h pins s σ H Q I (m σ H Q q)
theorem _root_.L2.PA.mono(h:PA X e t)(m:∀σ H Q,t' σ H Q->t σ H Q):PA X e t':=λpos pins s σ H Q I q=>h pos pins s σ H Q I (m σ H Q q)
section
theorem Rel.ext(r:Rel K H0 A0 hs ρ F σ H)(s:Qw H H'):Rel K H0 A0 hs ρ F σ H' where
 len:=r.len
 val:=λi d b e=>let ⟨v,h1,h2⟩:=r.val i d b e;⟨v,h1,h2.same s⟩
 own:=r.own
 src:=r.src
 held:=λt ht=>⟨(r.held t ht).1.same s,(r.held t ht).2⟩
 same:=r.same.trans s
theorem Rel.mem(r:Rel K H0 A0 hs ρ F σ H)(e:ρ[i]? =some (some (d,b)))(h:a∈F i):∃u,H a=some u:=
 let ⟨_,_,h2⟩:=r.val i d b e;h2.mem a h
theorem QcZ(h:H a=some o):nw H a=0:=by simp[nw,h]
theorem QaD(h:H a=none):nw H a=1:=by simp[nw,h]
theorem Rel.fl0(r:Rel K H0 A0 hs ρ F σ H)(ow:QaE ρ M)(h:H a=none):((M.map F).flatten).count a=0:=by
 rw[ZI]
 intro hm
 obtain⟨l,hl,ha⟩:=Zbj.mp hm
 obtain⟨i,hi,rfl⟩:=ZQ.mp hl
 obtain⟨d,e⟩:=ow i hi
 obtain⟨vs,q⟩:=r.mem e ha
 rw[h]at q;cases q
theorem Cnt.append(r:Rel K H0 A0 hs ρ F σ H)(c1:Cnt F H M1 G1)(c2:Cnt F H1 M2 G2)(s:Qw H H1)(m1:∀a∈G1,∃u,H1 a=some u):Cnt F H (M1++M2) (G1++G2):=λa=>by
 rw[Zad,ZJ,List.flatten_append,Zad]
 have h1:=c1 a
 have h2:=c2 a
 cases q:H1 a with
 | some o=>rw[QcZ q]at h2;omega
 | none=>
  rw[QaD q]at h2
  have h3:H a=none:=s.free q
  rw[QaD h3]at h1 ⊢
  have h4:G1.count a=0:=ZI.mpr λhm=>by obtain⟨vs,z⟩:=m1 a hm;rw[q]at z;cases z
  omega
theorem Src.append(c1:Src ρ F H M1 G1)(c2:Src ρ F H1 M2 G2)(s:Qw H H1):Src ρ F H (M1++M2) (G1++G2):=λa ha=>by
 rcases Zr.mp ha with h | h
 ·rcases c1 a h with z | ⟨i,d,b,e,m,w⟩
  ·exact .inl z
  ·exact .inr ⟨i,d,b,e,m,λhb=>Zh _ (w hb)⟩
 ·rcases c2 a h with z | ⟨i,d,b,e,m,w⟩
  ·exact .inl (s.free z)
  ·exact .inr ⟨i,d,b,e,m,λhb=>Ze _ (w hb)⟩
theorem QaE.append(h1:QaE ρ M1)(h2:QaE ρ M2):QaE ρ (M1++M2):=λi hi=>(Zr.mp hi).elim (h1 i) (h2 i)
theorem QaE.nil:QaE ρ []:=λi hi=>by simp at hi
theorem Src.nil:Src ρ F H M []:=λa ha=>by simp at ha
theorem Cnt.nil:Cnt F H M []:=λa=>by simp
theorem QO.flat(s:Qw H H')(r:Rp K H' d v [])(hf:d.flat=true:=by rfl):QO K ρ F H H' ⟨d,true,[]⟩ v []:=⟨s,r,Src.nil,λ_=>⟨Cnt.nil,(Qb0 d hf).symm⟩,QaE.nil⟩
theorem QO.sub(p:QO K ρ F H H1 r v G)(rp:Rp K H1 d u G')(hs:∀a,G'.count a<=G.count a)(hn:G.length=r.d.nl->G'.length=d.nl):QO K ρ F H H1 ⟨d,r.fr,r.M⟩ u G' where
 same:=p.same
 rp:=rp
 src:=λa ha=>p.src a (by
  have:=hs a
  have h1:0<G'.count a:=Zao.mpr ha
  exact Zao.mp (by omega))
 cnt:=λh=>⟨λa=>ZF (hs a) ((p.cnt h).1 a),hn (p.cnt h).2⟩
 own:=p.own
noncomputable def R.norm(r:R):R:=if r.d.flat then⟨r.d,true,[]⟩else r
theorem R.Qcl(r:R):r.norm.d=r.d:=by unfold R.norm;split<;>rfl
theorem QO.norm(p:QO K ρ F H H' r v G):QO K ρ F H H' r.norm v G:=by
 unfold R.norm
 split
 ·rename_i h
  have:=p.rp.Qa7 h
  subst this
  exact .flat p.same p.rp h
 ·exact p
end
noncomputable def Qa(i:Nat):DE:=λρ=>match ρ[i]? with
 | some (some (d,b))=>if d.flat then some ⟨d,true,[]⟩else if b then some ⟨d,true,[i]⟩else some ⟨d,false,[]⟩
 | _=>none
noncomputable def dC(d:D):DE:=λ_=>some ⟨d,true,[]⟩
section
theorem QnP(h:PE X (.Name x pos) (Qfj i)):SE X (.Name x pos) (Qa i):=λH0 A0=>h.mono λσ H Q=>exK λρ hs F r rel e q=>by
 unfold Qa at e
 split at e
 ·rename_i d b q1
  obtain⟨v,h1,h2⟩:=rel.val i d b q1
  refine⟨v,h1,q v H (F i) ?_⟩
  split at e
  ·rename_i hf
   cases e
   have:=h2.Qa7 hf
   rw[this]at h2 ⊢
   exact .flat (Qw.refl _) h2 hf
  ·split at e
   ·rename_i hb
    cases e
    subst hb
    exact⟨Qw.refl _,h2,λa ha=> .inr ⟨i,d,true,q1,ha,λ_=>by simp⟩,λ_=>⟨λa=>(by simp),(rel.own i d q1).1⟩,λj hj=>by simp at hj;subst hj;exact⟨d,q1⟩⟩
   ·rename_i hb
    cases e
    simp at hb
    subst hb
    exact⟨Qw.refl _,h2,λa ha=> .inr ⟨i,d,false,q1,ha,λz=>by cases z⟩,λz=>(by cases z),QaE.nil⟩
 ·cases e
theorem Qix(h:PE X e (tC v))(r:∀K H,Rp K H d v [])(hf:d.flat=true):SE X e (dC d):=λH0 A0=>h.mono λσ H Q=>exK λρ hs F r' rel e q=>by
 cases e
 exact q v H [] (.flat (Qw.refl _) (r _ _) hf)
theorem two{K:PySem.W.Frag}{H0:Hp}{A0:List Addr}{fa fb:DE}{σ:St}{H:Hp}{hs:List (V×D×List Addr)}{ρ:En}{F:Nat->List Addr}{ra rb:R}{Rr:V->V->Hp->Prop}(rel:Rel K H0 A0 hs ρ F σ H)(ea:fa ρ=some ra)(eb:fb ρ=some rb)
  (k:∀x y H1 H2 G1 G2,QO K ρ F H H1 ra x G1->QO K ρ F H1 H2 rb y G2->Rr x y H2):tV K H0 A0 fa σ H λx H1=>tV K H0 A0 fb σ H1 λy H2=>Rr x y H2:=
 ⟨ρ,hs,F,ra,rel,ea,λx H1 G1 p1=>⟨ρ,hs,F,rb,rel.ext p1.same,eb,λy H2 G2 p2=>k x y H1 H2 G1 G2 p1 p2⟩⟩
noncomputable def dOp(g:D->D->Option D)(fa fb:DE):DE:=λρ=>(fa ρ).bind λra=>(fb ρ).bind λrb=>(g ra.d rb.d).map λd=>⟨d,true,[]⟩
theorem Qi1(e:dOp g fa fb ρ=some r):∃ra rb d,fa ρ=some ra/\fb ρ=some rb/\g ra.d rb.d=some d/\r=⟨d,true,[]⟩:=by
 unfold dOp at e
 cases h1:fa ρ with
 | none=>rw[h1]at e;cases e
 | some ra=>
  cases h2:fb ρ with
  | none=>rw[h1,h2]at e;cases e
  | some rb=>
   rw[h1,h2]at e
   cases h3:g ra.d rb.d with
   | none=>simp[h3]at e
   | some d=>simp[h3]at e;exact⟨ra,rb,d,rfl,rfl,h3,e.symm⟩
def Qbz(K:PySem.W.Frag)(g:D->D->Option D)(r:R2):Prop:=∀a b d,g a b=some d->d.flat=true/\∀H x y F G (Q:VK),Rp K H a x F->Rp K H b y G->(∀v,(∀H',Rp K H' d v [])->Q v H)->r x y H Q
theorem QhN(ho:OpR X (binaryOp op) r)(hg:Qbz X.K g r)(ha:SE X a fa)(hb:SE X b fb):SE X (.BinOp a op b pos) (dOp g fa fb):=λH0 A0=>
 (Qnx ho (ha H0 A0) (hb H0 A0)).mono λσ H Q=>exK λρ hs F r' rel e q=>by
  obtain⟨ra,rb,d,ea,eb,eg,rfl⟩:=Qi1 e
  refine two rel ea eb λx y H1 H2 G1 G2 p1 p2=>(hg _ _ _ eg).2 H2 x y G1 G2 Q (p1.rp.same p2.same) p2.rp λv hv=>?_
  exact q v H2 [] (.flat (p1.same.trans p2.same) (hv H2) (hg _ _ _ eg).1)
theorem QtO(ho:OpR X (compareOp op) r)(hg:Qbz X.K g r)(ha:SE X a fa)(hb:SE X b fb)(hm:behindInMarks op b=false):SE X (.Compare a [op] [b] pos) (dOp g fa fb):=λH0 A0=>
 (QrR ho (ha H0 A0) (hb H0 A0) hm).mono λσ H Q=>exK λρ hs F r' rel e q=>by
  obtain⟨ra,rb,d,ea,eb,eg,rfl⟩:=Qi1 e
  refine two rel ea eb λx y H1 H2 G1 G2 p1 p2=>(hg _ _ _ eg).2 H2 x y G1 G2 Q (p1.rp.same p2.same) p2.rp λv hv=>?_
  exact q v H2 [] (.flat (p1.same.trans p2.same) (hv H2) (hg _ _ _ eg).1)
end
noncomputable def Qdy(i j:Int):Int:=if 0<=j then i / j else i.fdiv j
noncomputable def Qd3(i j:Int):Int:=if 0<=j then i % j else i.fmod j
theorem Qma(i j:Int):Qdy i j=i.fdiv j:=by
 unfold Qdy;split
 ·rw[Zbu _ (by assumption)]
 ·rfl
theorem Qmi(i j:Int):Qd3 i j=i.fmod j:=by
 unfold Qd3;split
 ·rw[Int.fmod_eq_emod_of_nonneg _ (by assumption)]
 ·rfl
noncomputable def QdI(i j:Int):Bool:=decide (i.natAbs<2^64) || decide (j.natAbs<2^64) || (decide (Builtin.Int.intBits i<=2^20) && decide (Builtin.Int.intBits j<=2^20))
noncomputable def Qcp(j:Int):Bool:=decide (j≠0) && decide (j.natAbs<2^8000)
noncomputable def gI(f:Int->Int->Option D)(a b:D):Option D:=match a,b with
 | .int i,.int j=>f i j
 | _,_=>none
noncomputable def Qdo:=gI λi j=>some (.int (i-j))
noncomputable def Qfe:=gI λi j=>if Qcp j then some (.int (Qdy i j))else none
noncomputable def QaL:=gI λi j=>if j≠0 then some (.int (Qd3 i j))else none
noncomputable def Qgb:=gI λi j=>if 0<=j/\j<=1000/\i.natAbs<2^200 then some (.int (i^j.toNat))else none
noncomputable def Qlf:=gI λi j=>if 0<=j then some (.int (i / 2^j.toNat))else none
noncomputable def gLt:=gI λi j=>some (.bl (decide (i<j)))
noncomputable def gLe:=gI λi j=>some (.bl (decide (i<=j)))
noncomputable def gGt:=gI λi j=>some (.bl (decide (j<i)))
noncomputable def gGe:=gI λi j=>some (.bl (decide (j<=i)))
theorem Qn2(h:gI f a b=some d):∃i j,a= .int i/\b= .int j/\f i j=some d:=by
 unfold gI at h
 split at h
 ·exact⟨_,_,rfl,rfl,h⟩
 ·cases h
section
theorem QeH(hf:∀i j d,f i j=some d->d.flat=true)(h:∀i j d,f i j=some d->∀H (Q:VK),(∀v,(∀H',Rp K H' d v [])->Q v H)->r (.int i) (.int j) H Q):Qbz K (gI f) r:=λa b d e=>by
 obtain⟨i,j,rfl,rfl,ef⟩:=Qn2 e
 refine⟨hf i j d ef,λH x y F G Q ha hb q=>?_⟩
 rw[ha.int_inv,hb.int_inv]
 exact h i j d ef H Q q
theorem Qo7:Qbz K Qdo (rI0 λi j=> .int (i-j)):=QeH (λi j d e=>by cases e;rfl) λi j d e H Q q=>by cases e;exact⟨i,j,rfl,rfl,q _ λ_=> .int_mk⟩
theorem Qq3(h:QdI i j=true):IntMulOk i j:=by
 have small:∀k:Int,k.natAbs<2^64->Builtin.Int.intBits k<=64:=λk hk=>by
  unfold Builtin.Int.intBits
  split
  ·omega
  ·rename_i h0;have h0':k.natAbs≠0:=λz=>by simp_all
   have:=(ZbX h0').mpr hk;omega
 unfold QdI at h
 simp only[ZbU,Zg,decide_eq_true_eq]at h
 rcases h with(h | h) | ⟨h1,h2⟩
 ·exact .of_left (small i h)
 ·exact .of_right (small j h)
 ·exact .of_bits h1 h2
theorem Qso:OpR X (binaryOp .Mult) (rI (λi j=>QdI i j=true) λi j=> .int (i*j)):=opI λ_ _ _ _ _ _ _ hc q=>PyProof.Rows.mul_int q (Qq3 hc)
theorem Qtn:OpR X (binaryOp .FloorDiv) (rI (λi j=>Qcp j=true) λi j=> .int (Qdy i j)):=opI λi j _ _ _ _ _ hc q=>by
 unfold Qcp at hc
 simp only[Zg,decide_eq_true_eq]at hc
 rw[Qma]at q
 refine PyProof.Rows.floordiv_int hc.1 q (.inl (Zbc ?_))
 have h0:j.natAbs≠0:=by omega
 exact Nat.lt_trans ((ZbX h0).mpr hc.2) (by decide)
theorem Qtg:OpR X (binaryOp .Mod) (rI (λi j=>j≠0) λi j=> .int (Qd3 i j)):=opI λi j _ _ _ _ _ hc q=>by
 rw[Qmi]at q
 exact PyProof.Rows.mod_int' hc q
theorem Qu9:Qbz K Qfe (rI (λi j=>Qcp j=true) λi j=> .int (Qdy i j)):=QeH (λi j d e=>by split at e<;>cases e;rfl) λi j d e H Q q=>by
 split at e
 ·cases e;exact⟨i,j,rfl,rfl,by assumption,q _ λ_=> .int_mk⟩
 ·cases e
theorem QtY:Qbz K QaL (rI (λi j=>j≠0) λi j=> .int (Qd3 i j)):=QeH (λi j d e=>by split at e<;>cases e;rfl) λi j d e H Q q=>by
 split at e
 ·cases e;exact⟨i,j,rfl,rfl,by assumption,q _ λ_=> .int_mk⟩
 ·cases e
theorem Qsx:OpR X (binaryOp .Pow) (rI (λi j=>0<=j/\j<=1000/\i.natAbs<2^200) λi j=> .int (i^j.toNat)):=opI λi j _ _ _ _ _ hc q=>by
 refine PyProof.Rows.pow_int hc.1 ?_ q
 have hb:Builtin.Int.intBits i<=200:=by
  unfold Builtin.Int.intBits
  split
  ·omega
  ·rename_i h0;have h0':i.natAbs≠0:=λz=>by simp_all
   have:=(ZbX h0').mpr hc.2.2;omega
 have h1:((Builtin.Int.intBits i:Nat):Int)*j<=200*1000:=ZbY (by omega) hc.2.1 hc.1 (by decide)
 omega
theorem Qvc:Qbz K Qgb (rI (λi j=>0<=j/\j<=1000/\i.natAbs<2^200) λi j=> .int (i^j.toNat)):=QeH (λi j d e=>by split at e<;>cases e;rfl) λi j d e H Q q=>by
 split at e
 ·rename_i h;cases e;exact⟨i,j,rfl,rfl,h,q _ λ_=> .int_mk⟩
 ·cases e
theorem Qvx:Qbz K Qlf (rI (λ_ j=>0<=j) λi j=> .int (i / 2^j.toNat)):=QeH (λi j d e=>by split at e<;>cases e;rfl) λi j d e H Q q=>by
 split at e
 ·cases e;exact⟨i,j,rfl,rfl,by assumption,q _ λ_=> .int_mk⟩
 ·cases e
theorem Qwo:Qbz K gLt (rI0 λi j=> .bl (decide (i<j))):=QeH (λi j d e=>by cases e;rfl) λi j d e H Q q=>by cases e;exact⟨i,j,rfl,rfl,q _ λ_=> .Qcw⟩
theorem Qws:Qbz K gLe (rI0 λi j=> .bl (decide (i<=j))):=QeH (λi j d e=>by cases e;rfl) λi j d e H Q q=>by cases e;exact⟨i,j,rfl,rfl,q _ λ_=> .Qcw⟩
theorem QwB:Qbz K gGt (rI0 λi j=> .bl (decide (j<i))):=QeH (λi j d e=>by cases e;rfl) λi j d e H Q q=>by cases e;exact⟨i,j,rfl,rfl,q _ λ_=> .Qcw⟩
theorem Qwp:Qbz K gGe (rI0 λi j=> .bl (decide (j<=i))):=QeH (λi j d e=>by cases e;rfl) λi j d e H Q q=>by cases e;exact⟨i,j,rfl,rfl,q _ λ_=> .Qcw⟩
end
theorem Qea:∀(xs ys:List D),QB (xs++ys)=(QB xs && QB ys)
 | [],ys=>by simp[QB]
 | x::xs,ys=>by simp[QB,Qea xs ys,Bool.and_assoc]
noncomputable def Qax(ds:List D)(M:List Nat):R:=if QB ds then⟨.lst ds,true,[]⟩else⟨.lst ds,false,M⟩
section
variable {K:PySem.W.Frag}{H0 H H':Hp}{A0:List Addr}{hs:List (V×D×List Addr)}{ρ:En}{F:Nat->List Addr}{σ:L2.St}
theorem QO.Qax(s:Qw H H1)(hp:H1 p=none)(r:Rps K H1 ds vs G)(hz:ds.length<=sizeLine)(src:Src ρ F H M G)(ow:QaE ρ M):
  QO K ρ F H (upd H1 p (.lst vs)) (Qax ds M) (.ref p) (p::G):=by
 have s2:Qw H1 (upd H1 p (.lst vs)):=QaN hp
 have rp:Rp K (upd H1 p (.lst vs)) (.lst ds) (.ref p) (p::G):=Rp.QeU Qag (r.same s2) hz
 have hH:H p=none:=s.free hp
 unfold HS.Qax
 split
 ·rename_i hf
  have:=r.Qa7 hf
  subst this
  refine⟨s.trans s2,rp,λa ha=>?_,λ_=>⟨λa=>?_,by simp only[D.nl,Qft ds hf];rfl⟩,QaE.nil⟩
  ·have:a=p:=by simpa using ha
   subst this;exact .inl hH
  ·rw[List.count_singleton]
   split
   ·rename_i e;have e':p=a:=by simpa using e
    subst e';rw[QaD hH];omega
   ·omega
 ·refine⟨s.trans s2,rp,λa ha=>?_,λz=>(by cases z),ow⟩
  rcases Zo.mp ha with rfl | h
  ·exact .inl hH
  ·exact src a h
end
noncomputable def QD(fa fb:DE):DE:=λρ=>(fa ρ).bind λra=>(fb ρ).bind λrb=>match ra.d,rb.d with
 | .int i,.int j=>some ⟨.int (i+j),true,[]⟩
 | .lst xs,.lst ys=>if xs.length+ys.length<=sizeLine then some (Qax (xs++ys) (ra.M++rb.M))else none
 | .str x,.str y=>if x.length+y.length<=sizeLine then some ⟨.str (x++y),true,[]⟩else none
 | _,_=>none
noncomputable def Qas(fa fb:DE):DE:=λρ=>(fa ρ).bind λra=>(fb ρ).bind λrb=>match ra.d,rb.d with
 | .int i,.int j=>if QdI i j then some ⟨.int (i*j),true,[]⟩else none
 | .lst xs,.int j=>if xs.length*j.toNat<=sizeLine/\ -(2^63)<=j/\j<2^63/\QB xs=true then some ⟨.lst (List.replicate j.toNat xs).flatten,true,[]⟩else none
 | _,_=>none
theorem QmT{fa fb:DE}{ρ:En}{k:R->R->Option R}{r:R}(e:((fa ρ).bind λra=>(fb ρ).bind λrb=>k ra rb)=some r):∃ra rb,fa ρ=some ra/\fb ρ=some rb/\k ra rb=some r:=by
 cases h1:fa ρ with
 | none=>rw[h1]at e;cases e
 | some ra=>
  cases h2:fb ρ with
  | none=>rw[h1,h2]at e;cases e
  | some rb=>rw[h1,h2]at e;exact⟨ra,rb,rfl,rfl,e⟩
theorem bind1{α β:Type}{x:Option α}{k:α->Option β}{r:β}(e:x.bind k=some r):∃a,x=some a/\k a=some r:=by
 cases x with
 | none=>cases e
 | some a=>exact⟨a,rfl,e⟩
section
noncomputable def Qwy(K:PySem.W.Frag):R2:=λx y H Q=>∃l c xs zs,x= .ref l/\y= .ref c/\(H l=some (.lst xs)∨Fix K H l xs)/\(H c=some (.lst zs)∨Fix K H c zs)/\xs.length+zs.length<=sizeLine/\∀p,H p=none->Q (.ref p) (upd H p (.lst (xs++zs)))
theorem mapR{α γ:Type}{x:Option α}{f:α->γ}{r:γ}{M:γ->Prop}(e:x.map f=some r)(g:∀a,x=some a->M (f a)):M r:=by
 obtain⟨a,h,rfl⟩:=Zc.mp e
 exact g a h
theorem Qe{α β:Type}{x:Option α}{k:α->Option β}{r:β}{G:Prop}(e:x.bind k=some r)(g:∀a,x=some a->k a=some r->G):G:=let ⟨a,h1,h2⟩:=bind1 e;g a h1 h2
theorem Qts:OpR X (binaryOp .Add) (Qwy X.K):=by
 intro pins s σ H x y v u Q I rx ry h
 obtain⟨l,c,xs,zs,rfl,rfl,hH,hB,hz,q⟩:=h
 cases rx
 cases ry
 obtain⟨z,its,n,r,hl,e⟩:=I.Qkw hH
 obtain⟨z2,its2,n2,r2,hl2,e2⟩:=I.Qkw hB
 refine PySem.P.add_list e e2 ?_ (by rw[Zw,Zw];omega)
 have ea:its.toArray++its2.toArray=(its++its2).toArray:=by simp
 rw[ea]
 exact⟨.ref _,_,I.Qvj (t':=s.toks) (r.append r2) (by rw[Zp];omega),rfl,q _ I.fresh⟩
theorem QvG(ha:SE X a fa)(hb:SE X b fb):SE X (.BinOp a .Add b pos) (QD fa fb):=λH0 A0=>
 (Qnx ((QvD.or Qts).or QnJ) (ha H0 A0) (hb H0 A0)).mono λσ H Q=>exK λρ hs F r' rel e q=>by
  obtain⟨ra,rb,ea,eb,ek⟩:=QmT e
  refine two rel ea eb λx y H1 H2 G1 G2 p1 p2=>?_
  have p1':=p1.rp.same p2.same
  have p2':=p2.rp
  have c1:=p1.src.append p2.src p1.same
  have o1:=p1.own.append p2.own
  revert ek
  revert p1' p2'
  cases ra.d<;>cases rb.d<;>intro p1' p2' ek<;>first | (cases ek;done) | skip
  ·cases ek
   rw[p1'.int_inv,p2'.int_inv]
   left
   exact .inl ⟨_,_,rfl,rfl,q _ H2 [] (.flat (p1.same.trans p2.same) .int_mk)⟩
  ·rename_i xs ys
   dsimp only at ek
   split at ek
   ·rename_i hz
    cases ek
    rw[p1'.str_inv,p2'.str_inv]
    exact .inr ⟨_,_,rfl,rfl,hz,q _ H2 [] (.flat (p1.same.trans p2.same) .str_mk)⟩
   ·cases ek
  ·rename_i xs ys
   dsimp only at ek
   split at ek
   ·rename_i hz
    cases ek
    obtain⟨l,vs,L1,rfl,hl,rl,zl,el⟩:=p1'.lst_inv
    obtain⟨c,ws,L2',rfl,hc,rc,zc,ec⟩:=p2'.lst_inv
    have n1:=rl.length
    have n2:=rc.length
    left
    refine .inr ⟨l,c,vs,ws,rfl,rfl,hl,hc,by omega,λp hp=>?_⟩
    refine q _ _ (p::(L1++L2')) (QO.Qax (p1.same.trans p2.same) hp (rl.append rc) (by rw[Zp];exact hz) (λa ha=>c1 a ?_) o1)
    rcases Zr.mp ha with h | h
    ·refine Zh _ ?_
     rcases el with rfl | rfl
     ·exact Zb _ h
     ·exact h
    ·refine Ze _ ?_
     rcases ec with rfl | rfl
     ·exact Zb _ h
     ·exact h
   ·cases ek
noncomputable def Qwv(K:PySem.W.Frag):R2:=λx y H Q=>∃l k xs,x= .ref l/\y= .int k/\(H l=some (.lst xs)∨Fix K H l xs)/\ -(2^63)<=k/\k<2^63/\xs.length*k.toNat<=sizeLine∧
 ∀p,H p=none->Q (.ref p) (upd H p (.lst (List.replicate k.toNat xs).flatten))
theorem Qsa:OpR X (binaryOp .Mult) (Qwv X.K):=by
 intro pins s σ H x y v u Q I rx ry h
 obtain⟨l,k,xs,rfl,rfl,hH,h1,h2,hz,q⟩:=h
 cases rx
 obtain⟨t,rfl⟩:=ry
 obtain⟨z,its,n,r,hl,e⟩:=I.Qkw hH
 have hlen:its.toArray.size*k.toNat<=sizeLine:=by rw[Zw,← hl];exact hz
 have hcap:¬its.toArray.size*k.toNat>(2^63-1) / 8:=by
  have:(sizeLine:Nat)<=(2^63-1) / 8:=by decide
  omega
 have hfit:¬(!Builtin.List.listFitsIndex k)=true:=by
  rw[fitsIndex_both h1 h2]
  exact ZZ
 have hlong:¬Builtin.List.listTooLong (its.toArray.size*k.toNat)=true:=by
  rw[Qrc hlen]
  exact ZZ
 have hnew:List.foldl (λx1 x2=>x1++x2) #[] (List.replicate (if its.toArray.isEmpty=true then 0 else k.toNat) its.toArray)=(List.replicate k.toNat its).flatten.toArray:=by
  have f0:∀m:Nat,List.foldl (λx1 x2=>x1++x2) #[] (List.replicate m its.toArray)=(List.replicate m its).flatten.toArray:=λm=>by
   have:=foldl_rep its m []
   rw[ZaR]at this
   exact this
  rw[f0]
  cases its with
  | nil=>simp
  | cons a r'=>rw[if_neg (by simp)]
 open PyProof.Rows in
 refine wpAny_binaryOp_repeat_ref (by decide) ⟨_,e,rfl⟩ (λs'=>typeIs_int s' k t) noFill_list_mul F.fills_int_mul F.slot_int_rmul repeat_list F.slot_int_index.lookup
  (call_meets F.slot_int_rmul (typeIs_int s k t) F.entry_int_rmul (F.args_int_rmul_2 _ _) (int___rmul___int_list k t l its.toArray n)
   ⟨e,rfl,⟨_,e,rfl⟩,call_meets F.slot_list_mul ⟨_,e,rfl⟩ F.entry_list_mul (F.args_list_mul_2 _ _) (AutoListH.list___mul___list_int_3 l its.toArray n k t hfit hcap hlong) ⟨e,?_⟩⟩)
 rw[hnew]
 exact⟨.ref _,_,I.Qvj (t':=s.toks) (r.rep k.toNat) (by rw[len_rep,Nat.mul_comm];exact hz),rfl,q _ I.fresh⟩
theorem Qjv(h:QB xs=true):∀n:Nat,QB (List.replicate n xs).flatten=true
 | 0=>by simp[QB]
 | n+1=>by rw[Zam,Zat,Qea,h,Qjv h n];rfl
theorem Rps.rep(h:Rps K H ds vs []):∀n:Nat,Rps K H (List.replicate n ds).flatten (List.replicate n vs).flatten []
 | 0=>by simp[Rps]
 | n+1=>by rw[Zam,Zat,Zam,Zat];exact h.append (Rps.rep h n)
theorem QvS(ha:SE X a fa)(hb:SE X b fb):SE X (.BinOp a .Mult b pos) (Qas fa fb):=λH0 A0=>
 (Qnx (Qso.or Qsa) (ha H0 A0) (hb H0 A0)).mono λσ H Q=>exK λρ hs F r' rel e q=>by
  obtain⟨ra,rb,ea,eb,ek⟩:=QmT e
  refine two rel ea eb λx y H1 H2 G1 G2 p1 p2=>?_
  have p1':=p1.rp.same p2.same
  have p2':=p2.rp
  revert ek
  revert p1' p2'
  cases ra.d<;>cases rb.d<;>intro p1' p2' ek<;>first | (cases ek;done) | skip
  ·dsimp only at ek
   split at ek
   ·rename_i hm
    cases ek
    rw[p1'.int_inv,p2'.int_inv]
    exact .inl ⟨_,_,rfl,rfl,hm,q _ H2 [] (.flat (p1.same.trans p2.same) .int_mk)⟩
   ·cases ek
  ·rename_i xs j
   dsimp only at ek
   split at ek
   ·rename_i hz
    cases ek
    obtain⟨hz1,hz2,hz3,hf⟩:=hz
    obtain⟨l,vs,L1,rfl,hl,rl,zl,el⟩:=p1'.lst_inv
    have n1:=rl.length
    have e0:=rl.Qa7 hf
    subst e0
    rw[p2'.int_inv]
    refine .inr ⟨l,j,vs,rfl,rfl,hl,hz2,hz3,by rw[← n1];exact hz1,λp hp=>?_⟩
    have w:HS.Qax (List.replicate j.toNat xs).flatten []=⟨.lst (List.replicate j.toNat xs).flatten,true,[]⟩:=by
     unfold HS.Qax;rw[if_pos (Qjv hf _)]
    rw[← w]at q
    exact q _ _ (p::[]) (QO.Qax (p1.same.trans p2.same) hp (rl.rep _) (by rw[len_rep,Nat.mul_comm];exact hz1) Src.nil QaE.nil)
   ·cases ek
end
end HS
namespace HS
open PySem PySem.Spec L2
noncomputable def Qf:DA:=λ_=>some ⟨[],true,[]⟩
noncomputable def Qc(fa:DE)(fr:DA):DA:=λρ=>(fa ρ).bind λr=>(fr ρ).bind λrs=>some ⟨r.d::rs.ds,r.fr && rs.fr,r.M++rs.M⟩
noncomputable def QbR(fa:DA):DE:=λρ=>(fa ρ).bind λr=>if r.ds.length<=64 then some ⟨.tup r.ds,r.fr,r.M⟩else none
noncomputable def Q4(fa:DA):DE:=λρ=>(fa ρ).bind λr=>if r.ds.length<=64 then some ⟨.lst r.ds,r.fr,r.M⟩else none
section
variable {X:Cx}{a b e:Expr}{es:List Expr}{fa fb:DE}{fs:DA}{pos:Pos}
theorem Qec:SA X [] Qf:=λH0 A0=>QbW.mono λσ H Q=>exK λρ hs F r' rel e q=>by
 cases e
 exact q [] H [] ⟨Qw.refl _,by simp[Rps],Src.nil,λ_=>⟨Cnt.nil,rfl⟩,QaE.nil⟩
theorem QcV(ha:SE X e fa)(hr:SA X es fs)(hs:starEach (e::es) X.env=(false,eval e X.env)::starEach es X.env):SA X (e::es) (Qc fa fs):=λH0 A0=>
 (Qan (ha H0 A0) (hr H0 A0) hs).mono λσ H Q=>exK λρ hs F r' rel e q=>by
  refine Qe e λr e1 e=>?_
  refine Qe e λrs e2 e=>?_
  cases e
  refine⟨ρ,hs,F,r,rel,e1,λx H1 G1 p1=>⟨ρ,hs,F,rs,rel.ext p1.same,e2,λxs H2 G2 p2=>?_⟩⟩
  refine q _ H2 (G1++G2) ⟨p1.same.trans p2.same,?_,p1.src.append p2.src p1.same,λh=>?_,p1.own.append p2.own⟩
  ·simp only[Rps]
   exact⟨x,xs,G1,G2,rfl,rfl,p1.rp.same p2.same,p2.rp⟩
  ·simp only[Zg]at h
   exact⟨(p1.cnt h.1).1.append rel (p2.cnt h.2).1 p1.same p1.rp.mem,by simp only[nls,Zp,(p1.cnt h.1).2,(p2.cnt h.2).2]⟩
theorem Qfd{n:Nat}(h:n<=64):n<=sizeLine:=ZF h (by decide)
theorem Qu3{k:Nat}(ha:SA X es fs):SE X (.Tuple es k pos) (QbR fs):=λH0 A0=>
 (Qve (ha H0 A0)).mono λσ H Q=>exK λρ hs F r' rel e q=>by
  refine Qe e λr e1 e=>?_
  split at e
  ·rename_i hz
   cases e
   refine⟨ρ,hs,F,r,rel,e1,λxs H1 G p=>⟨by rw[← p.rp.length];exact Qfd hz,λc hc=>q _ _ G ⟨p.same.trans (QaN hc),Rp.QhV Qag (p.rp.same (QaN hc)),p.src,λh=>⟨(p.cnt h).1,by simp only[D.nl];exact(p.cnt h).2⟩,p.own⟩⟩⟩
  ·cases e
theorem Qt0(ha:SA X es fs):SE X (.List es pos) (Q4 fs):=λH0 A0=>
 (Qt5 (ha H0 A0)).mono λσ H Q=>exK λρ hs F r' rel e q=>by
  refine Qe e λr e1 e=>?_
  split at e
  ·rename_i hz
   cases e
   refine⟨ρ,hs,F,r,rel,e1,λxs H1 G p=>⟨by rw[← p.rp.length];exact Qfd hz,λc hc=>?_⟩⟩
   have hH:H c=none:=p.same.free hc
   refine q _ _ (c::G) ⟨p.same.trans (QaN hc),Rp.QeU Qag (p.rp.same (QaN hc)) (Qfd hz),λz hz'=>?_,λh=>⟨λz=>?_,by simp only[D.nl,Zk,(p.cnt h).2]⟩,p.own⟩
   ·rcases Zo.mp hz' with rfl | h
    ·exact .inl hH
    ·exact p.src z h
   ·rw[Zav]
    have:=(p.cnt h).1 z
    split
    ·rename_i e'
     have e':c=z:=by simpa using e'
     subst e'
     have h0:G.count c=0:=ZI.mpr λhm=>by obtain⟨vs,w⟩:=p.rp.mem c hm;rw[hc]at w;cases w
     rw[QaD hH];omega
    ·exact this
  ·cases e
noncomputable def D.items:D->Option (List D)
 | .lst xs=>some xs
 | .tup xs=>some xs
 | _=>none
noncomputable def Qr(fa fb:DE):DE:=λρ=>(fa ρ).bind λra=>(fb ρ).bind λrb=>match rb.d with
 | .int i=>match ra.d with
  | .str x=>if 0<=i/\i<2^63/\i<x.length then(x.cps[i.toNat]?).map λc=>⟨.str ⟨#[c]⟩,true,[]⟩else none
  | _=>(ra.d.items).bind λxs=>(atI xs i).map λd=>(R.norm ⟨d,ra.fr,ra.M⟩)
 | _=>none
theorem Qsi{α β:Type}{xs:List α}{i:Int}{d:α}(h:atI xs i=some d):∃j:Nat,xs[j]? =some d/\∀(ys:List β),ys.length=xs.length->∀y,ys[j]? =some y->atI ys i=some y:=by
 unfold atI at h
 cases e:ixN xs.length i with
 | none=>rw[e]at h;cases h
 | some j=>
  rw[e]at h
  refine⟨j,h,λys hl y hy=>?_⟩
  unfold atI
  rw[hl,e]
  exact hy
theorem Qux(ha:SE X a fa)(hb:SE X b fb)(hs:Qgy b):SE X (.Subscript a b pos) (Qr fa fb):=λH0 A0=>
 (QsG (Qrl (Ql7.or QoF) (ha H0 A0) (hb H0 A0) hs) (Ql3 (ha H0 A0) (hb H0 A0) (λo i=>hs o i))).mono λσ H Q=>exK λρ hs F r' rel e q=>by
  obtain⟨ra,rb,ea,eb,ek⟩:=QmT e
  by_cases hx:∃x,ra.d= .str x
  ·obtain⟨z,hx⟩:=hx
   right
   refine two rel ea eb λx y H1 H2 G1 G2 p1 p2=>?_
   have p1':=p1.rp.same p2.same
   have p2':=p2.rp
   cases hb':rb.d with
   | int i=>
    rw[hb',hx]at ek
    rw[hx]at p1'
    rw[hb']at p2'
    have ek:(if 0<=i/\i<2^63/\i<z.length then(z.cps[i.toNat]?).map λc=>(⟨.str ⟨#[c]⟩,true,[]⟩:HS.R)else none)=some r':=ek
    split at ek
    ·rename_i hi
     obtain⟨c,hc,rfl⟩:=Zc.mp ek
     exact⟨z,i,c,p1'.str_inv,p2'.int_inv,hi.1,hi.2.1,hi.2.2,hc,q _ H2 [] (.flat (p1.same.trans p2.same) .str_mk)⟩
    ·cases ek
   | _=>rw[hb']at ek;cases ek
  left
  have ek:(match rb.d with | .int i=>(ra.d.items).bind λxs=>(atI xs i).map λd=>(R.norm ⟨d,ra.fr,ra.M⟩) | _=>none)=some r':=by
   rw[← ek]
   split
   ·split
    ·rename_i h;exact absurd ⟨_,h⟩ hx
    ·rfl
   ·rfl
  refine two rel ea eb λx y H1 H2 G1 G2 p1 p2=>?_
  have p1':=p1.rp.same p2.same
  have p2':=p2.rp
  have pp:QO X.K ρ F H H2 ra x G1:=⟨p1.same.trans p2.same,p1',p1.src,p1.cnt,p1.own⟩
  cases hb':rb.d with
  | int i=>
   rw[hb']at ek p2'
   rw[p2'.int_inv]
   refine Qe ek λxs ex ek=>?_
   obtain⟨d,ed,ek⟩:=Zc.mp ek
   subst ek
   obtain⟨j,hj,hm⟩:=Qsi ed
   have fin:∀(L:List Addr) (vs:List V),Rps X.K H2 xs vs L->(∀z,L.count z<=G1.count z)->(G1.length=ra.d.nl->L.length=nls xs)->∃v,atI vs i=some v/\Q v H2:=λL vs rl hc hn=>by
    obtain⟨v,F1,G,F2,hv,eF,rv,hx⟩:=rl.get hj
    refine⟨v,hm vs rl.length.symm v hv,q v H2 G (QO.norm (QO.sub pp rv (λz=>ZF ?_ (hc z)) λz=>hx (hn z)))⟩
    rw[eF,Zad,Zad];omega
   cases hra:ra.d with
   | lst ys=>
    rw[hra]at ex p1'
    cases ex
    obtain⟨l,vs,L,rfl,hl,rl,zl,el⟩:=p1'.lst_inv
    have hn:G1.length=ra.d.nl->L.length=nls xs:=λhz=>by
     have:=rl.Q8
     simp only[hra,D.nl]at hz
     rcases el with rfl | rfl
     ·rw[Zk]at hz;omega
     ·omega
    have hc:∀z,L.count z<=G1.count z:=λz=>by
     rcases el with rfl | rfl
     ·rw[Zav];omega
     ·exact Zm _
    obtain⟨v,h1,h2⟩:=fin L vs rl hc hn
    exact .inl ⟨l,vs,i,v,rfl,rfl,QT hl,h1,h2⟩
   | tup ys=>
    rw[hra]at ex p1'
    cases ex
    obtain⟨l,vs,rfl,hl,rl⟩:=p1'.QaC
    obtain⟨v,h1,h2⟩:=fin G1 vs rl (λz=>Zm _) λz=>(by simpa only[hra,D.nl]using z)
    exact .inr ⟨l,vs,i,v,rfl,rfl,hl,h1,h2⟩
   | _=>rw[hra]at ex;cases ex
  | _=>rw[hb']at ek;cases ek
noncomputable abbrev DO:=En->Option (Option Int)
noncomputable def QbU:DO:=λ_=>some none
noncomputable def Qam(f:DE):DO:=λρ=>(f ρ).bind λr=>match r.d with
 | .int i=>some (some i)
 | _=>none
noncomputable def tVO(K:PySem.W.Frag)(H0:Hp)(A0:List Addr)(f:DO):TO:=λσ H Q=>∃ρ hs F o,Rel K H0 A0 hs ρ F σ H/\f ρ=some o/\∀H',Qw H H'->Q o H'
def SO(X:Cx)(e:Option Expr)(f:DO):Prop:=∀H0 A0,PO X e (tVO X.K H0 A0 f)
theorem _root_.L2.PO.mono{X:Cx}{e:Option Expr}{t t':TO}(h:PO X e t)(m:∀σ H Q,t' σ H Q->t σ H Q):PO X e t':=by
 intro pins s σ H Q I q
 exact h pins s σ H Q I (m σ H Q q)
theorem QtA:SO X none QbU:=λH0 A0=>QsN.mono λσ H Q=>exK λρ hs F o rel e q=>by
 cases e
 exact q H (Qw.refl _)
theorem QsX(h:SE X a fa):SO X (some a) (Qam fa):=λH0 A0=>(QrO (h H0 A0)).mono λσ H Q=>exK λρ hs F o rel e q=>by
 refine Qe e λr e1 e=>?_
 refine⟨ρ,hs,F,r,rel,e1,λv H1 G p=>?_⟩
 have rp:=p.rp
 cases hr:r.d with
 | int i=>
  rw[hr]at e rp
  cases e
  exact⟨i,rp.int_inv,q H1 p.same⟩
 | _=>rw[hr]at e;cases e
noncomputable def cutD(xs:List D)(lo hi:Option Int):List D:=(xs.drop (HT.sIx xs.length 0 lo)).take (HT.sIx xs.length xs.length hi-HT.sIx xs.length 0 lo)
noncomputable def Qbq(fa:DE)(lo hi:DO):DE:=λρ=>(fa ρ).bind λra=>(lo ρ).bind λl=>(hi ρ).bind λh=>match ra.d with
 | .lst xs=>some (Qax (cutD xs l h) ra.M)
 | .str x=>if x.length<=sizeLine then some ⟨.str (Txt.slice x l h),true,[]⟩else none
 | _=>none
theorem Rps.drop:∀{ds:List D}{vs:List V}{F:List Addr}{K:PySem.W.Frag}{H:Hp}(n:Nat),Rps K H ds vs F->∃G,Rps K H (ds.drop n) (vs.drop n) G/\∀a∈G,a∈F
 | [],vs,F,K,H,n,h=>by simp only[Rps]at h;rw[h.1,h.2];exact⟨[],by simp[Rps],λ_ h=>h⟩
 | d::ds,vs,F,K,H,0,h=>⟨F,by simpa using h,λ_ h=>h⟩
 | d::ds,vs,F,K,H,n+1,h=>by
  simp only[Rps]at h
  obtain⟨v,ws,F1,F2,e,eF,r,q⟩:=h
  subst e eF
  obtain⟨G,h1,h2⟩:=Rps.drop n q
  exact⟨G,by simpa using h1,λa ha=>Ze _ (h2 a ha)⟩
theorem Rps.take:∀{ds:List D}{vs:List V}{F:List Addr}{K:PySem.W.Frag}{H:Hp}(n:Nat),Rps K H ds vs F->∃G,Rps K H (ds.take n) (vs.take n) G/\∀a∈G,a∈F
 | [],vs,F,K,H,n,h=>by simp only[Rps]at h;rw[h.1,h.2];exact⟨[],by simp[Rps],λ_ h=>h⟩
 | d::ds,vs,F,K,H,0,h=>⟨[],by simp[Rps],λ_ h=>by simp at h⟩
 | d::ds,vs,F,K,H,n+1,h=>by
  simp only[Rps]at h
  obtain⟨v,ws,F1,F2,e,eF,r,q⟩:=h
  subst e eF
  obtain⟨G,h1,h2⟩:=Rps.take n q
  refine⟨F1++G,?_,λa ha=>?_⟩
  ·simp only[Zbt,Rps]
   exact⟨v,_,F1,G,rfl,rfl,r,h1⟩
  ·rcases Zr.mp ha with h | h
   ·exact Zh _ h
   ·exact Ze _ (h2 a h)
theorem QtM{lo hi:Option Expr}{fl fh:DO}{p2:Pos}(ha:SE X a fa)(hl:SO X lo fl)(hh:SO X hi fh):SE X (.Subscript a (.Slice lo hi none p2) pos) (Qbq fa fl fh):=λH0 A0=>
 (QpW (Qsy.or QuK) (ha H0 A0) (hl H0 A0) (hh H0 A0)).mono λσ H Q=>exK λρ hs F r' rel e q=>by
  refine Qe e λra e1 e=>?_
  refine Qe e λl e2 e=>?_
  refine Qe e λh e3 e=>?_
  refine⟨ρ,hs,F,ra,rel,e1,λx H1 G1 p1=>⟨ρ,hs,F,l,rel.ext p1.same,e2,λH2 s2=>⟨ρ,hs,F,h,(rel.ext p1.same).ext s2,e3,λH3 s3=>?_⟩⟩⟩
  have rp:=p1.rp.same (s2.trans s3)
  cases hra:ra.d with
  | lst xs=>
   rw[hra]at e rp
   cases e
   obtain⟨c,vs,L,rfl,hc,rl,zl,el⟩:=rp.lst_inv
   left
   refine⟨c,vs,rfl,QT hc,λp hp=>?_⟩
   obtain⟨G2,h2,m2⟩:=rl.drop (HT.sIx xs.length 0 l)
   obtain⟨G3,h3,m3⟩:=h2.take (HT.sIx xs.length xs.length h-HT.sIx xs.length 0 l)
   have n1:=rl.length
   rw[show Qiq vs l h=(vs.drop (HT.sIx xs.length 0 l)).take (HT.sIx xs.length xs.length h-HT.sIx xs.length 0 l) by unfold Qiq;rw[n1]]
   refine q _ _ (p::G3) (QO.Qax (p1.same.trans (s2.trans s3)) hp h3 ?_ (λz hz=>p1.src z ?_) p1.own)
   ·unfold cutD;rw[ZW,Zap];omega
   ·have:=m2 z (m3 z hz)
    rcases el with rfl | rfl
    ·exact Zb _ this
    ·exact this
  | str x=>
   rw[hra]at e rp
   dsimp only at e
   split at e
   ·rename_i hz
    cases e
    exact .inr ⟨x,rp.str_inv,hz,q _ H3 [] (.flat (p1.same.trans (s2.trans s3)) .str_mk)⟩
   ·cases e
  | _=>rw[hra]at e;cases e
noncomputable def dBf(g:List D->Option D)(fs:DA):DE:=λρ=>(fs ρ).bind λr=>(g r.ds).map λd=>⟨d,true,[]⟩
def Qdf(K:PySem.W.Frag)(g:List D->Option D)(r:List V->Hp->VK->Prop):Prop:=∀ds d,g ds=some d->d.flat=true/\∀H vs F (Q:VK),Rps K H ds vs F->(∀v,(∀H',Rp K H' d v [])->Q v H)->r vs H Q
theorem Qgj{x:Str}{id:String}{g:List D->Option D}{r:List V->Hp->VK->Prop}{p:Pos}(hc:QaX X (.builtin id) r)(hk:Qdf X.K g r)(hg:Gl X x)(hm:X.mg x=none)(hv:bootBuiltins x=some (.builtin id))(ha:SA X (e::es) fs)(hn:x≠ "__name__")(hdb:(x == ("__debug__" :Str))=false)
  (he:starEach (e::es) X.env=(false,eval e X.env)::starEach es X.env) (hpl:(backTo pos (starEach es X.env)).any (·.1)=false):SE X (.Call (.Name x p) (e::es) [] pos) (dBf g fs):=λH0 A0=>
 (Qhk hc hg hm hv (ha H0 A0) hn hdb he hpl).mono λσ H Q=>exK λρ hs F r' rel e q=>by
  refine Qe e λra e1 e=>?_
  obtain⟨d,ed,e⟩:=Zc.mp e
  subst e
  exact⟨ρ,hs,F,ra,rel,e1,λvs H1 G p1=>(hk _ _ ed).2 H1 vs G Q p1.rp λv hv=>q v H1 [] (.flat p1.same (hv _) (hk _ _ ed).1)⟩
theorem Rps.one{K:PySem.W.Frag}{H:Hp}{d:D}{vs:List V}{F:List Addr}(h:Rps K H [d] vs F):∃v,vs=[v]/\Rp K H d v F:=by
 simp only[Rps]at h
 obtain⟨v,ws,F1,F2,rfl,rfl,r,rfl,rfl⟩:=h
 exact⟨v,rfl,by simpa using r⟩
theorem Rps.two{K:PySem.W.Frag}{H:Hp}{d e:D}{vs:List V}{F:List Addr}(h:Rps K H [d,e] vs F):∃v w F1 F2,vs=[v,w]/\Rp K H d v F1/\Rp K H e w F2:=by
 simp only[Rps]at h
 obtain⟨v,ws,F1,F2,rfl,rfl,r,w,ws',F3,F4,rfl,rfl,r2,rfl,rfl⟩:=h
 exact⟨v,w,F1,F3,rfl,r,r2⟩
noncomputable def QaI:List D->Option D
 | [.lst xs]=>some (.int xs.length)
 | [.tup xs]=>some (.int xs.length)
 | [.str x]=>if x.length<=sizeLine then some (.int x.length)else none
 | _=>none
noncomputable def Qrt(K:PySem.W.Frag):List V->Hp->VK->Prop:=λxs H Q=>(∃p ys,xs=[.ref p]/\(SqL K H p ys∨SqT K H p ys)/\Q (.int ys.length) H)∨∃z,xs=[.str z]/\z.length<=sizeLine/\Q (.int z.length) H
theorem QoU{X:Cx}:QaX X (.builtin "len") (Qrt X.K):=QlD.or Qlc
theorem Qul{K:PySem.W.Frag}:Qdf K QaI (Qrt K):=λds d e=>by
 unfold QaI at e
 split at e
 ·cases e
  refine⟨rfl,λH vs F Q r q=>?_⟩
  obtain⟨v,rfl,rp⟩:=r.one
  obtain⟨l,ws,L,rfl,hl,rl,zl,el⟩:=rp.lst_inv
  left
  exact⟨l,ws,rfl,.inl (QT hl),by rw[← rl.length];exact q _ λ_=> .int_mk⟩
 ·cases e
  refine⟨rfl,λH vs F Q r q=>?_⟩
  obtain⟨v,rfl,rp⟩:=r.one
  obtain⟨l,ws,rfl,hl,rl⟩:=rp.QaC
  left
  exact⟨l,ws,rfl,.inr hl,by rw[← rl.length];exact q _ λ_=> .int_mk⟩
 ·split at e
  ·rename_i hz
   cases e
   refine⟨rfl,λH vs F Q r q=>?_⟩
   obtain⟨v,rfl,rp⟩:=r.one
   exact .inr ⟨_,by rw[rp.str_inv],hz,q _ λ_=> .int_mk⟩
  ·cases e
 ·cases e
noncomputable def QhT:List D->Option D
 | [.int i,.int j]=>some (.int (if j<i then j else i))
 | _=>none
noncomputable def Qid:List D->Option D
 | [.int i,.int j]=>some (.int (if j>i then j else i))
 | _=>none
theorem Qr5{K:PySem.W.Frag}:Qdf K QhT (λxs H Q=>∃i j,xs=[.int i,.int j]/\Q (.int (if j<i then j else i)) H):=λds d e=>by
 unfold QhT at e
 split at e
 ·cases e
  refine⟨rfl,λH vs F Q r q=>?_⟩
  obtain⟨v,w,F1,F2,rfl,r1,r2⟩:=r.two
  exact⟨_,_,by rw[r1.int_inv,r2.int_inv],q _ λ_=> .int_mk⟩
 ·cases e
theorem QsY{K:PySem.W.Frag}:Qdf K Qid (λxs H Q=>∃i j,xs=[.int i,.int j]/\Q (.int (if j>i then j else i)) H):=λds d e=>by
 unfold Qid at e
 split at e
 ·cases e
  refine⟨rfl,λH vs F Q r q=>?_⟩
  obtain⟨v,w,F1,F2,rfl,r1,r2⟩:=r.two
  exact⟨_,_,by rw[r1.int_inv,r2.int_inv],q _ λ_=> .int_mk⟩
 ·cases e
noncomputable def dList(fs:DA):DE:=λρ=>(fs ρ).bind λr=>match r.ds with
 | [.lst xs]=>some (Qax xs r.M)
 | [.tup xs]=>if xs.length<=sizeLine then some (Qax xs r.M)else none
 | _=>none
end
end HS
namespace HS
open PySem PySem.Spec L2 PyProof.Rows
end HS
namespace HS
open PySem PySem.Spec L2
mutual
noncomputable def D.py:D->PyData
 | .non=> .none
 | .bl b=> .bool b
 | .int i=> .int i
 | .str x=> .str x
 | .tup xs=> .tuple (pys xs)
 | .lst xs=> .list (pys xs)
 | .exc _=> .none
 | .dk _=> .none
 | .obj _ _=> .none
noncomputable def pys:List D->List PyData
 | []=>[]
 | d::ds=>d.py::pys ds
end
theorem QmA:∀ds:List D,pys ds=ds.map D.py
 | []=>rfl
 | d::ds=>by simp[pys,QmA ds]
noncomputable def D.sim:Nat->D->Bool
 | _,.non=>true
 | _,.bl _=>true
 | _,.int _=>true
 | _,.str x=>PyData.canLay0 (.str x)
 | 0,.tup xs=>xs.isEmpty
 | 0,.lst xs=>xs.isEmpty
 | n+1,.tup xs=>xs.all (D.sim n)
 | n+1,.lst xs=>xs.all (D.sim n)
 | _,.exc _=>false
 | _,.dk _=>false
 | _,.obj _ _=>false
theorem Qeb:∀{ds:List D},(∀d∈ds,d.py.canLay0=true)->PyData.canLayAll0 (pys ds)=true
 | [],_=>rfl
 | d::ds,h=>by
  simp only[pys,PyData.canLayAll0,Zg]
  exact⟨h d Zf,Qeb λe he=>h e (Zb _ he)⟩
theorem QeJ:∀{ds:List D},(∀d∈ds,d.py.depth<=n)->PyData.depthAll (pys ds)<=n
 | [],_=>Zaf _
 | d::ds,h=>by
  simp only[pys,PyData.depthAll]
  exact Nat.max_le.mpr ⟨h d Zf,QeJ λe he=>h e (Zb _ he)⟩
theorem Qby:∀(n:Nat) (d:D),d.sim n=true->d.py.canLay0=true/\d.py.depth<=n+1
 | n,.exc _,h=>by cases n<;>cases h
 | n,.dk _,h=>by cases n<;>cases h
 | n,.obj _ _,h=>by cases n<;>cases h
 | n,.non,_=>by simp[D.py,PyData.canLay0,PyData.depth]
 | n,.bl _,_=>by simp[D.py,PyData.canLay0,PyData.depth]
 | n,.int _,_=>by simp[D.py,PyData.canLay0,PyData.depth]
 | n,.str x,h=>by
  simp only[D.py,PyData.depth]
  refine⟨?_,Zaf _⟩
  cases n<;>exact h
 | 0,.tup xs,h=>by
  have:xs=[]:=by simpa[D.sim]using h
  subst this
  simp[D.py,pys,PyData.canLay0,PyData.canLayAll0,PyData.depth,PyData.depthAll]
 | 0,.lst xs,h=>by
  have:xs=[]:=by simpa[D.sim]using h
  subst this
  simp[D.py,pys,PyData.canLay0,PyData.canLayAll0,PyData.depth,PyData.depthAll]
 | n+1,.tup xs,h=>by
  simp only[D.sim,Zar]at h
  simp only[D.py,PyData.canLay0,PyData.depth]
  exact⟨Qeb λd hd=>(Qby n d (h d hd)).1,Zbo (QeJ λd hd=>(Qby n d (h d hd)).2) 1⟩
 | n+1,.lst xs,h=>by
  simp only[D.sim,Zar]at h
  simp only[D.py,PyData.canLay0,PyData.depth]
  exact⟨Qeb λd hd=>(Qby n d (h d hd)).1,Zbo (QeJ λd hd=>(Qby n d (h d hd)).2) 1⟩
noncomputable def deq(a b:D):Bool:=PyData.eqv a.py b.py
theorem QpO(h:d.sim n=true):deq d d=true:=SeqAt.eqv_refl _ (Qby n d h).1
mutual
noncomputable def D.noX:D->Bool
 | .exc _=>false
 | .dk _=>false
 | .obj _ _=>false
 | .tup xs=>Qht xs
 | .lst xs=>Qht xs
 | .non=>true
 | .bl _=>true
 | .int _=>true
 | .str _=>true
noncomputable def Qht:List D->Bool
 | []=>true
 | d::ds=>d.noX && Qht ds
end
theorem Qiv:∀{ds:List D},(∀d∈ds,d.noX=true)->Qht ds=true
 | [],_=>rfl
 | d::ds,h=>by
  simp only[Qht,Zg]
  exact⟨h d Zf,Qiv λe he=>h e (Zb _ he)⟩
theorem Qb3:∀(n:Nat) (d:D),d.sim n=true->d.noX=true
 | n,.exc _,h=>by cases n<;>cases h
 | n,.dk _,h=>by cases n<;>cases h
 | n,.obj _ _,h=>by cases n<;>cases h
 | n,.non,_=>rfl
 | n,.bl _,_=>rfl
 | n,.int _,_=>rfl
 | n,.str x,_=>rfl
 | 0,.tup xs,h=>by
  have:xs=[]:=by simpa[D.sim]using h
  subst this;rfl
 | 0,.lst xs,h=>by
  have:xs=[]:=by simpa[D.sim]using h
  subst this;rfl
 | n+1,.tup xs,h=>by
  simp only[D.sim,Zar]at h
  simp only[D.noX]
  exact Qiv λd hd=>Qb3 n d (h d hd)
 | n+1,.lst xs,h=>by
  simp only[D.sim,Zar]at h
  simp only[D.noX]
  exact Qiv λd hd=>Qb3 n d (h d hd)
section
variable {X:Cx}{pins:List (Addr×Obj)}{σ:L2.St}{H:Hp}{s:Shared}
mutual
theorem Rp.reads(I:Inv X pins σ H s):∀{d:D}{v:V}{F:List Addr}{u:Value},d.noX=true->Rp X.K H d v F->RelV v u->∃as,Reads s.heap u d.py as
 | .exc _,v,_,u,hx,h,r=>by cases hx
 | .dk _,v,_,u,hx,h,r=>by cases hx
 | .obj _ _,v,_,u,hx,h,r=>by cases hx
 | .non,v,_,u,hx,h,r=>by
  rw[h.QeS]at r
  cases(show u=Value.none from r)
  exact⟨_,.none⟩
 | .bl b,v,_,u,hx,h,r=>by
  rw[h.QeV]at r
  cases(show u=Value.bool b from r)
  exact⟨_,.bool b⟩
 | .int i,v,_,u,hx,h,r=>by
  rw[h.int_inv]at r
  obtain⟨t,rfl⟩:=(show ∃t,u=Value.int i t from r)
  exact⟨_,.int i t⟩
 | .str i,v,_,u,hx,h,r=>by
  rw[h.str_inv]at r
  obtain⟨t,rfl⟩:=(show ∃t,u=Value.str i t from r)
  exact⟨_,.str i t⟩
 | .tup ds,v,_,u,hx,h,r=>by
  obtain⟨a,vs,rfl,hq,rs⟩:=h.QaC
  cases(show u=Value.ref a from r)
  obtain⟨its,rv,⟨o,h1,h2,n,h3⟩,_⟩:=I.tuple hq
  obtain⟨as,ra⟩:=Rps.reads I (by simpa only[D.noX]using hx) rs rv
  exact⟨_,.tuple h1 h2 h3 (by simpa using ra)⟩
 | .lst ds,v,_,u,hx,h,r=>by
  simp only[Rp]at h
  obtain⟨hz,a,vs,rfl,h⟩:=h
  have key:∃G,(H a=some (.lst vs)∨Fix X.K H a vs)/\Rps X.K H ds vs G:=by
   rcases h with⟨G,_,q,rs⟩ | ⟨q,rs⟩
   ·exact⟨G,.inl q,rs⟩
   ·exact⟨_,.inr q,rs⟩
  obtain⟨G,hq,rs⟩:=key
  cases(show u=Value.ref a from r)
  obtain⟨_,its,n,rv,_,e⟩:=I.Qkw hq
  obtain⟨as,ra⟩:=Rps.reads I (by simpa only[D.noX]using hx) rs rv
  exact⟨_,.list e rfl rfl (by simpa using ra)⟩
theorem Rps.reads(I:Inv X pins σ H s):∀{ds:List D}{vs:List V}{F:List Addr}{us:List Value},Qht ds=true->Rps X.K H ds vs F->Qt vs us->∃as,ReadsAll s.heap us (pys ds) as
 | [],vs,_,us,_,h,r=>by
  simp only[Rps]at h
  rw[h.1]at r
  cases r
  exact⟨_,.nil⟩
 | d::ds,vs,_,us,hx,h,r=>by
  simp only[Qht,Zg]at hx
  simp only[Rps]at h
  obtain⟨v,ws,F1,F2,rfl,rfl,h1,h2⟩:=h
  cases r with
  | cons r rr=>
   obtain⟨as,ra⟩:=Rp.reads I hx.1 h1 r
   obtain⟨bs,rb⟩:=Rps.reads I hx.2 h2 rr
   exact⟨_,.cons ra rb⟩
end
end
noncomputable def gEq(a b:D):Option D:=if a.sim 8 && b.sim 8 then some (.bl (deq a b))else none
noncomputable def gNe(a b:D):Option D:=if a.sim 8 && b.sim 8 then some (.bl (!deq a b))else none
noncomputable def QnH(neg:Bool)(a b:D):Option D:=match a,b with
 | .str x,.str y=>some (.bl (if neg then !(!(Builtin.Str.occurrences y x 0 y.length 1).isEmpty)else !(Builtin.Str.occurrences y x 0 y.length 1).isEmpty))
 | _,_=>none
noncomputable def Qk8(neg:Bool):R2:=λx y H Q=>∃i j,x= .str i/\y= .str j/\Q (.bl (if neg then !(!(Builtin.Str.occurrences j i 0 j.length 1).isEmpty)else !(Builtin.Str.occurrences j i 0 j.length 1).isEmpty)) H
theorem Qu4{X:Cx}:OpR X (compareOp .In) (Qk8 false):=Qok
theorem QsF{X:Cx}:OpR X (compareOp .NotIn) (Qk8 true):=QkD
theorem Qt1{K:PySem.W.Frag}{neg:Bool}:Qbz K (QnH neg) (Qk8 neg):=λa b d e=>by
 unfold QnH at e
 split at e
 ·cases e
  exact⟨rfl,λH x y F G Q ha hb q=>⟨_,_,ha.str_inv,hb.str_inv,q _ λ_=> .Qcw⟩⟩
 ·cases e
noncomputable def gIn(neg:Bool)(a b:D):Option D:=match b with
 | .lst xs=>if a.sim 8 && b.sim 8 then some (.bl (if neg then !(xs.any λy=>deq y a)else xs.any λy=>deq y a))else none
 | .tup xs=>if a.sim 8 && b.sim 8 then some (.bl (if neg then !(xs.any λy=>deq y a)else xs.any λy=>deq y a))else none
 | .str _=>QnH neg a b
 | _=>none
theorem Qpf{neg:Bool}:∀a b d,gIn neg a b=some d->∃k,d= .bl k:=λa b d h=>by
 unfold gIn at h
 split at h
 ·split at h<;>cases h;exact⟨_,rfl⟩
 ·split at h<;>cases h;exact⟨_,rfl⟩
 ·unfold QnH at h;split at h;(cases h;exact⟨_,rfl⟩);cases h
 ·cases h
noncomputable def Qu5(K:PySem.W.Frag):R2:=λx y H Q=>∃a b F G,Rp K H a x F/\Rp K H b y G/\a.sim 8=true/\b.sim 8=true/\Q (.bl (deq a b)) H
noncomputable def QuV(K:PySem.W.Frag):R2:=λx y H Q=>∃a b F G,Rp K H a x F/\Rp K H b y G/\a.sim 8=true/\b.sim 8=true/\Q (.bl (!deq a b)) H
section
variable {X:Cx}
theorem Qut(hu:X.A.units+64<cLine):OpR X (compareOp .Eq) (Qu5 X.K):=by
 intro pins s σ H x y v u Q I rx ry h
 obtain⟨a,b,F,G,ha,hb,sa,sb,q⟩:=h
 obtain⟨as,ra⟩:=Rp.reads I (Qb3 8 _ sa) ha rx
 obtain⟨bs,rb⟩:=Rp.reads I (Qb3 8 _ sb) hb ry
 have h1:=Qby 8 a sa
 have h2:=Qby 8 b sb
 exact SeqAt.compareEq_reads ra rb h1.1 h2.1 (by have:=Nat.min_le_left a.py.depth b.py.depth;omega) ⟨.bl _,H,I,rfl,q⟩
theorem Quv(hu:X.A.units+64<cLine):OpR X (compareOp .NotEq) (QuV X.K):=by
 intro pins s σ H x y v u Q I rx ry h
 obtain⟨a,b,F,G,ha,hb,sa,sb,q⟩:=h
 obtain⟨as,ra⟩:=Rp.reads I (Qb3 8 _ sa) ha rx
 obtain⟨bs,rb⟩:=Rp.reads I (Qb3 8 _ sb) hb ry
 have h1:=Qby 8 a sa
 have h2:=Qby 8 b sb
 exact SeqAt.compareNe_reads ra rb h1.1 h2.1 (by have:=Nat.min_le_left a.py.depth b.py.depth;omega) ⟨.bl _,H,I,rfl,q⟩
theorem Qwu:Qbz K gEq (Qu5 K):=λa b d e=>by
 unfold gEq at e
 split at e
 ·rename_i h
  simp only[Zg]at h
  cases e
  exact⟨rfl,λH x y F G Q ha hb q=>⟨a,b,F,G,ha,hb,h.1,h.2,q _ λ_=> .Qcw⟩⟩
 ·cases e
theorem QwF:Qbz K gNe (QuV K):=λa b d e=>by
 unfold gNe at e
 split at e
 ·rename_i h
  simp only[Zg]at h
  cases e
  exact⟨rfl,λH x y F G Q ha hb q=>⟨a,b,F,G,ha,hb,h.1,h.2,q _ λ_=> .Qcw⟩⟩
 ·cases e
noncomputable def QqL(K:PySem.W.Frag)(neg:Bool):R2:=λx y H Q=>∃a b F G xs,Rp K H a x F/\Rp K H b y G/\a.sim 8=true/\b.sim 8=true/\(b= .lst xs∨b= .tup xs)/\Q (.bl (if neg then !(xs.any λy=>deq y a)else xs.any λy=>deq y a)) H
noncomputable def Qiy(K:PySem.W.Frag)(neg:Bool):R2:=λx y H Q=>QqL K neg x y H Q
 ∨Qk8 neg x y H Q
theorem inS{K:PySem.W.Frag}{neg:Bool}{x y:V}{H:Hp}{Q:VK}(h:QqL K neg x y H Q):Qiy K neg x y H Q:=by first | exact h | exact .inl h
theorem QnS{K:PySem.W.Frag}{neg:Bool}{x y:V}{H:Hp}{Q:VK}{P:Prop}(h:Qiy K neg x y H Q)(h1:QqL K neg x y H Q->P)
 (h3:Qk8 neg x y H Q->P)
 :P:=by
 unfold Qiy at h
 first
  | exact h1 h
  | exact h.elim h1 h3
  | exact h.elim h1 λh=>h.elim h2 h3
theorem QnX(xs:List D)(a:D):((pys xs).any λy=>PyData.eqv y a.py)=xs.any λy=>deq y a:=by
 rw[QmA,List.any_map];rfl
theorem Qvn(hu:X.A.units+64<cLine):OpR X (compareOp .In) (Qiy X.K false):=by
 intro pins s σ H x y v u Q I rx ry h
 refine QnS h (λh=>?_)
  (Qu4 pins s σ H x y v u Q I rx ry)
 obtain⟨a,b,F,G,xs,ha,hb,sa,sb,hk,q⟩:=h
 obtain⟨as,ra⟩:=Rp.reads I (Qb3 8 _ sa) ha rx
 obtain⟨bs,rb⟩:=Rp.reads I (Qb3 8 _ sb) hb ry
 have h1:=Qby 8 a sa
 have h2:=Qby 8 b sb
 have q':Q (.bl ((pys xs).any λy=>PyData.eqv y a.py)) H:=by rw[QnX];exact q
 rcases hk with rfl | rfl
 ·exact SeqAt.in_list_reads rb ra h2.1 h1.1 (by have:=Zbk (PyData.depthAll (pys xs)) a.py.depth;omega) ⟨.bl _,H,I,rfl,q'⟩
 ·exact SeqAt.in_tuple_reads rb ra h2.1 h1.1 (by have:=Zbk (PyData.depthAll (pys xs)) a.py.depth;omega) ⟨.bl _,H,I,rfl,q'⟩
theorem Qo6(hu:X.A.units+64<cLine):OpR X (compareOp .NotIn) (Qiy X.K true):=by
 intro pins s σ H x y v u Q I rx ry h
 refine QnS h (λh=>?_)
  (QsF pins s σ H x y v u Q I rx ry)
 obtain⟨a,b,F,G,xs,ha,hb,sa,sb,hk,q⟩:=h
 obtain⟨as,ra⟩:=Rp.reads I (Qb3 8 _ sa) ha rx
 obtain⟨bs,rb⟩:=Rp.reads I (Qb3 8 _ sb) hb ry
 have h1:=Qby 8 a sa
 have h2:=Qby 8 b sb
 have q':Q (.bl (!(pys xs).any λy=>PyData.eqv y a.py)) H:=by rw[QnX];exact q
 rcases hk with rfl | rfl
 ·exact SeqAt.notIn_list_reads rb ra h2.1 h1.1 (by have:=Zbk (PyData.depthAll (pys xs)) a.py.depth;omega) ⟨.bl _,H,I,rfl,q'⟩
 ·exact SeqAt.notIn_tuple_reads rb ra h2.1 h1.1 (by have:=Zbk (PyData.depthAll (pys xs)) a.py.depth;omega) ⟨.bl _,H,I,rfl,q'⟩
theorem QrA:Qbz K (gIn neg) (Qiy K neg):=λa b d e=>by
 unfold gIn at e
 split at e
 ·split at e
  ·rename_i h
   simp only[Zg]at h
   cases e
   exact⟨rfl,λH x y F G Q ha hb q=>inS ⟨a,_,F,G,_,ha,hb,h.1,h.2,.inl rfl,q _ λ_=> .Qcw⟩⟩
  ·cases e
 ·split at e
  ·rename_i h
   simp only[Zg]at h
   cases e
   exact⟨rfl,λH x y F G Q ha hb q=>inS ⟨a,_,F,G,_,ha,hb,h.1,h.2,.inr rfl,q _ λ_=> .Qcw⟩⟩
  ·cases e
 ·obtain⟨h1,h2⟩:=Qt1 (K:=K) _ _ _ e
  exact⟨h1,λH x y F G Q ha hb q=>by have:=h2 H x y F G Q ha hb q;first | exact .inr this | exact .inr (.inr this)⟩
 ·cases e
noncomputable def D.Qm1:D->Bool
 | .non=>true
 | _=>false
theorem QrL(h:Rp K H d v F):decide (v= .non)=d.Qm1:=by
 cases d with
 | obj o ds=>simp only[Rp]at h;obtain⟨vs,A,G,_,q,_⟩:=h;exact decide_eq_false q.ne
 | non=>rw[h.QeS];rfl
 | bl b=>rw[h.QeV];rfl
 | int b=>rw[h.int_inv];rfl
 | str b=>rw[h.str_inv];rfl
 | tup b=>obtain⟨a,vs,rfl,_⟩:=h.QaC;rfl
 | lst b=>obtain⟨a,vs,G,rfl,_⟩:=h.lst_inv;rfl
 | exc b=>simp only[Rp]at h;obtain⟨⟨a,rfl,_⟩,_⟩:=h;rfl
 | dk b=>simp only[Rp]at h;obtain⟨a,rfl,_⟩:=h;rfl
noncomputable def D.tyN:D->String
 | .non=> "NoneType" | .bl _=> "bool" | .int _=> "int" | .str _=> "str" | .tup _=> "tuple" | .lst _=> "list" | .exc _=> "?" | .dk _=> "?"
 | .obj _ _=> "?"
noncomputable def D.isE:D->Bool
 | .exc _=>true
 | .dk _=>true
 | .obj _ _=>true
 | _=>false
noncomputable def D.isa(T:String)(d:D):Option Bool:=if(T == "int" || T == "bool" || T == "list" || T == "tuple" || T == "str") && !d.isE then some (d.tyN == T || (d.tyN == "bool" && T == "int"))else none
theorem QvT(I:Inv X pins σ H s)(rp:Rp X.K H d v F)(rx:RelV v u)(e:d.isa T=some b)(h:∀tk,Q (.bool b) {s with toks:=tk}):
  wpAny (model X.prog X.w) A (call (.builtin "isinstance") [u,.type T]) Q E s:=by
 have kit:PySem.W.kitOne X.K (.type d.tyN) (.type T)=some b:=by
  unfold D.isa at e
  split at e
  ·rename_i hT
   cases e
   simp only[Zg,ZbU,beq_iff_eq]at hT
   obtain⟨hT,hE⟩:=hT
   rcases hT with(((rfl | rfl) | rfl) | rfl) | rfl<;>cases d<;>first | rfl | (cases hE)
  ·cases e
 cases d with
 | exc x=>unfold D.isa at e;split at e;(rename_i hT;exfalso;simp only[Zg]at hT;exact nomatch hT.2);cases e
 | dk x=>unfold D.isa at e;split at e;(rename_i hT;exfalso;simp only[Zg]at hT;exact nomatch hT.2);cases e
 | obj _ _=>unfold D.isa at e;split at e;(rename_i hT;exfalso;simp only[Zg]at hT;exact nomatch hT.2);cases e
 | non=>rw[rp.QeS]at rx;cases(show u=Value.none from rx);exact ZaS PySem.W.kitx_none I.kIn True.intro kit (λz=>nomatch z) h
 | bl y=>rw[rp.QeV]at rx;cases(show u=Value.bool y from rx);exact ZaS PySem.W.kitx_bool I.kIn True.intro kit (λz=>nomatch z) h
 | int i=>rw[rp.int_inv]at rx;obtain⟨t,q⟩:=(show ∃t,u=Value.int i t from rx);cases q;exact ZaS PySem.W.kitx_int I.kIn True.intro kit (λz=>nomatch z) h
 | str y=>rw[rp.str_inv]at rx;obtain⟨t,q⟩:=(show ∃t,u=Value.str y t from rx);cases q;exact ZaS PySem.W.kitx_str I.kIn True.intro kit (λz=>nomatch z) h
 | tup ds=>
  obtain⟨a,vs,rfl,hq,_⟩:=rp.QaC
  cases(show u=Value.ref a from rx)
  obtain⟨its,rv,⟨o,h1,h2,n,h3⟩,_⟩:=I.tuple hq
  exact ZaS PySem.W.kitx_tuple I.kIn ⟨o,h1,h2⟩ kit (λz=>nomatch z) h
 | lst ds=>
  obtain⟨a,vs,G,rfl,hq,_⟩:=rp.lst_inv
  cases(show u=Value.ref a from rx)
  obtain⟨_,its,n,rv,_,e1⟩:=I.Qkw hq
  exact ZaS PySem.W.kitx_list I.kIn ⟨_,e1,rfl⟩ kit (λz=>nomatch z) h
noncomputable def Qxg(K:PySem.W.Frag):List V->Hp->VK->Prop:=λxs H Q=>∃x T d F b,xs=[x,.ty T]/\Rp K H d x F/\d.isa T=some b/\Q (.bl b) H
theorem QpR:QaX X (.builtin "isinstance") (Qxg X.K):=by
 intro pins s σ H xs us Q I r h
 obtain⟨x,T,d,F,b,rfl,rp,e,q⟩:=h
 obtain⟨u,w,rfl,ru,rw'⟩:=vals2 r
 cases(show w=Value.type T from rw')
 exact QvT I rp ru e λtk=>⟨.bl b,H,I.tok _,rfl,q⟩
noncomputable def QeD(T:String)(fa:DE):DE:=λρ=>(fa ρ).bind λr=>(r.d.isa T).map λb=>⟨.bl b,true,[]⟩
theorem Qu2(hg:Gl X "isinstance")(hm:X.mg "isinstance" =none)(ha:SE X a fa)(hT:PE X (.Name x p2) (tC (.ty T)))
  (he:starEach [a,.Name x p2] X.env=(false,eval a X.env)::starEach [.Name x p2] X.env):SE X (.Call (.Name "isinstance" p) [a,.Name x p2] [] pos) (QeD T fa):=λH0 A0=>
 (Qhk QpR hg hm PyProof.Rows.boot_isinstance (Qan (ha H0 A0) (Qan hT QbW) he) (by decide) (by decide) he (by rfl)).mono λσ H Q=>exK λρ hs F r' rel e q=>by
  refine Qe e λr e1 e=>?_
  obtain⟨b,eb,e⟩:=Zc.mp e
  subst e
  exact⟨ρ,hs,F,r,rel,e1,λv H1 G p=>⟨v,T,r.d,G,b,rfl,p.rp,eb,q _ H1 [] (.flat p.same .Qcw)⟩⟩
noncomputable def D.tru:D->Option Bool
 | .non=>some false
 | .bl b=>some b
 | .int i=>some (i != 0)
 | .lst xs=>some (!xs.isEmpty)
 | .tup xs=>some (!xs.isEmpty)
 | .str _=>none
 | .exc _=>none
 | .dk _=>none
 | .obj _ _=>none
theorem QjQ(h:Rp K H d v F)(e:d.tru=some b):Qpz K v H b:=by
 have emp:∀{ds:List D}{vs:List V}{G:List Addr},Rps K H ds vs G->(!ds.isEmpty)= !vs.isEmpty:=λ{ds vs G} r=>by
  have:=r.length
  cases ds<;>cases vs<;>simp_all
 cases d with
 | non=>rw[h.QeS];cases e;exact rfl
 | bl c=>rw[h.QeV];cases e;exact rfl
 | int i=>rw[h.int_inv];cases e;exact rfl
 | str i=>cases e
 | exc i=>cases e
 | dk i=>cases e
 | obj _ _=>cases e
 | tup ds=>cases e;obtain⟨a,vs,rfl,hq,r⟩:=h.QaC;exact .inr (.inl ⟨vs,hq,emp r⟩)
 | lst ds=>cases e;obtain⟨a,vs,G,rfl,hq,r,_⟩:=h.lst_inv;exact .inl ⟨vs,QT hq,emp r⟩
noncomputable def QC(fa:DE):DT:=λρ=>(fa ρ).bind λr=>r.d.tru
noncomputable def QiL(f g:DT):DT:=λρ=>(f ρ).bind λb=>if b=true then g ρ else some false
noncomputable def bOr(f g:DT):DT:=λρ=>(f ρ).bind λb=>if b=true then some true else g ρ
noncomputable def Qbp(f:DT):DT:=λρ=>(f ρ).bind λb=>some (!b)
def SW(X:Cx)(e:Expr)(f:DT):Prop:=∀H0 A0,PW X e (tVT X.K H0 A0 f)
theorem _root_.L2.PW.mono(h:PW X e t)(m:∀σ H Q,t' σ H Q->t σ H Q):PW X e t':=λwh pins s σ H Q I q=>h wh pins s σ H Q I (m σ H Q q)
variable {a b e:Expr}{fa fb:DE}{ga gb gc:DT}{pos:Pos}{rest:List Expr}
theorem Qt3(ha:SE X a fa)(he:∀whole,isTrue a X.env whole=(do let v ← whole;standAt a.pos;holding [v] (truthy v))):ST X a (QC fa):=λH0 A0=>
 (Qqx (ha H0 A0) he).mono λσ H Q=>exK λρ hs F b rel e q=>by
  refine Qe e λr e1 e=>?_
  exact⟨ρ,hs,F,r,rel,e1,λv H1 G p=>⟨b,QjQ p.rp e,q H1 p.same⟩⟩
theorem QuU(ho:OpR X (compareOp op) r)(hg:Qbz X.K g r)(hbl:∀a b d,g a b=some d->∃k,d= .bl k)(ha:SE X a fa)(hb:SE X b fb)(hm:behindInMarks op b=false):ST X (.Compare a [op] [b] pos) (QC (dOp g fa fb)):=λH0 A0=>
 (QsL ho (ha H0 A0) (hb H0 A0) hm).mono λσ H Q=>exK λρ hs F k rel e q=>by
  refine Qe e λr' e0 e=>?_
  obtain⟨ra,rb,d,ea,eb,eg,rfl⟩:=Qi1 e0
  obtain⟨k',rfl⟩:=hbl _ _ _ eg
  cases e
  refine two rel ea eb λx y H1 H2 G1 G2 p1 p2=>(hg _ _ _ eg).2 H2 x y G1 G2 _ (p1.rp.same p2.same) p2.rp λv hv=>?_
  exact⟨_,(hv H2).QeV,q H2 (p1.same.trans p2.same)⟩
theorem Qvb(ha:ST X a ga):ST X (.UnaryOp .Not a pos) (Qbp ga):=λH0 A0=>
 (Qup (ha H0 A0)).mono λσ H Q=>exK λρ hs F b rel e q=>by
  refine Qe e λc e1 e=>?_
  cases e
  exact⟨ρ,hs,F,c,rel,e1,λH1 s1=>q H1 s1⟩
theorem Qsc(ha:ST X a ga):SW X (.BoolOp .And [a] pos) ga:=λH0 A0=>Qtt (ha H0 A0)
theorem Que(ha:ST X a ga):SW X (.BoolOp .Or [a] pos) ga:=λH0 A0=>Qvm (ha H0 A0)
theorem Qt4(ha:ST X a ga)(hb:SW X (.BoolOp .And (b::rest) pos) gb):SW X (.BoolOp .And (a::b::rest) pos) (QiL ga gb):=λH0 A0=>
 (Qvv (ha H0 A0) (hb H0 A0)).mono λσ H Q=>exK λρ hs F c rel e q=>by
  refine Qe e λd e1 e=>?_
  refine⟨ρ,hs,F,d,rel,e1,λH1 s1=>?_⟩
  cases d with
  | true=>exact⟨ρ,hs,F,c,rel.ext s1,e,λH2 s2=>q H2 (s1.trans s2)⟩
  | false=>cases e;exact q H1 s1
theorem Qw7(ha:ST X a ga)(hb:SW X (.BoolOp .Or (b::rest) pos) gb):SW X (.BoolOp .Or (a::b::rest) pos) (bOr ga gb):=λH0 A0=>
 (Qwi (ha H0 A0) (hb H0 A0)).mono λσ H Q=>exK λρ hs F c rel e q=>by
  refine Qe e λd e1 e=>?_
  refine⟨ρ,hs,F,d,rel,e1,λH1 s1=>?_⟩
  cases d with
  | true=>cases e;exact q H1 s1
  | false=>exact⟨ρ,hs,F,c,rel.ext s1,e,λH2 s2=>q H2 (s1.trans s2)⟩
theorem SW.st(h:SW X e ga):ST X e ga:=λH0 A0=>(h H0 A0).pt
noncomputable def Qf1(fa fb:DE):DE:=λρ=>(fa ρ).bind λra=>(ra.d.tru).bind λb=>if b=true then fb ρ else some ra
noncomputable def dOr(fa fb:DE):DE:=λρ=>(fa ρ).bind λra=>(ra.d.tru).bind λb=>if b=true then some ra else fb ρ
noncomputable def Qq5(fa:DE):DE:=λρ=>(fa ρ).bind λra=>(ra.d.tru).bind λb=>some ⟨.bl (!b),true,[]⟩
noncomputable def dIf(g:DT)(fa fb:DE):DE:=λρ=>(g ρ).bind λb=>if b=true then fa ρ else fb ρ
theorem Qoy{op}(h:SE X a fa):SE X (.BoolOp op [a] pos) fa:=λH0 A0=>Qvp (h H0 A0)
theorem QO.ext(s:Qw H H1)(p:QO K ρ F H1 H2 r v G)(rel:Rel K H0 A0 hs ρ F σ H):QO K ρ F H H2 r v G where
 same:=s.trans p.same
 rp:=p.rp
 src:=λa ha=>(p.src a ha).elim (λz=> .inl (s.free z)) .inr
 cnt:=λh=>⟨λa=>ZF ((p.cnt h).1 a) (Zbo (by
  cases q:H1 a with
  | none=>rw[QaD q,QaD (s.free q)];exact Zm _
  | some o=>rw[QcZ q];exact Zaf _) _),(p.cnt h).2⟩
 own:=p.own
theorem QuL(ha:SE X a fa)(hb:SE X (.BoolOp .And (b::rest) pos) fb):SE X (.BoolOp .And (a::b::rest) pos) (Qf1 fa fb):=λH0 A0=>by
 intro pins s σ H Q I ⟨ρ,hs,F,r,rel,e,q⟩
 refine Qe e λra e1 e=>?_
 refine Qe e λc e2 e=>?_
 refine PyProof.Rows.BoolOp_and (thn (ha H0 A0 pins s σ H _ I ⟨ρ,hs,F,ra,rel,e1,λv H' G p=>(⟨G,p⟩:∃G,QO X.K ρ F H H' ra v G)⟩) λv s1 hpt=>?_)
 obtain⟨x,H1,I1,r1,G,p⟩:=hpt
 refine thn (QhM pins s1 σ H1 x v (λk H2=>k=c/\H2=H1) I1 r1 ⟨c,QjQ p.rp e2,rfl,rfl⟩) λk s2 hpt=>?_
 obtain⟨H2,I2,e3,e4⟩:=hpt
 subst e3 e4
 cases k with
 | true=>exact hb H0 A0 pins s2 σ _ Q I2 ⟨ρ,hs,F,r,rel.ext p.same,e,λw H3 G3 p3=>q w H3 G3 (p3.ext p.same rel)⟩
 | false=>cases e;exact⟨x,_,I2,r1,q x _ G p⟩
theorem Qwf(ha:SE X a fa)(hb:SE X (.BoolOp .Or (b::rest) pos) fb):SE X (.BoolOp .Or (a::b::rest) pos) (dOr fa fb):=λH0 A0=>by
 intro pins s σ H Q I ⟨ρ,hs,F,r,rel,e,q⟩
 refine Qe e λra e1 e=>?_
 refine Qe e λc e2 e=>?_
 refine PyProof.Rows.BoolOp_or (thn (ha H0 A0 pins s σ H _ I ⟨ρ,hs,F,ra,rel,e1,λv H' G p=>(⟨G,p⟩:∃G,QO X.K ρ F H H' ra v G)⟩) λv s1 hpt=>?_)
 obtain⟨x,H1,I1,r1,G,p⟩:=hpt
 refine thn (QhM pins s1 σ H1 x v (λk H2=>k=c/\H2=H1) I1 r1 ⟨c,QjQ p.rp e2,rfl,rfl⟩) λk s2 hpt=>?_
 obtain⟨H2,I2,e3,e4⟩:=hpt
 subst e3 e4
 cases k with
 | false=>exact hb H0 A0 pins s2 σ _ Q I2 ⟨ρ,hs,F,r,rel.ext p.same,e,λw H3 G3 p3=>q w H3 G3 (p3.ext p.same rel)⟩
 | true=>cases e;exact⟨x,_,I2,r1,q x _ G p⟩
theorem Quc(ha:SE X a fa):SE X (.UnaryOp .Not a pos) (Qq5 fa):=λH0 A0=>by
 intro pins s σ H Q I ⟨ρ,hs,F,r,rel,e,q⟩
 refine Qe e λra e1 e=>?_
 refine Qe e λc e2 e=>?_
 cases e
 refine PyProof.Rows.UnaryOp_ (thn (ha H0 A0 pins s σ H _ I ⟨ρ,hs,F,ra,rel,e1,λv H' G p=>(⟨G,p⟩:∃G,QO X.K ρ F H H' ra v G)⟩) λv s1 hpt=>?_)
 obtain⟨x,H1,I1,r1,G,p⟩:=hpt
 refine PyProof.Rows.not_of (thn (QhM pins s1 σ H1 x v (λk H2=>k=c/\H2=H1) I1 r1 ⟨c,QjQ p.rp e2,rfl,rfl⟩) λk s2 hpt=>?_)
 obtain⟨H2,I2,e3,e4⟩:=hpt
 subst e3 e4
 exact⟨.bl (!k),_,I2,rfl,q _ _ [] (.flat p.same .Qcw)⟩
theorem QwZ(hc:ST X c gc)(ha:SE X a fa)(hb:SE X b fb):SE X (.IfExp c a b pos) (dIf gc fa fb):=λH0 A0=>
 (Qp8 (hc H0 A0) (ha H0 A0) (hb H0 A0)).mono λσ H Q=>exK λρ hs F r rel e q=>by
  refine Qe e λc e1 e=>?_
  refine⟨ρ,hs,F,c,rel,e1,λH1 s1=>?_⟩
  cases c with
  | true=>exact⟨ρ,hs,F,r,rel.ext s1,e,λv H2 G p=>q v H2 G (p.ext s1 rel)⟩
  | false=>exact⟨ρ,hs,F,r,rel.ext s1,e,λv H2 G p=>q v H2 G (p.ext s1 rel)⟩
noncomputable def QmK(fa:DE):DE:=λρ=>(fa ρ).bind λra=>match ra.d with
 | .int i=>some ⟨.int (-i),true,[]⟩
 | _=>none
theorem QtU(ha:SE X a fa):SE X (.UnaryOp .USub a pos) (QmK fa):=λH0 A0=>
 (Qv9 Quq (ha H0 A0)).mono λσ H Q=>exK λρ hs F r rel e q=>by
  refine Qe e λra e1 e=>?_
  refine⟨ρ,hs,F,ra,rel,e1,λv H1 G p=>?_⟩
  have rp:=p.rp
  cases hr:ra.d with
  | int i=>
   rw[hr]at e rp
   cases e
   exact⟨i,rp.int_inv,q _ H1 [] (.flat p.same .int_mk)⟩
  | _=>rw[hr]at e;cases e
end
end HS
namespace HS
open PySem PySem.Spec L2
section
def Qch(ρ ρ':En):Prop:=ρ'.length=ρ.length/\∀(i:Nat) d b,ρ'[i]? =some (some (d,b))->∃b',ρ[i]? =some (some (d,b'))/\(b=true->b'=true)
theorem Qch.refl:Qch ρ ρ:=⟨rfl,λi d b h=>⟨b,h,id⟩⟩
theorem Qch.trans(a:Qch ρ ρ')(b:Qch ρ' ρ''):Qch ρ ρ'':=⟨b.1.trans a.1,λi d c h=>by
 obtain⟨c',h1,h2⟩:=b.2 i d c h
 obtain⟨c'',h3,h4⟩:=a.2 i d c' h1
 exact⟨c'',h3,λz=>h4 (h2 z)⟩⟩
theorem Rel.weak(r:Rel K H0 A0 hs ρ F σ H)(w:Qch ρ ρ'):Rel K H0 A0 hs ρ' F σ H where
 len:=w.1.trans r.len
 val:=λi d b e=>let ⟨b',h,_⟩:=w.2 i d b e;r.val i d b' h
 own:=λi d e=>by
  obtain⟨b',h,hb⟩:=w.2 i d true e
  have:b'=true:=hb rfl
  subst this
  obtain⟨h1,h2,h3,h4,h5⟩:=r.own i d h
  exact⟨h1,h2,h3,λj d' b' hj e'=>let ⟨b'',h',_⟩:=w.2 j d' b' e';h4 j d' b'' hj h',h5⟩
 src:=λi d b e=>let ⟨b',h,_⟩:=w.2 i d b e;r.src i d b' h
 held:=r.held
 same:=r.same
noncomputable def kill:List Nat->En->En
 | [],ρ=>ρ
 | i::M,ρ=>kill M (ρ.set i none)
noncomputable def QbH:List Nat->En->En
 | [],ρ=>ρ
 | i::M,ρ=>QbH M (match ρ[i]? with
  | some (some (d,_))=>ρ.set i (some (d,false))
  | _=>ρ)
theorem QnR(i:Nat):Qch ρ (ρ.set i none):=⟨by simp,λj d b h=>by
 by_cases hj:i=j
 ·subst hj
  by_cases hl:i<ρ.length
  ·rw[Zt hl]at h;cases h
  ·rw[Zy (by simp;omega)]at h;cases h
 ·rw[Zi hj]at h
  exact⟨b,h,id⟩⟩
theorem Qbl:∀(M:List Nat) (ρ:En),Qch ρ (kill M ρ)
 | [],ρ=> .refl
 | i::M,ρ=>(QnR i).trans (Qbl M _)
theorem Qew:∀(M:List Nat) (ρ:En) (i:Nat) (d:D) (b:Bool),i∈M->(kill M ρ)[i]? =some (some (d,b))->False
 | [],ρ,i,d,b,h,_=>by simp at h
 | j::M,ρ,i,d,b,h,e=>by
  rcases Zo.mp h with rfl | h
  ·obtain⟨b',e',_⟩:=(Qbl M (ρ.set i none)).2 i d b e
   by_cases hl:i<ρ.length
   ·rw[Zt hl]at e';cases e'
   ·rw[Zy (by simp;omega)]at e';cases e'
  ·exact Qew M _ i d b h e
theorem Qpx(i:Nat):Qch ρ (match ρ[i]? with
  | some (some (d,_))=>ρ.set i (some (d,false))
  | _=>ρ):=by
 split
 ·rename_i d b e
  refine⟨by simp,λj d' b' h=>?_⟩
  by_cases hj:i=j
  ·subst hj
   have hl:i<ρ.length:=(Zd.mp e).1
   rw[Zt hl]at h
   cases h
   exact⟨b,e,λz=>by cases z⟩
  ·rw[Zi hj]at h
   exact⟨b',h,id⟩
 ·exact .refl
theorem Qb1:∀(M:List Nat) (ρ:En),Qch ρ (QbH M ρ)
 | [],ρ=> .refl
 | i::M,ρ=>(Qpx i).trans (Qb1 M _)
theorem Qic:∀(M:List Nat) (ρ:En) (i:Nat) (d:D),i∈M->(QbH M ρ)[i]? =some (some (d,true))->False
 | [],ρ,i,d,h,_=>by simp at h
 | j::M,ρ,i,d,h,e=>by
  rcases Zo.mp h with rfl | h
  ·obtain⟨b',e',hb⟩:=(Qb1 M _).2 i d true e
   have:b'=true:=hb rfl
   subst this
   split at e'
   ·rename_i d' b e1
    have hl:i<ρ.length:=(Zd.mp e1).1
    rw[Zt hl]at e'
    cases e'
   ·rename_i h1
    exact h1 d true e'
  ·exact Qic M _ i d h e
def Shr(H0:Hp)(A0:List Addr)(ρ:En)(F:Nat->List Addr)(G:List Addr):Prop:=
 ∀a∈G,(H0 a=none∨a∈A0)/\∀(i:Nat) d,ρ[i]? =some (some (d,true))->a∉F i
theorem Shr.of(r:Rel K H0 A0 hs ρ F σ H)(s:Src ρ F H M G):Shr H0 A0 (QbH M ρ) F G:=λa ha=>by
 have w:=Qb1 M ρ
 rcases s a ha with h | ⟨i,d,b,e,m,hm⟩
 ·refine⟨.inl (r.same.free h),λj d' e' hj=>?_⟩
  obtain⟨b',e2,_⟩:=w.2 j d' true e'
  obtain⟨vs,q⟩:=r.mem e2 hj
  rw[h]at q;cases q
 ·refine⟨r.src i d b e a m,λj d' e' hj=>?_⟩
  obtain⟨b',e2,hb⟩:=w.2 j d' true e'
  have:b'=true:=hb rfl
  subst this
  by_cases hij:i=j
  ·subst hij
   rw[e]at e2
   cases e2
   exact Qic M ρ i _ (hm rfl) e'
  ·exact(r.own j d' e2).2.2.2.1 i d b hij e a hj m
theorem Rel.Qp7(r:Rel K H0 A0 hs ρ F σ H)(rp:Rp K H d v G)(sh:Shr H0 A0 ρ F G):
  Rel K H0 A0 hs (ρ.set i (some (d,d.flat))) (λj=>if j=i then G else F j) (σ.set i (some v)) H where
 len:=by simp[r.len]
 val:=λj d' b e=>by
  by_cases hj:j=i
  ·subst hj
   have hl:j<ρ.length:=by
    by_cases hl:j<ρ.length
    ·exact hl
    ·rw[Zy (by simp;omega)]at e;cases e
   rw[Zt hl]at e
   cases e
   exact⟨v,by rw[Zt (by rw[← r.len];exact hl)],by rw[if_pos rfl];exact rp⟩
  ·rw[Zi (Ne.symm hj)]at e
   obtain⟨w,h1,h2⟩:=r.val j d' b e
   exact⟨w,by rw[Zi (Ne.symm hj)];exact h1,by rw[if_neg hj];exact h2⟩
 own:=λj d' e=>by
  by_cases hj:j=i
  ·subst hj
   have hl:j<ρ.length:=by
    by_cases hl:j<ρ.length
    ·exact hl
    ·rw[Zy (by simp;omega)]at e;cases e
   rw[Zt hl]at e
   have e1:=Option.some.inj (Option.some.inj e)
   have ed:d=d':=congrArg Prod.fst e1
   have ef:d.flat=true:=congrArg Prod.snd e1
   subst ed
   have:=rp.Qa7 ef
   subst this
   rw[if_pos rfl]
   exact⟨(Qb0 d ef).symm,Zaj,λa ha=>by simp at ha,λ_ _ _ _ _ a ha=>by simp at ha,λ_ _ a ha=>by simp at ha⟩
  ·rw[Zi (Ne.symm hj)]at e
   obtain⟨h1,h2,h3,h4,h5⟩:=r.own j d' e
   rw[if_neg hj]
   refine⟨h1,h2,h3,λk d'' b hk ek a ha=>?_,h5⟩
   by_cases hki:k=i
   ·subst hki
    rw[if_pos rfl]
    exact λhG=>(sh a hG).2 j d' e ha
   ·rw[Zi (Ne.symm hki)]at ek
    rw[if_neg hki]
    exact h4 k d'' b hk ek a ha
 src:=λj d' b e a ha=>by
  by_cases hj:j=i
  ·subst hj
   rw[if_pos rfl]at ha
   exact(sh a ha).1
  ·rw[Zi (Ne.symm hj)]at e
   rw[if_neg hj]at ha
   exact r.src j d' b e a ha
 held:=r.held
 same:=r.same
theorem Qw3(r:Rel K H0 A0 hs ρ F σ H)(ow:QaE ρ M)(nd:M.Nodup)(a:Addr):((M.map F).flatten).count a<=1:=by
 induction M with
 | nil=>simp
 | cons i M ih=>
  rw[Zq,Zat,Zad]
  obtain⟨h1,h2⟩:=ZS.mp nd
  have ih':=ih (λj hj=>ow j (Zb _ hj)) h2
  obtain⟨d,e⟩:=ow i Zf
  obtain⟨_,nd1,_,apart,_⟩:=r.own i d e
  by_cases ha:a∈F i
  ·have c1:(F i).count a<=1:=ZX.mp nd1 a
   have c2:((M.map F).flatten).count a=0:=ZI.mpr λhm=>by
    obtain⟨l,hl,hal⟩:=Zbj.mp hm
    obtain⟨j,hj,rfl⟩:=ZQ.mp hl
    obtain⟨d',e'⟩:=ow j (Zb _ hj)
    exact apart j d' true (λz=>h1 (z▸hj)) e' a ha hal
   omega
  ·have:(F i).count a=0:=ZI.mpr ha
   omega
theorem QO.fresh(r:Rel K H0 A0 hs ρ F σ H)(p:QO K ρ F H H' rr v G)(hf:rr.fr=true)(nd:rr.M.Nodup):
  G.Nodup/\∀a∈G,H0 a=none/\(H a=none∨∃i d,i∈rr.M/\ρ[i]? =some (some (d,true))/\a∈F i):=by
 obtain⟨c,_⟩:=p.cnt hf
 refine⟨ZX.mpr λa=>?_,λa ha=>?_⟩
 ·have h1:=c a
  have h2:=Qw3 r p.own nd a
  cases q:H a with
  | none=>rw[QaD q,r.fl0 p.own q]at h1;omega
  | some o=>rw[QcZ q]at h1;omega
 ·cases q:H a with
  | none=>exact⟨r.same.free q,.inl rfl⟩
  | some o=>
   have h1:=c a
   rw[QcZ q]at h1
   have h2:0<G.count a:=Zao.mpr ha
   obtain⟨l,hl,hal⟩:=Zbj.mp (Zao.mp (by omega:0<((rr.M.map F).flatten).count a))
   obtain⟨i,hi,rfl⟩:=ZQ.mp hl
   obtain⟨d,e⟩:=p.own i hi
   exact⟨(r.own i d e).2.2.1 a hal,.inr ⟨i,d,hi,e,hal⟩⟩
theorem Rel.QuB(r:Rel K H0 A0 hs ρ F σ H)(p:QO K ρ F H H' rr v G)(hf:rr.fr=true)(nd:rr.M.Nodup):
  Rel K H0 A0 hs ((kill rr.M ρ).set i (some (rr.d,true))) (λj=>if j=i then G else F j) (σ.set i (some v)) H':=by
 have r1:=(r.ext p.same).weak (Qbl rr.M ρ)
 obtain⟨gn,gs⟩:=p.fresh r hf nd
 have gl:=(p.cnt hf).2
 have apart:∀(j:Nat) d b,(kill rr.M ρ)[j]? =some (some (d,b))->∀a∈G,a∉F j:=λj d b e a ha hj=>by
  obtain⟨b',e',_⟩:=(Qbl rr.M ρ).2 j d b e
  rcases(gs a ha).2 with q | ⟨k,d',hk,ek,hak⟩
  ·obtain⟨vs,w⟩:=r.mem e' hj
   rw[q]at w;cases w
  ·have hjk:j≠k:=λz=>by subst z;exact Qew rr.M ρ j d b hk e
   exact(r.own k d' ek).2.2.2.1 j d b' hjk e' a hak hj
 have apartH:∀t∈hs,∀a∈G,a∉t.2.2:=λt ht a ha hj=>by
  rcases(gs a ha).2 with q | ⟨k,d',hk,ek,hak⟩
  ·obtain⟨vs,w⟩:=(r.held t ht).1.mem a hj
   rw[q]at w;cases w
  ·exact(r.own k d' ek).2.2.2.2 t ht a hak hj
 have lt:∀{j:Nat}{x:Option (D×Bool)}{y:D×Bool},((kill rr.M ρ).set j x)[j]? =some (some y)->j<(kill rr.M ρ).length:=λ{j x y} e=>by
  by_cases hl:j<(kill rr.M ρ).length
  ·exact hl
  ·rw[Zy (by simp;omega)]at e;cases e
 refine⟨by simp[r1.len],λj d b e=>?_,λj d e=>?_,λj d b e a ha=>?_,r1.held,r1.same⟩
 ·by_cases hj:j=i
  ·subst hj
   have hl:=lt e
   rw[Zt hl]at e
   cases e
   exact⟨v,by rw[Zt (by rw[← r1.len];exact hl)],by rw[if_pos rfl];exact p.rp⟩
  ·rw[Zi (Ne.symm hj)]at e
   obtain⟨w,h1,h2⟩:=r1.val j d b e
   exact⟨w,by rw[Zi (Ne.symm hj)];exact h1,by rw[if_neg hj];exact h2⟩
 ·by_cases hj:j=i
  ·subst hj
   have hl:=lt e
   rw[Zt hl]at e
   cases e
   rw[if_pos rfl]
   refine⟨gl,gn,λa ha=>(gs a ha).1,λk d' b hk ek a ha=>?_,apartH⟩
   rw[Zi (Ne.symm hk)]at ek
   rw[if_neg hk]
   exact apart k d' b ek a ha
  ·rw[Zi (Ne.symm hj)]at e
   obtain⟨h1,h2,h3,h4,h5⟩:=r1.own j d e
   rw[if_neg hj]
   refine⟨h1,h2,h3,λk d' b hk ek a ha=>?_,h5⟩
   by_cases hki:k=i
   ·subst hki
    rw[if_pos rfl]
    exact λhG=>apart j d true e a hG ha
   ·rw[Zi (Ne.symm hki)]at ek
    rw[if_neg hki]
    exact h4 k d' b hk ek a ha
 ·by_cases hj:j=i
  ·subst hj
   rw[if_pos rfl]at ha
   exact .inl (gs a ha).1
  ·rw[Zi (Ne.symm hj)]at e
   rw[if_neg hj]at ha
   exact r1.src j d b e a ha
noncomputable def asg(i:Nat)(r:R)(ρ:En):En:=
 if r.norm.fr && decide r.norm.M.Nodup then(kill r.norm.M ρ).set i (some (r.d,true))else(QbH r.norm.M ρ).set i (some (r.d,r.d.flat))
theorem Rel.asg(r:Rel K H0 A0 hs ρ F σ H)(p:QO K ρ F H H' rr v G):∃F',Rel K H0 A0 hs (asg i rr ρ) F' (σ.set i (some v)) H':=by
 have p':=p.norm
 unfold HS.asg
 split
 ·rename_i h
  simp only[Zg,decide_eq_true_eq]at h
  have:=r.QuB (i:=i) p' h.1 h.2
  rw[rr.Qcl]at this
  exact⟨_,this⟩
 ·have r1:=(r.ext p'.same).weak (Qb1 rr.norm.M ρ)
  have rp:=p'.rp
  rw[rr.Qcl]at rp
  have sh:=Shr.of r p'.src
  exact⟨_,r1.Qp7 rp sh⟩
theorem Rel.hold(r:Rel K H0 A0 hs ρ F σ H)(h:∀t∈ts,Rp K H t.2.1 t.1 t.2.2/\Shr H0 A0 ρ F t.2.2):Rel K H0 A0 (ts++hs) ρ F σ H where
 len:=r.len
 val:=r.val
 own:=λi d e=>by
  obtain⟨h1,h2,h3,h4,h5⟩:=r.own i d e
  refine⟨h1,h2,h3,h4,λt ht a ha hm=>?_⟩
  rcases Zr.mp ht with z | z
  ·exact((h t z).2 a hm).2 i d e ha
  ·exact h5 t z a ha hm
 src:=r.src
 held:=λt ht=>by
  rcases Zr.mp ht with z | z
  ·exact⟨(h t z).1,λa ha=>((h t z).2 a ha).1⟩
  ·exact r.held t z
 same:=r.same
theorem Rel.Qlu(r:Rel K H0 A0 (ts++hs) ρ F σ H):Rel K H0 A0 hs ρ F σ H where
 len:=r.len
 val:=r.val
 own:=λi d e=>let ⟨h1,h2,h3,h4,h5⟩:=r.own i d e;⟨h1,h2,h3,h4,λt ht=>h5 t (Ze _ ht)⟩
 src:=r.src
 held:=λt ht=>r.held t (Ze _ ht)
 same:=r.same
end
structure Ret (K:PySem.W.Frag) (H0:Hp) (A0:List Addr) (d:D) (fr:Bool) (v:V) (H':Hp) (G:List Addr):Prop where
 same:Qw H0 H'
 rp:Rp K H' d v G
 src:∀a∈G,H0 a=none∨a∈A0
 cnt:fr=true->G.Nodup/\G.length=d.nl/\∀a∈G,H0 a=none
noncomputable abbrev Den:=List D->Option (D×Bool)
noncomputable def spV(K:PySem.W.Frag)(n:Nat)(den:Den):Sp:=λvs H Q _=>∃ds F d fr,Rps K H ds vs F/\ds.length=n/\den ds=some (d,fr)/\∀v H' G,Ret K H F d fr v H' G->Q v H'
theorem QmC{K:PySem.W.Frag}{n:Nat}{den:Den}{ps:List Str}(hn:ps.length=n):∀vs H Q E,spV K n den vs H Q E->vs.length=ps.length:=λvs H Q E ⟨ds,F,d,fr,r,hl,_⟩=>by rw[hn,← hl,r.length]
noncomputable def QG(n:Nat)(den:Den)(dfl:List D)(fs:DA):DE:=λρ=>(fs ρ).bind λr=>if r.ds.length+dfl.length=n then(den (r.ds++dfl)).map λq=>if q.2=true then⟨q.1,true,[]⟩else R.norm ⟨q.1,false,r.M⟩else none
section
variable {X:Cx}{e:Expr}{es:List Expr}{fs:DA}{pos p:Pos}{x:Str}{n k:Nat}{f:Addr}{fd:FuncData}{ps:List Str}{den:Den}{dfl:List D}{dvs:List V}{ds:List Value}
theorem Qjn{σ:L2.St}{H H0:Hp}{A0:List Addr}{Q:VK}(hdf:∀H,Rps X.K H dfl dvs []):tV X.K H0 A0 (QG n den dfl fs) σ H Q->Qm7 (spV X.K n den) dvs E0 (tVA X.K H0 A0 fs) σ H Q:=exK λρ hs F r rel e q=>by
 refine Qe e λra e1 e=>?_
 split at e
 ·rename_i hl
  obtain⟨⟨d,fr⟩,e2,e⟩:=Zc.mp e
  refine⟨ρ,hs,F,ra,rel,e1,λvs H1 G p1=>⟨ra.ds++dfl,G++[],d,fr,p1.rp.append (hdf H1),by rw[Zp];exact hl,e2,λv H2 G2 rt=>?_⟩⟩
  subst e
  have src:Src ρ F H ra.M G2:=λa ha=>by
   rcases rt.src a ha with z | z
   ·exact .inl (p1.same.free z)
   ·rw[ZM]at z
    exact p1.src a z
  split at q
  ·rename_i hf
   have hf:fr=true:=hf
   obtain⟨nd,hn,fresh⟩:=rt.cnt hf
   have hH:∀a∈G2,H a=none:=λa ha=>p1.same.free (fresh a ha)
   refine q v H2 G2 ⟨p1.same.trans rt.same,rt.rp,λa ha=> .inl (hH a ha),λ_=>⟨λa=>?_,hn⟩,QaE.nil⟩
   by_cases ha:a∈G2
   ·rw[QaD (hH a ha)];have:=ZX.mp nd a;omega
   ·rw[ZI.mpr ha];exact Zaf _
  ·refine q v H2 G2 (QO.norm ⟨p1.same.trans rt.same,rt.rp,src,λz=>(by cases z),p1.own⟩)
 ·cases e
theorem QtI(Fk:Qab X.prog X.w X.K X.mg X.base CX0 k f fd ps (spV X.K n den))(hr:QZ k X.A)(hg:Gl X x)(hm:X.mg x=some (.ref f))(hk:PySem.W.keepIn X.K (.ref f)=true)(hb:Binds X.K fd ps ds)(hd:Qt dvs ds)(hdf:∀H,Rps X.K H dfl dvs [])
  (ha:SA X (e::es) fs) (hdb:(x == ("__debug__" :Str))=false) (he:starEach (e::es) X.env=(false,eval e X.env)::starEach es X.env) (hpl:(backTo pos (starEach es X.env)).any (·.1)=false):
  SE X (.Call (.Name x p) (e::es) [] pos) (QG n den dfl fs):=λH0 A0=>
 (QiJ Fk hr hg hm hk hb hd Qgm (ha H0 A0) hdb he hpl).mono λσ H Q h=>Qjn hdf h
theorem QpS(Fk:Qab X.prog X.w X.K X.mg X.base CX0 k f fd ps (spV X.K n den))(hr:QZ k X.A)(hg:Gl X x)(hm:X.mg x=some (.ref f))(hk:PySem.W.keepIn X.K (.ref f)=true)(hb:Binds X.K fd ps ds)(hd:Qt dvs ds)(hdf:∀H,Rps X.K H dfl dvs [])
  (hdb:(x == ("__debug__" :Str))=false):SE X (.Call (.Name x p) [] [] pos) (QG n den dfl Qf):=λH0 A0=>
 (Qqt Fk hr hg hm hk hb hd Qgm hdb).mono λσ H Q h=>by
  have h':=Qjn hdf h
  obtain⟨ρ,hs,F,r,rel,e,q⟩:=h'
  cases e
  exact q [] H [] ⟨Qw.refl _,by simp[Rps],Src.nil,λ_=>⟨Cnt.nil,rfl⟩,QaE.nil⟩
end
structure IR where
 items:List D
 M:List Nat
noncomputable abbrev DI:=En->Option IR
def Qk5(K:PySem.W.Frag)(H:Hp)(ts:List (V×D×List Addr)):Prop:=∀t∈ts,Rp K H t.2.1 t.1 t.2.2
structure Walk (K:PySem.W.Frag) (J:It) (ts:List (V×D×List Addr)) (ds:List D):Prop where
 stop:∀H,Qk5 K H ts->J.stop ds.length H
 go:∀i H,i<ds.length->Qk5 K H ts->J.go i H
 yld:∀(i:Nat) d H x H',ds[i]? =some d->Qk5 K H ts->J.yld i H x H'->Qw H H'/\∃G,Rp K H' d x G/\∀a∈G,∃t∈ts,a∈t.2.2
noncomputable def tI(K:PySem.W.Frag)(H0:Hp)(A0:List Addr)(f:DI):TI:=λσ H Rr=>∃ρ hs F ir,Rel K H0 A0 hs ρ F σ H/\f ρ=some ir∧
 ∀J H1 ts,Qw H H1->Walk K J ts ir.items->(∀t∈ts,Rp K H1 t.2.1 t.1 t.2.2/\Src ρ F H ir.M t.2.2)->QaE ρ ir.M->ir.items.length<=sizeLine->Rr J H1
def SI(X:Cx)(tg e:Expr)(f:DI):Prop:=∀H0 A0,PI X tg e (tI X.K H0 A0 f)
theorem _root_.L2.PI.mono(h:PI X tg e t)(m:∀σ H Q,t' σ H Q->t σ H Q):PI X tg e t':=λpins s σ H Q I q=>h pins s σ H Q I (m σ H Q q)
section
variable {X:Cx}{tg a b:Expr}{fa fb:DE}{fs:DA}{pos p:Pos}
theorem Rps.nth{K:PySem.W.Frag}{H:Hp}{ds:List D}{vs:List V}{F:List Addr}{i:Nat}{d:D}(h:Rps K H ds vs F)(e:ds[i]? =some d):∃v G,vs[i]? =some v/\Rp K H d v G/\∀a∈G,a∈F:=by
 obtain⟨v,F1,G,F2,h1,h2,h3,_⟩:=h.get e
 exact⟨v,G,h1,h3,λa ha=>by rw[h2];exact Ze _ (Zh _ ha)⟩
noncomputable def Qxr(K:PySem.W.Frag)(tl:TE):TI:=λσ H Rr=>tl σ H λx H1=>(∃a,x= .ref a/\(∃xs,SqL K H1 a xs)/\Rr (Itl K a) H1)∨(∃a,x= .ref a/\(∃xs,SqT K H1 a xs)/\Rr (Itt K a) H1)
theorem QuD(hl:PE X l tl):PI X tg l (Qxr X.K tl):=by
 intro pins s σ H Rr I h
 refine thn (hl pins s σ H _ I h) λv s1=>exJ λx H1 I1 r1 q1=>?_
 rcases q1 with⟨a,e,⟨xs,hq⟩,q⟩ | ⟨a,e,⟨xs,hq⟩,q⟩
 ·subst e
  cases r1
  obtain⟨its,rv,pl,hz⟩:=I1.list hq
  refine wpAny_pyIter_list pl.isList ⟨s1.heap.objs.size,[s1.heap.objs.size],_,_,H1,rfl,I1.kept (t':=s1.toks) λb o e=>Zn _ e,Qpd a _,⟨_,ZD _ rfl,rfl,rfl⟩,λb hb=>?_,q⟩
  have e:b=s1.heap.objs.size:=by simpa using hb
  subst e
  exact I1.Qg6 (Zm _) (I1.hok.fresh (Zm _))
 ·subst e
  cases r1
  obtain⟨its,rv,pl,hz⟩:=I1.tuple hq
  refine wpAny_pyIter_tuple (show s1.heap.IsTuple a its.toArray from pl) ⟨s1.heap.objs.size,[s1.heap.objs.size],_,_,H1,rfl,I1.kept (t':=s1.toks) λb o e=>Zn _ e,QmR a _,⟨_,ZD _ rfl,rfl,rfl⟩,λb hb=>?_,q⟩
  have e:b=s1.heap.objs.size:=by simpa using hb
  subst e
  exact I1.Qg6 (Zm _) (I1.hok.fresh (Zm _))
noncomputable def Qay(fa:DE):DI:=λρ=>(fa ρ).bind λr=>match r.d with
 | .lst xs=>some ⟨xs,r.M⟩
 | .tup xs=>if xs.length<=sizeLine then some ⟨xs,r.M⟩else none
 | .str x=>if x.cps.size<=sizeLine then some ⟨x.cps.toList.map λc=> .str ⟨#[c]⟩,[]⟩else none
 | _=>none
theorem QwH{t u:TI}(h1:PI X tg l t)(h2:PI X tg l u):PI X tg l (λσ H R=>t σ H R∨u σ H R):=λpins s σ H R I q=>q.elim (h1 pins s σ H R I) (h2 pins s σ H R I)
theorem QqD{K:PySem.W.Frag}{x:Str}:Walk K (Itx x) [] (x.cps.toList.map λc=> .str ⟨#[c]⟩) where
 stop:=λH h=>by show _=x.cps.size;rw[Zj,ZL]
 go:=λi H hi h=>by rw[Zj,ZL]at hi;exact hi
 yld:=λi d H v H' e h y=>by
  obtain⟨rfl,c,hc,rfl⟩:=y
  rw[Zv,ZaW,hc]at e
  cases e
  exact⟨Qw.refl _,[],.str_mk,λa ha=>by simp at ha⟩
theorem Qoz{K:PySem.W.Frag}{c:Addr}{ds:List D}{G:List Addr}:Walk K (Itl K c) [(.ref c,.lst ds,G)] ds where
 stop:=λH h=>by
  obtain⟨l,vs,L,e,hl,rl,zl,el⟩:=(h _ (Zl.mpr rfl)).lst_inv
  cases e
  exact⟨vs,QT hl,by rw[rl.length];exact Zm _⟩
 go:=λi H hi h=>by
  obtain⟨l,vs,L,e,hl,rl,zl,el⟩:=(h _ (Zl.mpr rfl)).lst_inv
  cases e
  have:i<vs.length:=by rw[← rl.length];exact hi
  exact⟨vs,vs[i],QT hl,by simp[this]⟩
 yld:=λi d H x H' e h y=>by
  obtain⟨l,vs,L,e1,hl,rl,zl,el⟩:=(h _ (Zl.mpr rfl)).lst_inv
  cases e1
  obtain⟨rfl,y⟩:=y
  obtain⟨v,G',h1,h2,h3⟩:=rl.nth e
  have:=y vs (QT hl)
  rw[h1]at this
  cases this
  refine⟨Qw.refl _,G',h2,λz hz=>⟨_,Zl.mpr rfl,?_⟩⟩
  have:=h3 z hz
  rcases el with rfl | rfl
  ·exact Zb _ this
  ·exact this
theorem QqP{K:PySem.W.Frag}{c:Addr}{ds:List D}{G:List Addr}:Walk K (Itt K c) [(.ref c,.tup ds,G)] ds where
 stop:=λH h=>by
  obtain⟨l,vs,e,hl,rl⟩:=(h _ (Zl.mpr rfl)).QaC
  cases e
  exact⟨vs,hl,by rw[rl.length];exact Zm _⟩
 go:=λi H hi h=>by
  obtain⟨l,vs,e,hl,rl⟩:=(h _ (Zl.mpr rfl)).QaC
  cases e
  have:i<vs.length:=by rw[← rl.length];exact hi
  exact⟨vs,vs[i],hl,by simp[this]⟩
 yld:=λi d H x H' e h y=>by
  obtain⟨l,vs,e1,hl,rl⟩:=(h _ (Zl.mpr rfl)).QaC
  cases e1
  obtain⟨rfl,y⟩:=y
  obtain⟨v,G',h1,h2,h3⟩:=rl.nth e
  have:=y vs hl
  rw[h1]at this
  cases this
  exact⟨Qw.refl _,G',h2,λz hz=>⟨_,Zl.mpr rfl,h3 z hz⟩⟩
theorem QvR(ha:SE X a fa):SI X tg a (Qay fa):=λH0 A0=>
 (QwH (QuD (ha H0 A0)) (Qvh (ha H0 A0))).mono λσ H Rr=>exK λρ hs F ir rel e q=>by
 refine Qe e λr e1 e=>?_
 by_cases hx:∃x,r.d= .str x
 ·obtain⟨x,hx⟩:=hx
  rw[hx]at e
  dsimp only at e
  split at e
  ·rename_i hz
   cases e
   refine .inr ⟨ρ,hs,F,r,rel,e1,λv H1 G p=>?_⟩
   have rp:=p.rp
   rw[hx]at rp
   exact⟨x,rp.str_inv,q _ H1 [] p.same QqD (λt ht=>by simp at ht) QaE.nil (by rw[Zj,ZL];exact hz)⟩
  ·cases e
 left
 refine⟨ρ,hs,F,r,rel,e1,λv H1 G p=>?_⟩
 have rp:=p.rp
 cases hr:r.d with
 | lst xs=>
  rw[hr]at e rp
  cases e
  obtain⟨c,vs,L,rfl,hl,rl,zl,el⟩:=rp.lst_inv
  refine .inl ⟨c,rfl,⟨vs,QT hl⟩,q _ H1 [(.ref c,.lst xs,G)] p.same Qoz (λt ht=>?_) p.own zl⟩
  rw[Zl.mp ht]
  exact⟨rp,p.src⟩
 | tup xs=>
  rw[hr]at e rp
  dsimp only at e
  split at e
  ·rename_i hz
   cases e
   obtain⟨c,vs,rfl,hl,rl⟩:=rp.QaC
   refine .inr ⟨c,rfl,⟨vs,hl⟩,q _ H1 [(.ref c,.tup xs,G)] p.same QqP (λt ht=>?_) p.own hz⟩
   rw[Zl.mp ht]
   exact⟨rp,p.src⟩
  ·cases e
 | str x=>exact absurd ⟨x,hr⟩ hx
 | _=>rw[hr]at e;cases e
noncomputable def Qhr(lo:Int)(n:Nat):List D:=(List.range n).map λ(k:Nat)=> .int (lo+(k:Int))
theorem Qhq:(Qhr lo n).length=n:=by simp[Qhr]
theorem QqX(h:(Qhr lo n)[i]? =some d):i<n/\d= .int (lo+i):=by
 unfold Qhr at h
 rw[Zv]at h
 cases q:(List.range n)[i]? with
 | none=>rw[q]at h;cases h
 | some k=>
  rw[q]at h
  obtain⟨h1,h2⟩:=Zd.mp q
  simp at h1 h2
  subst h2
  exact⟨h1,(Option.some.inj h).symm⟩
theorem Qm4:Walk K (Itr lo n) [] (Qhr lo n) where
 stop:=λH _=>by rw[Qhq];exact Zm _
 go:=λi H hi _=>by rw[Qhq]at hi;exact hi
 yld:=λi d H x H' e _ y=>by
  obtain⟨h1,rfl⟩:=QqX e
  obtain⟨rfl,rfl⟩:=y
  exact⟨Qw.refl _,[],.int_mk,λz hz=>by simp at hz⟩
noncomputable def QaO(fa:DE):DI:=λρ=>(fa ρ).bind λr=>match r.d with
 | .int j=>if j<=16777216/\ -(2^62)<=j then some ⟨Qhr 0 j.toNat,[]⟩else none
 | _=>none
theorem QdR:(sizeLine:Nat)=16777216:=sizeLine_eq
theorem QnV(hg:Gl X "range")(hm:X.mg "range" =none)(ha:SE X a fa)(hs:starEach [a] X.env=[(false,eval a X.env)]):SI X tg (.Call (.Name "range" p) [a] [] pos) (QaO fa):=λH0 A0=>
 (Qox hg hm (Qan (ha H0 A0) QbW hs) hs).mono λσ H Rr=>exK λρ hs F ir rel e q=>by
  refine Qe e λr e1 e=>?_
  refine⟨ρ,hs,F,r,rel,e1,λv H1 G pp=>?_⟩
  have rp:=pp.rp
  cases hr:r.d with
  | int j=>
   rw[hr]at e rp
   dsimp only at e
   split at e
   ·rename_i hz
    cases e
    rw[rp.int_inv]
    refine⟨j,rfl,hz.2,by omega,q _ H1 [] pp.same Qm4 (λt ht=>by simp at ht) QaE.nil ?_⟩
    rw[Qhq,QdR];omega
   ·cases e
  | _=>rw[hr]at e;cases e
noncomputable def Qc4(ds:List D):List D:=ds.zipIdx.map λq=> .tup [.int q.2,q.1]
theorem QfY:(Qc4 ds).length=ds.length:=by simp[Qc4]
theorem QnN{ds:List D}{i:Nat}{d:D}(h:(Qc4 ds)[i]? =some d):∃e,ds[i]? =some e/\d= .tup [.int i,e]:=by
 unfold Qc4 at h
 rw[Zv,Zbp]at h
 cases q:ds[i]? with
 | none=>rw[q]at h;cases h
 | some e=>rw[q]at h;simp at h;exact⟨e,rfl,h.symm⟩
theorem QoT{K:PySem.W.Frag}{c:Addr}{ds:List D}{G:List Addr}:Walk K (Ite K c) [(.ref c,.lst ds,G)] (Qc4 ds) where
 stop:=λH h=>by
  obtain⟨l,vs,L,e,hl,rl,zl,el⟩:=(h _ (Zl.mpr rfl)).lst_inv
  cases e
  exact⟨vs,QT hl,by rw[QfY,rl.length];exact Zm _⟩
 go:=λi H hi h=>by
  obtain⟨l,vs,L,e,hl,rl,zl,el⟩:=(h _ (Zl.mpr rfl)).lst_inv
  cases e
  rw[QfY]at hi
  have:i<vs.length:=by rw[← rl.length];exact hi
  exact⟨vs,vs[i],QT hl,by simp[this]⟩
 yld:=λi d H x H' e h y=>by
  obtain⟨l,vs,L,e1,hl,rl,zl,el⟩:=(h _ (Zl.mpr rfl)).lst_inv
  cases e1
  obtain⟨d',e',rfl⟩:=QnN e
  obtain⟨pp,u,rfl,hp,rfl,y⟩:=y
  obtain⟨v,G',h1,h2,h3⟩:=rl.nth e'
  have:=y vs (QT hl)
  rw[h1]at this
  cases this
  have s:=QaN (o:= .tup [.int i,u]) hp
  refine⟨s,G',Rp.QhV Qag ?_,λz hz=>⟨_,Zl.mpr rfl,?_⟩⟩
  ·simp only[Rps]
   exact⟨.int i,[u],[],G',rfl,rfl,.int_mk,u,[],G',[],rfl,by simp,h2.same s,rfl,rfl⟩
  ·have:=h3 z hz
   rcases el with rfl | rfl
   ·exact Zb _ this
   ·exact this
noncomputable def Qdv(fa:DE):DI:=λρ=>(fa ρ).bind λr=>match r.d with
 | .lst xs=>some ⟨Qc4 xs,r.M⟩
 | _=>none
theorem QsD(hg:Gl X "enumerate")(hm:X.mg "enumerate" =none)(ha:SE X a fa)(hs:starEach [a] X.env=[(false,eval a X.env)]):SI X (.Tuple es tk tpos) (.Call (.Name "enumerate" p) [a] [] pos) (Qdv fa):=λH0 A0=>
 (Qs3 hg hm (Qan (ha H0 A0) QbW hs) hs).mono λσ H Rr=>exK λρ hs F ir rel e q=>by
  refine Qe e λr e1 e=>?_
  refine⟨ρ,hs,F,r,rel,e1,λv H1 G pp=>?_⟩
  have rp:=pp.rp
  cases hr:r.d with
  | lst xs=>
   rw[hr]at e rp
   cases e
   obtain⟨c,vs,L,rfl,hl,rl,zl,el⟩:=rp.lst_inv
   refine⟨c,rfl,⟨vs,QT hl⟩,q _ H1 [(.ref c,.lst xs,G)] pp.same QoT (λt ht=>?_) pp.own (by rw[QfY];exact zl)⟩
   rw[Zl.mp ht]
   exact⟨rp,pp.src⟩
  | _=>rw[hr]at e;cases e
noncomputable def Qd4(xs ys:List D):List D:=(xs.zip ys).map λq=> .tup [q.1,q.2]
theorem Qhi:(Qd4 xs ys).length=min xs.length ys.length:=by simp[Qd4]
theorem QpC{xs ys:List D}{i:Nat}{d:D}(h:(Qd4 xs ys)[i]? =some d):∃e f,xs[i]? =some e/\ys[i]? =some f/\d= .tup [e,f]:=by
 unfold Qd4 at h
 rw[Zv]at h
 cases q:(xs.zip ys)[i]? with
 | none=>rw[q]at h;cases h
 | some e=>
  rw[q]at h
  obtain⟨h1,h2⟩:=List.getElem?_zip_eq_some.mp q
  exact⟨e.1,e.2,h1,h2,(Option.some.inj h).symm⟩
theorem QqQ{K:PySem.W.Frag}{c c':Addr}{xs ys:List D}{G G':List Addr}:Walk K (Itz K c c') [(.ref c,.lst xs,G),(.ref c',.lst ys,G')] (Qd4 xs ys) where
 stop:=λH h=>by
  obtain⟨l,vs,L,e,hl,rl,zl,el⟩:=(h _ (Zf)).lst_inv
  obtain⟨l',vs',L',e',hl',rl',zl',el'⟩:=(h _ (Zb _ Zf)).lst_inv
  cases e
  cases e'
  refine⟨vs,vs',QT hl,QT hl',?_⟩
  rw[Qhi,← rl.length,← rl'.length];omega
 go:=λi H hi h=>by
  obtain⟨l,vs,L,e,hl,rl,zl,el⟩:=(h _ (Zf)).lst_inv
  obtain⟨l',vs',L',e',hl',rl',zl',el'⟩:=(h _ (Zb _ Zf)).lst_inv
  cases e
  cases e'
  rw[Qhi]at hi
  have h1:i<vs.length:=by rw[← rl.length];omega
  have h2:i<vs'.length:=by rw[← rl'.length];omega
  exact⟨vs,vs',vs[i],vs'[i],QT hl,QT hl',by simp[h1],by simp[h2]⟩
 yld:=λi d H x H' e h y=>by
  obtain⟨l,vs,L,e1,hl,rl,zl,el⟩:=(h _ (Zf)).lst_inv
  obtain⟨l',vs',L',e1',hl',rl',zl',el'⟩:=(h _ (Zb _ Zf)).lst_inv
  cases e1
  cases e1'
  obtain⟨d1,d2,ea,eb,rfl⟩:=QpC e
  obtain⟨pp,u,u',rfl,hp,rfl,y,y'⟩:=y
  obtain⟨v,G1,h1,h2,h3⟩:=rl.nth ea
  obtain⟨v',G2,h1',h2',h3'⟩:=rl'.nth eb
  have:=y vs (QT hl)
  rw[h1]at this
  cases this
  have:=y' vs' (QT hl')
  rw[h1']at this
  cases this
  have s:=QaN (o:= .tup [u,u']) hp
  refine⟨s,G1++G2,Rp.QhV Qag ?_,λz hz=>?_⟩
  ·simp only[Rps]
   exact⟨u,[u'],G1,G2,rfl,rfl,h2.same s,u',[],G2,[],rfl,by simp,h2'.same s,rfl,rfl⟩
  ·rcases Zr.mp hz with hz | hz
   ·refine⟨_,Zf,?_⟩
    have:=h3 z hz
    rcases el with rfl | rfl
    ·exact Zb _ this
    ·exact this
   ·refine⟨_,Zb _ Zf,?_⟩
    have:=h3' z hz
    rcases el' with rfl | rfl
    ·exact Zb _ this
    ·exact this
noncomputable def QbT(fa fb:DE):DI:=λρ=>(fa ρ).bind λr=>(fb ρ).bind λr'=>match r.d,r'.d with
 | .lst xs,.lst ys=>some ⟨Qd4 xs ys,r.M++r'.M⟩
 | _,_=>none
theorem QvV(hg:Gl X "zip")(hm:X.mg "zip" =none)(ha:SE X a fa)(hb:SE X b fb)(hs:starEach [a,b] X.env=[(false,eval a X.env),(false,eval b X.env)])(hs2:starEach [b] X.env=[(false,eval b X.env)]):
  SI X (.Tuple es tk tpos) (.Call (.Name "zip" p) [a,b] [] pos) (QbT fa fb):=λH0 A0=>
 (QvE hg hm (Qan (ha H0 A0) (Qan (hb H0 A0) QbW hs2) (by rw[hs,hs2])) hs hs2).mono λσ H Rr=>exK λρ hs F ir rel e q=>by
  refine Qe e λr e1 e=>?_
  refine Qe e λr' e2 e=>?_
  refine⟨ρ,hs,F,r,rel,e1,λv H1 G pp=>⟨ρ,hs,F,r',rel.ext pp.same,e2,λv' H2 G' pp'=>?_⟩⟩
  have rp:=pp.rp.same pp'.same
  have rp':=pp'.rp
  cases hr:r.d with
  | lst xs=>
   cases hr':r'.d with
   | lst ys=>
    rw[hr,hr']at e
    rw[hr]at rp
    rw[hr']at rp'
    cases e
    obtain⟨c,vs,L,rfl,hl,rl,zl,el⟩:=rp.lst_inv
    obtain⟨c',vs',L',rfl,hl',rl',zl',el'⟩:=rp'.lst_inv
    refine⟨c,c',rfl,⟨vs,QT hl⟩,⟨vs',QT hl'⟩,q _ H2 [(.ref c,.lst xs,G),(.ref c',.lst ys,G')] (pp.same.trans pp'.same) QqQ (λt ht=>?_) (pp.own.append pp'.own) (by rw[Qhi];omega)⟩
    have sa:=pp.src.append pp'.src pp.same
    rcases Zo.mp ht with rfl | ht
    ·exact⟨rp,λz hz=>sa z (Zh _ hz)⟩
    ·rw[Zl.mp ht]
     exact⟨rp',λz hz=>sa z (Ze _ hz)⟩
   | _=>rw[hr,hr']at e;cases e
  | _=>rw[hr]at e;cases e
end
end HS
namespace HS
open PySem L2
section
end
end HS
namespace HS
open PySem PySem.Spec L2
inductive Tg where
 | nm (i:Nat)
 | tp (is:List Nat)
noncomputable def Tg.slots:Tg->List Nat
 | .nm i=>[i]
 | .tp is=>is
noncomputable def Qc1:List Nat->List D->En->En
 | i::is,d::ds,ρ=>Qc1 is ds (ρ.set i (some (d,d.flat)))
 | _,_,ρ=>ρ
noncomputable def Qbm:Tg->D->En->Option En
 | .nm i,d,ρ=>some (ρ.set i (some (d,d.flat)))
 | .tp is,.tup xs,ρ=>if xs.length=is.length then some (Qc1 is xs ρ)else none
 | .tp is,.lst xs,ρ=>if xs.length=is.length then some (Qc1 is xs ρ)else none
 | .tp _,_,_=>none
noncomputable def tG(K:PySem.W.Frag)(H0:Hp)(A0:List Addr)(t:Tg):TG:=λv σ H Q=>∃ρ hs F d G ρ',Rel K H0 A0 hs ρ F σ H/\Rp K H d v G/\Shr H0 A0 ρ F G/\Qbm t d ρ=some ρ'∧
 ∀σ' F',Rel K H0 A0 hs ρ' F' σ' H->(∀j,j∉t.slots->σ'[j]? =σ[j]?)->(∀j a,a∈F' j->a∈F j∨a∈G)->Q σ' H
def SG(X:Cx)(tg:Expr)(t:Tg):Prop:=∀H0 A0,PG X tg (tG X.K H0 A0 t)
theorem _root_.L2.PG.mono{X:Cx}{tg:Expr}{t t':TG}(h:PG X tg t)(m:∀v σ H Q,t' v σ H Q->t v σ H Q):PG X tg t':=λpins s σ H v u Q I r q=>h pins s σ H v u Q I r (m v σ H Q q)
noncomputable def Qhx:List Nat->TGs
 | []=>QtX
 | i::is=>Qrq (Qgq i) (Qhx is)
theorem Shr.set{H0:Hp}{A0:List Addr}{ρ:En}{F:Nat->List Addr}{G G1:List Addr}{i:Nat}{d:D}(h:Shr H0 A0 ρ F G)(hf:d.flat=true->G1=[]):Shr H0 A0 (ρ.set i (some (d,d.flat))) (λj=>if j=i then G1 else F j) G:=λa ha=>by
 refine⟨(h a ha).1,λj d' e=>?_⟩
 by_cases hj:j=i
 ·subst hj
  show ¬a∈(if j=j then G1 else F j)
  rw[if_pos rfl]
  have hl:j<ρ.length:=by
   by_cases hl:j<ρ.length
   ·exact hl
   ·rw[Zy (by simp;omega)]at e;cases e
  rw[Zt hl]at e
  have e1:=Option.some.inj (Option.some.inj e)
  rw[hf (congrArg Prod.snd e1)]
  simp
 ·rw[Zi (Ne.symm hj)]at e
  show ¬a∈(if j=i then G1 else F j)
  rw[if_neg hj]
  exact(h a ha).2 j d' e
theorem Qg0{K:PySem.W.Frag}{H0:Hp}{A0:List Addr}{hs:List (V×D×List Addr)}:∀(is:List Nat) (ds:List D) (vs:List V) (ρ:En) (F:Nat->List Addr) (σ:L2.St) (H:Hp) (G:List Addr) (Q:L2.St->Hp->Prop),
  Rel K H0 A0 hs ρ F σ H->Rps K H ds vs G->Shr H0 A0 ρ F G->ds.length=is.length→
  (∀σ' F',Rel K H0 A0 hs (Qc1 is ds ρ) F' σ' H->(∀j,j∉is->σ'[j]? =σ[j]?)->(∀j a,a∈F' j->a∈F j∨a∈G)->Q σ' H)->Qhx is vs σ H Q
 | [],ds,vs,ρ,F,σ,H,G,Q,rel,rp,sh,hl,q=>by
  have:ds=[]:=by simpa using hl
  subst this
  simp only[Rps]at rp
  exact⟨rp.1,q σ F rel (λ_ _=>rfl) λ_ _ h=> .inl h⟩
 | i::is,[],vs,ρ,F,σ,H,G,Q,rel,rp,sh,hl,q=>by simp at hl
 | i::is,d::ds,vs,ρ,F,σ,H,G,Q,rel,rp,sh,hl,q=>by
  simp only[Rps]at rp
  obtain⟨v,ws,G1,G2,rfl,rfl,r1,r2⟩:=rp
  refine⟨v,ws,rfl,?_⟩
  have sh1:Shr H0 A0 ρ F G1:=λa ha=>sh a (Zh _ ha)
  have sh2:Shr H0 A0 ρ F G2:=λa ha=>sh a (Ze _ ha)
  refine Qg0 is ds ws _ _ _ H G2 Q (rel.Qp7 r1 sh1) r2 (sh2.set r1.Qa7) (by simpa using hl) λσ' F' rel' k m=>q σ' F' rel' (λj hj=>?_) λj a ha=>?_
  ·have h1:j≠i:=λz=>hj (by rw[z];exact Zf)
   rw[k j λz=>hj (Zb _ z),Zi (Ne.symm h1)]
  ·rcases m j a ha with z | z
   ·by_cases hj:j=i
    ·rw[if_pos hj]at z;exact .inr (Zh _ z)
    ·rw[if_neg hj]at z;exact .inl z
   ·exact .inr (Ze _ z)
section
variable {X:Cx}{tg:Expr}{pos:Pos}
theorem Qtc{i:Nat}{x:Str}(h:PG X (.Name x pos) (Qgq i)):SG X (.Name x pos) (.nm i):=λH0 A0=>h.mono λv σ H Q hpt=>by
 obtain⟨ρ,hs,F,d,G,ρ',rel,rp,sh,e,q⟩:=hpt
 cases e
 refine q _ _ (rel.Qp7 rp sh) (λj hj=>?_) λj a ha=>?_
 ·have:j≠i:=λz=>hj (by simp[Tg.slots,z])
  rw[Zi (Ne.symm this)]
 ·by_cases hj:j=i
  ·rw[if_pos hj]at ha;exact .inr ha
  ·rw[if_neg hj]at ha;exact .inl ha
theorem QsZ{es:List Expr}{k:Nat}{t:TGs}{n:Nat}(hc:X.calm=true)(h:PGs X es t)
  (hn:(assignEach es X.env).length=n) (hst:(assignEach es X.env).findIdx? (·.1)=none):PG X (.Tuple es k pos) (λv σ H Q=>∃a xs,v= .ref a/\SqL X.K H a xs/\xs.length=n/\t xs σ H Q):=by
 intro pins s σ H v u Q I r hw
 obtain⟨a,xs,e1,hq,hl,hw⟩:=hw
 subst e1
 cases r
 obtain⟨its,rv,ht,hz⟩:=I.list hq
 rw[PyProof.Rows.assign_Tuple]
 refine wpAny_bind (wpAny_standAt ?_)
 unfold unpack
 rw[hn,hst,show n=its.toArray.size by simp[← hl,rv.length]]
 refine wpAny_bind (wpAny_holding (PySem.W.kun_itemsOf (I.ok.hd hc) ht.isList λh' hx=>?_))
 have I1:Inv X pins σ H {s with heap:=h'}:=I.kept (t':=s.toks) λb o e=>hx b o (ZN (Zx e)) e
 exact h pins _ σ H xs _ Q I1 (by simpa using rv) hw
theorem Qvd{es:List Expr}{k:Nat}{is:List Nat}(hc:X.calm=true)(h:PGs X es (Qhx is))(hn:(assignEach es X.env).length=is.length)(hst:(assignEach es X.env).findIdx? (·.1)=none):SG X (.Tuple es k pos) (.tp is):=λH0 A0=>
 λpins s σ H v u Q I r hpt=>by
  obtain⟨ρ,hs,F,d,G,ρ',rel,rp,sh,e,q⟩:=hpt
  cases d with
  | tup xs=>
   simp only[Qbm]at e
   split at e
   ·rename_i hl
    cases e
    obtain⟨a,vs,rfl,hq,rs⟩:=rp.QaC
    exact Quw hc h hn hst pins s σ H _ u Q I r ⟨a,vs,rfl,hq,by rw[← rs.length];exact hl,Qg0 is xs vs ρ F σ H G Q rel rs sh hl q⟩
   ·cases e
  | lst xs=>
   simp only[Qbm]at e
   split at e
   ·rename_i hl
    cases e
    obtain⟨a,vs,L,rfl,hq,rs,_,eG⟩:=rp.lst_inv
    have sub:∀b∈L,b∈G:=λb hb=>by
     rcases eG with rfl | rfl
     ·exact Zb _ hb
     ·exact hb
    exact QsZ hc h hn hst pins s σ H _ u Q I r ⟨a,vs,rfl,QT hq,by rw[← rs.length];exact hl,Qg0 is xs vs ρ F σ H L Q rel rs (λb hb=>sh b (sub b hb)) hl λσ' F' rel' k m=>q σ' F' rel' k λj b hb=>(m j b hb).imp id (sub b)⟩
   ·cases e
  | _=>simp only[Qbm]at e;cases e
end
noncomputable def Qc6(cap:List (Option Nat))(ρ:En):En:=cap.map λo=>o.bind λi=>match ρ[i]? with
 | some (some (d,_))=>some (d,d.flat)
 | _=>none
noncomputable def QmX(cap:List (Option Nat))(ρ:En):List Nat:=cap.filterMap λo=>o.bind λi=>match ρ[i]? with
 | some (some (d,b))=>if b && !d.flat then some i else none
 | _=>none
noncomputable def QeA(t:Tg)(ft:DT)(fe:DE)(ρc:En)(acc:List D×Bool)(d:D):Option (List D×Bool):=
 (Qbm t d ρc).bind λρ1=>(ft ρ1).bind λc=>if c=true then(fe ρ1).map λr=>(acc.1++[r.d],acc.2 && r.norm.fr)else some acc
noncomputable def Q6(fi:DI)(t:Tg)(cap:List (Option Nat))(ft:DT)(fe:DE):DE:=λρ=>(fi ρ).bind λir=>
 (ir.items.foldlM (QeA t ft fe (Qc6 cap ρ)) ([],true)).map λq=>if q.2=true then⟨.lst q.1,true,[]⟩else⟨.lst q.1,false,ir.M++QmX cap ρ⟩
def Qcy(ρ:En):Prop:=∀(j:Nat) d,ρ[j]? =some (some (d,true))->d.flat=true
theorem Qcy.set{ρ:En}(h:Qcy ρ)(i:Nat)(d:D):Qcy (ρ.set i (some (d,d.flat))):=λj d' e=>by
 by_cases hj:j=i
 ·subst hj
  have hl:j<ρ.length:=by
   by_cases hl:j<ρ.length
   ·exact hl
   ·rw[Zy (by simp;omega)]at e;cases e
  rw[Zt hl]at e
  have e1:=Option.some.inj (Option.some.inj e)
  have h1:d=d':=congrArg Prod.fst e1
  have h2:d.flat=true:=congrArg Prod.snd e1
  rw[← h1];exact h2
 ·rw[Zi (Ne.symm hj)]at e
  exact h j d' e
theorem Qcy.Qc1:∀(is:List Nat) (ds:List D) {ρ:En},Qcy ρ->Qcy (Qc1 is ds ρ)
 | [],_,_,h=>h
 | _::_,[],_,h=>h
 | i::is,d::ds,_,h=>Qcy.Qc1 is ds (h.set i d)
theorem Qcy.bind{t:Tg}{d:D}{ρ ρ':En}(h:Qcy ρ)(e:Qbm t d ρ=some ρ'):Qcy ρ':=by
 cases t with
 | nm i=>cases e;exact h.set i d
 | tp is=>
  cases d with
  | tup xs=>
   simp only[Qbm]at e
   split at e
   ·cases e;exact h.Qc1 is xs
   ·cases e
  | lst xs=>
   simp only[Qbm]at e
   split at e
   ·cases e;exact h.Qc1 is xs
   ·cases e
  | _=>simp only[Qbm]at e;cases e
theorem Qhs(cap:List (Option Nat))(ρ:En):Qcy (Qc6 cap ρ):=λj d e=>by
 unfold Qc6 at e
 rw[Zv]at e
 cases q:cap[j]? with
 | none=>rw[q]at e;cases e
 | some o=>
  rw[q]at e
  cases o with
  | none=>cases e
  | some i=>
   simp only[ZU,Za,Option.some.injEq]at e
   split at e
   ·have e1:=Option.some.inj e
    have h1:=congrArg Prod.fst e1
    have h2:=congrArg Prod.snd e1
    dsimp only at h1 h2
    rw[← h1];exact h2
   ·cases e
theorem QjC{cap:List (Option Nat)}{ρ:En}{j:Nat}{d:D}{b:Bool}(e:(Qc6 cap ρ)[j]? =some (some (d,b))):∃i b',cap[j]? =some (some i)/\ρ[i]? =some (some (d,b')):=by
 unfold Qc6 at e
 rw[Zv]at e
 cases q:cap[j]? with
 | none=>rw[q]at e;cases e
 | some o=>
  rw[q]at e
  cases o with
  | none=>cases e
  | some i=>
   simp only[ZU,Za,Option.some.injEq]at e
   split at e
   ·rename_i d' b' hi
    have e1:=Option.some.inj e
    have h1:d'=d:=congrArg Prod.fst e1
    subst h1
    exact⟨i,b',rfl,hi⟩
   ·cases e
def Qkt(X:Cx)(ifs:List Expr)(f:DT):Prop:=∀H0 A0,PTs X ifs (tVT X.K H0 A0 f)
noncomputable def Qa6:DT:=λ_=>some true
theorem Qrd{X:Cx}:Qkt X [] Qa6:=λH0 A0 pins s σ H Q I=>exK λρ hs F b rel e q=>by
 cases e
 exact Qsd pins s σ H Q I (q H (Qw.refl _))
theorem Qrf{X:Cx}{c:Expr}{f:DT}(h:ST X c f):Qkt X [c] f:=λH0 A0=>Qta (h H0 A0)
structure Qj4 (X:Cx) (N':List Str) (scope:Scope) (cap:List (Option Nat)) (tgs:List Nat):Prop where
 len:cap.length=N'.length
 get:∀(j i:Nat),cap[j]? =some (some i)->∃x,N'[j]? =some x/\scope.names.lookup x=some .free/\X.N[i]? =some x/\(X.env.kindOf x=some .cell∨X.env.kindOf x=some .free)
 apart:∀(j i:Nat),cap[j]? =some (some i)->j∉tgs
theorem join_some{α:Type}{o:Option (Option α)}{v:α}(h:o.join=some v):o=some (some v):=by
 cases o with
 | none=>cases h
 | some p=>cases p with
  | none=>cases h
  | some x=>exact h▸rfl
theorem Qjk{X:Cx}{N':List Str}{scope:Scope}{fi:DI}{t:Tg}{cap:List (Option Nat)}{ft:DT}{fe:DE}{H0:Hp}{A0:List Addr}{σ:L2.St}{H:Hp}{Q:VK}(hc:Qj4 X N' scope cap t.slots):
  tV X.K H0 A0 (Q6 fi t cap ft fe) σ H Q->QjW (tI X.K H0 A0 fi) (QhD X N' scope) (tG X.K (λ_=>none) [] t) (tVT X.K (λ_=>none) [] ft) (tV X.K (λ_=>none) [] fe) σ H Q:=exK λρ hs F r rel e q=>by
 refine Qe e λir e1 e=>?_
 obtain⟨⟨xs,f⟩,ef,e⟩:=Zc.mp e
 subst e
 refine⟨ρ,hs,F,ir,rel,e1,λJ H1 ts s1 wk hts ow hz=>?_⟩
 refine⟨cap.map λo=>o.bind λi=>σ[i]?.join,⟨by simp[hc.len],λj x v hN hv=>?_⟩,λDl hD=>?_⟩
 ·rw[Zv]at hv
  cases qc:cap[j]? with
  | none=>rw[qc]at hv;cases hv
  | some o=>
   rw[qc]at hv
   cases o with
   | none=>cases hv
   | some i=>
    simp only[ZU,Za,Option.some.injEq]at hv
    obtain⟨y,h1,h2,h3,h4⟩:=hc.get j i qc
    rw[hN]at h1;cases h1
    exact⟨h2,i,h3,join_some hv,h4⟩
 generalize hσc:(cap.map λo=>o.bind λi=>σ[i]?.join)=σc
 generalize hρc:Qc6 cap ρ=ρc at ef
 have hF0:∃Fc:Nat->List Addr,Fc=λj=>match cap[j]? with
  | some (some i)=>(match ρ[i]? with
   | some (some _)=>F i
   | _=>[])
  | _=>[]:=⟨_,rfl⟩
 obtain⟨Fc,hFc⟩:=hF0
 have rel1:=rel.ext s1
 have relC:∀H2,Qw H1 H2->Rel X.K (λ_=>none) [] [] ρc Fc σc H2:=λH2 s2=>by
  refine⟨by rw[← hρc,← hσc];simp[Qc6],λj d b e=>?_,λj d e=>?_,λj d b e a ha=> .inl rfl,λt ht=>(by simp at ht),λb o z=>(by cases z)⟩
  ·rw[← hρc]at e
   obtain⟨i,b',h1,h2⟩:=QjC e
   obtain⟨v,h3,h4⟩:=(rel1.ext s2).val i d b' h2
   refine⟨v,?_,?_⟩
   ·rw[← hσc,Zv,h1]
    simp only[ZU,Za,h3,Option.join_some]
   ·rw[hFc];simp only[h1,h2];exact h4
  ·have hf:d.flat=true:=Qhs cap ρ j d (by rw[hρc];exact e)
   have:Fc j=[]:=by
    rw[← hρc]at e
    obtain⟨i,b',h1,h2⟩:=QjC e
    obtain⟨v,h3,h4⟩:=rel1.val i d b' h2
    rw[hFc];simp only[h1,h2];exact h4.Qa7 hf
   rw[this]
   exact⟨(Qb0 d hf).symm,Zaj,λa ha=>(by simp at ha),λ_ _ _ _ _ a ha=>(by simp at ha),λt ht=>(by simp at ht)⟩
 have shC:∀G,Shr (λ_=>none) [] ρc Fc G:=λG a ha=>⟨.inl rfl,λj d e hj=>by
  have h0:=(relC H1 (Qw.refl _)).own j d e
  have hf:d.flat=true:=Qhs cap ρ j d (by rw[hρc];exact e)
  have:(Fc j).length=0:=by rw[h0.1,Qb0 d hf]
  rw[Zag this]at hj
  simp at hj⟩
 have hSh:Qcy ρc:=by rw[← hρc];exact Qhs cap ρ
 have heldOf:∀H2,Qw H1 H2->Qk5 X.K H2 ts:=λH2 s2 t ht=>(hts t ht).1.same s2
 have oldOf:∀a,((∃t∈ts,a∈t.2.2)∨∃j,a∈Fc j)->(∃u,H1 a=some u)/\(H a=none∨∃(i:Nat) (d:D) (b:Bool),ρ[i]? =some (some (d,b))/\a∈F i/\(b=true->i∈ir.M++QmX cap ρ)):=λa ha=>by
  rcases ha with⟨t,ht,ha⟩ | ⟨j,ha⟩
  ·refine⟨(hts t ht).1.mem a ha,?_⟩
   rcases(hts t ht).2 a ha with z | ⟨i,d,b,e,m,w⟩
   ·exact .inl z
   ·exact .inr ⟨i,d,b,e,m,λhb=>Zh _ (w hb)⟩
  ·have ha0:=ha
   rw[hFc]at ha
   dsimp only at ha
   split at ha
   ·rename_i i hi
    split at ha
    ·rename_i db hdb
     obtain⟨d,b⟩:=db
     obtain⟨v,h3,h4⟩:=rel1.val i d b hdb
     refine⟨h4.mem a ha,.inr ⟨i,d,b,hdb,ha,λhb=>Ze _ ?_⟩⟩
     unfold QmX
     refine Zbf.mpr ⟨some i,ZC hi,?_⟩
     simp only[Za,hdb]
     have hnf:d.flat=false:=by
      cases hf:d.flat with
      | false=>rfl
      | true=>rw[h4.Qa7 hf]at ha;simp at ha
     rw[hb,hnf];rfl
    ·simp at ha
   ·simp at ha
 have fresh5:∀H2,Qw H1 H2->∀a,H2 a=none->H1 a=none:=λH2 s2 a h=>s2.free h
 refine⟨λi m acc H2=>m=ir.items.length-i/\i<=ir.items.length/\Qw H1 H2/\H2 Dl=some (.lst acc)/\∃(ys:List D) (g:Bool) (G:List Addr),(ir.items.drop i).foldlM (QeA t ft fe ρc) (ys,g)=some (xs,f)/\Rps X.K H2 ys acc G/\ys.length<=i∧
  (∀a∈G,a≠Dl/\(H1 a=none∨(∃t∈ts,a∈t.2.2)∨∃j,a∈Fc j))/\(g=true->G.length=nls ys/\∀a,G.count a<=nw H1 a),⟨ir.items.length,rfl,Zaf _,QaN hD,Qag,[],true,[],by simpa using ef,by simp[Rps],Zm _,λa ha=>(by simp at ha),λ_=>⟨rfl,λa=>by simp⟩⟩,?_⟩
 rintro i m acc H2 ⟨rfl,hi,s2,eD,ys,g,G,hfold,rps,hlen,hG,hcnt⟩
 by_cases hlt:i<ir.items.length
 ·refine .inr ⟨wk.go i H2 hlt (heldOf H2 s2),λx H3 hy=>?_⟩
  obtain⟨s3,G0,rp0,hG0⟩:=wk.yld i ir.items[i] H2 x H3 (by simp[hlt]) (heldOf H2 s2) hy
  rw[Zas hlt,ZbJ]at hfold
  refine Qe hfold λacc1 hstep hrest=>?_
  unfold QeA at hstep
  refine Qe hstep λρ1 eb hstep=>?_
  refine Qe hstep λc ec hstep=>?_
  have sh1:Qcy ρ1:=hSh.bind eb
  refine⟨ρc,[],Fc,ir.items[i],G0,ρ1,relC H3 (s2.trans s3),rp0,shC G0,eb,λσ2 F2 rel2 keep mem2=>⟨λj v hv=>?_,ρ1,[],F2,c,rel2,ec,λH5 s5=>?_⟩⟩
  ·have hj:j∉t.slots:=λhj=>by
    rw[← hσc,Zv]at hv
    cases qc:cap[j]? with
    | none=>rw[qc]at hv;cases hv
    | some o=>
     cases o with
     | none=>rw[qc]at hv;cases hv
     | some k=>exact hc.apart j k qc hj
   rw[keep j hj];exact hv
  have s15:Qw H1 H5:=(s2.trans s3).trans s5
  have eD5:H5 Dl=some (.lst acc):=s5 _ _ (s3 _ _ eD)
  cases c with
  | false=>
   rw[if_neg ZZ]at hstep
   refine QpG ?_
   cases hstep
   exact⟨_,by omega,rfl,hlt,s15,eD5,ys,g,G,hrest,rps.same (s3.trans s5),by omega,hG,hcnt⟩
  | true=>
   rw[if_pos rfl]at hstep
   refine QqG ?_
   obtain⟨rr,er,hstep⟩:=Zc.mp hstep
   subst hstep
   refine⟨ρ1,[],F2,rr,rel2.ext s5,er,λy H6 Ge pe=>?_⟩
   have eD6:H6 Dl=some (.lst acc):=pe.same _ _ eD5
   have s16:=s15.trans pe.same
   refine⟨eD6,?_,_,by omega,rfl,hlt,?_⟩
   ·rw[← rps.length];exact Nat.lt_of_le_of_lt hlen (Zz hlt hz)
   have hGe:∀a∈Ge,a≠Dl/\(H1 a=none∨(∃t∈ts,a∈t.2.2)∨∃j,a∈Fc j):=λa ha=>by
    rcases pe.src a ha with z | ⟨j,d,b,ej,hj,_⟩
    ·exact⟨λw=>(by rw[w,eD5]at z;cases z),.inl (s15.free z)⟩
    ·have h1:(∃t∈ts,a∈t.2.2)∨∃j,a∈Fc j:=by
      rcases mem2 j a hj with w | w
      ·exact .inr ⟨j,w⟩
      ·exact .inl (hG0 a w)
     obtain⟨⟨vs,w⟩,_⟩:=oldOf a h1
     exact⟨λw'=>(by rw[w',hD]at w;cases w),.inr h1⟩
   have nD:Dl∉G:=λh=>(hG _ h).1 rfl
   have nDe:Dl∉Ge:=λh=>(hGe _ h).1 rfl
   have sU:Qw H1 (L2.upd H6 Dl (.lst (acc++[y]))):=λb o hb=>by rw[Qz (Qbk hb hD)];exact s16 b o hb
   refine⟨sU,Qag,ys++[rr.d],g && rr.norm.fr,G++Ge,hrest,?_,by rw[Zp,ZaV];omega,λa ha=>?_,λhg=>?_⟩
   ·refine Rps.append ((rps.same ((s3.trans s5).trans pe.same)).upd eD6 nD) ?_
    simp only[Rps]
    exact⟨y,[],Ge,[],rfl,by simp,pe.rp.upd eD6 nDe,rfl,rfl⟩
   ·rcases Zr.mp ha with h | h
    ·exact hG a h
    ·exact hGe a h
   ·simp only[Zg]at hg
    obtain⟨l1,c1⟩:=hcnt hg.1
    have pn:=pe.norm
    obtain⟨c2,l2⟩:=pn.cnt hg.2
    rw[rr.Qcl]at l2
    have nlapp:∀(as bs:List D),nls (as++bs)=nls as+nls bs:=λas bs=>by
     induction as with
     | nil=>simp[nls]
     | cons a as ih=>simp only[Zbi,nls,ih];omega
    refine⟨by rw[Zp,l1,l2,nlapp];simp[nls],λa=>?_⟩
    have fl:((rr.norm.M.map F2).flatten).count a=0:=by
     rw[ZI]
     intro hm
     obtain⟨l,hl,hal⟩:=Zbj.mp hm
     obtain⟨j,hj,rfl⟩:=ZQ.mp hl
     obtain⟨d,ej⟩:=pn.own j hj
     have hf:=sh1 j d ej
     obtain⟨v,_,rv⟩:=rel2.val j d true ej
     rw[rv.Qa7 hf]at hal
     simp at hal
    have h1:=c1 a
    have h2:=c2 a
    rw[fl]at h2
    rw[Zad]
    cases q5:H5 a with
    | some o=>rw[QcZ q5]at h2;omega
    | none=>
     rw[QaD q5]at h2
     have h0:G.count a=0:=ZI.mpr λhm=>by
      obtain⟨vs,w⟩:=rps.mem a hm
      rw[s5 _ _ (s3 _ _ w)]at q5;cases q5
     rw[QaD (s15.free q5)]
     omega
 ·have hn:i=ir.items.length:=by omega
  subst hn
  refine .inl ⟨wk.stop H2 (heldOf H2 s2),?_⟩
  rw[List.drop_length]at hfold
  have:(ys,g)=(xs,f):=Option.some.inj hfold
  cases this
  have rp:Rp X.K H2 (.lst xs) (.ref Dl) (Dl::G):=Rp.QeU eD rps (ZF hlen hz)
  have hHD:H Dl=none:=s1.free hD
  split at q
  ·rename_i hg
   have hg:f=true:=hg
   obtain⟨l1,c1⟩:=hcnt hg
   have hn:∀a∈G,H1 a=none:=λa ha=>by
    have:=c1 a
    have h2:0<G.count a:=Zao.mpr ha
    cases w:H1 a with
    | none=>rfl
    | some o=>rw[QcZ w]at this;omega
   refine q _ H2 (Dl::G) ⟨s1.trans s2,rp,λa ha=>?_,λ_=>⟨λa=>?_,by simp only[D.nl,Zk,l1]⟩,QaE.nil⟩
   ·rcases Zo.mp ha with rfl | h
    ·exact .inl hHD
    ·exact .inl (s1.free (hn a h))
   ·rw[Zav]
    have h1:=c1 a
    split
    ·rename_i w
     have w:Dl=a:=by simpa using w
     subst w
     have h0:G.count Dl=0:=ZI.mpr λh=>(hG _ h).1 rfl
     rw[QaD hHD];omega
    ·cases w:H1 a with
     | none=>rw[QaD w]at h1;rw[QaD (s1.free w)];omega
     | some o=>rw[QcZ w]at h1;omega
  ·refine q _ H2 (Dl::G) ⟨s1.trans s2,rp,λa ha=>?_,λz=>(by cases z),?_⟩
   ·rcases Zo.mp ha with rfl | h
    ·exact .inl hHD
    ·rcases(hG a h).2 with z | z
     ·exact .inl (s1.free z)
     ·exact(oldOf a z).2
   ·refine ow.append λi hi=>?_
    unfold QmX at hi
    obtain⟨o,_,ho⟩:=Zbf.mp hi
    cases o with
    | none=>cases ho
    | some k=>
     simp only[Za]at ho
     split at ho
     ·rename_i d b hk
      split at ho
      ·rename_i hb
       cases ho
       simp only[Zg]at hb
       rw[hb.1]at hk
       exact⟨d,hk⟩
      ·cases ho
     ·cases ho
section
variable {X:Cx}{tg iter elt:Expr}{ifs:List Expr}{scope:Scope}{N':List Str}{pos:Pos}{fi:DI}{t:Tg}{cap:List (Option Nat)}{ft:DT}{fe:DE}
theorem QsQ(hcalm:X.calm=true)(S:Qdx X N' scope)(hi:SI X tg iter fi)(hcap:Qj4 X N' scope cap t.slots)
  (hin:∀cl C fp s3 H3,SG (cxc X N' scope cl C fp s3 H3) tg t/\Qkt (cxc X N' scope cl C fp s3 H3) ifs ft/\SE (cxc X N' scope cl C fp s3 H3) elt fe) (hs:∀x,foldedSetIterable iter X.env x=pure x):
  SE X (.ListComp elt [⟨tg,iter,ifs,0⟩] scope pos) (Q6 fi t cap ft fe):=λH0 A0=>
 (Qmx hcalm S (hi H0 A0) (λcl C fp s3 H3=>⟨(hin cl C fp s3 H3).1 _ _,(hin cl C fp s3 H3).2.1 _ _,(hin cl C fp s3 H3).2.2 _ _⟩) hs).mono λσ H Q h=>Qjk hcap h
end
end HS
namespace HS
open PySem PySem.Spec L2
inductive Out where
 | nx (ρ:En)
 | bk (ρ:En)
 | ct (ρ:En)
 | rt (d:D) (fr:Bool)
noncomputable abbrev DS:=En->Option Out
noncomputable def Fits(K:PySem.W.Frag)(H0:Hp)(A0:List Addr)(hs:List (V×D×List Addr))(E:Ends):Out->Prop
 | .nx ρ=>∀σ H F,Rel K H0 A0 hs ρ F σ H->E.nx σ H
 | .bk ρ=>∀σ H F,Rel K H0 A0 hs ρ F σ H->E.bk σ H
 | .ct ρ=>∀σ H F,Rel K H0 A0 hs ρ F σ H->E.ct σ H
 | .rt d fr=>∀v H G,Ret K H0 A0 d fr v H G->E.rt v H
noncomputable def tS(K:PySem.W.Frag)(H0:Hp)(A0:List Addr)(f:DS):TS:=λE σ H=>∃ρ hs F o,Rel K H0 A0 hs ρ F σ H/\f ρ=some o/\Fits K H0 A0 hs E o
def S1(X:Cx)(st:Stmt)(f:DS):Prop:=∀H0 A0,PS X st (tS X.K H0 A0 f)
def SS(X:Cx)(sts:List Stmt)(f:DS):Prop:=∀H0 A0,PSs X sts (tS X.K H0 A0 f)
theorem _root_.L2.PS.mono(h:PS X st t)(m:∀D σ H,t' D σ H->t D σ H):PS X st t':=λpins s σ H D I q=>h pins s σ H D I (m D σ H q)
theorem _root_.L2.PSs.mono(h:PSs X st t)(m:∀D σ H,t' D σ H->t D σ H):PSs X st t':=λpins s σ H D I q=>h pins s σ H D I (m D σ H q)
noncomputable def Qo:DS:=λρ=>some (.nx ρ)
noncomputable def Qd(f g:DS):DS:=λρ=>(f ρ).bind λo=>match o with
 | .nx ρ'=>g ρ'
 | .bk ρ'=>some (.bk ρ')
 | .ct ρ'=>some (.ct ρ')
 | .rt d fr=>some (.rt d fr)
noncomputable def Qp0:DS:=λρ=>some (.bk ρ)
noncomputable def QpP:DS:=λρ=>some (.ct ρ)
noncomputable def Qv(i:Nat)(fa:DE):DS:=λρ=>(fa ρ).bind λr=>some (.nx (asg i r ρ))
noncomputable def Qbx(fa:DE):DE:=λρ=>(fa ρ).map λr=>⟨r.d,false,r.M⟩
noncomputable def Qai(fa:DE):DS:=λρ=>(fa ρ).bind λr=>some (.rt r.d (r.norm.fr && decide r.norm.M.Nodup))
noncomputable def Qdr(fa:DE):DS:=λρ=>(fa ρ).bind λ_=>some (.nx ρ)
noncomputable def sIf(g:DT)(f1 f2:DS):DS:=λρ=>(g ρ).bind λb=>if b=true then f1 ρ else f2 ρ
noncomputable def QcJ(t:Tg)(fb:DS):List D->DS
 | [],ρ=>some (.nx ρ)
 | d::ds,ρ=>(Qbm t d ρ).bind λρ1=>(fb ρ1).bind λo=>match o with
  | .nx ρ2=>QcJ t fb ds ρ2
  | .ct ρ2=>QcJ t fb ds ρ2
  | .bk ρ2=>some (.nx ρ2)
  | .rt d fr=>some (.rt d fr)
noncomputable def Qa3(fi:DI)(t:Tg)(fb:DS):DS:=λρ=>(fi ρ).bind λir=>QcJ t fb ir.items (QbH ir.M ρ)
noncomputable def QaP(g:DT)(fb:DS):Nat->DS
 | 0,_=>none
 | n+1,ρ=>(g ρ).bind λb=>if b=true then(fb ρ).bind λo=>match o with
  | .nx ρ2=>QaP g fb n ρ2
  | .ct ρ2=>QaP g fb n ρ2
  | .bk ρ2=>some (.nx ρ2)
  | .rt d fr=>some (.rt d fr)
  else some (.nx ρ)
section
theorem QuS:SS X [] Qo:=λH0 A0=>Qte.mono λE σ H=>exK λρ hs F o rel e q=>by
 cases e
 exact q σ H F rel
theorem Qmd(h1:S1 X st f)(h2:SS X sts g):SS X (st::sts) (Qd f g):=λH0 A0=>(QpD (h1 H0 A0) (h2 H0 A0)).mono λE σ H=>exK λρ hs F o rel e q=>by
 refine Qe e λo1 e1 e=>?_
 refine⟨ρ,hs,F,o1,rel,e1,?_⟩
 cases o1 with
 | nx ρ'=>exact λσ' H' F' rel'=>⟨ρ',hs,F',o,rel',e,q⟩
 | bk ρ'=>cases e;exact q
 | ct ρ'=>cases e;exact q
 | rt d fr=>cases e;exact q
theorem QrW:S1 X (.Pass pos) Qo:=λH0 A0=>QrK.mono λE σ H=>exK λρ hs F o rel e q=>by
 cases e
 exact q σ H F rel
theorem QpN:S1 X (.Break pos) Qp0:=λH0 A0=>QpY.mono λE σ H=>exK λρ hs F o rel e q=>by
 cases e
 exact q σ H F rel
theorem Qs9:S1 X (.Continue pos) QpP:=λH0 A0=>QlG.mono λE σ H=>exK λρ hs F o rel e q=>by
 cases e
 exact q σ H F rel
theorem QpT(h:SE X e fa):SE X e (Qbx fa):=λH0 A0=>(h H0 A0).mono λσ H Q=>exK λρ hs F r rel e q=>by
 obtain⟨r',e1,rfl⟩:=Zc.mp e
 exact⟨ρ,hs,F,r',rel,e1,λv H' G p=>q v H' G ⟨p.same,p.rp,p.src,λz=>(by cases z),p.own⟩⟩
theorem Qki(h:∀H0 A0,PS X st (QkK (tV X.K H0 A0 fa) (Qgq i))):S1 X st (Qv i fa):=λH0 A0=>(h H0 A0).mono λE σ H=>exK λρ hs F o rel e q=>by
 refine Qe e λr e1 e=>?_
 cases e
 refine⟨ρ,hs,F,r,rel,e1,λv H' G p=>?_⟩
 obtain⟨F',rel'⟩:=rel.asg (i:=i) p
 exact q _ _ F' rel'
theorem Qr9(h:PS X st (QhZ (tV X.K H0 A0 fa))):PS X st (tS X.K H0 A0 (Qdr fa)):=h.mono λE σ H=>exK λρ hs F o rel e q=>by
 refine Qe e λr e1 e=>?_
 cases e
 exact⟨ρ,hs,F,r,rel,e1,λv H' G p=>q σ H' F (rel.ext p.same)⟩
theorem Rel.ret(rel:Rel K H0 A0 hs ρ F σ H)(p:QO K ρ F H H' r v G):Ret K H0 A0 r.d (r.norm.fr && decide r.norm.M.Nodup) v H' G where
 same:=rel.same.trans p.same
 rp:=p.rp
 src:=λa ha=>by
  rcases p.src a ha with z | ⟨i,d,b,e,m,_⟩
  ·exact .inl (rel.same.free z)
  ·exact rel.src i d b e a m
 cnt:=λh=>by
  simp only[Zg,decide_eq_true_eq]at h
  have p':=p.norm
  obtain⟨h1,h2⟩:=p'.fresh rel h.1 h.2
  have h3:=(p'.cnt h.1).2
  rw[r.Qcl]at h3
  exact⟨h1,h3,λa ha=>(h2 a ha).1⟩
theorem QvK(he:SE X e fa):S1 X (.Return (some e) pos) (Qai fa):=λH0 A0=>(QoD (he H0 A0)).mono λE σ H=>exK λρ hs F o rel e q=>by
 refine Qe e λr e1 e=>?_
 cases e
 exact⟨ρ,hs,F,r,rel,e1,λv H' G p=>q v H' G (rel.ret p)⟩
theorem Qw9(hc:ST X c gc)(ha:SS X a f)(hb:SS X b g):S1 X (.If c a b pos) (sIf gc f g):=λH0 A0=>(Qw5 (hc H0 A0) (ha H0 A0) (hb H0 A0)).mono λE σ H=>exK λρ hs F o rel e q=>by
 refine Qe e λc e1 e=>?_
 refine⟨ρ,hs,F,c,rel,e1,λH1 s1=>?_⟩
 cases c with
 | true=>exact QqG ⟨ρ,hs,F,o,rel.ext s1,e,q⟩
 | false=>exact QpG ⟨ρ,hs,F,o,rel.ext s1,e,q⟩
theorem QvY(hp:PassesOwn (model X.prog X.w) X.A X.env X.xe)(hc:X.calm=true)(hi:SI X tg iter fi)(hg:SG X tg t)(hb:SS X body f)(hs:∀x,foldedSetIterable iter X.env x=pure x):
  S1 X (.For tg iter body [] pos) (Qa3 fi t f):=λH0 A0=>(Qt8 hp hc (hi H0 A0) (hg H0 A0) (hb H0 A0) hs).mono λE σ H=>exK λρ hs F o rel e q=>by
 refine Qe e λir e1 e=>?_
 refine⟨ρ,hs,F,ir,rel,e1,λJ H1 ts s1 wk hts ow hz=>?_⟩
 have rel1:Rel X.K H0 A0 (ts++hs) (QbH ir.M ρ) F σ H1:=((rel.ext s1).weak (Qb1 ir.M ρ)).hold λt ht=>⟨(hts t ht).1,Shr.of rel (hts t ht).2⟩
 refine⟨λi m σ' H'=>m=ir.items.length-i/\i<=ir.items.length/\∃ρi Fi,Rel X.K H0 A0 (ts++hs) ρi Fi σ' H'/\QcJ t f (ir.items.drop i) ρi=some o,⟨_,rfl,Zaf _,_,F,rel1,by simpa using e⟩,?_⟩
 rintro i m σ' H' ⟨rfl,hi',ρi,Fi,reli,ei⟩
 have held:Qk5 X.K H' ts:=λt ht=>(reli.held t (Zh _ ht)).1
 by_cases hlt:i<ir.items.length
 ·rw[Zas hlt]at ei
  unfold QcJ at ei
  refine Qe ei λρ1 eb ei=>?_
  refine Qe ei λo1 eo ei=>?_
  refine .inr ⟨wk.go i H' hlt held,λσ2 H2=>∃ρ2 F2,Rel X.K H0 A0 (ts++hs) ρ2 F2 σ2 H2/\QcJ t f (ir.items.drop (i+1)) ρ2=some o,λσ2 H2 ⟨ρ2,F2,rel2,e2⟩=>⟨_,by omega,rfl,hlt,ρ2,F2,rel2,e2⟩,λx H2 hy=>?_⟩
  obtain⟨s2,G0,rp0,hG0⟩:=wk.yld i ir.items[i] H' x H2 (by simp[hlt]) held hy
  have shr:Shr H0 A0 ρi Fi G0:=λa ha=>by
   obtain⟨t,ht,hat⟩:=hG0 a ha
   exact⟨(reli.held t (Zh _ ht)).2 a hat,λj d ej hj=>(reli.own j d ej).2.2.2.2 t (Zh _ ht) a hj hat⟩
  refine⟨ρi,ts++hs,Fi,ir.items[i],G0,ρ1,reli.ext s2,rp0,shr,eb,λσ3 F3 rel3 _ _=>⟨ρ1,ts++hs,F3,o1,rel3,eo,?_⟩⟩
  cases o1 with
  | nx ρ2=>exact λσ4 H4 F4 rel4=>⟨ρ2,F4,rel4,ei⟩
  | ct ρ2=>exact λσ4 H4 F4 rel4=>⟨ρ2,F4,rel4,ei⟩
  | bk ρ2=>cases ei;exact λσ4 H4 F4 rel4=>q σ4 H4 F4 rel4.Qlu
  | rt d fr=>cases ei;exact q
 ·have hn:i=ir.items.length:=by omega
  subst hn
  rw[List.drop_length]at ei
  cases ei
  exact .inl ⟨wk.stop H' held,q σ' H' Fi reli.Qlu⟩
theorem QpV(hp:PassesOwn (model X.prog X.w) X.A X.env X.xe)(hc:ST X c gc)(hb:SS X body f):S1 X (.While c body [] pos) (QaP gc f n):=λH0 A0=>(QqY hp (hc H0 A0) (hb H0 A0)).mono λE σ H=>exK λρ hs F o rel e q=>by
 refine⟨λm σ' H'=>∃ρi Fi,Rel X.K H0 A0 hs ρi Fi σ' H'/\QaP gc f m ρi=some o,⟨n,ρ,F,rel,e⟩,?_⟩
 rintro m σ' H' ⟨ρi,Fi,reli,ei⟩
 cases m with
 | zero=>cases ei
 | succ m=>
  unfold QaP at ei
  refine Qe ei λb eb ei=>?_
  refine⟨ρi,hs,Fi,b,reli,eb,λH1 s1=>?_⟩
  cases b with
  | false=>
   rw[if_neg ZZ]at ei
   cases ei
   exact QpG (q σ' H1 Fi (reli.ext s1))
  | true=>
   rw[if_pos rfl]at ei
   refine Qe ei λo1 eo ei=>?_
   refine QqG ⟨λσ2 H2=>∃ρ2 F2,Rel X.K H0 A0 hs ρ2 F2 σ2 H2/\QaP gc f m ρ2=some o,λσ2 H2 h=>⟨m,Zaz _,h⟩,ρi,hs,Fi,o1,reli.ext s1,eo,?_⟩
   cases o1 with
   | nx ρ2=>exact λσ4 H4 F4 rel4=>⟨ρ2,F4,rel4,ei⟩
   | ct ρ2=>exact λσ4 H4 F4 rel4=>⟨ρ2,F4,rel4,ei⟩
   | bk ρ2=>cases ei;exact λσ4 H4 F4 rel4=>q σ4 H4 F4 rel4
   | rt d fr=>cases ei;exact q
end
end HS
namespace HS
open PySem PySem.Spec L2 PyProof.Rows
end HS
namespace HS
open PySem PySem.Spec L2
section
variable {K:PySem.W.Frag}{H H':Hp}
theorem Rps.split:∀{ds:List D}{vs:List V}{F:List Addr}{j:Nat}{d:D},Rps K H ds vs F->ds[j]? =some d→
  ∃F1 G F2 v,F=F1++(G++F2)/\vs[j]? =some v/\Rps K H (ds.take j) (vs.take j) F1/\Rp K H d v G/\Rps K H (ds.drop (j+1)) (vs.drop (j+1)) F2
 | [],_,_,_,_,_,e=>by simp at e
 | d::ds,_,_,0,_,h,e=>by
  simp only[Rps]at h
  obtain⟨v,ws,F1,F2,rfl,rfl,r,q⟩:=h
  simp at e;subst e
  exact⟨[],F1,F2,v,rfl,by simp,by simp[Rps],r,by simpa using q⟩
 | d::ds,_,_,j+1,_,h,e=>by
  simp only[Rps]at h
  obtain⟨v,ws,F1,F2,rfl,rfl,r,q⟩:=h
  obtain⟨G1,G,G2,v',h1,h2,h3,h4,h5⟩:=Rps.split q (by simpa using e)
  refine⟨F1++G1,G,G2,v',by rw[h1,ZaH],by simpa using h2,?_,h4,by simpa using h5⟩
  simp only[Zbt,Rps]
  exact⟨v,_,F1,G1,rfl,rfl,r,h3⟩
theorem Rps.join{ds:List D}{vs:List V}{F1 G F2:List Addr}{j:Nat}{d:D}{v:V}(h1:Rps K H (ds.take j) (vs.take j) F1)(hd:Rp K H d v G)(h2:Rps K H (ds.drop (j+1)) (vs.drop (j+1)) F2)(hj:j<ds.length)(hv:vs[j]? =some v):
  Rps K H (ds.set j d) vs (F1++(G++F2)):=by
 have e1:ds.set j d=ds.take j++d::ds.drop (j+1):=ZaG .. |>.trans (by rw[if_pos hj])
 have hjv:j<vs.length:=(Zd.mp hv).1
 have hve:vs[j]=v:=(Zd.mp hv).2
 have e2:vs=vs.take j++v::vs.drop (j+1):=by
  rw[← hve,← Zas hjv,Zau]
 rw[e1,e2]
 refine h1.append ?_
 simp only[Rps]
 refine⟨v,_,G,F2,rfl,rfl,hd,h2⟩
theorem Rps.Qrw{ds:List D}{vs:List V}{F1 G F2:List Addr}{j:Nat}{d:D}{v:V}(h1:Rps K H (ds.take j) (vs.take j) F1)(hd:Rp K H d v G)(h2:Rps K H (ds.drop (j+1)) (vs.drop (j+1)) F2)(hj:j<ds.length)(hv:j<vs.length):
  Rps K H (ds.set j d) (vs.set j v) (F1++(G++F2)):=by
 have e1:ds.set j d=ds.take j++d::ds.drop (j+1):=ZaG .. |>.trans (by rw[if_pos hj])
 have e2:vs.set j v=vs.take j++v::vs.drop (j+1):=ZaG .. |>.trans (by rw[if_pos hv])
 rw[e1,e2]
 refine h1.append ?_
 simp only[Rps]
 exact⟨v,_,G,F2,rfl,rfl,hd,h2⟩
noncomputable def Focus(K:PySem.W.Frag)(H:Hp):List Int->D->V->List Addr->D->V->List Addr->Prop
 | [],d,v,F,dm,w,Gm=>dm=d/\w=v/\Gm=F/\Rp K H d v F
 | i::is,d,v,F,dm,w,Gm=>∃(ds:List D) (a:Addr) (vs:List V) (j:Nat) (F1 G F2:List Addr) (d':D) (v':V),v= .ref a/\ixN ds.length i=some j∧
   ((d= .lst ds/\ds.length<=sizeLine/\((F=a::(F1++(G++F2))/\H a=some (.lst vs))∨(F=F1++(G++F2)/\Fix K H a vs)))∨(d= .tup ds/\F=F1++(G++F2)/\SqT K H a vs))∧
   Rps K H (ds.take j) (vs.take j) F1/\Rps K H (ds.drop (j+1)) (vs.drop (j+1)) F2/\ds[j]? =some d'/\vs[j]? =some v'/\ds.length=vs.length/\Focus K H is d' v' G dm w Gm
theorem Focus.same(s:Qw H H'):∀{is:List Int}{d:D}{v:V}{F:List Addr}{dm:D}{w:V}{Gm:List Addr},Focus K H is d v F dm w Gm->Focus K H' is d v F dm w Gm
 | [],_,_,_,_,_,_,h=>⟨h.1,h.2.1,h.2.2.1,h.2.2.2.same s⟩
 | i::is,_,_,_,_,_,_,h=>by
  obtain⟨ds,a,vs,j,F1,G,F2,d',v',h1,h2,h3,h4,h5,h6,h7,h8,h9⟩:=h
  refine⟨ds,a,vs,j,F1,G,F2,d',v',h1,h2,?_,h4.same s,h5.same s,h6,h7,h8,h9.same s⟩
  rcases h3 with⟨e,z,q⟩ | ⟨e,eF,q⟩
  ·refine .inl ⟨e,z,?_⟩
   rcases q with⟨eF,q⟩ | ⟨eF,q⟩
   ·exact .inl ⟨eF,s _ _ q⟩
   ·exact .inr ⟨eF,QgY s q⟩
  ·exact .inr ⟨e,eF,Qlh s q⟩
theorem Focus.rp:∀{is:List Int}{d:D}{v:V}{F:List Addr}{dm:D}{w:V}{Gm:List Addr},Focus K H is d v F dm w Gm->Rp K H dm w Gm
 | [],_,_,_,_,_,_,h=>by
  obtain⟨rfl,rfl,rfl,r⟩:=h
  exact r
 | i::is,_,_,_,_,_,_,h=>by
  obtain⟨ds,a,vs,j,F1,G,F2,d',v',h1,h2,h3,h4,h5,h6,h7,h8,h9⟩:=h
  exact h9.rp
theorem Focus.Qos:∀{is:List Int}{d:D}{v:V}{F:List Addr}{dm:D}{w:V}{Gm:List Addr},Focus K H is d v F dm w Gm->Rp K H d v F
 | [],_,_,_,_,_,_,h=>h.2.2.2
 | i::is,_,_,_,_,_,_,h=>by
  obtain⟨ds,a,vs,j,F1,G,F2,d',v',rfl,h2,h3,h4,h5,h6,h7,h8,h9⟩:=h
  have hjl:j<ds.length:=(Zd.mp h6).1
  have hdj:ds[j]=d':=(Zd.mp h6).2
  have j1:=Rps.join h4 h9.Qos h5 hjl h7
  rw[show ds.set j d'=ds by rw[← hdj];exact List.set_getElem_self hjl]at j1
  rcases h3 with⟨rfl,hz,⟨rfl,q⟩ | ⟨rfl,q⟩⟩ | ⟨rfl,rfl,q⟩
  ·exact Rp.QeU q j1 hz
  ·simp only[Rp]
   exact⟨hz,a,vs,rfl,.inr ⟨q,j1⟩⟩
  ·simp only[Rp]
   exact⟨a,vs,rfl,q,j1⟩
theorem Focus.one(r:Rp K H d v F)(hd:d.items=some ds)(hi:atI ds i=some d'):
  ∃a vs v' G,v= .ref a/\((d= .lst ds/\SqL K H a vs)∨(d= .tup ds/\SqT K H a vs))/\atI vs i=some v'/\Focus K H [i] d v F d' v' G:=by
 unfold atI at hi
 cases hj:ixN ds.length i with
 | none=>rw[hj]at hi;cases hi
 | some j=>
  rw[hj]at hi
  have hdj:ds[j]? =some d':=hi
  have fin:∀(vs:List V) (L:List Addr),Rps K H ds vs L->∃v' G F1 F2,L=F1++(G++F2)/\vs[j]? =some v'/\atI vs i=some v'/\Rps K H (ds.take j) (vs.take j) F1/\Rp K H d' v' G/\Rps K H (ds.drop (j+1)) (vs.drop (j+1)) F2/\ds.length=vs.length:=λvs L rl=>by
   obtain⟨F1,G,F2,v',h1,h2,h3,h4,h5⟩:=rl.split hdj
   refine⟨v',G,F1,F2,h1,h2,?_,h3,h4,h5,rl.length⟩
   unfold atI
   rw[← rl.length,hj]
   exact h2
  cases d with
  | lst xs=>
   cases hd
   simp only[Rp]at r
   obtain⟨hz,a,vs,rfl,⟨L,rfl,q,rl⟩ | ⟨q,rl⟩⟩:=r
   ·obtain⟨v',G,F1,F2,h1,h2,h3,h4,h5,h6,h7⟩:=fin vs L rl
    exact⟨a,vs,v',G,rfl,.inl ⟨rfl,SqL.of q⟩,h3,ds,a,vs,j,F1,G,F2,d',v',rfl,hj,.inl ⟨rfl,hz,.inl ⟨by rw[h1],q⟩⟩,h4,h6,hdj,h2,h7,rfl,rfl,rfl,h5⟩
   ·obtain⟨v',G,F1,F2,h1,h2,h3,h4,h5,h6,h7⟩:=fin vs _ rl
    exact⟨a,vs,v',G,rfl,.inl ⟨rfl,q.sq⟩,h3,ds,a,vs,j,F1,G,F2,d',v',rfl,hj,.inl ⟨rfl,hz,.inr ⟨h1,q⟩⟩,h4,h6,hdj,h2,h7,rfl,rfl,rfl,h5⟩
  | tup xs=>
   cases hd
   obtain⟨a,vs,rfl,q,rl⟩:=r.QaC
   obtain⟨v',G,F1,F2,h1,h2,h3,h4,h5,h6,h7⟩:=fin vs _ rl
   exact⟨a,vs,v',G,rfl,.inr ⟨rfl,q⟩,h3,ds,a,vs,j,F1,G,F2,d',v',rfl,hj,.inr ⟨rfl,h1,q⟩,h4,h6,hdj,h2,h7,rfl,rfl,rfl,h5⟩
  | _=>cases hd
theorem Focus.snoc:∀{is:List Int}{d:D}{v:V}{F:List Addr}{dm:D}{w:V}{Gm:List Addr}{i:Int}{d':D}{v':V}{G:List Addr},Focus K H is d v F dm w Gm->Focus K H [i] dm w Gm d' v' G->Focus K H (is++[i]) d v F d' v' G
 | [],_,_,_,_,_,_,_,_,_,_,h,g=>by
  obtain⟨rfl,rfl,rfl,r⟩:=h
  exact g
 | k::is,_,_,_,_,_,_,_,_,_,_,h,g=>by
  obtain⟨ds,a,vs,j,F1,G,F2,d',v',h1,h2,h3,h4,h5,h6,h7,h8,h9⟩:=h
  exact⟨ds,a,vs,j,F1,G,F2,d',v',h1,h2,h3,h4,h5,h6,h7,h8,h9.snoc g⟩
noncomputable def Qbr:D->List Int->Option D
 | d,[]=>some d
 | d,i::is=>(d.items).bind λds=>(atI ds i).bind λd'=>Qbr d' is
theorem Qhw:∀{is:List Int}{d:D}{i:Int}{d':D},Qbr d (is++[i])=some d'->∃dm ds,Qbr d is=some dm/\dm.items=some ds/\atI ds i=some d'
 | [],d,i,d',h=>by
  refine Qe h λds h1 h=>?_
  refine Qe h λd'' h2 h=>?_
  cases h
  exact⟨d,ds,rfl,h1,h2⟩
 | k::is,d,i,d',h=>by
  refine Qe h λds h1 h=>?_
  refine Qe h λd'' h2 h=>?_
  obtain⟨dm,es,h3,h4,h5⟩:=Qhw h
  refine⟨dm,es,?_,h4,h5⟩
  simp only[Qbr,h1,h2,Za,h3]
noncomputable def QaW:List Int->D->D->D
 | [],_,new=>new
 | i::is,.lst ds,new=>match ixN ds.length i with
  | some j=> .lst (ds.set j (QaW is (ds.getD j .non) new))
  | none=> .lst ds
 | i::is,.tup ds,new=>match ixN ds.length i with
  | some j=> .tup (ds.set j (QaW is (ds.getD j .non) new))
  | none=> .tup ds
 | _::_,d,_=>d
theorem Qe8:∀{ds:List D}{j:Nat}{d e:D},ds[j]? =some d->nls (ds.set j e)+d.nl=nls ds+e.nl
 | [],_,_,_,h=>by simp at h
 | x::ds,0,d,e,h=>by simp at h;subst h;simp only[List.set_cons_zero,nls];omega
 | x::ds,j+1,d,e,h=>by
  have:=Qe8 (e:=e) (by simpa using h)
  simp only[List.set_cons_succ,nls];omega
theorem Qa8:∀(as bs:List D),nls (as++bs)=nls as+nls bs
 | [],bs=>by simp[nls]
 | a::as,bs=>by simp only[Zbi,nls,Qa8 as bs];omega
theorem Focus.mut:∀{is:List Int}{d:D}{v:V}{F:List Addr}{Gm:List Addr},Focus K H is d v F (.lst dsm) (.ref p) Gm->F.Nodup->F.length=d.nl→
  ∃vsm Gp,H p=some (.lst vsm)/\Gm=p::Gp/\Rps K H dsm vsm Gp/\Gp.length=nls dsm/\p∈F/\(∀a∈Gp,a∈F)/\p∉Gp∧
   (Rps K (upd H p (.lst vs')) ds' vs' G'->ds'.length<=sizeLine->G'.length=nls ds'→
    ∃F',Rp K (upd H p (.lst vs')) (QaW is d (.lst ds')) v F'/\F'.length=(QaW is d (.lst ds')).nl/\∀a,F'.count a+Gp.count a=F.count a+G'.count a)
 | [],d,v,F,Gm,h,nd,hl=>by
  obtain⟨rfl,rfl,rfl,r⟩:=h
  simp only[Rp]at r
  obtain⟨hz,a,vs,e,h⟩:=r
  cases e
  rcases h with⟨L,rfl,q,rl⟩ | ⟨q,rl⟩
  ·obtain⟨n1,n2⟩:=ZS.mp nd
   have hl':L.length=nls dsm:=by simp only[D.nl,Zk]at hl;omega
   refine⟨vs,L,q,rfl,rl,hl',Zf,λa ha=>Zb _ ha,n1,λr' hz' hl2=>⟨p::G',Rp.QeU Qag r' hz',?_,λa=>?_⟩⟩
   ·simp only[QaW,D.nl,Zk,hl2]
   ·rw[Zav,Zav];omega
  ·have:=rl.Q8
   simp only[D.nl]at hl
   omega
 | i::is,d,v,F,Gm,h,nd,hl=>by
  obtain⟨ds,a,vs,j,F1,G,F2,d',v',rfl,hj,h3,h4,h5,h6,h7,h8,h9⟩:=h
  have hjl:j<ds.length:=(Zd.mp h6).1
  have gd:ds.getD j .non=d':=by rw[ZH,h6];rfl
  have l1:=h4.Q8
  have l2:=h5.Q8
  have l3:=h9.Qos.Q8
  have nlsplit:nls (ds.take j)+(d'.nl+nls (ds.drop (j+1)))=nls ds:=by
   have e1:ds=ds.take j++d'::ds.drop (j+1):=by
    have:ds[j]=d':=(Zd.mp h6).2
    rw[← this,← Zas hjl,Zau]
   have e2:=congrArg nls e1
   rw[Qa8]at e2
   simp only[nls]at e2
   exact e2.symm
  have core:(F1++(G++F2)).Nodup->(F1++(G++F2)).length=nls ds->_:=λnd' hl'=>by
   simp only[Zp]at hl'
   have hG:G.length=d'.nl:=by omega
   have ndG:G.Nodup:=(ZP.mp (ZP.mp nd').2.1).1
   exact(h9.mut (vs':=vs') (ds':=ds') (G':=G') ndG hG)
  have apart:(F1++(G++F2)).Nodup->p∈G->p∉F1/\p∉F2:=λnd' hp=>by
   have n1:=ZP.mp nd'
   have n2:=ZP.mp n1.2.1
   exact⟨λh=>n1.2.2 p h p (Zh _ hp) rfl,λh=>n2.2.2 p hp p h rfl⟩
  have cnt:∀(G'' Gp:List Addr),(∀a,G''.count a+Gp.count a=G.count a+G'.count a)->∀a,(F1++(G''++F2)).count a+Gp.count a=(F1++(G++F2)).count a+G'.count a:=λG'' Gp hc a=>by
   have:=hc a
   simp only[Zad];omega
  rcases h3 with⟨rfl,hz,⟨rfl,q⟩ | ⟨rfl,q⟩⟩ | ⟨rfl,rfl,q⟩
  ·
   obtain⟨n1,n2⟩:=ZS.mp nd
   have hl':(F1++(G++F2)).length=nls ds:=by simp only[D.nl,Zk]at hl;omega
   obtain⟨vsm,Gp,e1,e2,e3,e4,e5,e6,e7,e8⟩:=core n2 hl'
   have ap:=apart n2 e5
   have hap:a≠p:=λz=>n1 (by rw[z];exact Ze _ (Zh _ e5))
   refine⟨vsm,Gp,e1,e2,e3,e4,Zb _ (Ze _ (Zh _ e5)),λb hb=>Zb _ (Ze _ (Zh _ (e6 b hb))),e7,λr' hz' hl2=>?_⟩
   obtain⟨G'',f1,f2,f3⟩:=e8 r' hz' hl2
   have j1:=Rps.join (h4.upd e1 ap.1) f1 (h5.upd e1 ap.2) hjl h7
   refine⟨a::(F1++(G''++F2)),?_,?_,λb=>?_⟩
   ·simp only[QaW,hj,gd]
    exact Rp.QeU (by rw[Qz hap];exact q) j1 (by rw[ZaQ];exact hz)
   ·have:=Qe8 (e:=QaW is d' (.lst ds')) h6
    simp only[QaW,hj,gd,D.nl,Zk,Zp,f2]at hl' ⊢
    omega
   ·have:=cnt G'' Gp f3 b
    rw[Zav,Zav];omega
  ·have:(F1++(G++F2)).length<=nls ds:=by simp only[Zp];omega
   simp only[D.nl]at hl
   omega
  ·
   have hl':(F1++(G++F2)).length=nls ds:=by simpa only[D.nl]using hl
   obtain⟨vsm,Gp,e1,e2,e3,e4,e5,e6,e7,e8⟩:=core nd hl'
   have ap:=apart nd e5
   refine⟨vsm,Gp,e1,e2,e3,e4,Ze _ (Zh _ e5),λb hb=>Ze _ (Zh _ (e6 b hb)),e7,λr' hz' hl2=>?_⟩
   obtain⟨G'',f1,f2,f3⟩:=e8 r' hz' hl2
   have j1:=Rps.join (h4.upd e1 ap.1) f1 (h5.upd e1 ap.2) hjl h7
   refine⟨F1++(G''++F2),?_,?_,cnt G'' Gp f3⟩
   ·simp only[QaW,hj,gd,Rp]
    exact⟨a,vs,rfl,Qms e1 q,j1⟩
   ·have:=Qe8 (e:=QaW is d' (.lst ds')) h6
    simp only[QaW,hj,gd,D.nl,Zp,f2]at hl' ⊢
    omega
end
end HS
namespace HS
open PySem PySem.Spec L2
section
theorem Rel.mut(rel:Rel K H0 A0 hs ρ F σ H)(p:QO K ρ F H H1 r vn Gn)(hf:r.fr=true)(nd:r.M.Nodup)(s12:Qw H1 H2)(hx:ρ[x]? =some (some (d,true)))(hxM:x∉r.M)(hv0:σ[x]? =some (some v0))
  {dnew:D}{q:Addr}{F':List Addr}{vsm vs':List V}(e1:H2 q=some (.lst vsm)) (e5:q∈F x) (f1:Rp K (upd H2 q (.lst vs')) dnew v0 F') (f2:F'.length=dnew.nl) (cF:∀a,F'.count a<=(F x).count a+Gn.count a):
  ∃F',Rel K H0 A0 hs ((kill r.M ρ).set x (some (dnew,true))) F' σ (upd H2 q (.lst vs')):=by
 obtain⟨ol,on,o0,oap,oh⟩:=rel.own x d hx
 obtain⟨gn,gs⟩:=p.fresh rel hf nd
 have rel2:=(rel.ext p.same).ext s12
 have relk:=rel2.weak (Qbl r.M ρ)
 have apn:∀a∈Gn,a∉F x:=λa ha hax=>by
  rcases(gs a ha).2 with z | ⟨k,d',hk,ek,hak⟩
  ·obtain⟨vs,w⟩:=rel.mem hx hax
   rw[z]at w;cases w
  ·have:k≠x:=λz=>hxM (z▸hk)
   exact oap k d' true this ek a hax hak
 have memF:∀a∈F',a∈F x∨a∈Gn:=λa ha=>by
  have h1:=cF a
  have h2:0<F'.count a:=Zao.mpr ha
  by_cases h:a∈F x
  ·exact .inl h
  ·rw[ZI.mpr h]at h1
   exact .inr (Zao.mp (by omega))
 have apart:∀(j:Nat) d' b,j≠x->(kill r.M ρ)[j]? =some (some (d',b))->∀a∈F',a∉F j:=λj d' b hj e a ha haj=>by
  obtain⟨b',e',_⟩:=(Qbl r.M ρ).2 j d' b e
  rcases memF a ha with h | h
  ·exact oap j d' b' hj e' a h haj
  ·rcases(gs a h).2 with z | ⟨k,d'',hk,ek,hak⟩
   ·obtain⟨vs,w⟩:=rel.mem e' haj
    rw[z]at w;cases w
   ·have hjk:j≠k:=λz=>by subst z;exact Qew r.M ρ j d' b hk e
    exact(rel.own k d'' ek).2.2.2.1 j d' b' hjk e' a hak haj
 have apartH:∀t∈hs,∀a∈F',a∉t.2.2:=λt ht a ha hat=>by
  rcases memF a ha with h | h
  ·exact oh t ht a h hat
  ·rcases(gs a h).2 with z | ⟨k,d'',hk,ek,hak⟩
   ·obtain⟨vs,w⟩:=(rel.held t ht).1.mem a hat
    rw[z]at w;cases w
   ·exact(rel.own k d'' ek).2.2.2.2 t ht a hak hat
 have nqj:∀(j:Nat) d' b,j≠x->ρ[j]? =some (some (d',b))->q∉F j:=λj d' b hj e h=>oap j d' b hj e q e5 h
 have nF':F'.Nodup:=ZX.mpr λa=>by
  have h1:=cF a
  have h2:=ZX.mp on a
  have h3:=ZX.mp gn a
  by_cases h:a∈Gn
  ·rw[ZI.mpr (apn a h)]at h1;omega
  ·rw[ZI.mpr h]at h1;omega
 have lt:∀{j:Nat}{z:Option (D×Bool)}{y:D×Bool},((kill r.M ρ).set j z)[j]? =some (some y)->j<(kill r.M ρ).length:=λ{j z y} e=>by
  by_cases hl:j<(kill r.M ρ).length
  ·exact hl
  ·rw[Zy (by simp;omega)]at e;cases e
 refine⟨λj=>if j=x then F' else F j,by simp[relk.len],λj d' b e=>?_,λj d' e=>?_,λj d' b e a ha=>?_,λt ht=>⟨(relk.held t ht).1.upd e1 λh=>oh t ht q e5 h,(relk.held t ht).2⟩,λb o hb=>?_⟩
 ·by_cases hj:j=x
  ·subst hj
   have hl:=lt e
   rw[Zt hl]at e
   cases e
   exact⟨v0,hv0,by rw[if_pos rfl];exact f1⟩
  ·rw[Zi (Ne.symm hj)]at e
   obtain⟨w,h1,h2⟩:=relk.val j d' b e
   obtain⟨b',e',_⟩:=(Qbl r.M ρ).2 j d' b e
   exact⟨w,h1,by rw[if_neg hj];exact h2.upd e1 (nqj j d' b' hj e')⟩
 ·by_cases hj:j=x
  ·subst hj
   have hl:=lt e
   rw[Zt hl]at e
   cases e
   rw[if_pos rfl]
   refine⟨f2,nF',λa ha=>?_,λk d'' b hk ek a ha=>?_,apartH⟩
   ·rcases memF a ha with h | h
    ·exact o0 a h
    ·exact(gs a h).1
   ·rw[Zi (Ne.symm hk)]at ek
    rw[if_neg hk]
    exact apart k d'' b hk ek a ha
  ·rw[Zi (Ne.symm hj)]at e
   obtain⟨h1,h2,h3,h4,h5⟩:=relk.own j d' e
   rw[if_neg hj]
   refine⟨h1,h2,h3,λk d'' b hk ek a ha=>?_,h5⟩
   by_cases hki:k=x
   ·subst hki
    rw[if_pos rfl]
    exact λhG=>apart j d' true hj e a hG ha
   ·rw[Zi (Ne.symm hki)]at ek
    rw[if_neg hki]
    exact h4 k d'' b hk ek a ha
 ·by_cases hj:j=x
  ·subst hj
   rw[if_pos rfl]at ha
   rcases memF a ha with h | h
   ·exact .inl (o0 a h)
   ·exact .inl (gs a h).1
  ·rw[Zi (Ne.symm hj)]at e
   rw[if_neg hj]at ha
   exact relk.src j d' b e a ha
 ·have hbq:b≠q:=λz=>by rw[z,o0 q e5]at hb;cases hb
  rw[Qz hbq]
  exact relk.same b o hb
end
noncomputable abbrev DP:=En->Option (List Int)
noncomputable def Q1:DP:=λ_=>some []
noncomputable def Qgi(p:DP)(fb:DE):DP:=λρ=>(p ρ).bind λis=>(fb ρ).bind λr=>match r.d with
 | .int i=>some (is++[i])
 | _=>none
noncomputable def tP(K:PySem.W.Frag)(H0:Hp)(A0:List Addr)(x:Nat)(pf:DP):TE:=λσ H Q=>∃ρ hs F d b is dm,Rel K H0 A0 hs ρ F σ H/\ρ[x]? =some (some (d,b))/\pf ρ=some is/\Qbr d is=some dm∧
 ∀v0 v H' Gm,Qw H H'->σ[x]? =some (some v0)->Focus K H' is d v0 (F x) dm v Gm->Q v H'
def SPa(X:Cx)(e:Expr)(x:Nat)(pf:DP):Prop:=∀H0 A0,PE X e (tP X.K H0 A0 x pf)
section
theorem Qho(h:PE X (.Name y pos) (Qfj x)):SPa X (.Name y pos) x Q1:=λH0 A0=>h.mono λσ H Q hpt=>by
 obtain⟨ρ,hs,F,d,b,is,dm,rel,hx,hp,hd,q⟩:=hpt
 cases hp
 cases hd
 obtain⟨v,h1,h2⟩:=rel.val x d b hx
 exact⟨v,h1,q v v H (F x) (Qw.refl _) h1 ⟨rfl,rfl,rfl,h2⟩⟩
theorem Qtm(ha:SPa X a x pf)(hb:SE X b fb)(hs:Qgy b):SPa X (.Subscript a b pos) x (Qgi pf fb):=λH0 A0=>
 (Qrl (Ql7.or QoF) (ha H0 A0) (hb H0 A0) hs).mono λσ H Q hpt=>by
  obtain⟨ρ,hs,F,d,b',is,dm,rel,hx,hp,hd,q⟩:=hpt
  refine Qe hp λis' e1 hp=>?_
  refine Qe hp λr e2 hp=>?_
  cases hr:r.d with
  | int i=>
   rw[hr]at hp
   cases hp
   obtain⟨dn,ds,g1,g2,g3⟩:=Qhw hd
   refine⟨ρ,hs,F,d,b',is',dn,rel,hx,e1,g1,λv0 w H1 Gm s1 hv fo=>⟨ρ,hs,F,r,rel.ext s1,e2,λu H2 G p2=>?_⟩⟩
   have rp:=p2.rp
   rw[hr]at rp
   rw[rp.int_inv]
   have fo2:=fo.same p2.same
   obtain⟨c,vs,v',G',rfl,hc,h3,h4⟩:=Focus.one fo2.rp g2 g3
   have fin:=q v0 v' H2 G' (s1.trans p2.same) hv (fo2.snoc h4)
   rcases hc with⟨_,hc⟩ | ⟨_,hc⟩
   ·exact .inl ⟨c,vs,i,v',rfl,rfl,hc,h3,fin⟩
   ·exact .inr ⟨c,vs,i,v',rfl,rfl,hc,h3,fin⟩
  | _=>rw[hr]at hp;cases hp
noncomputable def Qce(x:Nat)(pf:DP)(fi fa:DE):DS:=λρ=>(fa ρ).bind λr0=>match ρ[x]? with
 | some (some (d,true))=>(pf ρ).bind λis=>(fi ρ).bind λri=>match ri.d,Qbr d is with
  | .int k,some (.lst ds)=>(ixN ds.length k).bind λj=>if r0.norm.fr && decide r0.norm.M.Nodup && !r0.norm.M.contains x then some (.nx ((kill r0.norm.M ρ).set x (some (QaW is d (.lst (ds.set j r0.d)),true))))else
   none
  | _,_=>none
 | _=>none
theorem set_mk(hq:H2 q=some (.lst vsm))(rs:Rps K H2 dsm vsm Gp)(hl:Gp.length=nls dsm)(nq:q∉Gp)(nqn:q∉Gn)(hn:Rp K H2 dn vn Gn)(hnl:Gn.length=dn.nl)(hj:j<dsm.length):
  ∃G',Rps K (upd H2 q (.lst (vsm.set j vn))) (dsm.set j dn) (vsm.set j vn) G'/\G'.length=nls (dsm.set j dn)/\∀a,G'.count a<=Gp.count a+Gn.count a:=by
 obtain⟨F1,G,F2,v,e1,e2,h1,h2,h3⟩:=rs.split (j:=j) (d:=dsm[j]) (by simp[hj])
 subst e1
 have hjv:j<vsm.length:=by rw[← rs.length];exact hj
 have n1:q∉F1:=λh=>nq (Zh _ h)
 have n2:q∉F2:=λh=>nq (Ze _ (Ze _ h))
 refine⟨F1++(Gn++F2),Rps.Qrw (h1.upd hq n1) (hn.upd hq nqn) (h3.upd hq n2) hj hjv,?_,λa=>?_⟩
 ·have:=Qe8 (ds:=dsm) (j:=j) (d:=dsm[j]) (e:=dn) (by simp[hj])
  have l1:=h1.Q8
  have l2:=h2.Q8
  have l3:=h3.Q8
  have e1:nls (dsm.take j)+((dsm[j]).nl+nls (dsm.drop (j+1)))=nls dsm:=by
   have e2:=congrArg nls (Zau j dsm)
   rw[Qa8,Zas hj]at e2
   simpa only[nls]using e2
  simp only[Zp]at hl ⊢
  omega
 ·simp only[Zad];omega
theorem QO.Qrk(p:QO K ρ F H H1 r v G)(s:Qw H1 H2):QO K ρ F H H2 r v G:=⟨p.same.trans s,p.rp.same s,p.src,p.cnt,p.own⟩
theorem Qug(hv:SE X e fa)(ho:SPa X a x pf)(hi:SE X i fi)
  (h:∀te to ti,PE X e te->PE X a to->PE X i ti->PS X (.Assign [.Subscript a i pos'] e pos) (QkK te (L2.Qdo to ti QrC))):S1 X (.Assign [.Subscript a i pos'] e pos) (Qce x pf fi fa):=λH0 A0=>
 (h _ _ _ (hv H0 A0) (ho H0 A0) (hi H0 A0)).mono λE σ H=>exK λρ hs F o rel e q=>by
  refine Qe e λr0 e1 e=>?_
  split at e
  ·rename_i d hx
   refine Qe e λis e2 e=>?_
   refine Qe e λri e3 e=>?_
   split at e
   ·rename_i k ds hk hp
    refine Qe e λj e4 e=>?_
    split at e
    ·rename_i hc
     cases e
     simp only[Zg,decide_eq_true_eq,ZY]at hc
     obtain⟨⟨c1,c2⟩,c3⟩:=hc
     have c3:x∉r0.norm.M:=λh=>by rw[ZK.mpr h]at c3;cases c3
     refine⟨ρ,hs,F,r0,rel,e1,λvn H1 Gn p=>⟨ρ,hs,F,d,true,is,.lst ds,rel.ext p.same,hx,e2,hp,λv0 w H2 Gm s2 hv0 fo=>⟨ρ,hs,F,ri,(rel.ext p.same).ext s2,e3,λu H3 Gi pi=>?_⟩⟩⟩
     have p':=(p.norm.Qrk s2).Qrk pi.same
     have fo3:=fo.same pi.same
     have rpi:=pi.rp
     rw[hk]at rpi
     rw[rpi.int_inv]
     obtain⟨l,ws,L,rfl,_⟩:=fo3.rp.lst_inv
     obtain⟨ol,on,_,oap,_⟩:=rel.own x d hx
     have hjl:=(Qgr e4).2.1
     obtain⟨gn,gs⟩:=p'.fresh rel c1 c2
     have rn:=p'.rp
     rw[r0.Qcl]at rn
     have hnl:=(p'.cnt c1).2
     rw[r0.Qcl]at hnl
     obtain⟨vsm,_,f1,_⟩:=fo3.mut (vs':=[]) (ds':=[]) (G':=[]) on ol
     obtain⟨_,_,_,_,_,_,zl,_⟩:=fo3.rp.lst_inv
     have key:∃F',Rp X.K (upd H3 l (.lst (vsm.set j vn))) (QaW is d (.lst (ds.set j r0.d))) v0 F'/\F'.length=(QaW is d (.lst (ds.set j r0.d))).nl/\l∈F x/\ds.length=vsm.length/\∀a,F'.count a<=(F x).count a+Gn.count a:=by
      have own5:∀G',_:=λG'=>fo3.mut (vs':=vsm.set j vn) (ds':=ds.set j r0.d) (G':=G') on ol
      obtain⟨vs1,Gp,g1,g2,g3,g4,g5,g6,g7,_⟩:=own5 []
      rw[f1]at g1;cases g1
      have hq:l∉Gn:=λh=>by
       rcases(gs l h).2 with z | ⟨k',d',hk',ek,hak⟩
       ·obtain⟨vs,w⟩:=rel.mem hx g5
        rw[z]at w;cases w
       ·exact oap k' d' true (λz=>c3 (z▸hk')) ek l g5 hak
      obtain⟨G',m1,m2,m3⟩:=set_mk f1 g3 g4 g7 hq rn hnl hjl
      obtain⟨vs2,Gp2,k1,k2,k3,k4,k5,k6,k7,k8⟩:=own5 G'
      have eG:Gp2=Gp:=by rw[g2]at k2;exact(List.cons.inj k2).2.symm
      subst eG
      obtain⟨F',h1,h2,h3⟩:=k8 m1 (by rw[ZaQ];exact zl) m2
      exact⟨F',h1,h2,g5,g3.length,λa=>by have:=h3 a;have:=m3 a;omega⟩
     obtain⟨F',k1,k2,k3,k4,k5⟩:=key
     refine⟨l,vsm,k,j,rfl,rfl,f1,by rw[← k4];exact e4,?_⟩
     obtain⟨F'',rel'⟩:=rel.mut p' c1 c2 (Qw.refl _) hx c3 hv0 f1 k3 k1 k2 k5
     exact q _ _ F'' rel'
    ·
      cases e
   ·cases e
  ·cases e
end
section
variable {K:PySem.W.Frag}{H0 H H1 H2 H3:Hp}{A0:List Addr}{hs:List (V×D×List Addr)}{ρ:En}{F:Nat->List Addr}{σ:L2.St}
theorem Rel.write(rel:Rel K H0 A0 hs ρ F σ H)(p:QO K ρ F H H3 r vn Gn)(hf:r.fr=true)(nd:r.M.Nodup)(hx:ρ[x]? =some (some (d,true)))(hxM:x∉r.M)(hv0:σ[x]? =some (some v0))
  {is:List Int}{ds:List D}{Gm:List Addr}(fo:Focus K H3 is d v0 (F x) (.lst ds) w Gm):
  ∃l vsm Gp,w= .ref l/\H3 l=some (.lst vsm)/\Rps K H3 ds vsm Gp/\Gp.length=nls ds/\l∉Gp/\l∉Gn/\ds.length<=sizeLine∧
   ∀ds' vs' G',Rps K (upd H3 l (.lst vs')) ds' vs' G'->ds'.length<=sizeLine->G'.length=nls ds'->(∀a,G'.count a<=Gp.count a+Gn.count a)→
    ∃F',Rel K H0 A0 hs ((kill r.M ρ).set x (some (QaW is d (.lst ds'),true))) F' σ (upd H3 l (.lst vs')):=by
 obtain⟨l,ws,L,rfl,_,_,zl,_⟩:=fo.rp.lst_inv
 obtain⟨ol,on,_,oap,_⟩:=rel.own x d hx
 obtain⟨gn,gs⟩:=p.fresh rel hf nd
 obtain⟨vsm,Gp,g1,g2,g3,g4,g5,g6,g7,_⟩:=fo.mut (vs':=[]) (ds':=[]) (G':=[]) on ol
 have hq:l∉Gn:=λh=>by
  rcases(gs l h).2 with z | ⟨k',d',hk',ek,hak⟩
  ·obtain⟨vs,w⟩:=rel.mem hx g5
   rw[z]at w;cases w
  ·exact oap k' d' true (λz=>hxM (z▸hk')) ek l g5 hak
 refine⟨l,vsm,Gp,rfl,g1,g3,g4,g7,hq,zl,λds' vs' G' m1 m2 m3 m4=>?_⟩
 obtain⟨vs2,Gp2,k1,k2,k3,k4,k5,k6,k7,k8⟩:=fo.mut (vs':=vs') (ds':=ds') (G':=G') on ol
 have eG:Gp2=Gp:=by rw[g2]at k2;exact(List.cons.inj k2).2.symm
 subst eG
 obtain⟨F',h1,h2,h3⟩:=k8 m1 m2 m3
 exact rel.mut p hf nd (Qw.refl _) hx hxM hv0 g1 g5 h1 h2 λa=>by have:=h3 a;have:=m4 a;omega
end
section
variable {X:Cx}{a b e:Expr}{fa fb:DE}{pf:DP}{x:Nat}{pos apos:Pos}
noncomputable def Qia(r:R)(x:Nat):Bool:=r.norm.fr && decide r.norm.M.Nodup && !r.norm.M.contains x
theorem Qn4(h:Qia r x=true):r.norm.fr=true/\r.norm.M.Nodup/\x∉r.norm.M:=by
 unfold Qia at h
 simp only[Zg,decide_eq_true_eq,ZY]at h
 exact⟨h.1.1,h.1.2,λz=>by rw[ZK.mpr z]at h;cases h.2⟩
noncomputable def QdA(x:Nat)(pf:DP)(fa:DE):DS:=λρ=>match ρ[x]? with
 | some (some (d,true))=>(pf ρ).bind λis=>(fa ρ).bind λr0=>match Qbr d is with
  | some (.lst ds)=>if Qia r0 x && decide (ds.length<sizeLine)then some (.nx ((kill r0.norm.M ρ).set x (some (QaW is d (.lst (ds++[r0.d])),true))))else none
  | _=>none
 | _=>none
theorem Qqv{H0:Hp}{A0:List Addr}{E:Ends}{σ:L2.St}{H:Hp}:tS X.K H0 A0 (QdA x pf fa) E σ H->QhZ (tBM X.K "list" Qi0 (tP X.K H0 A0 x pf) (Qc2 (tV X.K H0 A0 fa) QeC)) E σ H:=exK λρ hs F o rel e q=>by
 unfold QdA at e
 split at e
 ·rename_i d hx
  refine Qe e λis e2 e=>?_
  refine Qe e λr0 e1 e=>?_
  split at e
  ·rename_i ds hp
   split at e
   ·rename_i hc
    simp only[Zg,decide_eq_true_eq]at hc
    obtain⟨c1,c2,c3⟩:=Qn4 hc.1
    cases e
    refine⟨ρ,hs,F,d,true,is,.lst ds,rel,hx,e2,hp,λv0 w H2 Gm s2 hv0 fo=>?_⟩
    have ty:tyV X.K "list" w H2:=by
     obtain⟨l,ws,L,rfl,hl,_⟩:=fo.rp.lst_inv
     exact .inl ⟨rfl,ws,QT hl⟩
    refine⟨ty,ρ,hs,F,r0,rel.ext s2,e1,λvn H3 Gn p=>?_⟩
    have p':=p.norm
    obtain⟨l,vsm,Gp,rfl,g1,g2,g3,g4,g5,g6,g7⟩:=(rel.ext s2).write p' c1 c2 hx c3 hv0 (fo.same p.same)
    refine⟨l,vsm,vn,rfl,rfl,g1,by rw[← g2.length];exact hc.2,?_⟩
    have rn:=p'.rp
    rw[r0.Qcl]at rn
    have hnl:=(p'.cnt c1).2
    rw[r0.Qcl]at hnl
    have rw1:Rps X.K (upd H3 l (.lst (vsm++[vn]))) [r0.d] [vn] Gn:=by
     simp only[Rps]
     exact⟨vn,[],Gn,[],rfl,by simp,rn.upd g1 g5,rfl,rfl⟩
    obtain⟨F',rel'⟩:=g7 (ds++[r0.d]) (vsm++[vn]) (Gp++Gn) ((g2.upd g1 g4).append rw1) (by rw[Zp,ZaV];omega) (by rw[Zp,Qa8,g3,hnl];simp[nls]) (λa=>by rw[Zad];omega)
    exact q _ _ F' rel'
   ·cases e
  ·cases e
 ·cases e
open PyProof.Rows in
theorem Qo0:QuH X (Qvw X.K):=by
 intro pins s σ H o i ov iv Q I ro ri h
 obtain⟨p,xs,k,v,rfl,rfl,hq,ha,q⟩:=h
 cases ro
 obtain⟨t,rfl⟩:=ri
 obtain⟨its,r,pl,hz⟩:=I.list hq
 obtain⟨j,h1,h2,h3,h4,h5⟩:=Qi4 ha
 obtain⟨w,ew,rw'⟩:=r.get h2
 have hl:=r.length
 have hn:=Qd8
 by_cases h0:0<=k
 ·refine wpAny_getItem_list pl.isList h0 (by omega) (x:=w) ?_ ⟨v,H,I,rw',q⟩
  have:k.toNat=j:=by
   rw[seqIndex_of h0 h5]at h1
   exact Option.some.inj h1
  rw[this];simpa using ew
 ·refine wpAny_getItem_list_neg pl.isList (by omega) (by rw[Zw]<;>omega) (by omega) (x:=w) ?_ ⟨v,H,I,rw',q⟩
  have hj:(k+(its.toArray.size:Int)).toNat=j:=by
   rw[seqIndex_neg (by omega) h4]at h1
   rw[Zw,← hl]
   exact Option.some.inj h1
  rw[hj];simpa using ew
noncomputable def Qdg(g:D->D->Option D)(x:Nat)(pf:DP)(fi fa:DE):DS:=λρ=>match ρ[x]? with
 | some (some (d,true))=>(pf ρ).bind λis=>(fi ρ).bind λri=>match ri.d,Qbr d is with
  | .int k,some (.lst ds)=>(ixN ds.length k).bind λj=>(ds[j]?).bind λold=>(fa ρ).bind λr=>(g old r.d).map λnew=> .nx (ρ.set x (some (QaW is d (.lst (ds.set j new)),true)))
  | _,_=>none
 | _=>none
theorem Qr0(ho:OpR X (inplaceOp op) r)(hg:Qbz X.K g r)(hv:SE X e fa)(hp:SPa X a x pf)(hi:SE X i fi)
  (ha:∀ov iv new,augStore i ov iv new=(do holding [new,ov,iv] (setItem ov iv new);release [new,ov,iv] [];pure .next)):S1 X (.AugAssign (.Subscript a i pos') op e pos) (Qdg g x pf fi fa):=λH0 A0=>
 (Qr1 (hp H0 A0) (hi H0 A0) Qo0 (hv H0 A0) (λpins s σ H x y v u Q I rx ry q=>Qxh ho I rx ry q) set_list ha).mono λE σ H=>exK λρ hs F o rel e q=>by
  unfold Qdg at e
  split at e
  ·rename_i d hx
   refine Qe e λis e2 e=>?_
   refine Qe e λri e3 e=>?_
   split at e
   ·rename_i k ds hk hp'
    refine Qe e λj e4 e=>?_
    refine Qe e λold e5 e=>?_
    refine Qe e λrv e6 e=>?_
    obtain⟨new,e7,e⟩:=Zc.mp e
    subst e
    have hjl:=(Qgr e4).2.1
    refine⟨ρ,hs,F,d,true,is,.lst ds,rel,hx,e2,hp',λv0 w H2 Gm s2 hv0 fo=>⟨ρ,hs,F,ri,rel.ext s2,e3,λu H3 Gi pi=>?_⟩⟩
    have fo3:=fo.same pi.same
    have rpi:=pi.rp
    rw[hk]at rpi
    rw[rpi.int_inv]
    have at3:atI ds k=some old:=by unfold atI;rw[e4];exact e5
    obtain⟨l,vs,v',Go,rfl,hc,h3,h4⟩:=Focus.one fo3.rp rfl at3
    have hc:SqL X.K H3 l vs:=by
     rcases hc with⟨_,hc⟩ | ⟨hc,_⟩
     ·exact hc
     ·cases hc
    refine⟨l,vs,k,v',rfl,rfl,hc,h3,ρ,hs,F,rv,(rel.ext s2).ext pi.same,e6,λy H4 G4 p4=>?_⟩
    have fo4:=fo3.same p4.same
    have ro:=h4.rp.same p4.same
    refine(hg _ _ _ e7).2 H4 v' y Go G4 _ ro p4.rp λz hz=>?_
    have rel4:=((rel.ext s2).ext pi.same).ext p4.same
    have pz:QO X.K ρ F H4 H4 ⟨new,true,[]⟩ z []:= .flat (Qw.refl _) (hz H4) (hg _ _ _ e7).1
    obtain⟨l',vsm,Gp,el,g1,g2,g3,g4,g5,g6,g7⟩:=rel4.write pz rfl Zaj hx (by simp) hv0 fo4
    cases el
    refine⟨l,vsm,k,j,rfl,rfl,g1,by rw[← g2.length];exact e4,?_⟩
    obtain⟨G',m1,m2,m3⟩:=set_mk g1 g2 g3 g4 g5 (hz H4) (Qb0 new (hg _ _ _ e7).1).symm hjl
    obtain⟨F',rel'⟩:=g7 _ _ G' m1 (by rw[ZaQ];exact g6) m2 m3
    exact q _ _ F' rel'
   ·cases e
  ·cases e
end
end HS
namespace HS
open PySem PySem.Spec L2 PyProof.Rows
noncomputable def D.QrD:D->Option Int
 | .int i=>some i
 | _=>none
noncomputable def QbP:List D->Option (List Int)
 | []=>some []
 | d::ds=>(d.QrD).bind λi=>(QbP ds).map λr=>i::r
theorem QbL:∀{ds:List D}{ns:List Int},QbP ds=some ns->ds=ns.map .int
 | [],_,h=>by cases h;rfl
 | d::ds,ns,h=>by
  unfold QbP at h
  refine Qe h λi h1 h=>?_
  obtain⟨r,h2,rfl⟩:=Zc.mp h
  cases d with
  | int j=>cases h1;rw[QbL h2];rfl
  | _=>cases h1
theorem Qfx:∀(ns:List Int),QbP (ns.map D.int)=some ns
 | []=>rfl
 | n::ns=>by simp[QbP,Qfx ns,D.QrD]
theorem Rps.ints{K:PySem.W.Frag}{H:Hp}:∀{ns:List Int}{vs:List V}{F:List Addr},Rps K H (ns.map .int) vs F->vs=ns.map .int
 | [],_,_,h=>by simp only[ZbN,Rps]at h;rw[h.1];rfl
 | n::ns,_,_,h=>by
  simp only[Zq,Rps]at h
  obtain⟨v,ws,F1,F2,rfl,rfl,r,q⟩:=h
  rw[r.int_inv,Rps.ints q];rfl
theorem Qa9(h:Qt (ns.map V.int) us):IntsAre us ns:=intsAre_of h
section
variable {X:Cx}{a b e:Expr}{es:List Expr}{fa fb:DE}{fs:DA}{pos p2:Pos}
theorem Rps.rev{K:PySem.W.Frag}{H:Hp}:∀{ds:List D}{vs:List V}{F:List Addr},Rps K H ds vs F->∃G,Rps K H ds.reverse vs.reverse G/\∀a∈G,a∈F
 | [],_,_,h=>by simp only[Rps]at h;rw[h.1,h.2];exact⟨[],by simp[Rps],λ_ h=>h⟩
 | d::ds,_,_,h=>by
  simp only[Rps]at h
  obtain⟨v,ws,F1,F2,rfl,rfl,r,q⟩:=h
  obtain⟨G,h1,h2⟩:=Rps.rev q
  refine⟨G++F1,?_,λa ha=>?_⟩
  ·rw[ZaX,ZaX]
   refine h1.append ?_
   simp only[Rps]
   exact⟨v,[],F1,[],rfl,by simp,r,rfl,rfl⟩
  ·rcases Zr.mp ha with z | z
   ·exact Ze _ (h2 a z)
   ·exact Zh _ z
noncomputable def QmG(K:PySem.W.Frag)(C:List Int->Int->Prop):List V->Hp->VK->Prop:=λxs H Q=>∃(p:Addr) (ns:List Int),xs=[.ref p]/\(SqL K H p (ns.map V.int)∨SqT K H p (ns.map V.int))/\ns≠[]/\∀M,C ns M->Q (.int M) H
def Qh9(ns:List Int)(M:Int):Prop:=M∈ns/\∀a∈ns,M<=a
def isMax(ns:List Int)(M:Int):Prop:=M∈ns/\∀a∈ns,a<=M
theorem QcB(hi:IntsAre us ns):∃xs:Array (Int×Tok),us.toArray=intItems xs/\ns=xs.toList.map (·.1):=by
 obtain⟨xs,e⟩:=hi.allInts.items
 exact⟨xs,e,by rw[← hi.numsOf,← nums_intItems,← e]⟩
theorem QkH(hh:A.handled=none)(hl:s.heap.IsTuple l (intItems xs))(hne:0<xs.size)
  (h:∀v h' tk,(intItems xs)[argBest (λi j=>decide (numAt xs i<numAt xs j)) (xs.size-1)]? =some v->(∀b o,s.heap.get? b=some o->h'.get? b=some o)->Q v {s with heap:=h',toks:=tk}):
  wpAny (model prog w) A (call (.builtin "min") [.ref l]) Q E s:=by
 have hlt:l<s.heap.objs.size:=by obtain⟨_,e,_⟩:=hl;exact Zx e
 refine call_min_walk (wpAny_pyIter_tuple hl ?_)
 refine⟨_,[_,l],[_],_,_,_,_,rfl,Walks.tuple (A:=A.in1) hh _ l (ZN hlt) (intItems xs),⟨⟨_,ZD _ rfl,rfl,rfl⟩,hl.push _⟩,λb hb=>?_,by simpa[intItems]using hne,CmpOf.ints_lt (numAt xs) (λ_ _=>intItems_at),λv h' tk hP hk=>?_⟩
 ·show b<(s.heap.push _).objs.size
  rw[ZaA]
  rcases Zo.mp hb with rfl | hb
  ·exact Zaz _
  ·rcases Zo.mp hb with rfl | hb
   ·exact ZaI hlt
   ·cases hb
 ·refine h v h' tk (by simpa[intItems]using hP) λb o e=>?_
  refine hk b o (λhm=>?_) (Zn _ e)
  rcases Zo.mp hm with e1 | hm
  ·exact absurd (e1▸Zx e) (ZV _)
  ·cases hm
theorem Qo1(hc:X.calm=true):QaX X (.builtin "min") (QmG X.K Qh9):=by
 intro pins s σ H xs us Q I r h
 obtain⟨p,ns,rfl,hq,hne,q⟩:=h
 obtain⟨u,rfl,rx⟩:=vals1 r
 cases rx
 rcases hq with hq | hq
 ·obtain⟨its,r',pl,hz⟩:=I.list hq
  obtain⟨ys,e,hns⟩:=QcB (Qa9 r')
  have hl:=pl.isList
  rw[e]at hl
  have hsz:0<ys.size:=by
   rcases Zbg ys.size with z | z
   ·exact absurd (by rw[hns,Zbb];exact Zag (by simpa using z)) hne
   ·exact z
  refine min_intList (I.ok.hd hc) hl hsz λv h' tk hv hk=>?_
  obtain⟨t,rfl⟩:=intItems_at hv
  obtain⟨h1,h2⟩:=argBest_lt (numAt ys) (ys.size-1)
  refine⟨.int _,H,I.kept hk,⟨t,rfl⟩,q _ ⟨?_,λa ha=>?_⟩⟩
  ·rw[hns,numAt_eq];exact getD_mem (by rw[Zj,ZL];omega)
  ·rw[hns]at ha
   obtain⟨j,hj,rfl⟩:=mem_getD ha
   rw[Zj,ZL]at hj
   rw[← numAt_eq];exact h2 j (by omega)
 ·obtain⟨its,r',pl,hz⟩:=I.tuple hq
  obtain⟨ys,e,hns⟩:=QcB (Qa9 r')
  have hl:=pl
  rw[e]at hl
  have hsz:0<ys.size:=by
   rcases Zbg ys.size with z | z
   ·exact absurd (by rw[hns,Zbb];exact Zag (by simpa using z)) hne
   ·exact z
  refine QkH (I.ok.hd hc) hl hsz λv h' tk hv hk=>?_
  obtain⟨t,rfl⟩:=intItems_at hv
  obtain⟨h1,h2⟩:=argBest_lt (numAt ys) (ys.size-1)
  refine⟨.int _,H,I.kept hk,⟨t,rfl⟩,q _ ⟨?_,λa ha=>?_⟩⟩
  ·rw[hns,numAt_eq];exact getD_mem (by rw[Zj,ZL];omega)
  ·rw[hns]at ha
   obtain⟨j,hj,rfl⟩:=mem_getD ha
   rw[Zj,ZL]at hj
   rw[← numAt_eq];exact h2 j (by omega)
theorem Qj6(hh:A.handled=none)(hl:s.heap.IsTuple l (intItems xs))(hne:0<xs.size)
  (h:∀v h' tk,(intItems xs)[argBest (λi j=>decide (numAt xs i>numAt xs j)) (xs.size-1)]? =some v->(∀b o,s.heap.get? b=some o->h'.get? b=some o)->Q v {s with heap:=h',toks:=tk}):
  wpAny (model prog w) A (call (.builtin "max") [.ref l]) Q E s:=by
 have hlt:l<s.heap.objs.size:=by obtain⟨_,e,_⟩:=hl;exact Zx e
 refine call_max_walk (wpAny_pyIter_tuple hl ?_)
 refine⟨_,[_,l],[_],_,_,_,_,rfl,Walks.tuple (A:=A.in1) hh _ l (ZN hlt) (intItems xs),⟨⟨_,ZD _ rfl,rfl,rfl⟩,hl.push _⟩,λb hb=>?_,by simpa[intItems]using hne,CmpOf.ints_gt (numAt xs) (λ_ _=>intItems_at),λv h' tk hP hk=>?_⟩
 ·show b<(s.heap.push _).objs.size
  rw[ZaA]
  rcases Zo.mp hb with rfl | hb
  ·exact Zaz _
  ·rcases Zo.mp hb with rfl | hb
   ·exact ZaI hlt
   ·cases hb
 ·refine h v h' tk (by simpa[intItems]using hP) λb o e=>?_
  refine hk b o (λhm=>?_) (Zn _ e)
  rcases Zo.mp hm with e1 | hm
  ·exact absurd (e1▸Zx e) (ZV _)
  ·cases hm
theorem Qoq(hc:X.calm=true):QaX X (.builtin "max") (QmG X.K isMax):=by
 intro pins s σ H xs us Q I r h
 obtain⟨p,ns,rfl,hq,hne,q⟩:=h
 obtain⟨u,rfl,rx⟩:=vals1 r
 cases rx
 rcases hq with hq | hq
 ·obtain⟨its,r',pl,hz⟩:=I.list hq
  obtain⟨ys,e,hns⟩:=QcB (Qa9 r')
  have hl:=pl.isList
  rw[e]at hl
  have hsz:0<ys.size:=by
   rcases Zbg ys.size with z | z
   ·exact absurd (by rw[hns,Zbb];exact Zag (by simpa using z)) hne
   ·exact z
  refine max_intList (I.ok.hd hc) hl hsz λv h' tk hv hk=>?_
  obtain⟨t,rfl⟩:=intItems_at hv
  obtain⟨h1,h2⟩:=argBest_gt (numAt ys) (ys.size-1)
  refine⟨.int _,H,I.kept hk,⟨t,rfl⟩,q _ ⟨?_,λa ha=>?_⟩⟩
  ·rw[hns,numAt_eq];exact getD_mem (by rw[Zj,ZL];omega)
  ·rw[hns]at ha
   obtain⟨j,hj,rfl⟩:=mem_getD ha
   rw[Zj,ZL]at hj
   rw[← numAt_eq];exact h2 j (by omega)
 ·obtain⟨its,r',pl,hz⟩:=I.tuple hq
  obtain⟨ys,e,hns⟩:=QcB (Qa9 r')
  have hl:=pl
  rw[e]at hl
  have hsz:0<ys.size:=by
   rcases Zbg ys.size with z | z
   ·exact absurd (by rw[hns,Zbb];exact Zag (by simpa using z)) hne
   ·exact z
  refine Qj6 (I.ok.hd hc) hl hsz λv h' tk hv hk=>?_
  obtain⟨t,rfl⟩:=intItems_at hv
  obtain⟨h1,h2⟩:=argBest_gt (numAt ys) (ys.size-1)
  refine⟨.int _,H,I.kept hk,⟨t,rfl⟩,q _ ⟨?_,λa ha=>?_⟩⟩
  ·rw[hns,numAt_eq];exact getD_mem (by rw[Zj,ZL];omega)
  ·rw[hns]at ha
   obtain⟨j,hj,rfl⟩:=mem_getD ha
   rw[Zj,ZL]at hj
   rw[← numAt_eq];exact h2 j (by omega)
theorem Qkl(hh:A.handled=none)(hl:s.heap.IsTuple l (intItems xs))
  (h:∀h' tk t',(∀b o,s.heap.get? b=some o->h'.get? b=some o)->Q (.int (preSum (numAt xs) xs.size) t') {s with heap:=h',toks:=tk}):
  wpAny (model prog w) A (call (.builtin "sum") [.ref l]) Q E s:=by
 have hlt:l<s.heap.objs.size:=by obtain⟨_,e,_⟩:=hl;exact Zx e
 refine call_sum_walkG (wpAny_pyIter_tuple hl ?_)
 refine⟨_,[_,l],[_],_,_,_,numAt xs,rfl,Walks.tuple (A:=A.in1) hh _ l (ZN hlt) (intItems xs),⟨⟨_,ZD _ rfl,rfl,rfl⟩,hl.push _⟩,λb hb=>?_,(λ_ _=>intItems_at),λh' tk t' hk=>?_⟩
 ·show b<(s.heap.push _).objs.size
  rw[ZaA]
  rcases Zo.mp hb with rfl | hb
  ·exact Zaz _
  ·rcases Zo.mp hb with rfl | hb
   ·exact ZaI hlt
   ·cases hb
 ·have:=h h' tk t' λb o e=>by
   refine hk b o (λhm=>?_) (Zn _ e)
   rcases Zo.mp hm with e1 | hm
   ·exact absurd (e1▸Zx e) (ZV _)
   ·cases hm
  simpa[intItems]using this
noncomputable def Quo(K:PySem.W.Frag):List V->Hp->VK->Prop:=λxs H Q=>∃(p:Addr) (ns:List Int),xs=[.ref p]/\(SqL K H p (ns.map V.int)∨SqT K H p (ns.map V.int))/\Q (.int ns.sum) H
theorem Qoi(hc:X.calm=true):QaX X (.builtin "sum") (Quo X.K):=by
 intro pins s σ H xs us Q I r h
 obtain⟨p,ns,rfl,hq,q⟩:=h
 obtain⟨u,rfl,rx⟩:=vals1 r
 cases rx
 rcases hq with hq | hq
 ·obtain⟨its,r',pl,hz⟩:=I.list hq
  obtain⟨ys,e,hns⟩:=QcB (Qa9 r')
  have hl:=pl.isList
  rw[e]at hl
  refine sum_intListG (I.ok.hd hc) hl λh' tk t' hk=>?_
  refine⟨.int ns.sum,H,I.kept hk,⟨t',?_⟩,q⟩
  rw[preSum_eq,Zai (by simp),hns]
 ·obtain⟨its,r',pl,hz⟩:=I.tuple hq
  obtain⟨ys,e,hns⟩:=QcB (Qa9 r')
  have hl:=pl
  rw[e]at hl
  refine Qkl (I.ok.hd hc) hl λh' tk t' hk=>?_
  refine⟨.int ns.sum,H,I.kept hk,⟨t',?_⟩,q⟩
  rw[preSum_eq,Zai (by simp),hns]
noncomputable def Qhh:List Int->Option Int
 | []=>none
 | [n]=>some n
 | n::r=>(Qhh r).map λm=>if m<n then m else n
noncomputable def Qg1:List Int->Option Int
 | []=>none
 | [n]=>some n
 | n::r=>(Qg1 r).map λm=>if n<m then m else n
theorem Qgv:∀{ns:List Int}{m:Int},Qhh ns=some m->Qh9 ns m
 | [],_,h=>by cases h
 | [n],_,h=>by cases h;exact⟨by simp,λa ha=>by simp at ha;omega⟩
 | n::k::r,m,h=>by
  simp only[Qhh]at h
  obtain⟨m',h1,rfl⟩:=Zc.mp h
  obtain⟨h2,h3⟩:=Qgv h1
  constructor
  ·split
   ·exact Zb _ h2
   ·exact Zf
  ·intro a ha
   rcases Zo.mp ha with rfl | ha
   ·split<;>omega
   ·have:=h3 a ha;split<;>omega
theorem Qgz:∀{ns:List Int}{m:Int},Qg1 ns=some m->isMax ns m
 | [],_,h=>by cases h
 | [n],_,h=>by cases h;exact⟨by simp,λa ha=>by simp at ha;omega⟩
 | n::k::r,m,h=>by
  simp only[Qg1]at h
  obtain⟨m',h1,rfl⟩:=Zc.mp h
  obtain⟨h2,h3⟩:=Qgz h1
  constructor
  ·split
   ·exact Zb _ h2
   ·exact Zf
  ·intro a ha
   rcases Zo.mp ha with rfl | ha
   ·split<;>omega
   ·have:=h3 a ha;split<;>omega
theorem QjA{ns:List Int}{a b:Int}(h:Qh9 ns a)(g:Qh9 ns b):a=b:=by have:=h.2 b g.1;have:=g.2 a h.1;omega
theorem Qje{ns:List Int}{a b:Int}(h:isMax ns a)(g:isMax ns b):a=b:=by have:=h.2 b g.1;have:=g.2 a h.1;omega
noncomputable def Qgp:List D->Option D
 | [.lst xs]=>(QbP xs).bind λns=>(Qhh ns).map .int
 | [.tup xs]=>(QbP xs).bind λns=>(Qhh ns).map .int
 | _=>none
noncomputable def Qgh:List D->Option D
 | [.lst xs]=>(QbP xs).bind λns=>(Qg1 ns).map .int
 | [.tup xs]=>(QbP xs).bind λns=>(Qg1 ns).map .int
 | _=>none
noncomputable def Qgs:List D->Option D
 | [.lst xs]=>(QbP xs).map λns=> .int ns.sum
 | [.tup xs]=>(QbP xs).map λns=> .int ns.sum
 | _=>none
theorem QrQ{K:PySem.W.Frag}:Qdf K Qgp (QmG K Qh9):=λds d e=>by
 unfold Qgp at e
 split at e
 ·refine Qe e λns h1 e=>?_
  obtain⟨m,h2,rfl⟩:=Zc.mp e
  refine⟨rfl,λH vs F Q r q=>?_⟩
  obtain⟨v,rfl,rp⟩:=r.one
  obtain⟨l,ws,L,rfl,hl,rl,zl,el⟩:=rp.lst_inv
  rw[QbL h1]at rl
  rw[rl.ints]at hl
  exact⟨l,ns,rfl,.inl (QT hl),λz=>(by rw[z]at h2;cases h2),λM hM=>by rw[QjA hM (Qgv h2)];exact q _ λ_=> .int_mk⟩
 ·refine Qe e λns h1 e=>?_
  obtain⟨m,h2,rfl⟩:=Zc.mp e
  refine⟨rfl,λH vs F Q r q=>?_⟩
  obtain⟨v,rfl,rp⟩:=r.one
  obtain⟨l,ws,rfl,hl,rl⟩:=rp.QaC
  rw[QbL h1]at rl
  rw[rl.ints]at hl
  exact⟨l,ns,rfl,.inr hl,λz=>(by rw[z]at h2;cases h2),λM hM=>by rw[QjA hM (Qgv h2)];exact q _ λ_=> .int_mk⟩
 ·cases e
theorem Qr8{K:PySem.W.Frag}:Qdf K Qgh (QmG K isMax):=λds d e=>by
 unfold Qgh at e
 split at e
 ·refine Qe e λns h1 e=>?_
  obtain⟨m,h2,rfl⟩:=Zc.mp e
  refine⟨rfl,λH vs F Q r q=>?_⟩
  obtain⟨v,rfl,rp⟩:=r.one
  obtain⟨l,ws,L,rfl,hl,rl,zl,el⟩:=rp.lst_inv
  rw[QbL h1]at rl
  rw[rl.ints]at hl
  exact⟨l,ns,rfl,.inl (QT hl),λz=>(by rw[z]at h2;cases h2),λM hM=>by rw[Qje hM (Qgz h2)];exact q _ λ_=> .int_mk⟩
 ·refine Qe e λns h1 e=>?_
  obtain⟨m,h2,rfl⟩:=Zc.mp e
  refine⟨rfl,λH vs F Q r q=>?_⟩
  obtain⟨v,rfl,rp⟩:=r.one
  obtain⟨l,ws,rfl,hl,rl⟩:=rp.QaC
  rw[QbL h1]at rl
  rw[rl.ints]at hl
  exact⟨l,ns,rfl,.inr hl,λz=>(by rw[z]at h2;cases h2),λM hM=>by rw[Qje hM (Qgz h2)];exact q _ λ_=> .int_mk⟩
 ·cases e
theorem QsV{K:PySem.W.Frag}:Qdf K Qgs (Quo K):=λds d e=>by
 unfold Qgs at e
 split at e
 ·obtain⟨ns,h1,rfl⟩:=Zc.mp e
  refine⟨rfl,λH vs F Q r q=>?_⟩
  obtain⟨v,rfl,rp⟩:=r.one
  obtain⟨l,ws,L,rfl,hl,rl,zl,el⟩:=rp.lst_inv
  rw[QbL h1]at rl
  rw[rl.ints]at hl
  exact⟨l,ns,rfl,.inl (QT hl),q _ λ_=> .int_mk⟩
 ·obtain⟨ns,h1,rfl⟩:=Zc.mp e
  refine⟨rfl,λH vs F Q r q=>?_⟩
  obtain⟨v,rfl,rp⟩:=r.one
  obtain⟨l,ws,rfl,hl,rl⟩:=rp.QaC
  rw[QbL h1]at rl
  rw[rl.ints]at hl
  exact⟨l,ns,rfl,.inr hl,q _ λ_=> .int_mk⟩
 ·cases e
noncomputable def Qq7:List D->Option D
 | [.int i]=>if i.natAbs.log2<1920 then some (.str (toString i))else none
 | _=>none
theorem Quf{K:PySem.W.Frag}:Qdf K Qq7 (λxs H Q=>∃i,xs=[.int i]/\i.natAbs.log2<1920/\Q (.str (toString i)) H):=λds d e=>by
 unfold Qq7 at e
 split at e
 ·split at e
  ·rename_i hz
   cases e
   refine⟨rfl,λH vs F Q r q=>?_⟩
   obtain⟨v,rfl,rp⟩:=r.one
   exact⟨_,by rw[rp.int_inv],hz,q _ λ_=> .str_mk⟩
  ·cases e
 ·cases e
theorem QvX(hc:QaX X (.type T) r)(hk:Qdf X.K g r)(hg:Gl X x)(hm:X.mg x=none)(hv:bootBuiltins x=some (.type T))(ha:SA X (e::es) fs)(hn:x≠ "__name__")(hdb:(x == ("__debug__" :Str))=false)
  (he:starEach (e::es) X.env=(false,eval e X.env)::starEach es X.env) (hpl:(backTo pos (starEach es X.env)).any (·.1)=false):SE X (.Call (.Name x p) (e::es) [] pos) (dBf g fs):=λH0 A0=>
 (Qjo hc hg hm hv (ha H0 A0) hn hdb he hpl).mono λσ H Q=>exK λρ hs F r' rel e q=>by
  refine Qe e λra e1 e=>?_
  obtain⟨d,ed,e⟩:=Zc.mp e
  subst e
  exact⟨ρ,hs,F,ra,rel,e1,λvs H1 G p1=>(hk _ _ ed).2 H1 vs G Q p1.rp λv hv=>q v H1 [] (.flat p1.same (hv _) (hk _ _ ed).1)⟩
theorem QlC:QaX X (.builtin "divmod") (λxs H Q=>∃i j,xs=[.int i,.int j]/\Qcp j=true/\∀p,H p=none->Q (.ref p) (upd H p (.tup [.int (Qdy i j),.int (Qd3 i j)]))):=by
 intro pins s σ H xs us Q I r h
 obtain⟨i,j,rfl,hc,q⟩:=h
 obtain⟨u,w',rfl,⟨t,rfl⟩,⟨t',rfl⟩⟩:=vals2 r
 unfold Qcp at hc
 simp only[Zg,decide_eq_true_eq]at hc
 have h0:j.natAbs≠0:=by omega
 refine PyProof.Rows.divmod_int hc.1 ?_ (.inl (Zbc (Nat.lt_trans ((ZbX h0).mpr hc.2) (by decide))))
 rw[← Qma,← Qmi]
 have hn:H s.heap.objs.size=none:=I.hok.fresh (Zm _)
 refine⟨.ref s.heap.objs.size,_,?_,rfl,q _ hn⟩
 refine I.laid (λb o e=>Zn _ e) (Zm _) ⟨by simp only[Zk,List.length_nil];rw[sizeLine_eq];decide,[.int (Qdy i j) s.toks,.int (Qd3 i j) (s.toks+1)],.cons ⟨_,rfl⟩ (.cons ⟨_,rfl⟩ .nil),?_⟩
 exact⟨_,ZD s.heap rfl,rfl,0,rfl⟩
noncomputable def dDm(fs:DA):DE:=λρ=>(fs ρ).bind λr=>match r.ds with
 | [.int i,.int j]=>if Qcp j=true then some ⟨.tup [.int (Qdy i j),.int (Qd3 i j)],true,[]⟩else none
 | _=>none
theorem QwI{x:Str}{p:Pos}(hg:Gl X "divmod")(hm:X.mg "divmod" =none)(ha:SA X (e::es) fs)(he:starEach (e::es) X.env=(false,eval e X.env)::starEach es X.env)(hpl:(backTo pos (starEach es X.env)).any (·.1)=false):
  SE X (.Call (.Name "divmod" p) (e::es) [] pos) (dDm fs):=λH0 A0=>
 (Qhk QlC hg hm PyProof.Rows.boot_divmod (ha H0 A0) (by decide) (by decide) he hpl).mono λσ H Q=>exK λρ hs F r' rel e q=>by
  refine Qe e λra e1 e=>?_
  refine⟨ρ,hs,F,ra,rel,e1,λvs H1 G p1=>?_⟩
  split at e
  ·rename_i i j hds
   split at e
   ·rename_i hc
    cases e
    have rp:=p1.rp
    rw[hds]at rp
    obtain⟨v,w,F1,F2,rfl,r1,r2⟩:=rp.two
    refine⟨i,j,by rw[r1.int_inv,r2.int_inv],hc,λp hp=>q _ _ [] (.flat (p1.same.trans (QaN hp)) (Rp.QhV Qag ?_) rfl)⟩
    simp only[Rps]
    exact⟨_,_,[],[],rfl,rfl,.int_mk,_,_,[],[],rfl,rfl,.int_mk,rfl,rfl⟩
   ·cases e
  ·cases e
end
end HS
namespace HS
open PySem PySem.Spec L2 PyProof.Rows
theorem QgM:∀{vs:List V}{us:List Value},us.length=vs.length->(∀(k:Nat) (v:V),vs[k]? =some v->∃u,us[k]? =some u/\RelV v u)->Qt vs us
 | [],[],_,_=> .nil
 | [],_::_,h,_=>by simp at h
 | _::_,[],h,_=>by simp at h
 | v::vs,u::us,h,g=>by
  obtain⟨u',e,r⟩:=g 0 v rfl
  cases e
  exact .cons r (QgM (by simpa using h) λk v hk=>g (k+1) v hk)
section
variable {X:Cx}{a b c e tg:Expr}{es:List Expr}{fa fb fc:DE}{fs:DA}{pos p2:Pos}
theorem Qoj(I:Inv X pins σ H s)(hc:X.calm=true)(h0:0<=j)(h1:j<=1000000)
  (q:∀l,H l=none->Q (.ref l) (upd H l (.lst ((List.range j.toNat).map λ(k:Nat)=>V.int (k:Int))))):
  wpAny (model X.prog X.w) X.A (call (.type "list") [.ref s.heap.objs.size]) (EP X pins σ Q) E {s with heap:=s.heap.push {cls:= .type "range",data:= .fields #[.int 0 t,.int j u,.int 1 v]},toks:=tk}:=by
 have I2:Inv X pins σ H {s with heap:=s.heap.push {cls:= .type "range",data:= .fields #[.int 0 t,.int j u,.int 1 v]},toks:=tk}:=I.kept λb o e=>Zn _ e
 refine call_list_range (n:=j.toNat) (I.ok.hd hc) (IsRange.new ..) (small_one (by omega) (by omega) (by omega) (by omega)) (by rw[rangeSize_one];split<;>omega) (by omega) λh' tk' acc' c' hk hS hacc=>?_
 have hv:Qt ((List.range j.toNat).map λ(k:Nat)=>V.int (k:Int)) acc'.toList:=by
  have hl:=hacc.1
  refine QgM (by simp[hl]) λk v hk=>?_
  rw[Zv]at hk
  have hkl:k<j.toNat:=by
   by_cases z:k<j.toNat
   ·exact z
   ·rw[Zy (by simp;omega)]at hk;cases hk
  rw[Zan hkl]at hk
  cases hk
  obtain⟨w,hw⟩:∃w,acc'[k]? =some w:=⟨acc'[k]'(by omega),by rw[Array.getElem?_eq_getElem (by omega)]⟩
  obtain⟨t',rfl⟩:=hacc.2 k w hw
  exact⟨_,by rw[ZaW];exact hw,⟨t',by simp⟩⟩
 refine⟨.ref _,_,I2.laid hk (Zm _) (show Qbu X.prog X.w _ h' _ (.lst _)from⟨by simp[QdR];omega,acc'.toList,c',hv,by simpa using hS⟩),rfl,q _ (I2.hok.fresh (Zm _))⟩
theorem Qoc(hg:Gl X "list")(hm:X.mg "list" =none)(hg':Gl X "range")(hm':X.mg "range" =none)(hc:X.calm=true)(ha:PA X [a] ta)(hs:starEach [a] X.env=[(false,eval a X.env)]):
  PE X (.Call (.Name "list" p) [.Call (.Name "range" p') [a] [] pos'] [] pos) (λσ H Q=>ta σ H λvs H1=>∃j:Int,vs=[.int j]/\0<=j/\j<=1000000/\∀l,H1 l=none->Q (.ref l) (upd H1 l (.lst ((List.range j.toNat).map λ(k:Nat)=>V.int (k:Int))))):=by
 intro pins s σ H Q I h
 refine wpAny_Call_Name_kw (Qc3 I hg hm boot_list ?_ (by decide) (by decide))
 refine Zaa (Calls.spliced_cons ?_) rfl rfl
 refine Call_ (Qc3 I hg' hm' boot_range (Zaa (thn (ha pos' pins s σ H _ I h) λus s1 ⟨vs,H1,I1,r1,q1⟩=>?_) hs rfl))
 obtain⟨j,e,q1,q2,q⟩:=q1
 subst e
 cases r1 with
 | cons r rr=>
  cases rr
  obtain⟨t,rfl⟩:=r
  exact call_range_1 (Calls.spliced_nil (Qoj I1 hc q1 q2 q))
noncomputable def QjV(fa:DE):DE:=λρ=>(fa ρ).bind λr=>match r.d with
 | .int j=>if 0<=j/\j<=1000000 then some ⟨.lst ((List.range j.toNat).map λ(k:Nat)=> .int (k:Int)),true,[]⟩else none
 | _=>none
theorem Rps.ofInts{K:PySem.W.Frag}{H:Hp}:∀ns:List Int,Rps K H (ns.map .int) (ns.map .int) []
 | []=>by simp[Rps]
 | n::ns=>by simp only[Zq,Rps];exact⟨_,_,[],[],rfl,rfl,.int_mk,Rps.ofInts ns⟩
theorem Qn5:∀ns:List Int,QB (ns.map .int)=true
 | []=>rfl
 | n::ns=>by simp[QB,D.flat,Qn5 ns]
theorem Qs2{p p' pos':Pos}(hg:Gl X "list")(hm:X.mg "list" =none)(hg':Gl X "range")(hm':X.mg "range" =none)(hc:X.calm=true)(ha:SE X a fa)(hs:starEach [a] X.env=[(false,eval a X.env)]):
  SE X (.Call (.Name "list" p) [.Call (.Name "range" p') [a] [] pos'] [] pos) (QjV fa):=λH0 A0=>
 (Qoc hg hm hg' hm' hc (Qan (ha H0 A0) QbW hs) hs).mono λσ H Q=>exK λρ hs F r' rel e q=>by
  refine Qe e λra e1 e=>?_
  refine⟨ρ,hs,F,ra,rel,e1,λv H1 G p1=>?_⟩
  cases hd:ra.d with
  | int j=>
   rw[hd]at e
   dsimp only at e
   split at e
   ·rename_i hj
    cases e
    have rp:=p1.rp
    rw[hd]at rp
    refine⟨j,by rw[rp.int_inv],hj.1,hj.2,λl hl=>?_⟩
    have e2:((List.range j.toNat).map λ(k:Nat)=>D.int (k:Int))=((List.range j.toNat).map λ(k:Nat)=>(k:Int)).map D.int:=by rw[Zaq];rfl
    have e3:((List.range j.toNat).map λ(k:Nat)=>V.int (k:Int))=((List.range j.toNat).map λ(k:Nat)=>(k:Int)).map V.int:=by rw[Zaq];rfl
    have:=QO.Qax (ρ:=ρ) (F:=F) p1.same hl (Rps.ofInts (K:=X.K) ((List.range j.toNat).map λ(k:Nat)=>(k:Int))) (by simp[QdR];omega) Src.nil QaE.nil
    rw[← e2,← e3]at this
    unfold Qax at this
    rw[if_pos (by rw[e2];exact Qn5 _)]at this
    exact q _ _ _ this
   ·cases e
  | _=>rw[hd]at e;cases e
noncomputable def Itd(hi:Int)(n:Nat):It:=⟨λi _=>i<n,λi H x H'=>H'=H/\x= .int (hi-i),λi _=>n<=i⟩
theorem QlS{P:Program}{w:World}{K:PySem.W.Frag}{tg:Expr}(it:Addr)(lo:Int)(n:Nat):Turn P w K tg (Itd lo n) [it] it (λi h=>IsRangeIter h it (lo+(i:Nat)*(-1)) ((n:Int)-(i:Nat)) (-1)) where
 mem:=by simp
 obj:=λi h st b hb=>by
  have e:b=it:=by simpa using hb
  subst e
  exact⟨_,st,λv z=>by
   have z':Data.fields _=Data.cell v:=z
   cases z'⟩
 keep:=λi h h' st k=>k it (by simp) _ st
 item:=by
  intro X hP hw hK hc i pins s σ H E I hf st hg
  subst hP hw hK
  obtain⟨f0,f1,f2,f3,f4,f5⟩:=hf it (by simp)
  have W:=Walks.range (prog:=X.prog) (w:=X.w) (I.ok.hd hc) it lo (-1) n
  refine W.item i s _ _ hg st λv h' tk hv st' kk=>?_
  obtain⟨t,rfl⟩:=hv
  have I1:Inv X pins σ H {s with heap:=h',toks:=tk}:=I.turned (λb o hb e=>kk b o (by simpa using hb) e) f0 f1 f3 f4 f5
  refine⟨_,rfl,QhR st' rfl rfl (by decide) ⟨.int (lo-i),H,I1,⟨t,?_⟩,⟨rfl,rfl⟩,st',λb hb=>(hf b hb).1⟩⟩
  rw[show lo+(i:Int)* -1=lo-i by omega]
 done:=by
  intro X hP hw hK hc i pins s σ H E I hf st hg
  subst hP hw hK
  obtain⟨f0,f1,f2,f3,f4,f5⟩:=hf it (by simp)
  exact wpAny_pyNext_range_end (I.ok.hd hc) st (by have:n<=i:=hg;omega) λh' eb=>⟨rfl,I.turned (t':=s.toks) (λb o hb e=>eb b o hb e) f0 f1 f3 f4 f5⟩
 self:=λ_ _ _ _ _ st h=>wpAny_pyIter_rangeiter st h
theorem Qjs(lo hi:Int):Builtin.Range.rangeSize lo hi (-1)=if lo>hi then lo-hi else 0:=by
 unfold Builtin.Range.rangeSize
 rw[if_neg (by decide)]
 split
 ·rw[show(- -1:Int)=1 by decide,Int.ediv_one];omega
 ·rfl
theorem small_down{lo hi:Int}(h1: -(2^62)<=lo)(h2:lo<2^62)(h3: -(2^62)<=hi)(h4:hi<2^62):Builtin.Range.small lo hi (-1)=true:=by
 unfold Builtin.Range.small
 rw[Qjs]
 simp only[Builtin.Range.rangeFitsLong,Zg,ZbU,decide_eq_true_eq,beq_iff_eq,show ¬((-1:Int)>0) by decide,if_false]
 split<;>omega
theorem Qob{pins:List (Addr×Obj)}{σ:L2.St}{H:Hp}{s:Shared}{R:It->Hp->Prop}{E:Value->Shared->Prop}{lo hi:Int}{t u v:Tok}{tk:Nat}(I:Inv X pins σ H s)(h1: -(2^62)<=lo)(h2:lo<2^62)(h3: -(2^62)<=hi)(h4:hi<2^62)
  (q:R (Itd lo (lo-hi).toNat) H):wpAny (model X.prog X.w) X.A (pyIter (.ref s.heap.objs.size)) (PIE X pins σ tg R) E {s with heap:=s.heap.push {cls:= .type "range",data:= .fields #[.int lo t,.int hi u,.int (-1) v]},toks:=tk}:=by
 refine wpAny_pyIter_range (IsRange.new ..) (small_down h1 h2 h3 h4) ?_
 have I1:Inv X pins σ H {s with heap:=s.heap.push {cls:= .type "range",data:= .fields #[.int lo t,.int hi u,.int (-1) v]},toks:=tk}:=I.kept λb o e=>Zn _ e
 refine⟨(s.heap.push {cls:= .type "range",data:= .fields #[.int lo t,.int hi u,.int (-1) v]}).objs.size,[(s.heap.push {cls:= .type "range",data:= .fields #[.int lo t,.int hi u,.int (-1) v]}).objs.size],_,_,H,rfl,
  I1.kept (t':=tk) λb o e=>Zn _ e,QlS _ lo (lo-hi).toNat,?_,λb hb=>?_,q⟩
 ·have e1:lo+((0:Nat):Int)*(-1)=lo:=by simp
  have e2:(((lo-hi).toNat:Nat):Int)-((0:Nat):Int)=Builtin.Range.rangeSize lo hi (-1):=by rw[Qjs];split<;>omega
  show IsRangeIter _ _ (lo+((0:Nat):Int)*(-1)) ((((lo-hi).toNat:Nat):Int)-((0:Nat):Int)) (-1)
  rw[e1,e2]
  exact ZD _ rfl
 ·have e:b=(s.heap.push {cls:= .type "range",data:= .fields #[.int lo t,.int hi u,.int (-1) v]}).objs.size:=by simpa using hb
  subst e
  exact I1.Qg6 (Zm _) (I1.hok.fresh (Zm _))
noncomputable def QwD(ta:TA):TI:=λσ H R=>ta σ H λvs H1=>∃i j:Int,vs=[.int i,.int j,.int (-1)]/\(-(2^62)<=i/\i<2^62/\ -(2^62)<=j/\j<2^62)/\R (Itd i (i-j).toNat) H1
theorem Qo8(hg:Gl X "range")(hm:X.mg "range" =none)(ha:PA X [a,b,c] ta)(hs:starEach [a,b,c] X.env=(false,eval a X.env)::starEach [b,c] X.env)(hs2:(backTo pos (starEach [b,c] X.env)).any (·.1)=false):
  PI X tg (.Call (.Name "range" p) [a,b,c] [] pos) (QwD ta):=by
 intro pins s σ H R I h
 refine Call_ (Qc3 I hg hm boot_range (Zaa (thn (ha pos pins s σ H _ I h) λus s1 ⟨vs,H1,I1,r1,q1⟩=>?_) hs hs2))
 obtain⟨i,j,e,⟨q1,q2,q3,q4⟩,q⟩:=q1
 subst e
 cases r1 with
 | cons r rr=>
  cases rr with
  | cons r' rr=>
   cases rr with
   | cons r'' rr=>
    cases rr
    obtain⟨t,rfl⟩:=r
    obtain⟨t',rfl⟩:=r'
    obtain⟨t'',rfl⟩:=r''
    exact call_range_3 (by decide) (Qob I1 q1 q2 q3 q4 q) (.inl (Zbc (by decide+kernel)))
noncomputable def QiS(hi:Int)(n:Nat):List D:=(List.range n).map λ(k:Nat)=> .int (hi-(k:Int))
theorem Qp5{lo:Int}{n i:Nat}{d:D}(h:(QiS lo n)[i]? =some d):i<n/\d= .int (lo-i):=by
 unfold QiS at h
 rw[Zv]at h
 by_cases hi:i<n
 ·rw[Zan hi]at h;cases h;exact⟨hi,rfl⟩
 ·rw[Zy (by simp;omega)]at h;cases h
noncomputable def QeR(fa fb fc:DE):DI:=λρ=>(fa ρ).bind λr=>(fb ρ).bind λr'=>(fc ρ).bind λr''=>match r.d,r'.d,r''.d with
 | .int i,.int j,.int (-1)=>if i-j<=16777216/\ -(2^62)<=i/\i<2^62/\ -(2^62)<=j/\j<2^62 then some ⟨QiS i (i-j).toNat,[]⟩else none
 | _,_,_=>none
theorem Qhl{lo:Int}{n:Nat}:(QiS lo n).length=n:=by simp[QiS]
theorem QlX{K:PySem.W.Frag}{lo:Int}{n:Nat}:Walk K (Itd lo n) [] (QiS lo n) where
 stop:=λH _=>by rw[Qhl];exact Zm _
 go:=λi H hi _=>by rw[Qhl]at hi;exact hi
 yld:=λi d H x H' e _ y=>by
  obtain⟨h1,rfl⟩:=Qp5 e
  obtain⟨rfl,rfl⟩:=y
  exact⟨Qw.refl _,[],.int_mk,λz hz=>by simp at hz⟩
theorem QoM(hg:Gl X "range")(hm:X.mg "range" =none)(ha:SE X a fa)(hb:SE X b fb)(hc:SE X c fc)(h1:starEach [a,b,c] X.env=(false,eval a X.env)::starEach [b,c] X.env)(h2:starEach [b,c] X.env=(false,eval b X.env)::starEach [c] X.env)(h3:starEach [c] X.env=(false,eval c X.env)::starEach [] X.env):
  SI X tg (.Call (.Name "range" p) [a,b,c] [] pos) (QeR fa fb fc):=λH0 A0=>
 (Qo8 hg hm (Qan (ha H0 A0) (Qan (hb H0 A0) (Qan (hc H0 A0) QbW h3) h2) h1) h1 (by rw[h2,h3];rfl)).mono λσ H Rr=>exK λρ hs F ir rel e q=>by
  refine Qe e λr e1 e=>?_
  refine Qe e λr' e2 e=>?_
  refine Qe e λr'' e3 e=>?_
  refine⟨ρ,hs,F,r,rel,e1,λv H1 G pp=>⟨ρ,hs,F,r',rel.ext pp.same,e2,λv' H2 G' pp'=>⟨ρ,hs,F,r'',(rel.ext pp.same).ext pp'.same,e3,λv'' H3 G'' pp''=>?_⟩⟩⟩
  split at e
  ·rename_i i j hr hr' hr''
   split at e
   ·rename_i hz
    cases e
    have rp:=(pp.rp.same pp'.same).same pp''.same
    have rp':=pp'.rp.same pp''.same
    have rp'':=pp''.rp
    rw[hr]at rp
    rw[hr']at rp'
    rw[hr'']at rp''
    rw[rp.int_inv,rp'.int_inv,rp''.int_inv]
    refine⟨i,j,rfl,hz.2,q _ H3 [] ((pp.same.trans pp'.same).trans pp''.same) QlX (λt ht=>by simp at ht) QaE.nil ?_⟩
    rw[Qhl,QdR];omega
   ·cases e
  ·cases e
theorem QrX:MtR X "int.bit_length" (λx vs H Q=>∃i,x= .int i/\vs=[]/\Q (.int (Builtin.Int.intBits i)) H):=by
 intro pins s σ H x vs v us Q I rx rv h
 obtain⟨i,rfl,rfl,q⟩:=h
 obtain⟨t,rfl⟩:=rx
 have hus:=rv.zero
 subst hus
 exact call_int_bit_length ⟨.int _,H,I.tok _,⟨_,rfl⟩,q⟩
noncomputable def QjR(fa:DE):DE:=λρ=>(fa ρ).bind λr=>match r.d with
 | .int i=>some ⟨.int (Builtin.Int.intBits i),true,[]⟩
 | _=>none
theorem Qtk(ha:SE X a fa)(hb:attributeBase a "bit_length" X.env (eval a X.env)=eval a X.env)(hl:(apos.endLine == cpos.line)=true):SE X (.Call (.Attribute a "bit_length" apos) [] [] cpos) (QjR fa):=λH0 A0=>
 (QvA PySem.F.plainAttrs_int PySem.F.slot_int_bit_length PySem.F.type_int_bit_length QrX (ha H0 A0) hb hl).mono λσ H Q=>exK λρ hs F r' rel e q=>by
  refine Qe e λra e1 e=>?_
  refine⟨ρ,hs,F,ra,rel,e1,λv H1 G p1=>?_⟩
  cases hd:ra.d with
  | int i=>
   rw[hd]at e
   cases e
   have rp:=p1.rp
   rw[hd]at rp
   rw[rp.int_inv]
   exact⟨rfl,i,rfl,rfl,q _ _ [] (.flat p1.same .int_mk)⟩
  | _=>rw[hd]at e;cases e
end
end HS
namespace HS
open PySem PySem.Spec L2 PyProof.Rows
noncomputable def QjU:List D->Option (List Str)
 | []=>some []
 | d::ds=>match d with
  | .str x=>(QjU ds).map λr=>x::r
  | _=>none
theorem Qjw:∀{ds:List D}{ts:List Str},QjU ds=some ts->ds=ts.map .str
 | [],_,h=>by cases h;rfl
 | d::ds,ts,h=>by
  unfold QjU at h
  split at h
  ·obtain⟨r,h2,rfl⟩:=Zc.mp h
   rw[Qjw h2];rfl
  ·cases h
theorem Rps.strs{K:PySem.W.Frag}{H:Hp}:∀{ts:List Str}{vs:List V}{F:List Addr},Rps K H (ts.map .str) vs F->vs=ts.map .str
 | [],_,_,h=>by simp only[ZbN,Rps]at h;rw[h.1];rfl
 | n::ns,_,_,h=>by
  simp only[Zq,Rps]at h
  obtain⟨v,ws,F1,F2,rfl,rfl,r,q⟩:=h
  rw[r.str_inv,Rps.strs q];rfl
theorem Rps.ofStrs{K:PySem.W.Frag}{H:Hp}:∀ts:List Str,Rps K H (ts.map .str) (ts.map .str) []
 | []=>by simp[Rps]
 | n::ns=>by simp only[Zq,Rps];exact⟨_,_,[],[],rfl,rfl,.str_mk,Rps.ofStrs ns⟩
theorem Qpq:∀ts:List Str,QB (ts.map .str)=true
 | []=>rfl
 | n::ns=>by simp[QB,D.flat,Qpq ns]
noncomputable def gSw(a b:D):Option D:=match a with
 | .str z=>match b with
  | .str y=>some (.bl (Txt.startswith z y))
  | _=>none
 | _=>none
noncomputable def Qnq(a b:D):Option D:=match a with
 | .str z=>match b with
  | .lst xs=>(QjU xs).bind λts=>if JoinOk z ts=true then some (.str (Txt.join z ts))else none
  | _=>none
 | _=>none
noncomputable def Qqr(a b:D):Option D:=match a with
 | .str z=>match b with
  | .str y=>if((y.length == 0)=false/\z.length<=16000000)/\(Txt.split z y).length<=16000000 then some (.lst ((Txt.split z y).map .str))else none
  | _=>none
 | _=>none
noncomputable def dM1(g:D->D->Option D)(fa:DE)(fs:DA):DE:=λρ=>(fa ρ).bind λra=>(fs ρ).bind λr=>match r.ds with
 | [b]=>(g ra.d b).map λd=>⟨d,true,[]⟩
 | _=>none
section
variable {X:Cx}{o b:Expr}{fa:DE}{fs:DA}{apos cpos:Pos}
theorem Qs0{K:PySem.W.Frag}{H:Hp}{z:Str}:tyV K "str" (.str z) H:=rfl
theorem Qnz{m:Str}{id:String}{g:D->D->Option D}{r:V->List V->Hp->VK->Prop}(slot:PySem.Slot "str" m id)(hty:typeOf (.builtin id)=pure (.type "method_descriptor"))(hm:MtR X id r)
  (hg:∀a b d,g a b=some d->∃z,a= .str z/\∀(H0 H:Hp) (ρ:En) (F:Nat->List Addr) (y:V) (G:List Addr) (Q:VK),Qw H0 H->Rp X.K H b y G->(∀v H' G',QO X.K ρ F H0 H' ⟨d,true,[]⟩ v G'->Q v H')->r (.str z) [y] H Q)
  (ho:SE X o fa) (ha:SA X [b] fs) (hb:attributeBase o m X.env (eval o X.env)=eval o X.env) (hl:(apos.endLine == cpos.line)=true) (hs:starEach [b] X.env=[(false,eval b X.env)]):
  SE X (.Call (.Attribute o m apos) [b] [] cpos) (dM1 g fa fs):=λH0 A0=>
 (QgB PySem.F.plainAttrs_str slot hty hm (ho H0 A0) (ha H0 A0) hb (by rw[hs];rfl) hl hs (by rfl)).mono λσ H Q=>exK λρ hs F r' rel e q=>by
  refine Qe e λra e1 e=>?_
  refine Qe e λrb e2 e=>?_
  refine⟨ρ,hs,F,ra,rel,e1,λx H1 G1 p1=>?_⟩
  split at e
  ·rename_i b' hds
   obtain⟨d,ed,e⟩:=Zc.mp e
   subst e
   obtain⟨z,ez,k⟩:=hg _ _ _ ed
   have rp:=p1.rp
   rw[ez]at rp
   rw[rp.str_inv]
   refine⟨Qs0,ρ,hs,F,rb,rel.ext p1.same,e2,λxs H2 G2 p2=>?_⟩
   have rp2:=p2.rp
   rw[hds]at rp2
   obtain⟨y,rfl,ry⟩:=rp2.one
   exact k H H2 ρ F y G2 Q (p1.same.trans p2.same) ry q
  ·cases e
theorem QwT(ho:SE X o fa)(ha:SA X [b] fs)(hb:attributeBase o "startswith" X.env (eval o X.env)=eval o X.env)(hl:(apos.endLine == cpos.line)=true)(hs:starEach [b] X.env=[(false,eval b X.env)]):
  SE X (.Call (.Attribute o "startswith" apos) [b] [] cpos) (dM1 gSw fa fs):=
 Qnz PySem.F.slot_str_startswith PySem.F.type_str_startswith QnY (λa b d e=>by
  unfold gSw at e
  split at e
  ·split at e
   ·cases e
    exact⟨_,rfl,λH0 H ρ F y G Q s r q=>⟨_,_,rfl,by rw[r.str_inv],q _ _ [] (.flat s .Qcw)⟩⟩
   ·cases e
  ·cases e) ho ha hb hl hs
theorem Qsj(ho:SE X o fa)(ha:SA X [b] fs)(hb:attributeBase o "join" X.env (eval o X.env)=eval o X.env)(hl:(apos.endLine == cpos.line)=true)(hs:starEach [b] X.env=[(false,eval b X.env)]):
  SE X (.Call (.Attribute o "join" apos) [b] [] cpos) (dM1 Qnq fa fs):=
 Qnz PySem.F.slot_str_join PySem.F.type_str_join Qs6 (λa b d e=>by
  unfold Qnq at e
  split at e
  ·split at e
   ·refine Qe e λts e1 e=>?_
    split at e
    ·rename_i hj
     cases e
     refine⟨_,rfl,λH0 H ρ F y G Q s r q=>?_⟩
     obtain⟨l,ws,L,rfl,hl',rl,zl,el⟩:=r.lst_inv
     rw[Qjw e1]at rl
     rw[rl.strs]at hl'
     exact⟨_,l,ts,rfl,rfl,QT hl',hj,q _ _ [] (.flat s .str_mk)⟩
    ·cases e
   ·cases e
  ·cases e) ho ha hb hl hs
theorem QtN(ho:SE X o fa)(ha:SA X [b] fs)(hb:attributeBase o "split" X.env (eval o X.env)=eval o X.env)(hl:(apos.endLine == cpos.line)=true)(hs:starEach [b] X.env=[(false,eval b X.env)]):
  SE X (.Call (.Attribute o "split" apos) [b] [] cpos) (dM1 Qqr fa fs):=
 Qnz PySem.F.slot_str_split PySem.F.type_str_split QoE (λa b d e=>by
  unfold Qqr at e
  split at e
  ·split at e
   ·split at e
    ·rename_i hc
     cases e
     refine⟨_,rfl,λH0 H ρ F y G Q s r q=>⟨_,_,rfl,by rw[r.str_inv],hc.1.1,by have:=hc.1.2;rw[QdR];omega,λc hcn=>?_⟩⟩
     have:=QO.Qax (ρ:=ρ) (F:=F) s hcn (Rps.ofStrs (K:=X.K) (Txt.split _ _)) (by rw[Zj,QdR];exact ZF hc.2 (by decide)) Src.nil QaE.nil
     unfold Qax at this
     rw[if_pos (Qpq _)]at this
     exact q _ _ _ this
    ·cases e
   ·cases e
  ·cases e) ho ha hb hl hs
end
end HS
namespace HS
open PySem PySem.Spec L2 PyProof.Rows
noncomputable def Qxm(K:PySem.W.Frag):V->List V->Hp->VK->Prop:=λx ys H Q=>∃(p:Addr) (ns:List Int) (i:Int),x= .ref p/\ys=[.int i]/\SqL K H p (ns.map V.int)/\Q (.int (ns.count i:Nat)) H
theorem QqA{X:Cx}:MtR X "list.count" (Qxm X.K):=by
 intro pins s σ H x vs v us Q I rx rv h
 obtain⟨p,ns,i,rfl,rfl,hq,q⟩:=h
 cases rx
 obtain⟨u,rfl,ru⟩:=rv.one
 obtain⟨t,rfl⟩:=ru
 obtain⟨its,r',pl,hz⟩:=I.list hq
 refine count_list_ints pl.isList (Qa9 r') ?_
 exact⟨.int (ns.count i:Nat),H,I.tok _,⟨_,rfl⟩,q⟩
noncomputable def QiI(a b:D):Option D:=match a with
 | .lst xs=>match b with
  | .int i=>(QbP xs).map λns=> .int (ns.count i:Nat)
  | _=>none
 | _=>none
section
variable {X:Cx}{o b:Expr}{fa:DE}{fs:DA}{apos cpos:Pos}
theorem Qub(ho:SE X o fa)(ha:SA X [b] fs)(hb:attributeBase o "count" X.env (eval o X.env)=eval o X.env)(hl:(apos.endLine == cpos.line)=true)(hs:starEach [b] X.env=[(false,eval b X.env)]):
  SE X (.Call (.Attribute o "count" apos) [b] [] cpos) (dM1 QiI fa fs):=λH0 A0=>
 (QgB ZaC PySem.F.slot_list_count PySem.F.type_list_count QqA (ho H0 A0) (ha H0 A0) hb (by rw[hs];rfl) hl hs (by rfl)).mono λσ H Q=>exK λρ hs F r' rel e q=>by
  refine Qe e λra e1 e=>?_
  refine Qe e λrb e2 e=>?_
  refine⟨ρ,hs,F,ra,rel,e1,λx H1 G1 p1=>?_⟩
  split at e
  ·rename_i b' hds
   obtain⟨d,ed,e⟩:=Zc.mp e
   subst e
   unfold QiI at ed
   split at ed
   ·rename_i xs hxs
    split at ed
    ·rename_i i
     obtain⟨ns,h1,rfl⟩:=Zc.mp ed
     have rp:=p1.rp
     rw[hxs]at rp
     obtain⟨l,ws,L,rfl,hl,rl,zl,el⟩:=rp.lst_inv
     rw[QbL h1]at rl
     rw[rl.ints]at hl
     refine⟨.inl ⟨rfl,_,QT hl⟩,ρ,hs,F,rb,rel.ext p1.same,e2,λys H2 G2 p2=>?_⟩
     have rp2:=p2.rp
     rw[hds]at rp2
     obtain⟨y,rfl,ry⟩:=rp2.one
     rw[ry.int_inv]
     have hl2:H2 l=some (.lst (ns.map V.int))∨Fix X.K H2 l (ns.map V.int):=hl.elim (λz=> .inl (p2.same _ _ z)) λz=> .inr (QgY p2.same z)
     exact⟨l,ns,i,rfl,rfl,QT hl2,q _ _ [] (.flat (p1.same.trans p2.same) .int_mk)⟩
    ·cases ed
   ·cases ed
  ·cases e
end
end HS
namespace HS
open PySem PySem.Spec L2 PyProof.Rows
section
variable {X:Cx}{e:Expr}{es:List Expr}{fs:DA}{pos:Pos}
theorem Qtf{p:Pos}(hcl:X.calm=true)(hg:Gl X "list")(hm:X.mg "list" =none)(ha:SA X (e::es) fs)(he:starEach (e::es) X.env=(false,eval e X.env)::starEach es X.env)(hpl:(backTo pos (starEach es X.env)).any (·.1)=false):
    SE X (.Call (.Name "list" p) (e::es) [] pos) (dList fs):=λH0 A0=>
 (Qjo Qka hg hm ZbO (ha H0 A0) (by decide) (by decide) he hpl).mono λσ H Q=>exK λρ hs F r' rel e q=>by
    refine Qe e λra e1 e=>?_
    refine⟨ρ,hs,F,ra,rel,e1,λvs H1 G p1=>?_⟩
    have rp:=p1.rp
    have src:=p1.src
    split at e
    · rename_i xs hds
      cases e
      rw[hds]at rp
      obtain⟨v,rfl,rq⟩:=rp.one
      obtain⟨l,ws,L,rfl,hl,rl,zl,el⟩:=rq.lst_inv
      refine⟨l,ws,rfl,.inl (QT hl),λc hc=>q _ _ (c::L) (QO.Qax p1.same hc rl zl (λz hz=>src z ?_) p1.own)⟩
      rcases el with rfl | rfl
      · exact Zb _ hz
      · exact hz
    · rename_i xs hds
      split at e
      · rename_i hz
        cases e
        rw[hds]at rp
        obtain⟨v,rfl,rq⟩:=rp.one
        obtain⟨l,ws,rfl,hl,rl⟩:=rq.QaC
        exact⟨l,ws,rfl,.inr hl,λc hc=>q _ _ (c::G) (QO.Qax p1.same hc rl hz src p1.own)⟩
      · cases e
    · cases e
end
end HS
namespace HS
open PySem L2
def Inc(xs:Array Nat):Prop:=xs.toList.Pairwise (· < ·)
theorem Inc.get{xs:Array Nat}(h:Inc xs){i j a b:Nat}(hi:xs[i]? =some a)(hj:xs[j]? =some b)(hij:i<j):a<b:=by
 rw[← ZaW]at hi hj
 obtain⟨i1,rfl⟩:=Zd.mp hi
 obtain⟨j1,rfl⟩:=Zd.mp hj
 exact List.pairwise_iff_getElem.mp h i j i1 j1 hij
structure Cut (xs:Array Nat) (j r:Nat):Prop where
 le:r<=xs.size
 lo:∀i a,i<r->xs[i]? =some a->a<j
 hi:∀i a,r<=i->xs[i]? =some a->j<=a
structure TbI (t:SetTable):Prop where
 inc:Inc t.place
 dum:t.dummies= #[]
end HS
namespace HS
open PySem
section
variable {t:SetTable}
end
section
variable {mask:Nat}{owner:Array (Option Nat)}
structure Own (mask:Nat) (owner:Array (Option Nat)) (k:Nat):Prop where
 size:owner.size=mask+1
 perm:(owner.toList.filterMap id).Perm (List.range k)
end
end HS
namespace HS
open PySem L2 PyProof.Rows
section
variable {prog:Program}{w:World}{A:Around}{E:Value->Shared->Prop}{s:Shared}
structure Qwr (prog:Program) (w:World) (L:Bool) (ob:Obj) (ar:Array (Int×Value)) (tb:SetTable) (S:Int->Bool) (n:Nat):Prop where
 ex:ob.ExactSet
 el:ElemsOf (intKind prog w) ar.toList
 mem:∀k,S k=true↔∃e∈ar.toList,(intKind prog w).is k e.2=true
 lt:ar.size<scanBound
 fit:tb.fits ar.size=true
 num:ar.size=n
 ti:TbI tb
 led:tb.led=L
def Sz(tb:SetTable)(n:Nat):Prop:=tb.plain=true/\(tb.mask=7/\n<=4∨tb.mask=31/\n<=18)
def Qir(prog:Program)(w:World)(L:Bool)(h:Heap)(a:Addr)(S:Int->Bool)(n:Nat):Prop:=∃ob ar en tb,h.get? a=some ob/\ob.data= .set ar en tb/\Qwr prog w L ob ar tb S n/\Sz tb n
theorem Qir.QfE{L:Bool}{h h':Heap}{a:Addr}{S:Int->Bool}{n:Nat}(r:Qir prog w L h a S n)(k:∀o,h.get? a=some o->h'.get? a=some o):Qir prog w L h' a S n:=by
 obtain⟨ob,ar,en,tb,h1,h2⟩:=r
 exact⟨ob,ar,en,tb,k _ h1,h2⟩
theorem Qir.cast{L:Bool}{h:Heap}{a:Addr}{S S':Int->Bool}{n n':Nat}(r:Qir prog w L h a S n)(e:∀k,S k=S' k)(en:n=n'):Qir prog w L h a S' n':=by
 have:S=S':=funext e
 subst this;subst en;exact r
end
end HS
namespace HS
open PySem L2 PyProof.Rows
section
variable {prog:Program}{w:World}{A:Around}{R:Result->Shared->Prop}{I:Addr}{fp wr:List Addr}{G:Array GenState->Array GenState->Prop}{n:Nat}{P:Nat->Value->Prop}{St:Nat->Shared->Prop}
end
end HS
namespace HS
open PySem L2 PyProof.Rows
section
variable {prog:Program}{w:World}{A:Around}{E:Value->Shared->Prop}{s:Shared}
noncomputable abbrev Qxv(w:World):Bool:= !w.params.followText "set-order"
noncomputable abbrev QuB(w:World):Obj:={cls:= .type "set",dict:=none,data:= .set #[] 0 (.fresh 0 0 (Qxv w))}
end
end HS
namespace HS
open PySem L2 PyProof.Rows
section
variable {prog:Program}{w:World}
structure Qym (prog:Program) (w:World) (a:Addr) (ob:Obj) (ep:Nat) (wk:Array (Int×Value)) (sl:Nat->Nat):Prop where
 zero:sl 0=0
 next:∀(A:Around) (E:Value->Shared->Prop) (s:Shared) (Q:Option (Value×Nat)->Shared->Prop) (i:Nat) (e:Int×Value),s.heap.get? a=some ob->wk[i]? =some e->Q (some (e.2,sl (i+1))) s->wpAny (model prog w) A (setNext a (sl i) i ep) Q E s
 stop:∀(A:Around) (E:Value->Shared->Prop) (s:Shared) (Q:Option (Value×Nat)->Shared->Prop),s.heap.get? a=some ob->Q none s->wpAny (model prog w) A (setNext a (sl wk.size) wk.size ep) Q E s
end
end HS
namespace HS
open PySem L2 PyProof.Rows
section
variable {prog:Program}{w:World}{A:Around}{E:Value->Shared->Prop}{s:Shared}
end
end HS
namespace HS
open PySem L2 PyProof.Rows
section
variable {prog:Program}{w:World}{A:Around}{E:Value->Shared->Prop}{s:Shared}
end
end HS
namespace HS
open PySem L2 PyProof.Rows
section
variable {prog:Program}{w:World}{A:Around}{E:Value->Shared->Prop}{s:Shared}
end
end HS
namespace HS
open PySem PySem.Spec L2 PyProof.Rows
section
variable {X:Cx}{a:Expr}{fa:DE}{pos:Pos}
end
end HS
namespace HS
open PySem PySem.Spec PyProof.Rows L2
section
variable {X:Cx}{a b c:Expr}{fa fb fc:DE}{pos:Pos}
end
end HS
namespace HS
open PySem PySem.Spec L2
noncomputable abbrev Cn:=Int ⊕ Str
noncomputable def cnD:Cn->D
 | .inl i=> .int i
 | .inr x=> .str x
noncomputable def cnV:Cn->Tok->Value
 | .inl i,t=> .int i t
 | .inr x,t=> .str x t
structure FnR where
 n:Nat
 dfl:List D
 den:Den
structure Th where
 N:List Str
 sc:List (Str×NameKind)
 Γ:List (Str×FnR)
 cs:List (Str×Cn)
 tr:Stmt->Option DS:=λ_=>none
 te:Expr->Option DE:=λ_=>none
noncomputable def posOf(x:Str):List Str->Option Nat
 | []=>none
 | y::ys=>if x=y then some 0 else(posOf x ys).map (· +1)
theorem Qeq:∀{x:Str}{ys:List Str}{i:Nat},posOf x ys=some i->ys[i]? =some x
 | x,[],i,h=>by cases h
 | x,y::ys,i,h=>by
  unfold posOf at h
  split at h
  ·rename_i e;cases h;subst e;rfl
  ·obtain⟨j,hj,rfl⟩:=Zc.mp h
   simpa using Qeq hj
noncomputable def look{α:Type}(x:Str):List (Str×α)->Option α
 | []=>none
 | (y,a)::r=>if x=y then some a else look x r
theorem Qbh{α:Type}:∀{x:Str}{l:List (Str×α)},look x l=l.lookup x
 | x,[]=>rfl
 | x,(y,a)::r=>by
  unfold look
  rw[Zu]
  by_cases h:x=y
  ·subst h;simp
  ·rw[if_neg h,Qbh]
   have:(x == y)=false:=by simpa using h
   rw[this]
noncomputable def Qrr:NameKind->Bool
 | .local =>true | .cell=>true | .free=>true | _=>false
noncomputable def Qrs:NameKind->Bool
 | .local =>true | .cell=>true | _=>false
noncomputable def Qyc:NameKind->Bool
 | .globalImplicit=>true | _=>false
noncomputable def isFree:NameKind->Bool
 | .free=>true | _=>false
noncomputable def odd(x:Str):Bool:=decide (x= "__debug__") || decide (x= "__classdict__") || decide (x= "__name__")
noncomputable def Th.slot(Θ:Th)(x:Str):Option Nat:=if((look x Θ.sc).map Qrr).getD false && !odd x then posOf x Θ.N else none
noncomputable def Th.QcL(Θ:Th)(x:Str):Option Nat:=if((look x Θ.sc).map Qrs).getD false && !odd x then posOf x Θ.N else none
noncomputable def Th.gl(Θ:Th)(x:Str):Bool:=((look x Θ.sc).map Qyc).getD false && !odd x
def Qtw(X:Cx)(x:Str)(r:FnR):Prop:=∃k f fd ps,Qab X.prog X.w X.K X.mg X.base CX0 k f fd ps (spV X.K r.n r.den)/\QZ k X.A/\X.mg x=some (.ref f)/\PySem.W.keepIn X.K (.ref f)=true∧
 ∀m,m<=r.dfl.length->∃ds dvs,Binds X.K fd ps ds/\Qt dvs ds/\∀H,Rps X.K H (r.dfl.drop (r.dfl.length-m)) dvs []
noncomputable def QkY:List Str:=["range","enumerate","zip","len","list","min","max","sum","abs","isinstance","int","bool","tuple","str","divmod","sorted","any","all","set"]
structure CtxB (X:Cx) (Θ:Th):Prop where
 N:X.N=Θ.N
 nd:Θ.N.Nodup
 lc:∀x,look x Θ.sc=some .local ->X.env.scope.names.lookup x=some .local
 ce:∀x,look x Θ.sc=some .cell->X.env.scope.names.lookup x=some .cell/\X.fn x=true
 fe:∀x,look x Θ.sc=some .free->X.env.scope.names.lookup x=some .cell∨X.env.scope.names.lookup x=some .free
 gl:∀x,look x Θ.sc=some .globalImplicit->X.env.scope.names.lookup x=some .globalImplicit
 units:X.A.units+64<cLine
 mg:∀x∈QkY,X.mg x=none
 cs:∀x i,look x Θ.cs=some i->∃t,X.mg x=some (cnV i t)
structure QI (X:Cx) (Θ:Th):Prop extends CtxB X Θ where
 calm:X.calm=true
 pass:PassesOwn (model X.prog X.w) X.A X.env X.xe
 fns:∀x r,look x Θ.Γ=some r->Qtw X x r
 tr:∀st f,Θ.tr st=some f->S1 X st f
 te:∀e f,Θ.te e=some f->SE X e f
section
theorem Qme(h:odd x=false):(x == ("__debug__" :Str))=false/\(x == ("__classdict__" :Str))=false/\x≠ "__name__" :=by
 unfold odd at h
 simp only[Bool.or_eq_false_iff,decide_eq_false_iff_not]at h
 exact⟨by simpa using h.1.1,by simpa using h.1.2,h.2⟩
theorem Qcs(ok:CtxB X Θ)(h:Θ.slot x=some i):PE X (.Name x pos) (Qfj i):=by
 unfold Th.slot at h
 split at h
 ·rename_i hc
  simp only[Zg,ZY]at hc
  obtain⟨h1,h2,_⟩:=Qme hc.2
  refine QuO (by rw[ok.N];exact Qeq h) ?_ h1 h2
  cases q:look x Θ.sc with
  | none=>rw[q]at hc;cases hc.1
  | some k=>
   rw[q]at hc
   cases k with
   | «local» =>exact .inl (ok.lc x q)
   | cell=>exact .inr (.inl (ok.ce x q).1)
   | free=>exact .inr (ok.fe x q)
   | _=>cases hc.1
 ·cases h
theorem Qdp(ok:CtxB X Θ)(h:Θ.QcL x=some i):X.N[i]? =some x/\Loc X.env.scope x/\(X.fn x=true∨X.env.scope.names.lookup x=some .local):=by
 unfold Th.QcL at h
 split at h
 ·rename_i hc
  simp only[Zg,ZY]at hc
  refine⟨by rw[ok.N];exact Qeq h,?_⟩
  cases q:look x Θ.sc with
  | none=>rw[q]at hc;cases hc.1
  | some k=>
   rw[q]at hc
   cases k with
   | «local» =>exact⟨.inl (ok.lc x q),.inr (ok.lc x q)⟩
   | cell=>exact⟨.inr (ok.ce x q).1,.inl (ok.ce x q).2⟩
   | _=>cases hc.1
 ·cases h
theorem QdK(ok:CtxB X Θ)(h:Θ.gl x=true):Gl X x/\(x == ("__debug__" :Str))=false/\x≠ "__name__" :=by
 unfold Th.gl at h
 simp only[Zg,ZY]at h
 obtain⟨h1,h2,h3⟩:=Qme h.2
 refine⟨?_,h1,h3⟩
 cases q:look x Θ.sc with
 | none=>rw[q]at h;cases h.1
 | some k=>
  rw[q]at h
  cases k with
  | globalImplicit=>exact ok.gl x q
  | _=>cases h.1
end
noncomputable def isTup:Expr->Bool
 | .Tuple .. =>true
 | _=>false
noncomputable def Qaz:Expr->Option Str
 | .Name x _=>some x
 | _=>none
noncomputable def QfZ(Θ:Th):Expr->Option Tg
 | .Name x _=>(Θ.QcL x).map .nm
 | .Tuple es _ _=>((es.mapM Qaz).bind λxs=>xs.mapM Θ.QcL).map .tp
 | _=>none
noncomputable def QmW:CmpOp->Option (D->D->Option D)
 | .Eq=>some gEq | .NotEq=>some gNe | .Lt=>some gLt | .LtE=>some gLe | .Gt=>some gGt | .GtE=>some gGe
 | .Is=>none | .IsNot=>none
 | .In=>some (gIn false) | .NotIn=>some (gIn true)
noncomputable def Qqg(x:Str):Option String:=
 if x= "int" then some "int" else if x= "bool" then some "bool" else if x= "list" then some "list" else if x= "tuple" then some "tuple" else if x= "str" then some "str" else none
noncomputable def inner(Θ:Th)(scope:Scope):Th:={N:=(scope.names.filter λy=>Qrr y.2).map (·.1),sc:=scope.names,Γ:=Θ.Γ,cs:=Θ.cs}
noncomputable def Qge(Θ:Th)(scope:Scope):List (Option Nat):=(inner Θ scope).N.map λx=>if((look x scope.names).map isFree).getD false then posOf x Θ.N else none
noncomputable def Qig(Θ:Th)(scope:Scope)(t:Tg):Bool:=(scope.kind == .function) && decide (inner Θ scope).N.Nodup &&
 (scope.names.all λy=>match y.2 with
  | .cell=>decide (look y.1 scope.names=some .cell)
  | .local =>decide (look y.1 scope.names=some .local)
  | .free=>match look y.1 Θ.sc with
   | some .cell=>true
   | some .free=>true
   | _=>false
  | _=>true) &&
 t.slots.all λj=>match (Qge Θ scope)[j]? with
  | some (some _)=>false
  | _=>true
noncomputable def QgZ(Θ:Th)(x:Str)(a:Expr):Option Expr:=match a with
 | .Call (.Name y _) [b] [] _=>if x= "list" /\y= "range" /\Θ.gl y=true/\(look y Θ.Γ).isNone=true then some b else none
 | _=>none
noncomputable def QwQ:List Expr->Bool
 | []=>true | [_]=>true | _=>false
noncomputable def bf1(x:Str)(fa:DE):Option DE:=
 if x= "len" then some (dBf QaI (Qc fa Qf))else
 if x= "list" then some (dList (Qc fa Qf))else
 if x= "min" then some (dBf Qgp (Qc fa Qf))else
 if x= "max" then some (dBf Qgh (Qc fa Qf))else
 if x= "sum" then some (dBf Qgs (Qc fa Qf))else
 if x= "str" then some (dBf Qq7 (Qc fa Qf))else
 none
noncomputable def bf2(x:Str)(fa fb:DE):Option DE:=
 if x= "min" then some (dBf QhT (Qc fa (Qc fb Qf)))else
 if x= "max" then some (dBf Qid (Qc fa (Qc fb Qf)))else
 if x= "divmod" then some (dDm (Qc fa (Qc fb Qf)))else
 none
noncomputable def QhX:Expr->Bool
 | .Name .. =>true
 | .Constant .. =>true
 | _=>false
noncomputable def tm1(m:Str)(fa fb:DE):Option DE:=
 if m= "split" then some (dM1 Qqr fa (Qc fb Qf))else
 if m= "join" then some (dM1 Qnq fa (Qc fb Qf))else
 if m= "startswith" then some (dM1 gSw fa (Qc fb Qf))else
 if m= "count" then some (dM1 QiI fa (Qc fb Qf))else
 none
mutual
noncomputable def Ql(n:Nat)(Θ:Th)(e:Expr):Option DE:=match n with
 | 0=>none
 | n+1=>match e with
  | .Name x _=>match Θ.slot x with
   | some i=>some (Qa i)
   | none=>if Θ.gl x then(look x Θ.cs).map λi=>dC (cnD i)else none
  | .Constant (.int i) _ _=>some (dC (.int i))
  | .Constant (.bool b) _ _=>some (dC (.bl b))
  | .Constant .none _ _=>some (dC .non)
  | .Constant (.str x) _ _=>some (dC (.str x))
  | .BinOp a op b _=>(Ql n Θ a).bind λfa=>(Ql n Θ b).bind λfb=>match op with
   | .Add=>some (QD fa fb)
   | .Mult=>some (Qas fa fb)
   | .Sub=>some (dOp Qdo fa fb)
   | .FloorDiv=>some (dOp Qfe fa fb)
   | .Mod=>some (dOp QaL fa fb)
   | .Pow=>some (dOp Qgb fa fb)
   | .RShift=>some (dOp Qlf fa fb)
   | _=>none
  | .UnaryOp .USub a _=>(Ql n Θ a).map QmK
  | .UnaryOp .Not a _=>(Ql n Θ a).map Qq5
  | .BoolOp .And [a] _=>Ql n Θ a
  | .BoolOp .And (a::b::r) p=>(Ql n Θ a).bind λfa=>(Ql n Θ (.BoolOp .And (b::r) p)).map λfb=>Qf1 fa fb
  | .BoolOp .Or [a] _=>Ql n Θ a
  | .BoolOp .Or (a::b::r) p=>(Ql n Θ a).bind λfa=>(Ql n Θ (.BoolOp .Or (b::r) p)).map λfb=>dOr fa fb
  | .Compare a [op] [b] _=>(Ql n Θ a).bind λfa=>(Ql n Θ b).bind λfb=>(QmW op).map λg=>dOp g fa fb
  | .IfExp c a b _=>(QaS n Θ c).bind λg=>(Ql n Θ a).bind λfa=>(Ql n Θ b).map λfb=>dIf g fa fb
  | .Tuple es _ _=>(QaY n Θ es).map QbR
  | .List es _=>(QaY n Θ es).map Q4
  | .Subscript a (.Slice lo hi none _) _=>(Ql n Θ a).bind λfa=>(QhO n Θ lo).bind λfl=>(QhO n Θ hi).map λfh=>Qbq fa fl fh
  | .Subscript a b _=>(Ql n Θ a).bind λfa=>(Ql n Θ b).map λfb=>Qr fa fb
  | .Attribute o m p=>Θ.te (.Attribute o m p)
  | .Call (.Name x p) args [] q=>if Θ.gl x then(match look x Θ.Γ with
    | some r=>if r.n<=args.length+r.dfl.length/\args.length<=r.n then(QaY n Θ args).map λfs=>QG r.n r.den (r.dfl.drop (r.dfl.length-(r.n-args.length))) fs else none
    | none=>match Θ.te (.Call (.Name x p) args [] q)with
     | some f=>some f
     | none=>QjT n Θ x args)else none
  | .Call (.Attribute (.Name x p) m apos) [] [] cpos=>if m= "bit_length" /\(apos.endLine == cpos.line)=true then(Ql n Θ (.Name x p)).map QjR else none
  | .Call (.Attribute o m apos) [b] [] cpos=>if QhX o=true/\(apos.endLine == cpos.line)=true then(Ql n Θ o).bind λfo=>(Ql n Θ b).bind λfb=>tm1 m fo fb else none
  | .ListComp elt [⟨tg,iter,ifs,0⟩] scope _=>(QfZ (inner Θ scope) tg).bind λt=>if Qig Θ scope t && QwQ ifs then
    (Qfa n Θ tg iter).bind λfi=>(Qe3 n (inner Θ scope) ifs).bind λft=>(Ql n (inner Θ scope) elt).map λfe=>Q6 fi t (Qge Θ scope) ft fe else none
  | _=>none
noncomputable def QjT(n:Nat)(Θ:Th)(x:Str)(args:List Expr):Option DE:=match n with
  | 0=>none
  | n+1=>match args with
    | [a]=>match QgZ Θ x a with
     | some b=>(Ql n Θ b).map QjV
     | none=>
         (Ql n Θ a).bind λfa=>bf1 x fa
    | [a,b]=>if x= "isinstance" then(Ql n Θ a).bind λfa=>match b with
        | .Name y _=>if Θ.gl y then(Qqg y).map λT=>QeD T fa else none
        | _=>none
      else(Ql n Θ a).bind λfa=>(Ql n Θ b).bind λfb=>bf2 x fa fb
    | _=>none
noncomputable def QaS(n:Nat)(Θ:Th)(e:Expr):Option DT:=match n with
 | 0=>none
 | n+1=>match e with
  | .UnaryOp .Not a _=>(QaS n Θ a).map Qbp
  | .BoolOp .And [a] _=>QaS n Θ a
  | .BoolOp .And (a::b::r) p=>(QaS n Θ a).bind λfa=>(QaS n Θ (.BoolOp .And (b::r) p)).map λfb=>QiL fa fb
  | .BoolOp .Or [a] _=>QaS n Θ a
  | .BoolOp .Or (a::b::r) p=>(QaS n Θ a).bind λfa=>(QaS n Θ (.BoolOp .Or (b::r) p)).map λfb=>bOr fa fb
  | .Compare a [op] [b] _=>(Ql n Θ a).bind λfa=>(Ql n Θ b).bind λfb=>(QmW op).map λg=>QC (dOp g fa fb)
  | .BoolOp _ _ _=>none
  | .IfExp _ _ _ _=>none
  | .Compare _ _ _ _=>none
  | e=>(Ql n Θ e).map QC
noncomputable def Qe3(n:Nat)(Θ:Th)(es:List Expr):Option DT:=match n with
 | 0=>none
 | n+1=>match es with
  | []=>some Qa6
  | [c]=>QaS n Θ c
  | _=>none
noncomputable def QaY(n:Nat)(Θ:Th)(es:List Expr):Option DA:=match n with
 | 0=>none
 | n+1=>match es with
  | []=>some Qf
  | e::es=>(Ql n Θ e).bind λfa=>(QaY n Θ es).map λfs=>Qc fa fs
noncomputable def QhO(n:Nat)(Θ:Th)(e:Option Expr):Option DO:=match n with
 | 0=>none
 | n+1=>match e with
  | none=>some QbU
  | some e=>(Ql n Θ e).map Qam
noncomputable def Qfa(n:Nat)(Θ:Th)(tg e:Expr):Option DI:=match n with
 | 0=>none
 | n+1=>match e with
  | .Call (.Name x _) args [] _=>if Θ.gl x && (look x Θ.Γ).isNone then(match args with
    | [a]=>if x= "range" then(Ql n Θ a).map QaO else
     if x= "enumerate" then(if isTup tg then(Ql n Θ a).map Qdv else none)else
     (Ql n Θ e).map Qay
    | [a,b,c]=>
     if x= "range" then(Ql n Θ a).bind λfa=>(Ql n Θ b).bind λfb=>(Ql n Θ c).map λfc=>QeR fa fb fc else
     (Ql n Θ e).map Qay
    | [a,b]=>
     if x= "zip" then(if isTup tg then(Ql n Θ a).bind λfa=>(Ql n Θ b).map λfb=>QbT fa fb else none)else
     (Ql n Θ e).map Qay
    | _=>(Ql n Θ e).map Qay)else(Ql n Θ e).map Qay
  | e=>(Ql n Θ e).map Qay
end
theorem Qbe{α β γ:Type}{x:Option α}{y:α->Option β}{k:α->β->γ}{r:γ}(e:(x.bind λa=>(y a).map λb=>k a b)=some r):∃a b,x=some a/\y a=some b/\k a b=r:=by
 refine Qe e λa h1 e=>?_
 obtain⟨b,h2,e⟩:=Zc.mp e
 exact⟨a,b,h1,h2,e⟩
theorem bindR{α β γ:Type}{x:Option α}{y:α->Option β}{k:α->β->γ}{r:γ}{M:γ->Prop}(e:(x.bind λa=>(y a).map λb=>k a b)=some r)(g:∀a b,x=some a->y a=some b->M (k a b)):M r:=by
 obtain⟨a,b,h1,h2,rfl⟩:=Qbe e
 exact g a b h1 h2
theorem Qar(h:Ql n Θ e=some f)(es:List Expr)(env:Env):starEach (e::es) env=(false,eval e env)::starEach es env:=by
 cases n with
 | zero=>exact nomatch (show(none:Option DE)=some _ from h)
 | succ n=>cases e<;>first | rfl | (exact nomatch (show(none:Option DE)=some _ from h))
theorem QiR:∀{n:Nat}{Θ:Th}{es:List Expr}{f:DA},QaY n Θ es=some f->∀(pos:Pos) (env:Env),(backTo pos (starEach es env)).any (·.1)=false
 | 0,_,_,_,h,_,_=>by simp[QaY]at h
 | n+1,_,[],_,h,_,_=>rfl
 | n+1,_,e::es,_,h,pos,env=>by
  simp only[QaY]at h
  obtain⟨fa,fs,h1,h2,_⟩:=Qbe h
  rw[Qar h1]
  have:=QiR h2 pos env
  simpa[backTo]using this
theorem Qmu(h:Ql n Θ b=some f):Qgy b:=by
 cases n with
 | zero=>exact nomatch (show(none:Option DE)=some _ from h)
 | succ n=>cases b<;>first | (intro o i;rfl) | (exact nomatch (show(none:Option DE)=some _ from h))
theorem QuY(h:Ql n Θ e=some f)(env:Env):∀x,foldedSetIterable e env x=pure x:=by
 cases n with
 | zero=>exact nomatch (show(none:Option DE)=some _ from h)
 | succ n=>cases e<;>first | (intro x;rfl) | (exact nomatch (show(none:Option DE)=some _ from h))
theorem Qot(h:Ql n Θ e=some f)(op:CmpOp):behindInMarks op e=false:=by
 cases n with
 | zero=>exact nomatch (show(none:Option DE)=some _ from h)
 | succ n=>cases e<;>first | rfl | (exact nomatch (show(none:Option DE)=some _ from h))
theorem Qdh{env:Env}:∀{names:List (Str×NameKind)}{x:Str},names.lookup x=some .cell→
  (names.map λ(n,k)=>if(k == NameKind.free && env.scope.kind == .function && env.kindOf n == some .cell)then(n,NameKind.cell)else(n,k)).lookup x=some .cell
 | [],_,h=>by simp at h
 | (n,k)::r,x,h=>by
  have ih:= @Qdh env r x
  rw[Zq]
  cases hx:x == n with
  | true=>
   simp only[Zu,hx]at h
   cases h
   dsimp only
   split<;>simp[Zu,hx]
  | false=>
   simp only[Zu,hx]at h
   dsimp only
   split<;>(simp only[Zu,hx];exact ih h)
theorem Qke{X:Cx}{Θ:Th}{scope:Scope}{t:Tg}(ok:QI X Θ)(h:Qig Θ scope t=true):Qdx X (inner Θ scope).N scope/\Qj4 X (inner Θ scope).N scope (Qge Θ scope) t.slots/\∀cl C fp s3 H3,QI (cxc X (inner Θ scope).N scope cl C fp s3 H3) (inner Θ scope):=by
 unfold Qig at h
 simp only[Zg,decide_eq_true_eq]at h
 obtain⟨⟨⟨h1,h2⟩,h3⟩,h4⟩:=h
 have hk:scope.kind= .function:=by simpa using h1
 have each:∀y∈scope.names,(y.2= .cell->scope.names.lookup y.1=some .cell)/\(y.2= .local ->scope.names.lookup y.1=some .local)/\(y.2= .free->X.env.kindOf y.1=some .cell∨X.env.kindOf y.1=some .free):=λy hy=>by
  have:=Zar.mp h3 y hy
  obtain⟨y,k⟩:=y
  cases k with
  | cell=>exact⟨λ_=>(by rw[← Qbh];simpa using this),λz=>(by cases z),λz=>(by cases z)⟩
  | «local» =>exact⟨λz=>(by cases z),λ_=>by rw[← Qbh];simpa using this,λz=>by cases z⟩
  | free=>
   refine⟨λz=>(by cases z),λz=>(by cases z),λ_=>?_⟩
   dsimp only at this
   split at this
   ·rename_i q;exact .inl (ok.ce _ q).1
   ·rename_i q;exact ok.fe _ q
   ·cases this
  | _=>exact⟨λz=>(by cases z),λz=>(by cases z),λz=>(by cases z)⟩
 have S:Qdx X (inner Θ scope).N scope:=⟨hk,λy hy=>(each y hy).1,λy hy=>(each y hy).2.1,λy hy=>(each y hy).2.2⟩
 refine⟨S,⟨by unfold Qge;simp,λj i e=>?_,λj i e hj=>?_⟩,λcl C fp s3 H3=>⟨⟨rfl,h2,λx e=>?_,λx e=>?_,λx e=>?_,λx e=>?_,ok.units,ok.mg,ok.cs⟩,ok.calm,PassesOwn.never,ok.fns,λ_ _ e=>(nomatch e),λ_ _ e=>(nomatch e)⟩⟩
 ·unfold Qge at e
  rw[Zv]at e
  cases q:(inner Θ scope).N[j]? with
  | none=>rw[q]at e;cases e
  | some x=>
   rw[q]at e
   simp only[ZU,Option.some.injEq]at e
   split at e
   ·rename_i hf
    cases hl:look x scope.names with
    | none=>rw[hl]at hf;cases hf
    | some k=>
     rw[hl]at hf
     cases k with
     | free=>
      rw[Qbh]at hl
      exact⟨x,rfl,hl,by rw[ok.N];exact Qeq e,(each (x,.free) (Zal hl)).2.2 rfl⟩
     | _=>cases hf
   ·cases e
 ·have:=Zar.mp h4 j hj
  rw[e]at this
  cases this
 ·have e':scope.names.lookup x=some .local :=by rw[← Qbh];exact e
  exact lookup_relabel_local e'
 ·have e':scope.names.lookup x=some .cell:=by rw[← Qbh];exact e
  exact⟨Qdh e',decide_eq_true e'⟩
 ·have e':scope.names.lookup x=some .free:=by rw[← Qbh];exact e
  exact Qcc e'
 ·have e':scope.names.lookup x=some .globalImplicit:=by rw[← Qbh];exact e
  show(relabel scope X.env).names.lookup x=some .globalImplicit
  unfold relabel
  have gen:∀{names:List (Str×NameKind)},names.lookup x=some .globalImplicit→
    (names.map λ(n,k)=>if(k == NameKind.free && X.env.scope.kind == .function && X.env.kindOf n == some .cell)then(n,NameKind.cell)else(n,k)).lookup x=some .globalImplicit:=by
   intro names
   induction names with
   | nil=>intro z;simp at z
   | cons y r ih=>
    intro z
    obtain⟨n,k⟩:=y
    rw[Zq]
    cases hx:x == n with
    | true=>
     simp only[Zu,hx]at z
     cases z
     simp[Zu,hx]
    | false=>
     simp only[Zu,hx]at z
     dsimp only
     split<;>(simp only[Zu,hx];exact ih z)
  exact gen e'
theorem QjZ(ok:QI X Θ)(h:QfZ Θ tg=some t):SG X tg t:=by
 have hN:X.N.Nodup:=by rw[ok.N];exact ok.nd
 cases tg with
 | Name x pos=>
  change Option.map _ _=_ at h
  refine mapR h λi hi=>?_
  obtain⟨h1,h2,h3⟩:=Qdp ok.toCtxB hi
  exact Qtc (Ql8 hN h1 h2 h3)
 | Tuple es k pos=>
  change Option.map _ _=_ at h
  refine mapR h λis hi=>?_
  refine Qe hi λxs h1 h2=>?_
  have key:∀(es:List Expr) (xs:List Str) (is:List Nat),es.mapM Qaz=some xs->xs.mapM Θ.QcL=some is->PGs X es (Qhx is)/\(assignEach es X.env).length=is.length/\(assignEach es X.env).findIdx? (·.1)=none:=by
   intro es
   induction es with
   | nil=>
    intro xs is h1 h2
    cases h1
    cases h2
    exact⟨Qr2,rfl,rfl⟩
   | cons e es ih=>
    intro xs is h1 h2
    rw[List.mapM_cons]at h1
    refine Qe h1 λx hx h1=>?_
    refine Qe h1 λys hy h1=>?_
    cases h1
    rw[List.mapM_cons]at h2
    refine Qe h2 λi hi h2=>?_
    refine Qe h2 λjs hj h2=>?_
    cases h2
    obtain⟨a1,a2,a3⟩:=ih ys js hy hj
    cases e with
    | Name y p=>
     cases hx
     obtain⟨g1,g2,g3⟩:=Qdp ok.toCtxB hi
     refine⟨Qql (Ql8 hN g1 g2 g3) a1 rfl,?_,?_⟩
     ·show(assignEach es X.env).length+1=_
      rw[a2];rfl
     ·show List.findIdx? (·.1) ((false,assign (.Name x p) X.env)::assignEach es X.env)=none
      rw[List.findIdx?_cons]
      simp only[a3];rfl
    | _=>cases hx
  obtain⟨a1,a2,a3⟩:=key es xs is h1 h2
  exact Qvd ok.calm a1 a2 a3
 | _=>exact nomatch (show(none:Option Tg)=some _ from h)
theorem QnG{f:Int->Int->Bool}:∀a b d,gI (λi j=>some (.bl (f i j))) a b=some d->∃k,d= .bl k:=λa b d h=>by
 obtain⟨i,j,_,_,e⟩:=Qn2 h
 cases e
 exact⟨_,rfl⟩
theorem Qps(ok:QI X Θ)(h:QmW op=some g):∃r,OpR X (compareOp op) r/\Qbz X.K g r/\∀a b d,g a b=some d->∃k,d= .bl k:=by
 cases op<;>cases h
 ·exact⟨_,Qut ok.units,Qwu,λa b d h=>by unfold gEq at h;split at h<;>cases h;exact⟨_,rfl⟩⟩
 ·exact⟨_,Quv ok.units,QwF,λa b d h=>by unfold gNe at h;split at h<;>cases h;exact⟨_,rfl⟩⟩
 ·exact⟨_,Qw0,Qwo,QnG⟩
 ·exact⟨_,QwY,Qws,QnG⟩
 ·exact⟨_,QwV,QwB,QnG⟩
 ·exact⟨_,Qv2,Qwp,QnG⟩
 ·exact⟨_,Qvn ok.units,QrA,Qpf⟩
 ·exact⟨_,Qo6 ok.units,QrA,Qpf⟩
structure Qhu (n:Nat):Prop where
 E:∀X Θ e f,QI X Θ->Ql n Θ e=some f->SE X e f
 B:∀X Θ x args f p pos,QI X Θ->Θ.gl x=true->QjT n Θ x args=some f->SE X (.Call (.Name x p) args [] pos) f
 T:∀X Θ e f,QI X Θ->QaS n Θ e=some f->ST X e f
 Ts:∀X Θ e f,QI X Θ->Qe3 n Θ e=some f->Qkt X e f
 A:∀X Θ e f,QI X Θ->QaY n Θ e=some f->SA X e f
 O:∀X Θ e f,QI X Θ->QhO n Θ e=some f->SO X e f
 I:∀X Θ tg e f,QI X Θ->Qfa n Θ tg e=some f->SI X tg e f/\∀x,foldedSetIterable e X.env x=pure x
theorem callArgs{X:Cx}{n:Nat}{Θ:Th}{es:List Expr}{fs:DA}(h:QaY n Θ es=some fs){e:Expr}{es':List Expr}(he:es=e::es')(pos:Pos):starEach (e::es') X.env=(false,eval e X.env)::starEach es' X.env/\(backTo pos (starEach es' X.env)).any (·.1)=false:=by
 subst he
 cases n with
 | zero=>simp[QaY]at h
 | succ n=>
  simp only[QaY]at h
  obtain⟨fa,fs',h1,h2,_⟩:=Qbe h
  exact⟨Qar h1 es' X.env,QiR h2 pos X.env⟩
theorem Qet{X:Cx}{o:Expr}{m:Str}(h:QhX o=true):attributeBase o m X.env (eval o X.env)=eval o X.env:=by
 cases o<;>first | rfl | cases h
theorem Qvu{X:Cx}{o b:Expr}{m:Str}{fo fb f:DE}{apos pos:Pos}(h1:SE X o fo)(h2:SE X b fb)(ht:QhX o=true)(hl:(apos.endLine == pos.line)=true)(hs:starEach [b] X.env=[(false,eval b X.env)])(h:tm1 m fo fb=some f):SE X (.Call (.Attribute o m apos) [b] [] pos) f:=by
 unfold tm1 at h
 by_cases e:m= "split"
 ·rw[if_pos e]at h;cases h;subst e;exact QtN h1 (QcV h2 Qec hs) (Qet ht) hl hs
 rw[if_neg e]at h;clear e
 by_cases e:m= "join"
 ·rw[if_pos e]at h;cases h;subst e;exact Qsj h1 (QcV h2 Qec hs) (Qet ht) hl hs
 rw[if_neg e]at h;clear e
 by_cases e:m= "startswith"
 ·rw[if_pos e]at h;cases h;subst e;exact QwT h1 (QcV h2 Qec hs) (Qet ht) hl hs
 rw[if_neg e]at h;clear e
 by_cases e:m= "count"
 ·rw[if_pos e]at h;cases h;subst e;exact Qub h1 (QcV h2 Qec hs) (Qet ht) hl hs
 rw[if_neg e]at h;cases h
theorem Qwj(ih:Qhu n):∀X Θ e f,QI X Θ->Ql (n+1) Θ e=some f->SE X e f:=by
  intro X Θ e f ok h
  cases e with
  | Name x pos=>
    (conv at h=>lhs;whnf)
    cases q:Θ.slot x with
    | some i=>rw[q]at h;cases h;exact QnP (Qcs ok.toCtxB q)
    | none=>
      rw[q]at h
      dsimp only at h
      split at h
      · rename_i hg
        refine mapR h λi hi=>?_
        obtain⟨g1,g2,g3⟩:=QdK ok.toCtxB hg
        obtain⟨t,hm⟩:=ok.cs x i hi
        cases i with
        | inl i=>exact Qix (v:= .int i) (Qmb g1 hm ⟨t,rfl⟩ g2) (λ_ _=> .int_mk) rfl
        | inr i=>exact Qix (v:= .str i) (Qmb g1 hm ⟨t,rfl⟩ g2) (λ_ _=> .str_mk) rfl
      · cases h
  | Constant c k pos=>
    cases c with
    | int i=>(conv at h=>lhs;whnf);cases h;exact Qix QuA (λ_ _=> .int_mk) rfl
    | bool b=>(conv at h=>lhs;whnf);cases h;exact Qix Qwn (λ_ _=> .Qcw) rfl
    | none=>(conv at h=>lhs;whnf);cases h;exact Qix Qu8 (λ_ _=> .Qf3) rfl
    | str x=>(conv at h=>lhs;whnf);cases h;exact Qix QuW (λ_ _=> .str_mk) rfl
    | _=>exact nomatch (show(none:Option DE)=some _ from h)
  | BinOp a op b pos=>
    (conv at h=>lhs;whnf)
    refine Qe h λfa h1 h=>?_
    refine Qe h λfb h2 h=>?_
    have ha:=ih.E X Θ a fa ok h1
    have hb:=ih.E X Θ b fb ok h2
    cases op with
    | Add=>cases h;exact QvG ha hb
    | Mult=>cases h;exact QvS ha hb
    | Sub=>cases h;exact QhN Qt7 Qo7 ha hb
    | FloorDiv=>cases h;exact QhN Qtn Qu9 ha hb
    | Mod=>cases h;exact QhN Qtg QtY ha hb
    | Pow=>cases h;exact QhN Qsx Qvc ha hb
    | RShift=>cases h;exact QhN QvZ Qvx ha hb
    | _=>cases h
  | UnaryOp op a pos=>
    cases op with
    | USub=>
      (conv at h=>lhs;whnf)
      refine mapR h λfa h1=>?_
      exact QtU (ih.E X Θ a fa ok h1)
    | Not=>
      (conv at h=>lhs;whnf)
      refine mapR h λfa h1=>?_
      exact Quc (ih.E X Θ a fa ok h1)
    | _=>exact nomatch (show(none:Option DE)=some _ from h)
  | BoolOp op es pos=>
    cases op with
    | And=>
      match es,h with
      | [],h=>exact nomatch (show(none:Option DE)=some _ from h)
      | [a],h=>(conv at h=>lhs;whnf);exact Qoy (ih.E X Θ a f ok h)
      | a::b::r,h=>
        (conv at h=>lhs;whnf)
        refine bindR h λfa fb h1 h2=>?_
        exact QuL (ih.E X Θ a fa ok h1) (ih.E X Θ _ fb ok h2)
    | Or=>
      match es,h with
      | [],h=>exact nomatch (show(none:Option DE)=some _ from h)
      | [a],h=>(conv at h=>lhs;whnf);exact Qoy (ih.E X Θ a f ok h)
      | a::b::r,h=>
        (conv at h=>lhs;whnf)
        refine bindR h λfa fb h1 h2=>?_
        exact Qwf (ih.E X Θ a fa ok h1) (ih.E X Θ _ fb ok h2)
  | Compare a ops bs pos=>
    match ops,bs,h with
    | [op],[b],h=>
      (conv at h=>lhs;whnf)
      refine Qe h λfa h1 h=>?_
      refine bindR h λfb g h2 h3=>?_
      obtain⟨r,o1,o2,_⟩:=Qps ok h3
      exact QtO o1 o2 (ih.E X Θ a fa ok h1) (ih.E X Θ b fb ok h2) (Qot h2 op)
    | [],_,h=>exact nomatch (show(none:Option DE)=some _ from h)
    | [_],[],h=>exact nomatch (show(none:Option DE)=some _ from h)
    | [_],_::_::_,h=>exact nomatch (show(none:Option DE)=some _ from h)
    | _::_::_,_,h=>exact nomatch (show(none:Option DE)=some _ from h)
  | IfExp c a b pos=>
    (conv at h=>lhs;whnf)
    refine Qe h λg h1 h=>?_
    refine bindR h λfa fb h2 h3=>?_
    exact QwZ (ih.T X Θ c g ok h1) (ih.E X Θ a fa ok h2) (ih.E X Θ b fb ok h3)
  | Tuple es k pos=>
    (conv at h=>lhs;whnf)
    refine mapR h λfs h1=>?_
    exact Qu3 (ih.A X Θ es fs ok h1)
  | List es pos=>
    (conv at h=>lhs;whnf)
    refine mapR h λfs h1=>?_
    exact Qt0 (ih.A X Θ es fs ok h1)
  | Subscript a b pos=>
    by_cases hb:∃lo hi p2,b= .Slice lo hi none p2
    · obtain⟨lo,hi,p2,rfl⟩:=hb
      (conv at h=>lhs;whnf)
      refine Qe h λfa h1 h=>?_
      refine bindR h λfl fh h2 h3=>?_
      exact QtM (ih.E X Θ a fa ok h1) (ih.O X Θ lo fl ok h2) (ih.O X Θ hi fh ok h3)
    · have h':((Ql n Θ a).bind λfa=>(Ql n Θ b).map λfb=>Qr fa fb)=some f:=by
        cases b<;>first
          | (exact h)
          | (rename_i lo hi st p2;cases lo<;>cases hi<;>cases st<;>first | (exact absurd ⟨_,_,_,rfl⟩ hb) | (exact h))
      refine bindR h' λfa fb h1 h2=>?_
      exact Qux (ih.E X Θ a fa ok h1) (ih.E X Θ b fb ok h2) (Qmu h2)
  | Call fn args kws pos=>
    cases fn with
    | Name x p=>
     cases kws with
     | cons k ks=>exact nomatch (show(none:Option DE)=some _ from h)
     | nil=>
      have h:(if Θ.gl x then(match look x Θ.Γ with | some r=>if r.n<=args.length+r.dfl.length/\args.length<=r.n then(QaY n Θ args).map λfs=>QG r.n r.den (r.dfl.drop (r.dfl.length-(r.n-args.length))) fs else none | none=>match Θ.te (.Call (.Name x p) args [] pos)with | some f=>some f | none=>QjT n Θ x args)else none)=some f:=h
      split at h
      · rename_i hg
        obtain⟨g1,g2,g3⟩:=QdK ok.toCtxB hg
        split at h
        · rename_i r hr
          split at h
          · rename_i hn
            refine mapR h λfs h1=>?_
            obtain⟨k,fa,fd,ps,F1,F2,F3,F4,F5⟩:=ok.fns x r hr
            obtain⟨ds,dvs,b1,b2,b3⟩:=F5 (r.n-args.length) (by omega)
            cases args with
            | nil=>
              cases n with
              | zero=>simp[QaY]at h1
              | succ n=>
                simp only[QaY]at h1
                cases h1
                exact QpS F1 F2 g1 F3 F4 b1 b2 b3 g2
            | cons e es=>
              obtain⟨s1,s2⟩:=callArgs (X:=X) h1 rfl pos
              exact QtI F1 F2 g1 F3 F4 b1 b2 b3 (ih.A X Θ _ fs ok h1) g2 s1 s2
          · cases h
        · split at h
          · rename_i g hg2
            cases h
            exact ok.te _ _ hg2
          · exact ih.B X Θ x args f p pos ok hg h
      · cases h
    | Attribute o m apos=>
      match args,kws,h with
      | [b],[],h=>
        have h:(if QhX o=true/\(apos.endLine == pos.line)=true then(Ql n Θ o).bind λfo=>(Ql n Θ b).bind λfb=>tm1 m fo fb else none)=some f:=by
          cases o<;>exact h
        split at h
        · rename_i hc
          refine Qe h λfo h1 h=>?_
          refine Qe h λfb h2 h=>?_
          exact Qvu (ih.E X Θ o fo ok h1) (ih.E X Θ b fb ok h2) hc.1 hc.2 (Qar h2 [] X.env) h
        · cases h
      | [],[],h=>
        cases o with
        | Name x p=>
            have h:(if m= "bit_length" /\(apos.endLine == pos.line)=true then(Ql n Θ (.Name x p)).map QjR else none)=some f:=h
            split at h
            · rename_i hc
              refine mapR h λfa h1=>?_
              obtain⟨rfl,hl⟩:=hc
              exact Qtk (ih.E X Θ _ fa ok h1) rfl hl
            · cases h
        | _=>exact nomatch (show(none:Option DE)=some _ from h)
      | _::_::_,[],h=>exact nomatch (show(none:Option DE)=some _ from(by cases o<;>exact h))
      | [],_::_,h=>exact nomatch (show(none:Option DE)=some _ from(by cases o<;>exact h))
      | [_],_::_,h=>exact nomatch (show(none:Option DE)=some _ from(by cases o<;>exact h))
      | _::_::_,_::_,h=>exact nomatch (show(none:Option DE)=some _ from(by cases o<;>exact h))
    | _=>exact nomatch (show(none:Option DE)=some _ from h)
  | Attribute o m p=>exact ok.te _ _ h
  | ListComp elt gens scope pos=>
    match gens,h with
    | [⟨tg,iter,ifs,k⟩],h=>
      by_cases hk:k=0
      · subst hk
        (conv at h=>lhs;whnf)
        refine Qe h λt ht h=>?_
        split at h
        · rename_i hc
          simp only[Zg]at hc
          refine Qe h λfi h1 h=>?_
          refine bindR h λft fe h2 h3=>?_
          obtain⟨S,cap,inn⟩:=Qke ok hc.1
          obtain⟨i1,i2⟩:=ih.I X Θ tg iter fi ok h1
          exact QsQ ok.calm S i1 cap (λcl C fp s3 H3=>⟨QjZ (inn cl C fp s3 H3) ht,ih.Ts _ _ ifs ft (inn cl C fp s3 H3) h2,ih.E _ _ elt fe (inn cl C fp s3 H3) h3⟩) i2
        · cases h
      · exfalso
        cases k with
        | ofNat k=>
          cases k with
          | zero=>exact hk rfl
          | succ k=>exact nomatch (show(none:Option DE)=some _ from h)
        | negSucc k=>exact nomatch (show(none:Option DE)=some _ from h)
    | [],h=>exact nomatch (show(none:Option DE)=some _ from h)
    | ⟨_,_,_,.ofNat 0⟩::_::_,h=>exact nomatch (show(none:Option DE)=some _ from h)
    | ⟨_,_,_,.ofNat (k+1)⟩::_::_,h=>exact nomatch (show(none:Option DE)=some _ from h)
    | ⟨_,_,_,.negSucc k⟩::_::_,h=>exact nomatch (show(none:Option DE)=some _ from h)
  | _=>exact nomatch (show(none:Option DE)=some _ from h)
theorem Qu6(ok:QI X Θ)(g1:Gl X x)(sa:SA X [a] (Qc fa Qf))(st:starEach [a] X.env=(false,eval a X.env)::starEach [] X.env)(h:bf1 x fa=some f):SE X (.Call (.Name x p) [a] [] pos) f:=by
 unfold bf1 at h
 by_cases e:x= "len"
 ·rw[if_pos e]at h;cases h;subst e;have hm:=ok.mg "len" (by decide+kernel)
  exact Qgj QoU Qul g1 hm PySem.boot_len sa (by decide) (by decide) st rfl
 rw[if_neg e]at h;clear e
 by_cases e:x= "list"
 ·rw[if_pos e]at h;cases h;subst e;have hm:=ok.mg "list" (by decide+kernel)
  exact Qtf ok.calm g1 hm sa st rfl
 rw[if_neg e]at h;clear e
 by_cases e:x= "min"
 ·rw[if_pos e]at h;cases h;subst e;have hm:=ok.mg "min" (by decide+kernel)
  exact Qgj (Qo1 ok.calm) QrQ g1 hm PyProof.Rows.boot_min sa (by decide) (by decide) st rfl
 rw[if_neg e]at h;clear e
 by_cases e:x= "max"
 ·rw[if_pos e]at h;cases h;subst e;have hm:=ok.mg "max" (by decide+kernel)
  exact Qgj (Qoq ok.calm) Qr8 g1 hm PyProof.Rows.boot_max sa (by decide) (by decide) st rfl
 rw[if_neg e]at h;clear e
 by_cases e:x= "sum"
 ·rw[if_pos e]at h;cases h;subst e;have hm:=ok.mg "sum" (by decide+kernel)
  exact Qgj (Qoi ok.calm) QsV g1 hm PyProof.Rows.boot_sum sa (by decide) (by decide) st rfl
 rw[if_neg e]at h;clear e
 by_cases e:x= "str"
 ·rw[if_pos e]at h;cases h;subst e;have hm:=ok.mg "str" (by decide+kernel)
  exact QvX Qky Quf g1 hm PyProof.Rows.boot_str sa (by decide) (by decide) st rfl
 rw[if_neg e]at h;clear e
 cases h
theorem QuE(ok:QI X Θ)(g1:Gl X x)(sa:SA X [a,b] (Qc fa (Qc fb Qf)))(st:starEach [a,b] X.env=(false,eval a X.env)::starEach [b] X.env)(pl:(backTo pos (starEach [b] X.env)).any (·.1)=false)(h:bf2 x fa fb=some f):SE X (.Call (.Name x p) [a,b] [] pos) f:=by
 unfold bf2 at h
 by_cases e:x= "min"
 ·rw[if_pos e]at h;cases h;subst e;have hm:=ok.mg "min" (by decide+kernel)
  exact Qgj (QoC ok.calm) Qr5 g1 hm PyProof.Rows.boot_min sa (by decide) (by decide) st pl
 rw[if_neg e]at h;clear e
 by_cases e:x= "max"
 ·rw[if_pos e]at h;cases h;subst e;have hm:=ok.mg "max" (by decide+kernel)
  exact Qgj (Qn0 ok.calm) QsY g1 hm PyProof.Rows.boot_max sa (by decide) (by decide) st pl
 rw[if_neg e]at h;clear e
 by_cases e:x= "divmod"
 ·rw[if_pos e]at h;cases h;subst e;have hm:=ok.mg "divmod" (by decide+kernel)
  exact QwI (x:= "divmod") g1 hm sa st pl
 rw[if_neg e]at h;clear e
 cases h
theorem Qwk(ih:Qhu n):∀X Θ x args f p pos,QI X Θ->Θ.gl x=true->QjT (n+1) Θ x args=some f->SE X (.Call (.Name x p) args [] pos) f:=by
 intro X Θ x args f p pos ok hg h
 obtain⟨g1,g2,g3⟩:=QdK ok.toCtxB hg
 match args,h with
 | [],h=>exact nomatch (show(none:Option DE)=some _ from h)
 | [a],h=>
  change(match QgZ Θ x a with | some b=>(Ql n Θ b).map QjV | none=>_)=some f at h
  split at h
  ·rename_i b hr
   refine mapR h λfb h1=>?_
   unfold QgZ at hr
   split at hr
   ·rename_i y p' b' pos'
    split at hr
    ·rename_i hc
     cases hr
     obtain⟨c1,c2,c3,_⟩:=hc
     subst c1
     subst c2
     obtain⟨y1,y2,y3⟩:=QdK ok.toCtxB c3
     exact Qs2 g1 (ok.mg _ (by decide+kernel)) y1 (ok.mg _ (by decide+kernel)) ok.calm (ih.E X Θ b fb ok h1) (Qar h1 [] X.env)
    ·cases hr
   ·cases hr
  change((Ql n Θ a).bind λfa=>bf1 x fa)=some f at h
  refine Qe h λfa h1 h=>?_
  have ha:=ih.E X Θ a fa ok h1
  have st:=Qar h1 [] X.env
  exact Qu6 ok g1 (QcV ha Qec st) st h
 | [a,b],h=>
  change(if x= "isinstance" then(Ql n Θ a).bind λfa=>(match b with | .Name y _=>if Θ.gl y then(Qqg y).map λT=>QeD T fa else none | _=>none)else(Ql n Θ a).bind λfa=>(Ql n Θ b).bind λfb=>bf2 x fa fb)=some f at h
  split at h
  ·rename_i e
   refine Qe h λfa h1 h=>?_
   have ha:=ih.E X Θ a fa ok h1
   split at h
   ·rename_i y p2
    split at h
    ·rename_i hy
     refine mapR h λT hT=>?_
     obtain⟨y1,y2,y3⟩:=QdK ok.toCtxB hy
     clear h
     subst e
     refine Qu2 g1 (ok.mg _ (by decide+kernel)) ha ?_ (Qar h1 _ X.env)
     unfold Qqg at hT
     split at hT
     ·rename_i e;cases hT;subst e
      exact QeW y1 (ok.mg _ (by decide+kernel)) PyProof.Rows.boot_int rfl
     ·split at hT
      ·rename_i e;cases hT;subst e
       exact QeW y1 (ok.mg _ (by decide+kernel)) PyProof.Rows.boot_bool rfl
      ·split at hT
       ·rename_i e;cases hT;subst e
        exact QeW y1 (ok.mg _ (by decide+kernel)) ZbO rfl
       ·split at hT
        ·rename_i e;cases hT;subst e
         exact QeW y1 (ok.mg _ (by decide+kernel)) PyProof.Rows.boot_tuple rfl
        ·split at hT
         ·rename_i e;cases hT;subst e
          exact QeW y1 (ok.mg _ (by decide+kernel)) PyProof.Rows.boot_str rfl
         ·cases hT
    ·cases h
   ·cases h
  ·refine Qe h λfa h1 h=>?_
   refine Qe h λfb h2 h=>?_
   have ha:=ih.E X Θ a fa ok h1
   have hb:=ih.E X Θ b fb ok h2
   have sb:SA X [b] (Qc fb Qf):=QcV hb Qec (Qar h2 [] X.env)
   have sa:SA X [a,b] (Qc fa (Qc fb Qf)):=QcV ha sb (Qar h1 [b] X.env)
   have pl:(backTo pos (starEach [b] X.env)).any (·.1)=false:=by rw[Qar h2 [] X.env];rfl
   exact QuE ok g1 sa (Qar h1 [b] X.env) pl h
 | _::_::_::_,h=>exact nomatch (show(none:Option DE)=some _ from h)
theorem Qwb{n:Nat}(ih:Qhu n):∀X Θ e f,QI X Θ->QaS (n+1) Θ e=some f->ST X e f:=by
 intro X Θ e f ok h
 have dflt:(Ql n Θ e).map QC=some f->(∀whole,isTrue e X.env whole=(do let v ← whole;standAt e.pos;holding [v] (truthy v)))->ST X e f:=λh he=>by
  refine mapR h λfa h1=>?_
  exact Qt3 (ih.E X Θ e fa ok h1) he
 cases e with
 | UnaryOp op a pos=>
  cases op with
  | Not=>
   change(QaS n Θ a).map Qbp=some f at h
   refine mapR h λfa h1=>?_
   exact Qvb (ih.T X Θ a fa ok h1)
  | _=>exact dflt h λ_=>rfl
 | BoolOp op es pos=>
  cases op with
  | And=>
   match es,h with
   | [],h=>exact nomatch (show(none:Option DT)=some _ from h)
   | [a],h=>exact(Qsc (ih.T X Θ a f ok h)).st
   | a::b::r,h=>
    change((QaS n Θ a).bind λfa=>(QaS n Θ (.BoolOp .And (b::r) pos)).map λfb=>QiL fa fb)=some f at h
    refine bindR h λfa fb h1 h2=>?_
    have hb:=ih.T X Θ _ fb ok h2
    exact(Qt4 (ih.T X Θ a fa ok h1) (λH0 A0 wh pins s σ H Q I q=>by have:=hb H0 A0 pins s σ H Q I q;exact this)).st
  | Or=>
   match es,h with
   | [],h=>exact nomatch (show(none:Option DT)=some _ from h)
   | [a],h=>exact(Que (ih.T X Θ a f ok h)).st
   | a::b::r,h=>
    change((QaS n Θ a).bind λfa=>(QaS n Θ (.BoolOp .Or (b::r) pos)).map λfb=>bOr fa fb)=some f at h
    refine bindR h λfa fb h1 h2=>?_
    have hb:=ih.T X Θ _ fb ok h2
    exact(Qw7 (ih.T X Θ a fa ok h1) (λH0 A0 wh pins s σ H Q I q=>by have:=hb H0 A0 pins s σ H Q I q;exact this)).st
 | Compare a ops bs pos=>
  match ops,bs,h with
  | [op],[b],h=>
   change((Ql n Θ a).bind λfa=>(Ql n Θ b).bind λfb=>(QmW op).map λg=>QC (dOp g fa fb))=some f at h
   refine Qe h λfa h1 h=>?_
   refine bindR h λfb g h2 h3=>?_
   obtain⟨r,o1,o2,o3⟩:=Qps ok h3
   exact QuU o1 o2 o3 (ih.E X Θ a fa ok h1) (ih.E X Θ b fb ok h2) (Qot h2 op)
  | [],_,h=>exact nomatch (show(none:Option DT)=some _ from h)
  | [_],[],h=>exact nomatch (show(none:Option DT)=some _ from h)
  | [_],_::_::_,h=>exact nomatch (show(none:Option DT)=some _ from h)
  | _::_::_,_,h=>exact nomatch (show(none:Option DT)=some _ from h)
 | IfExp c a b pos=>exact nomatch (show(none:Option DT)=some _ from h)
 | _=>exact dflt h λ_=>rfl
theorem Qv6(ih:Qhu n):∀X Θ tg e f,QI X Θ->Qfa (n+1) Θ tg e=some f->SI X tg e f/\∀x,foldedSetIterable e X.env x=pure x:=by
 intro X Θ tg e f ok h
 have dflt:(Ql n Θ e).map Qay=some f->SI X tg e f/\∀x,foldedSetIterable e X.env x=pure x:=λh=>by
  obtain⟨fa,h1,rfl⟩:=Zc.mp h
  exact⟨QvR (ih.E X Θ e fa ok h1),QuY h1 X.env⟩
 cases e with
 | Call fn args kws pos=>
  cases fn with
  | Name x p=>
   cases kws with
   | cons k ks=>exact dflt h
   | nil=>
    change @ite _ _ _ _ _=_ at h
    split at h
    ·rename_i hg
     simp only[Zg]at hg
     obtain⟨g1,g2,g3⟩:=QdK ok.toCtxB hg.1
     match args,h with
     | [],h=>exact dflt h
     | [a],h=>
      dsimp only at h
      by_cases er:x= "range"
      ·rw[if_pos er]at h
       obtain⟨fa,h1,rfl⟩:=Zc.mp h
       subst er
       exact⟨QnV g1 (ok.mg _ (by decide+kernel)) (ih.E X Θ a fa ok h1) (Qar h1 [] X.env),λ_=>rfl⟩
      rw[if_neg er]at h
      by_cases ez:x= "enumerate"
      ·rw[if_pos ez]at h
       split at h
       ·rename_i ht
        obtain⟨fa,h1,rfl⟩:=Zc.mp h
        subst ez
        cases tg with
        | Tuple es k tp=>exact⟨QsD g1 (ok.mg _ (by decide+kernel)) (ih.E X Θ a fa ok h1) (Qar h1 [] X.env),λ_=>rfl⟩
        | _=>exact nomatch (show false=true from ht)
       ·cases h
      rw[if_neg ez]at h
      exact dflt h
     | [a,b],h=>
      dsimp only at h
      by_cases ez:x= "zip"
      ·rw[if_pos ez]at h
       split at h
       ·rename_i ht
        obtain⟨fa,fb,h1,h2,rfl⟩:=Qbe h
        subst ez
        cases tg with
        | Tuple es k tp=>exact⟨QvV g1 (ok.mg _ (by decide+kernel)) (ih.E X Θ a fa ok h1) (ih.E X Θ b fb ok h2) (by rw[Qar h1 [b] X.env,Qar h2 [] X.env];rfl) (Qar h2 [] X.env),λ_=>rfl⟩
        | _=>exact nomatch (show false=true from ht)
       ·cases h
      rw[if_neg ez]at h
      exact dflt h
     | [a,b,c],h=>
      dsimp only at h
      by_cases er:x= "range"
      ·rw[if_pos er]at h
       refine Qe h λfa h1 h=>?_
       obtain⟨fb,fc,h2,h3,rfl⟩:=Qbe h
       subst er
       exact⟨QoM g1 (ok.mg _ (by decide+kernel)) (ih.E X Θ a fa ok h1) (ih.E X Θ b fb ok h2) (ih.E X Θ c fc ok h3) (Qar h1 [b,c] X.env) (Qar h2 [c] X.env) (Qar h3 [] X.env),λ_=>rfl⟩
      rw[if_neg er]at h
      exact dflt h
     | _::_::_::_::_,h=>exact dflt h
    ·exact dflt h
  | _=>exact dflt h
 | _=>exact dflt h
theorem Qaw:∀n,Qhu n
 | 0=>⟨λ_ _ _ _ _ h=>(nomatch (show(none:Option DE)=some _ from h)),λ_ _ _ _ _ _ _ _ _ h=>(nomatch (show(none:Option _)=some _ from h)),λ_ _ _ _ _ h=>(nomatch (show(none:Option _)=some _ from h)),λ_ _ _ _ _ h=>(nomatch (show(none:Option _)=some _ from h)),λ_ _ _ _ _ h=>(nomatch (show(none:Option _)=some _ from h)),
  λ_ _ _ _ _ h=>(nomatch (show(none:Option _)=some _ from h)),λ_ _ _ _ _ _ h=>(nomatch (show(none:Option _)=some _ from h))⟩
 | n+1=>by
  have ih:=Qaw n
  refine⟨Qwj ih,Qwk ih,Qwb ih,λX Θ e f ok h=>?_,λX Θ e f ok h=>?_,
   λX Θ e f ok h=>?_,Qv6 ih⟩
  ·match e,h with
   | [],h=>simp only[Qe3]at h;cases h;exact Qrd
   | [c],h=>simp only[Qe3]at h;exact Qrf (ih.T X Θ c f ok h)
   | _::_::_,h=>simp only[Qe3]at h;cases h
  ·match e,h with
   | [],h=>simp only[QaY]at h;cases h;exact Qec
   | e::es,h=>
    simp only[QaY]at h
    refine bindR h λfa fs h1 h2=>?_
    exact QcV (ih.E X Θ e fa ok h1) (ih.A X Θ es fs ok h2) (Qar h1 es X.env)
  ·match e,h with
   | none,h=>simp only[QhO]at h;cases h;exact QtA
   | some e,h=>
    simp only[QhO]at h
    refine mapR h λfa h1=>?_
    exact QsX (ih.E X Θ e fa ok h1)
section
noncomputable def QR:DS:=λ_=>none
theorem Qqz:S1 X st QR:=λH0 A0=>Qqb.mono λE σ H ⟨ρ,hs,F,o,rel,e,q⟩=>by cases e
theorem Qfg:∀{n:Nat}{ρ:En}{o:Out},QaP g fb n ρ=some o->QaP g fb (n+1) ρ=some o
 | 0,_,_,h=>by cases h
 | n+1,ρ,o,h=>by
  unfold QaP at h ⊢
  refine Qe h λb hb h=>?_
  rw[hb]
  cases b with
  | false=>exact h
  | true=>
   rw[if_pos rfl]at h
   refine Qe h λo1 ho h=>?_
   rw[Za,if_pos rfl,ho]
   cases o1 with
   | nx ρ2=>exact Qfg h
   | ct ρ2=>exact Qfg h
   | bk ρ2=>exact h
   | rt d fr=>exact h
theorem Qla(h:QaP g fb n ρ=some o)(hm:n<=m):QaP g fb m ρ=some o:=by
 induction hm with
 | refl=>exact h
 | step _ ih=>exact Qfg ih
open Classical in
noncomputable def Qck(g:DT)(fb:DS):DS:=λρ=>if h:∃n,(QaP g fb n ρ).isSome=true then QaP g fb h.choose ρ else none
theorem Qcu:Qck g fb ρ=some o↔∃n,QaP g fb n ρ=some o:=by
 unfold Qck
 constructor
 ·intro h
  split at h
  ·exact⟨_,h⟩
  ·cases h
 ·rintro⟨n,h⟩
  have hx:∃n,(QaP g fb n ρ).isSome=true:=⟨n,by rw[h];rfl⟩
  rw[dif_pos hx]
  obtain⟨o',ho'⟩:=ZbC.mp hx.choose_spec
  have h1:=Qla h (Nat.le_max_left n hx.choose)
  have h2:=Qla ho' (Nat.le_max_right n hx.choose)
  rw[h1]at h2
  rw[ho',← h2]
theorem Qop(hp:PassesOwn (model X.prog X.w) X.A X.env X.xe)(hc:ST X c gc)(hb:SS X body f):S1 X (.While c body [] pos) (Qck gc f):=λH0 A0 pins s σ H D I h=>by
 obtain⟨ρ,hs,F,o,rel,e,q⟩:=h
 obtain⟨n,hn⟩:=Qcu.mp e
 exact QpV (n:=n) hp hc hb H0 A0 pins s σ H D I ⟨ρ,hs,F,o,rel,hn,q⟩
theorem QnW(g:DT)(fb:DS)(ρ:En):Qck g fb ρ=(g ρ).bind λb=>if b=true then(fb ρ).bind λo=>match o with
  | .nx ρ2=>Qck g fb ρ2
  | .ct ρ2=>Qck g fb ρ2
  | .bk ρ2=>some (.nx ρ2)
  | .rt d fr=>some (.rt d fr)
  else some (.nx ρ):=by
 apply Option.ext
 intro o
 rw[Qcu]
 constructor
 ·rintro⟨n,h⟩
  cases n with
  | zero=>cases h
  | succ n=>
   unfold QaP at h
   refine Qe h λb hb h=>?_
   rw[hb]
   cases b with
   | false=>exact h
   | true=>
    rw[if_pos rfl]at h
    refine Qe h λo1 ho h=>?_
    rw[Za,if_pos rfl,ho]
    cases o1 with
    | nx ρ2=>exact Qcu.mpr ⟨n,h⟩
    | ct ρ2=>exact Qcu.mpr ⟨n,h⟩
    | bk ρ2=>exact h
    | rt d fr=>exact h
 ·intro h
  refine Qe h λb hb h=>?_
  cases b with
  | false=>exact⟨1,by unfold QaP;rw[hb];exact h⟩
  | true=>
   rw[if_pos rfl]at h
   refine Qe h λo1 ho h=>?_
   cases o1 with
   | nx ρ2=>
    obtain⟨n,hn⟩:=Qcu.mp h
    exact⟨n+1,by unfold QaP;rw[hb];rw[Za,if_pos rfl,ho];exact hn⟩
   | ct ρ2=>
    obtain⟨n,hn⟩:=Qcu.mp h
    exact⟨n+1,by unfold QaP;rw[hb];rw[Za,if_pos rfl,ho];exact hn⟩
   | bk ρ2=>exact⟨1,by unfold QaP;rw[hb];rw[Za,if_pos rfl,ho];exact h⟩
   | rt d fr=>exact⟨1,by unfold QaP;rw[hb];rw[Za,if_pos rfl,ho];exact h⟩
noncomputable def Qdt(t:Tg)(fa:DE):DS:=λρ=>(fa ρ).bind λr=>(Qbm t r.d (QbH r.norm.M ρ)).map .nx
theorem QsA(he:SE X e fa)(hg:SG X tg t)(hs:swapsWithSole [tg] e pos.line X.env=pure false)(hw:swappedStores [tg] e X.env=pure none)(h1:(assignEach [tg] X.env).map (·.2)=[assign tg X.env]):
  S1 X (.Assign [tg] e pos) (Qdt t fa):=λH0 A0=>(Qow (he H0 A0) (hg H0 A0) hs hw h1).mono λE σ H=>exK λρ hs F o rel e q=>by
 refine Qe e λr e1 e=>?_
 obtain⟨ρ',e2,rfl⟩:=Zc.mp e
 refine⟨ρ,hs,F,r,rel,e1,λv H' G p=>?_⟩
 have p':=p.norm
 have rp:=p'.rp
 rw[r.Qcl]at rp
 exact⟨QbH r.norm.M ρ,hs,F,r.d,G,ρ',(rel.ext p'.same).weak (Qb1 _ _),rp,Shr.of rel p'.src,e2,λσ' F' rel' _ _=>q _ _ F' rel'⟩
theorem Qsn(hN:X.N.Nodup)(hx1:X.N[i]? =some x)(hx:Loc X.env.scope x)(hf:X.fn x=true∨X.env.scope.names.lookup x=some .local)
  (hcalm:X.calm=true) (S:Qdx X N' scope) (hi:SI X tg iter fi) (hcap:Qj4 X N' scope cap t.slots)
  (hin:∀cl C fp s3 H3,SG (cxc X N' scope cl C fp s3 H3) tg t/\Qkt (cxc X N' scope cl C fp s3 H3) ifs ft/\SE (cxc X N' scope cl C fp s3 H3) elt fe) (hs:∀x,foldedSetIterable iter X.env x=pure x):
  S1 X (.Assign [.Name x pos'] (.ListComp elt [⟨tg,iter,ifs,0⟩] scope pos) spos) (Qv i (Q6 fi t cap ft fe)):=
 Qki λH0 A0=>(Qsl hN hx1 hx hf hcalm S (hi H0 A0) (λcl C fp s3 H3=>⟨(hin cl C fp s3 H3).1 _ _,(hin cl C fp s3 H3).2.1 _ _,(hin cl C fp s3 H3).2.2 _ _⟩) hs).mono λE σ H h=>Qjk hcap h
end
end HS
namespace HS
open PySem PySem.Spec L2 PyProof.Rows
section
variable {X:Cx}{a b e:Expr}{fa fb:DE}{pf:DP}{x:Nat}{pos apos:Pos}
theorem QiP{X:Cx}{H:Hp}{ds:List D}{w:V}{Gm:List Addr}(h:Rp X.K H (.lst ds) w Gm):tyV X.K "list" w H:=by
 obtain⟨l,ws,L,rfl,hl,_⟩:=h.lst_inv
 exact .inl ⟨rfl,ws,QT hl⟩
theorem QO.unit{K:PySem.W.Frag}{ρ:En}{F:Nat->List Addr}{H:Hp}:QO K ρ F H H ⟨.non,true,[]⟩ .non []:= .flat (Qw.refl _) .Qf3
noncomputable def Qau(xs:List α)(k:Nat)(y:α):List α:=xs.take k++y::xs.drop k
noncomputable def QvH:V->List V->Hp->VK->Prop:=λx vs H Q=>∃l xs i y,x= .ref l/\vs=[.int i,y]/\H l=some (.lst xs)/\0<=i/\i<2^62/\xs.length<sizeLine/\Q .non (upd H l (.lst (Qau xs (min i.toNat xs.length) y)))
theorem Qua:MtM X "list.insert" QvH:=by
 intro pins s σ H x vs v us Q I rx rv h
 obtain⟨l,xs,i,y,rfl,rfl,hH,h0,h1,hz,q⟩:=h
 cases rx
 obtain⟨u,w',rfl,⟨t,rfl⟩,rw'⟩:=vals2 rv
 obtain⟨z,its,n,r,hl,e⟩:=I.QmL hH
 have hfit:¬(!Builtin.List.listFitsIndex i)=true:=by
  unfold Builtin.List.listFitsIndex
  simp only[ZY,Bool.and_eq_false_iff,decide_eq_false_iff_not]
  omega
 refine call_meets F.slot_list_insert ⟨_,e,rfl⟩ F.entry_list_insert (F.args_list_insert_3 _ _ _) (AutoSeq1.list_insert_list_int_val_1 l its.toArray n i t w' hfit (by rw[Zw];omega)) ⟨e,?_⟩
 refine⟨.non,_,I.Qqy (its':=Qau its (min i.toNat its.length) w') hH e ?_ ?_ ?_,rfl,q⟩
 ·dsimp only
  rw[if_neg (by omega)]
  apply Array.ext'
  simp[Qau]
  rw[Zai (by simp)]
 ·rw[hl]
  unfold Qau
  exact(r.take _).append (.cons rw' (r.drop _))
 ·unfold Qau
  rw[Zp,Zk,ZW,Zap]
  omega
theorem Rps.Quu{K:PySem.W.Frag}{H:Hp}{d:D}{v:V}(hd:Rp K H d v []):∀{ds:List D}{vs:List V}{F:List Addr}(k:Nat),Rps K H ds vs F->Rps K H (Qau ds k d) (Qau vs k v) F
 | ds,vs,F,0,h=>by
  simp only[Qau,ZbZ,Zbw,ZaR,Rps]
  exact⟨v,vs,[],F,rfl,rfl,hd,h⟩
 | [],vs,F,k+1,h=>by
  simp only[Rps]at h
  obtain⟨rfl,rfl⟩:=h
  simp only[Qau,List.take_nil,List.drop_nil,ZaR,Rps]
  exact⟨v,[],[],[],rfl,rfl,hd,rfl,rfl⟩
 | d'::ds,vs,F,k+1,h=>by
  simp only[Rps]at h
  obtain⟨w,ws,F1,F2,rfl,rfl,r,q⟩:=h
  have ih:=Rps.Quu hd k q
  simp only[Qau,Zbt,List.drop_succ_cons,Zbi,Rps]at ih ⊢
  exact⟨w,_,F1,F2,rfl,rfl,r,ih⟩
theorem Qtb(hd:d.flat=true)(ds:List D)(k:Nat):nls (Qau ds k d)=nls ds:=by
 unfold Qau
 rw[Qa8]
 simp only[nls,Qb0 d hd]
 have:=congrArg nls (Zau k ds)
 rw[Qa8]at this
 omega
noncomputable def Qhm(x:Nat)(pf:DP)(fi fa:DE):DS:=λρ=>match ρ[x]? with
 | some (some (d,true))=>(pf ρ).bind λis=>(fi ρ).bind λri=>(fa ρ).bind λr0=>match Qbr d is,ri.d with
  | some (.lst ds),.int i=>if r0.d.flat=true/\0<=i/\i<2^62/\ds.length<sizeLine then some (.nx (ρ.set x (some (QaW is d (.lst (Qau ds (min i.toNat ds.length) r0.d)),true))))else none
  | _,_=>none
 | _=>none
theorem QqI{fi:DE}{H0:Hp}{A0:List Addr}{E:Ends}{σ:L2.St}{H:Hp}:tS X.K H0 A0 (Qhm x pf fi fa) E σ H->QhZ (tBM X.K "list" QvH (tP X.K H0 A0 x pf) (Qc2 (tV X.K H0 A0 fi) (Qc2 (tV X.K H0 A0 fa) QeC))) E σ H:=exK λρ hs F o rel e q=>by
 unfold Qhm at e
 split at e
 ·rename_i d hx
  refine Qe e λis e2 e=>?_
  refine Qe e λri e3 e=>?_
  refine Qe e λr0 e1 e=>?_
  split at e
  ·rename_i ds i hp hr
   split at e
   ·rename_i hc
    cases e
    refine⟨ρ,hs,F,d,true,is,.lst ds,rel,hx,e2,hp,λv0 w H2 Gm s2 hv0 fo=>⟨QiP fo.rp,ρ,hs,F,ri,rel.ext s2,e3,λvi H3 Gi pi=>⟨ρ,hs,F,r0,(rel.ext s2).ext pi.same,e1,λvn H4 Gn p=>?_⟩⟩⟩
    have rel4:=((rel.ext s2).ext pi.same).ext p.same
    obtain⟨l,vsm,Gp,rfl,g1,g2,g3,g4,g5,g6,g7⟩:=rel4.write .unit rfl Zaj hx (by simp) hv0 ((fo.same pi.same).same p.same)
    have ri':=pi.rp
    rw[hr]at ri'
    have rn:=p.rp
    have z:=rn.Qa7 hc.1
    subst z
    have n1:=g2.length
    rw[ri'.int_inv]
    refine⟨l,vsm,i,vn,rfl,rfl,g1,hc.2.1,hc.2.2.1,by omega,?_⟩
    obtain⟨F',rel'⟩:=g7 (Qau ds (min i.toNat ds.length) r0.d) (Qau vsm (min i.toNat vsm.length) vn) Gp (by rw[← n1];exact Rps.Quu (rn.upd g1 (by simp)) _ (g2.upd g1 g4)) (by unfold Qau;rw[Zp,Zk,ZW,Zap];omega) (by rw[Qtb hc.1,g3]) (λa=>by omega)
    exact q _ _ F' rel'
   ·cases e
  ·cases e
 ·cases e
theorem Rps.erase{K:PySem.W.Frag}{H:Hp}:∀{ds:List D}{vs:List V}{F:List Addr}(k:Nat),QB ds=true->Rps K H ds vs F->Rps K H (ds.eraseIdx k) (vs.eraseIdx k) []
 | [],vs,F,k,_,h=>by
  simp only[Rps]at h
  obtain⟨rfl,rfl⟩:=h
  simp[Rps]
 | d::ds,vs,F,0,hf,h=>by
  have hF:=h.Qa7 hf
  subst hF
  simp only[Rps]at h
  obtain⟨w,ws,F1,F2,rfl,eF,r,q⟩:=h
  have:F2=[]:=(ZbP.mp eF.symm).2
  subst this
  simpa using q
 | d::ds,vs,F,k+1,hf,h=>by
  have hF:=h.Qa7 hf
  subst hF
  simp only[Rps]at h
  obtain⟨w,ws,F1,F2,rfl,eF,r,q⟩:=h
  obtain⟨rfl,rfl⟩:=ZbP.mp eF.symm
  simp only[QB,Zg]at hf
  have ih:=Rps.erase k hf.2 q
  simp only[ZaN,Rps]
  exact⟨w,_,[],[],rfl,rfl,r,ih⟩
theorem QgN:∀(ds:List D) (k:Nat),QB ds=true->QB (ds.eraseIdx k)=true
 | [],_,_=>rfl
 | d::ds,0,h=>by simp only[QB,Zg]at h;exact h.2
 | d::ds,k+1,h=>by
  simp only[QB,Zg]at h
  simp only[ZaN,QB,Zg]
  exact⟨h.1,QgN ds k h.2⟩
noncomputable def QdO(x y:Nat)(fi:DE):DS:=λρ=>match ρ[x]?,ρ[y]? with
 | some (some (.lst xs,true)),some (some (.lst ys,true))=>(fi ρ).bind λri=>match ri.d with
  | .int i=>if x≠y/\QB ys=true/\0<=i/\i<2^62/\xs.length<sizeLine then(ys[i.toNat]?).map λd=> .nx ((ρ.set y (some (.lst (ys.eraseIdx i.toNat),true))).set x (some (.lst (xs++[d]),true)))else none
  | _=>none
 | _,_=>none
theorem QlM{y:Nat}{fi:DE}{H0:Hp}{A0:List Addr}{E:Ends}{σ:L2.St}{H:Hp}:tS X.K H0 A0 (QdO x y fi) E σ H->QhZ (tBM X.K "list" Qi0 (tP X.K H0 A0 x Q1) (Qc2 (tBM X.K "list" QkQ (tP X.K H0 A0 y Q1) (Qc2 (tV X.K H0 A0 fi) QeC)) QeC)) E σ H:=exK λρ hs F o rel e q=>by
 unfold QdO at e
 split at e
 ·rename_i xs ys hx hy
  refine Qe e λri e3 e=>?_
  split at e
  ·rename_i i hr
   split at e
   ·rename_i hc
    obtain⟨hxy,hfl,h0,h1,hz⟩:=hc
    obtain⟨d,hd,rfl⟩:=Zc.mp e
    refine⟨ρ,hs,F,.lst xs,true,[],.lst xs,rel,hx,rfl,rfl,λv0 w H2 Gm s2 hv0 fo=>⟨QiP fo.rp,ρ,hs,F,.lst ys,true,[],.lst ys,rel.ext s2,hy,rfl,rfl,λv1 w1 H3 Gm1 s3 hv1 fo1=>⟨QiP fo1.rp,ρ,hs,F,ri,(rel.ext s2).ext s3,e3,λvi H4 Gi pi=>?_⟩⟩⟩
    have rel4:=((rel.ext s2).ext s3).ext pi.same
    obtain⟨l,vsm,Gp,rfl,g1,g2,g3,g4,g5,g6,g7⟩:=rel4.write .unit rfl Zaj hy (by simp) hv1 (fo1.same pi.same)
    have ri':=pi.rp
    rw[hr]at ri'
    rw[ri'.int_inv]
    have n1:=g2.length
    have hil:i.toNat<ys.length:=(Zd.mp hd).1
    obtain⟨yv,Gy,hyv,ryv,_⟩:=g2.nth hd
    have gz:=ryv.Qa7 (by
     have gen:∀(l:List D) (k:Nat) (d:D),QB l=true->l[k]? =some d->d.flat=true:=by
      intro l
      induction l with
      | nil=>intro k d _ h;simp at h
      | cons a l ih=>
       intro k d hf h
       simp only[QB,Zg]at hf
       cases k with
       | zero=>simp at h;rw[← h];exact hf.1
       | succ k=>exact ih k d hf.2 (by simpa using h)
     exact gen ys _ _ hfl hd)
    subst gz
    refine⟨l,vsm,i,i.toNat,yv,rfl,rfl,g1,by omega,by omega,?_,hyv,?_⟩
    ·unfold seqIndex?
     simp only[if_neg (by omega:¬i<0)]
     rw[if_pos (by simp;omega)]
    obtain⟨F',rel'⟩:=g7 (ys.eraseIdx i.toNat) (vsm.eraseIdx i.toNat) [] (Rps.erase i.toNat hfl (g2.upd g1 g4)) (by rw[List.length_eraseIdx];split<;>omega) (by rw[Qft _ (QgN ys _ hfl)];rfl) (λa=>by simp)
    simp only[QaW,kill]at rel'
    have hx':(ρ.set y (some (.lst (ys.eraseIdx i.toNat),true)))[x]? =some (some (.lst xs,true)):=by rw[Zi (Ne.symm hxy)];exact hx
    obtain⟨v0',hv0',rp0⟩:=rel'.val x _ _ hx'
    rw[hv0]at hv0'
    cases hv0'
    have hw:w=v0:=fo.2.1
    subst hw
    obtain⟨l2,vs2,Gp2,el2,k1,k2,k3,k4,k5,k6,k7⟩:=rel'.write .unit rfl Zaj hx' (by simp) hv0 (is:=[]) ⟨rfl,rfl,rfl,rp0⟩
    cases el2
    refine⟨l2,vs2,yv,rfl,rfl,k1,by rw[← k2.length];exact hz,?_⟩
    have ryv':Rps X.K (upd (upd H4 l (.lst (vsm.eraseIdx i.toNat))) l2 (.lst (vs2++[yv]))) [d] [yv] []:=by
     simp only[Rps]
     exact⟨yv,[],[],[],rfl,rfl,(ryv.upd g1 (by simp)).upd k1 (by simp),rfl,rfl⟩
    have hfd:d.flat=true:=by
     have gen:∀(l:List D) (k:Nat) (d:D),QB l=true->l[k]? =some d->d.flat=true:=by
      intro l
      induction l with
      | nil=>intro k d _ h;simp at h
      | cons a l ih=>
       intro k d hf h
       simp only[QB,Zg]at hf
       cases k with
       | zero=>simp at h;rw[← h];exact hf.1
       | succ k=>exact ih k d hf.2 (by simpa using h)
     exact gen ys _ _ hfl hd
    obtain⟨F'',rel''⟩:=k7 (xs++[d]) (vs2++[yv]) (Gp2++[]) ((k2.upd k1 k4).append ryv') (by rw[Zp,ZaV];omega) (by rw[ZM,Qa8,k3];simp[nls,Qb0 d hfd]) (λa=>by rw[ZM];omega)
    exact q _ _ F'' rel''
   ·cases e
  ·cases e
 ·cases e
end
noncomputable def Qdl:Expr->Bool
 | .ListComp .. =>false
 | .SetComp .. =>false
 | .DictComp .. =>false
 | _=>true
theorem QcX(h:Qdl e=true):swapsWith e t l env=pure false:=by
 cases e<;>first | rfl | cases h
noncomputable def Qpb:Expr->Bool
 | .Tuple .. =>true
 | _=>false
noncomputable def QcK(n:Nat)(Θ:Th)(e:Expr):Option (Nat×DP):=match n with
 | 0=>none
 | n+1=>match e with
  | .Name x _=>(Θ.slot x).map λi=>(i,Q1)
  | .Subscript a b _=>(QcK n Θ a).bind λq=>(Ql n Θ b).map λfb=>(q.1,Qgi q.2 fb)
  | _=>none
theorem Qfw:∀(n:Nat) (X:Cx) (Θ:Th) (e:Expr) (q:Nat×DP),QI X Θ->QcK n Θ e=some q->SPa X e q.1 q.2/\attributeBase e=λ_ env w=>w
 | 0,_,_,_,_,_,h=>(nomatch (show(none:Option _)=some _ from h))
 | n+1,X,Θ,e,q,ok,h=>by
  cases e with
  | Name x pos=>
   change Option.map _ _=_ at h
   obtain⟨i,hi,rfl⟩:=Zc.mp h
   exact⟨Qho (Qcs ok.toCtxB hi),by funext a b c;rfl⟩
  | Subscript a b pos=>
   change Option.bind _ _=_ at h
   obtain⟨q',fb,h1,h2,rfl⟩:=Qbe h
   exact⟨Qtm (Qfw n X Θ a q' ok h1).1 ((Qaw n).E X Θ b fb ok h2) (Qmu h2),by funext a b c;rfl⟩
  | _=>exact nomatch (show(none:Option _)=some _ from h)
noncomputable def QiY:Expr->Bool
 | .Name .. =>true
 | .Subscript _ (.Slice ..) _=>false
 | .Subscript (.Call ..) _ _=>false
 | .Subscript .. =>true
 | _=>false
noncomputable def QqK:Operator->Option (D->D->Option D)
 | .Add=>some (gI λi j=>some (.int (i+j)))
 | .Sub=>some Qdo
 | _=>none
theorem QtW(h:QqK op=some g):∃r,OpR X (inplaceOp op) r/\Qbz X.K g r:=by
 cases op<;>cases h
 ·exact⟨_,QrM,QeH (λi j d e=>by cases e;rfl) λi j d e H Q q=>by cases e;exact⟨i,j,rfl,rfl,q _ λ_=> .int_mk⟩⟩
 ·exact⟨_,QsE,Qo7⟩
noncomputable def Qst:Expr->Bool
 | .Slice .. =>true
 | _=>false
noncomputable def QhU(n:Nat)(Θ:Th)(o:Expr)(m:Str)(args:List Expr):Option DS:=match args with
  | []=>(QcK n Θ o).bind λq=>
    none
  | [e]=>if m= "append" then
     (match o,e with
      | .Name x _,.Call (.Attribute (.Name y _) pm apos) [i] [] cpos=>if pm= "pop" /\(apos.endLine == cpos.line)=true then(Θ.slot x).bind λsx=>(Θ.slot y).bind λsy=>(Ql n Θ i).map λfi=>QdO sx sy fi else none
      | o,e=>(QcK n Θ o).bind λq=>(Ql n Θ e).map λfa=>QdA q.1 q.2 fa)
    else
    none
  | [i,e]=>if m= "insert" then(QcK n Θ o).bind λq=>(Ql n Θ i).bind λfi=>(Ql n Θ e).map λfa=>Qhm q.1 q.2 fi fa else none
  | _=>none
theorem QqR(ok:QI X Θ)(h:QhU n Θ o m args=some f)(hl:(apos.endLine == cpos.line)=true):
  S1 X (.Expr (.Call (.Attribute o m apos) args [] cpos) pos) f:=by
 have base:∀{q:Nat×DP},QcK n Θ o=some q->SPa X o q.1 q.2/\attributeBase o m X.env (eval o X.env)=eval o X.env:=λ{q} h1=>by
  obtain⟨sp,ab⟩:=Qfw n X Θ o _ ok h1
  exact⟨sp,by rw[ab]⟩
 have app:∀{e:Expr}{f:DS},m= "append" ->((QcK n Θ o).bind λq=>(Ql n Θ e).map λfa=>QdA q.1 q.2 fa)=some f->S1 X (.Expr (.Call (.Attribute o m apos) [e] [] cpos) pos) f:=λ{e f} em h=>by
  obtain⟨q,fa,h1,h2,rfl⟩:=Qbe h
  obtain⟨sp,hb⟩:=base h1
  subst em
  have he:=(Qaw n).E X Θ e fa ok h2
  have st:=Qar h2 [] X.env
  have sa:∀H0 A0,PA X [e] (Qc2 (tV X.K H0 A0 fa) QeC):=λH0 A0=>Qan (he H0 A0) QbW st
  exact λH0 A0=>(Qgx (QgB ZaC ZbE ZbF QfU (sp H0 A0) (sa H0 A0) hb (by rw[st];rfl) hl st rfl) rfl).mono λE σ H q=>Qqv q
 match args,h with
 | [],h=>
  unfold QhU at h
  dsimp only at h
  obtain⟨⟨x,pf⟩,h1,h⟩:=bind1 h
  obtain⟨sp,hb⟩:=base h1
  cases h
 | [e],h=>
  unfold QhU at h
  dsimp only at h
  by_cases em:m= "append"
  ·rw[if_pos em]at h
   split at h
   ·rename_i x p y p' pm apos' i cpos' hz
    split at h
    ·rename_i hc
     refine Qe h λsx h1 h=>?_
     obtain⟨sy,fi,h2,h3,rfl⟩:=Qbe h
     obtain⟨rfl,hl2⟩:=hc
     subst em
     have spx:=Qho (Qcs ok.toCtxB h1 (pos:=p))
     have spy:=Qho (Qcs ok.toCtxB h2 (pos:=p'))
     have hi:=(Qaw n).E X Θ i fi ok h3
     have st:=Qar h3 [] X.env
     have sa:∀H0 A0,PA X [i] (Qc2 (tV X.K H0 A0 fi) QeC):=λH0 A0=>Qan (hi H0 A0) QbW st
     have pop:∀H0 A0,PE X (.Call (.Attribute (.Name y p') "pop" apos') [i] [] cpos') (tBM X.K "list" QkQ (tP X.K H0 A0 sy Q1) (Qc2 (tV X.K H0 A0 fi) QeC)):=λH0 A0=>
      QgB ZaC PySem.F.slot_list_pop PySem.F.type_list_pop Qqp (spy H0 A0) (sa H0 A0) rfl (by rw[st];rfl) hl2 st rfl
     exact λH0 A0=>(Qgx (QgB ZaC ZbE ZbF QfU (spx H0 A0) (Qan (pop H0 A0) QbW rfl) rfl rfl hl rfl rfl) rfl).mono λE σ H q=>QlM q
    ·cases h
   ·exact app em h
  rw[if_neg em]at h
  clear em
  clear app
  cases h
 | [i,e],h=>
  change(if m= "insert" then(QcK n Θ o).bind λq=>(Ql n Θ i).bind λfi=>(Ql n Θ e).map λfa=>Qhm q.1 q.2 fi fa else none)=some f at h
  split at h
  ·rename_i em
   refine Qe h λq h1 h=>?_
   obtain⟨fi,fa,h2,h3,rfl⟩:=Qbe h
   obtain⟨sp,hb⟩:=base h1
   subst em
   have hi:=(Qaw n).E X Θ i fi ok h2
   have he:=(Qaw n).E X Θ e fa ok h3
   have st2:=Qar h3 [] X.env
   have st:=Qar h2 [e] X.env
   have sa:∀H0 A0,PA X [i,e] (Qc2 (tV X.K H0 A0 fi) (Qc2 (tV X.K H0 A0 fa) QeC)):=λH0 A0=>Qan (hi H0 A0) (Qan (he H0 A0) QbW st2) st
   exact λH0 A0=>(Qgx (QgB ZaC PySem.F.slot_list_insert PySem.F.type_list_insert Qua (sp H0 A0) (sa H0 A0) hb (by rw[st,st2];rfl) hl st (by rw[st2];rfl)) rfl).mono λE σ H q=>QqI q
  ·cases h
 | _::_::_::_,h=>exact nomatch (show(none:Option DS)=some _ from h)
end HS
namespace HS
open PySem PySem.Spec L2
end HS
namespace HS
open PySem PySem.Spec L2 PyProof.Rows
section
variable {K:PySem.W.Frag}{H0 H H':Hp}{A0:List Addr}{hs:List (V×D×List Addr)}{ρ:En}{F:Nat->List Addr}{σ:L2.St}{x i j:Nat}{ds es:List D}{a:Addr}{vs:List V}{v vn:V}{dn:D}
end
end HS
namespace HS
open PySem PySem.Spec L2 PyProof.Rows
mutual
noncomputable def QhS(n:Nat)(Θ:Th)(st:Stmt):Option DS:=match n with
 | 0=>none
 | n+1=>match st with
  | .Pass _=>some Qo
  | .Break _=>some Qp0
  | .Continue _=>some QpP
  | .Raise _ _ _=>some QR
  | .Return (some e) _=>(Ql n Θ e).map Qai
  | .Expr (.Constant (.str _) _ _) _=>some Qo
  | .Expr (.Call (.Attribute o m apos) args [] cpos) _=>if(apos.endLine == cpos.line)=true then QhU n Θ o m args else none
  | .Expr (.Call (.Name x p) args [] cpos) _=>(Ql n Θ (.Call (.Name x p) args [] cpos)).map Qdr
  | .Assign [.Name x _] e _=>(Θ.QcL x).bind λi=>(Ql n Θ e).map λfa=>Qv i (if QiY e=true then Qbx fa else fa)
  | .Assign [.Tuple es k p] e _=>if Qdl e=true/\Qpb e=false then(QfZ Θ (.Tuple es k p)).bind λt=>(Ql n Θ e).map λfa=>Qdt t fa else none
  | .Assign [.Subscript a i _] e _=>(QcK n Θ a).bind λq=>(Ql n Θ i).bind λfi=>(Ql n Θ e).map λfa=>Qce q.1 q.2 fi fa
  | .AugAssign (.Subscript a i _) op e _=>(QcK n Θ a).bind λq=>(Ql n Θ i).bind λfi=>(QqK op).bind λg=>(Ql n Θ e).map λfa=>Qdg g q.1 q.2 fi fa
  | .If c a b _=>(QaS n Θ c).bind λg=>(Qaa n Θ a).bind λf1=>(Qaa n Θ b).map λf2=>sIf g f1 f2
  | .For tg iter body [] _=>(QfZ Θ tg).bind λt=>(Qfa n Θ tg iter).bind λfi=>(Qaa n Θ body).map λfb=>Qa3 fi t fb
  | .While c body [] _=>(QaS n Θ c).bind λg=>(Qaa n Θ body).map λfb=>Qck g fb
  | .Try a b c d p=>Θ.tr (.Try a b c d p)
  | _=>none
noncomputable def Qaa(n:Nat)(Θ:Th)(sts:List Stmt):Option DS:=match n with
  | 0=>none
  | n+1=>match sts with
    | []=>some Qo
    | st::r=>
     match Θ.tr st with
     | some f=>(Qaa n Θ r).map λg=>Qd f g
     | none=>
       (QhS n Θ st).bind λf=>(Qaa n Θ r).map λg=>Qd f g
end
theorem Qmw(h:Ql n Θ e=some f):Qst e=false:=by
 cases n with
 | zero=>exact nomatch (show(none:Option DE)=some _ from h)
 | succ n=>cases e<;>first | rfl | (exact nomatch (show(none:Option DE)=some _ from h))
theorem QsR(h:Ql n Θ (.ListComp elt gens scope pos)=some f):∃m tg iter ifs t fi ft fe,n=m+1/\gens=[⟨tg,iter,ifs,0⟩]/\QfZ (inner Θ scope) tg=some t/\Qig Θ scope t=true∧
  Qfa m Θ tg iter=some fi/\Qe3 m (inner Θ scope) ifs=some ft/\Ql m (inner Θ scope) elt=some fe/\f=Q6 fi t (Qge Θ scope) ft fe:=by
 cases n with
 | zero=>exact nomatch (show(none:Option DE)=some _ from h)
 | succ n=>
  match gens,h with
  | [⟨tg,iter,ifs,k⟩],h=>
   by_cases hk:k=0
   ·subst hk
    (conv at h=>lhs;whnf)
    refine Qe h λt ht h=>?_
    split at h
    ·rename_i hc
     simp only[Zg]at hc
     refine Qe h λfi h1 h=>?_
     obtain⟨ft,fe,h2,h3,rfl⟩:=Qbe h
     exact⟨n,tg,iter,ifs,t,fi,ft,fe,rfl,rfl,ht,hc.1,h1,h2,h3,rfl⟩
    ·cases h
   ·exfalso
    cases k with
    | ofNat k=>
     cases k with
     | zero=>exact hk rfl
     | succ k=>exact nomatch (show(none:Option DE)=some _ from h)
    | negSucc k=>exact nomatch (show(none:Option DE)=some _ from h)
  | [],h=>exact nomatch (show(none:Option DE)=some _ from h)
  | ⟨_,_,_,.ofNat 0⟩::_::_,h=>exact nomatch (show(none:Option DE)=some _ from h)
  | ⟨_,_,_,.ofNat (k+1)⟩::_::_,h=>exact nomatch (show(none:Option DE)=some _ from h)
  | ⟨_,_,_,.negSucc k⟩::_::_,h=>exact nomatch (show(none:Option DE)=some _ from h)
theorem Qs5(ok:QI X Θ)(hx:Θ.QcL x=some i)(h:Ql n Θ e=some fa):S1 X (.Assign [.Name x p] e pos) (Qv i fa):=by
 have hN:X.N.Nodup:=by rw[ok.N];exact ok.nd
 obtain⟨h1,h2,h3⟩:=Qdp ok.toCtxB hx
 by_cases hc:Qdl e=true
 ·have he:=(Qaw n).E X Θ e fa ok h
  exact Qki λH0 A0=>Qf7 hN h1 h2 (he H0 A0) (QcX hc) h3
 ·cases e with
  | ListComp elt gens scope cpos=>
   obtain⟨m,tg,iter,ifs,t,fi,ft,fe,rfl,rfl,ht,hco,g1,g2,g3,rfl⟩:=QsR h
   obtain⟨S,cap,inn⟩:=Qke ok hco
   obtain⟨i1,i2⟩:=(Qaw m).I X Θ tg iter fi ok g1
   exact Qsn hN h1 h2 h3 ok.calm S i1 cap (λcl C fp s3 H3=>⟨QjZ (inn cl C fp s3 H3) ht,(Qaw m).Ts _ _ ifs ft (inn cl C fp s3 H3) g2,(Qaw m).E _ _ elt fe (inn cl C fp s3 H3) g3⟩) i2
  | SetComp _ _ _ _=>cases n<;>exact nomatch (show(none:Option DE)=some _ from h)
  | DictComp _ _ _ _ _=>cases n<;>exact nomatch (show(none:Option DE)=some _ from h)
  | _=>exact absurd rfl hc
theorem QpA(ok:QI X Θ)(hx:Θ.QcL x=some i)(h:Ql n Θ e=some fa)(ha:QiY e=true):S1 X (.Assign [.Name x p] e pos) (Qv i (Qbx fa)):=by
 have hN:X.N.Nodup:=by rw[ok.N];exact ok.nd
 obtain⟨h1,h2,h3⟩:=Qdp ok.toCtxB hx
 have hc:Qdl e=true:=by cases e<;>first | rfl | cases ha
 have he:=QpT ((Qaw n).E X Θ e fa ok h)
 exact Qki λH0 A0=>Qf7 hN h1 h2 (he H0 A0) (QcX hc) h3
theorem QnM:swapsWithSole [.Subscript a i p] e l env=pure false:=by
 cases e<;>rfl
structure QtP (n:Nat):Prop where
 S:∀X Θ st f,QI X Θ->QhS n Θ st=some f->S1 X st f
 Ss:∀X Θ sts f,QI X Θ->Qaa n Θ sts=some f->SS X sts f
theorem Qt9(ih:QtP n):∀X Θ st f,QI X Θ->QhS (n+1) Θ st=some f->S1 X st f:=by
 intro X Θ st f ok h
 have hN:X.N.Nodup:=by rw[ok.N];exact ok.nd
 have E:=Qaw n
 cases st with
 | Pass pos=>change some Qo=some f at h;cases h;exact QrW
 | Break pos=>change some Qp0=some f at h;cases h;exact QpN
 | Continue pos=>change some QpP=some f at h;cases h;exact Qs9
 | Raise a b pos=>change some QR=some f at h;cases h;exact Qqz
 | Return e pos=>
  cases e with
  | none=>exact nomatch (show(none:Option DS)=some _ from h)
  | some e=>
   change(Ql n Θ e).map Qai=some f at h
   obtain⟨fa,h1,rfl⟩:=Zc.mp h
   exact QvK (E.E X Θ e fa ok h1)
 | Expr e pos=>
  cases e with
  | Constant c k p=>
   cases c with
   | str x=>
    change some Qo=some f at h
    cases h
    exact λH0 A0=>QuC.mono λE σ H ⟨ρ,hs,F,o,rel,e,q⟩=>by cases e;exact q σ H F rel
   | _=>exact nomatch (show(none:Option DS)=some _ from h)
  | Call fn args kws cpos=>
   cases fn with
   | Attribute o m apos=>
    cases kws with
    | nil=>
     change(if(apos.endLine == cpos.line)=true then QhU n Θ o m args else none)=some f at h
     split at h
     ·rename_i hl
      exact QqR ok h hl
     ·cases h
    | cons _ _=>exact nomatch (show(none:Option DS)=some _ from h)
   | Name x p=>
    cases kws with
    | nil=>
     change(Ql n Θ (.Call (.Name x p) args [] cpos)).map Qdr=some f at h
     obtain⟨fa,h1,rfl⟩:=Zc.mp h
     exact λH0 A0=>Qr9 (Qgx (E.E X Θ _ fa ok h1 H0 A0) rfl)
    | cons _ _=>exact nomatch (show(none:Option DS)=some _ from h)
   | _=>exact nomatch (show(none:Option DS)=some _ from h)
  | _=>exact nomatch (show(none:Option DS)=some _ from h)
 | Assign ts e pos=>
  match ts,h with
  | [t],h=>
   cases t with
   | Name x p=>
    change((Θ.QcL x).bind λi=>(Ql n Θ e).map λfa=>Qv i (if QiY e=true then Qbx fa else fa))=some f at h
    obtain⟨i,fa,h1,h2,rfl⟩:=Qbe h
    split
    ·rename_i ha;exact QpA ok h1 h2 ha
    ·exact Qs5 ok h1 h2
   | Tuple es k p=>
    change(if Qdl e=true/\Qpb e=false then(QfZ Θ (.Tuple es k p)).bind λt=>(Ql n Θ e).map λfa=>Qdt t fa else none)=some f at h
    split at h
    ·rename_i hc
     obtain⟨t,fa,h1,h2,rfl⟩:=Qbe h
     refine QsA (E.E X Θ e fa ok h2) (QjZ ok h1) (by show swapsWith e (some (.Tuple es k p)) pos.line X.env=pure false;exact QcX hc.1) ?_ rfl
     cases e<;>first | rfl | (cases hc.2)
    ·cases h
   | Subscript a i p=>
    change((QcK n Θ a).bind λq=>(Ql n Θ i).bind λfi=>(Ql n Θ e).map λfa=>Qce q.1 q.2 fi fa)=some f at h
    refine Qe h λq h1 h=>?_
    obtain⟨fi,fa,h2,h3,rfl⟩:=Qbe h
    obtain⟨sp,_⟩:=Qfw n X Θ a q ok h1
    have ns:=Qmw h2
    refine Qug (E.E X Θ e fa ok h3) sp (E.E X Θ i fi ok h2) λte to ti he ho hi=>Qow he (QuJ ho hi set_list ?_) QnM ?_ rfl
    ·intro v;cases i<;>first | rfl | (cases ns)
    ·cases e<;>rfl
   | _=>exact nomatch (show(none:Option DS)=some _ from h)
  | [],h=>exact nomatch (show(none:Option DS)=some _ from h)
  | t::_::_,h=>cases t<;>exact nomatch (show(none:Option DS)=some _ from h)
 | AugAssign t op e pos=>
  cases t with
  | Subscript a i p=>
   change((QcK n Θ a).bind λq=>(Ql n Θ i).bind λfi=>(QqK op).bind λg=>(Ql n Θ e).map λfa=>Qdg g q.1 q.2 fi fa)=some f at h
   refine Qe h λq h1 h=>?_
   refine Qe h λfi h2 h=>?_
   obtain⟨g,fa,h3,h4,rfl⟩:=Qbe h
   obtain⟨r,o1,o2⟩:=QtW (X:=X) h3
   obtain⟨sp,_⟩:=Qfw n X Θ a q ok h1
   have ns:=Qmw h2
   exact Qr0 o1 o2 (E.E X Θ e fa ok h4) sp (E.E X Θ i fi ok h2) λov iv new=>by cases i<;>first | rfl | (cases ns)
  | _=>exact nomatch (show(none:Option DS)=some _ from h)
 | If c a b pos=>
  change((QaS n Θ c).bind λg=>(Qaa n Θ a).bind λf1=>(Qaa n Θ b).map λf2=>sIf g f1 f2)=some f at h
  refine Qe h λg h1 h=>?_
  obtain⟨f1,f2,h2,h3,rfl⟩:=Qbe h
  exact Qw9 (E.T X Θ c g ok h1) (ih.Ss X Θ a f1 ok h2) (ih.Ss X Θ b f2 ok h3)
 | For tg iter body els pos=>
  cases els with
  | nil=>
   change((QfZ Θ tg).bind λt=>(Qfa n Θ tg iter).bind λfi=>(Qaa n Θ body).map λfb=>Qa3 fi t fb)=some f at h
   refine Qe h λt h1 h=>?_
   obtain⟨fi,fb,h2,h3,rfl⟩:=Qbe h
   obtain⟨i1,i2⟩:=E.I X Θ tg iter fi ok h2
   exact QvY ok.pass ok.calm i1 (QjZ ok h1) (ih.Ss X Θ body fb ok h3) i2
  | cons _ _=>exact nomatch (show(none:Option DS)=some _ from h)
 | While c body els pos=>
  cases els with
  | nil=>
   change((QaS n Θ c).bind λg=>(Qaa n Θ body).map λfb=>Qck g fb)=some f at h
   obtain⟨g,fb,h1,h2,rfl⟩:=Qbe h
   exact Qop ok.pass (E.T X Θ c g ok h1) (ih.Ss X Θ body fb ok h2)
  | cons _ _=>exact nomatch (show(none:Option DS)=some _ from h)
 | Try a b c d pos=>exact ok.tr _ _ h
 | _=>exact nomatch (show(none:Option DS)=some _ from h)
theorem Qj0:∀n,QtP n
 | 0=>⟨λ_ _ _ _ _ h=>(nomatch (show(none:Option DS)=some _ from h)),λ_ _ _ _ _ h=>(nomatch (show(none:Option DS)=some _ from h))⟩
 | n+1=>by
  have ih:=Qj0 n
  refine⟨Qt9 ih,λX Θ sts f ok h=>?_⟩
  match sts,h with
  | [],h=>change some Qo=some f at h;cases h;exact QuS
  | st::r,h=>
   change(match Θ.tr st with
    | some f=>(Qaa n Θ r).map λg=>Qd f g
    | none=>_)=some f at h
   split at h
   ·rename_i f0 hf0
    exact mapR (M:=λf=>SS X (st::r) f) h λg hg=>Qmd (ok.tr st f0 hf0) (ih.Ss X Θ r g ok hg)
   change((QhS n Θ st).bind λf=>(Qaa n Θ r).map λg=>Qd f g)=some f at h
   obtain⟨fs,fr,h1,h2,rfl⟩:=Qbe h
   exact Qmd (ih.S X Θ st fs ok h1) (ih.Ss X Θ r fr ok h2)
noncomputable def Qvy(n:Nat)(Θ:Th)(st:Stmt):Option DS:=match Θ.tr st with
 | some f=>some f
 | none=>QhS n Θ st
noncomputable def Qao(k:Nat)(ds:List D):En:=ds.map (λd=>some (d,d.flat))++List.replicate (k-ds.length) none
noncomputable def outD:Out->Option (D×Bool)
 | .rt d fr=>some (d,fr)
 | .nx _=>some (.non,true)
 | _=>none
noncomputable def Qx(k:Nat)(f:DS):Den:=λds=>(f (Qao k ds)).bind outD
theorem Rps.parts{K:PySem.W.Frag}{H:Hp}:∀{ds:List D}{vs:List V}{F:List Addr},Rps K H ds vs F→
  ∃Fs:List (List Addr),(∀L∈Fs,∀a∈L,a∈F)/\∀(i:Nat) (d:D),ds[i]? =some d->∃v,vs[i]? =some v/\Rp K H d v (Fs.getD i [])
 | [],_,_,h=>⟨[],λL hL=>by simp at hL,λi d e=>by simp at e⟩
 | d::ds,_,_,h=>by
  simp only[Rps]at h
  obtain⟨v,ws,F1,F2,rfl,rfl,r,q⟩:=h
  obtain⟨Fs,h1,h2⟩:=Rps.parts q
  refine⟨F1::Fs,λL hL a ha=>?_,λi d' e=>?_⟩
  ·rcases Zo.mp hL with rfl | hL
   ·exact Zh _ ha
   ·exact Ze _ (h1 L hL a ha)
  ·cases i with
   | zero=>simp at e;subst e;exact⟨v,by simp,by simpa using r⟩
   | succ i=>obtain⟨w,hw,hr⟩:=h2 i d' (by simpa using e);exact⟨w,by simpa using hw,by simpa using hr⟩
theorem QeN{k:Nat}{ds:List D}{i:Nat}{d:D}{b:Bool}(h:(Qao k ds)[i]? =some (some (d,b))):ds[i]? =some d/\b=d.flat:=by
 unfold Qao at h
 by_cases hi:i<ds.length
 ·rw[ZT (by simpa using hi),Zv]at h
  cases e:ds[i]? with
  | none=>rw[e]at h;cases h
  | some a=>rw[e]at h;cases h;exact⟨rfl,rfl⟩
 ·rw[Zaw (by simpa using hi),ZbH]at h
  split at h<;>cases h
theorem Qjf{K:PySem.W.Frag}{H:Hp}{ds:List D}{vs:List V}{F:List Addr}{N:List Str}(r:Rps K H ds vs F):∃F0,Rel K H F [] (Qao N.length ds) F0 (start N vs) H:=by
 obtain⟨Fs,h1,h2⟩:=r.parts
 have hl:=r.length
 have src:∀i a,a∈Fs.getD i []->a∈F:=λi a ha=>by
  by_cases hi:i<Fs.length
  ·have:Fs.getD i []∈Fs:=by rw[ZH,Zs hi];exact Zba hi
   exact h1 _ this a ha
  ·rw[ZH,Zy (by omega)]at ha;simp at ha
 refine⟨λi=>Fs.getD i [],?_,λi d b e=>?_,λi d e=>?_,λi d b e a ha=> .inr (src i a ha),λt ht=>absurd ht (by simp),Qw.refl _⟩
 ·unfold Qao L2.start;simp[hl]
 ·obtain⟨e1,_⟩:=QeN e
  obtain⟨v,hv,hr⟩:=h2 i d e1
  refine⟨v,?_,hr⟩
  have hi:i<vs.length:=(Zd.mp hv).1
  unfold L2.start
  rw[ZT (by simpa using hi),Zv,hv];rfl
 ·obtain⟨e1,e2⟩:=QeN e
  obtain⟨v,hv,hr⟩:=h2 i d e1
  have z:Fs.getD i []=[]:=hr.Qa7 e2.symm
  simp only[z]
  exact⟨(Qb0 d e2.symm).symm,Zaj,λa ha=>by simp at ha,λ_ _ _ _ _ a ha=>by simp at ha,λ_ _ a ha=>by simp at ha⟩
section
variable (P:Program) (w:World) (K:PySem.W.Frag) (mg:Str->Option Value) (base:Heap)
def Known(k:Nat)(x:Str)(r:FnR):Prop:=∃f fd ps,Qab P w K mg base CX0 k f fd ps (spV K r.n r.den)/\mg x=some (.ref f)/\PySem.W.keepIn K (.ref f)=true∧
 ∀m,m<=r.dfl.length->∃ds dvs,Binds K fd ps ds/\Qt dvs ds/\∀H,Rps K H (r.dfl.drop (r.dfl.length-m)) dvs []
def QaG(k:Nat)(Γ:List (Str×FnR)):Prop:=∀x r,look x Γ=some r->Known P w K mg base k x r
structure Qc0 (cs:List (Str×Cn)):Prop where
 bn:∀x∈QkY,mg x=none
 cs:∀x i,look x cs=some i->∃t,mg x=some (cnV i t)
end
section
variable {P:Program}{w:World}{K:PySem.W.Frag}{mg:Str->Option Value}{base:Heap}
theorem QaG.nil{k:Nat}:QaG P w K mg base k []:=λx r h=>by cases h
theorem Known.mono{j k:Nat}{x:Str}{r:FnR}(h:Known P w K mg base j x r)(hk:j<=k):Known P w K mg base k x r:=by
 obtain⟨f,fd,ps,h1,h2⟩:=h
 exact⟨f,fd,ps,h1.mono hk,h2⟩
theorem QaG.cons{k:Nat}{Γ:List (Str×FnR)}{x:Str}{r:FnR}(t:QaG P w K mg base k Γ)(h:Known P w K mg base (k+1) x r):QaG P w K mg base (k+1) ((x,r)::Γ):=λy q e=>by
 unfold look at e
 split at e
 ·rename_i z;cases e;subst z;exact h
 ·exact(t y q e).mono (ZaB _)
noncomputable def namesOf(sc:Scope):List Str:=(sc.names.filter λy=>Qrs y.2).map (·.1)
noncomputable def Qej(st:Stmt)(Γ:List (Str×FnR))(cs:List (Str×Cn)):Th:=⟨namesOf (Qh st),(Qh st).names,Γ,cs,λ_=>none,λ_=>none⟩
theorem QsS{CX:CXT}{xe:Value->Shared->Prop}{st:Stmt}{ps:List Str}{qual:Str}{f:Addr}{cdv:Value}{A:Around}{outer:List Env}{s:Shared}{H:Hp}{E:XK}{k:Nat}{Γ:List (Str×FnR)}{cs:List (Str×Cn)}(S:QaZ (namesOf (Qh st)) ps (Qh st))(M:Qc0 mg cs)(tab:QaG P w K mg base k Γ)
  (hr:QZ k (A.deeper (envOfC qual (Qh st) s.heap.objs.size f cdv))) (hp:PassesOwn (model P w) (A.deeper (envOfC qual (Qh st) s.heap.objs.size f cdv)) (envOfC qual (Qh st) s.heap.objs.size f cdv) xe):
  QI ((QdW CX P w K mg base (namesOf (Qh st)) qual (Qh st) f cdv A outer s H E).Qdj xe) (Qej st Γ cs) where
 N:=rfl
 nd:=S.nd
 lc:=λx h=>by rw[Qbh]at h;exact h
 ce:=λx h=>by rw[Qbh]at h;exact⟨h,rfl⟩
 fe:=λx h=>by rw[Qbh]at h;exact absurd rfl (S.nofree _ (Zal h))
 gl:=λx h=>by rw[Qbh]at h;exact h
 calm:=decide_eq_true hr.hd
 pass:=hp
 tr:=λ_ _ h=>by cases h
 te:=λ_ _ h=>by cases h
 units:=hr.units
 mg:=M.bn
 fns:=λx r h=>by
  obtain⟨f',fd,ps',h1,h2,h3,h4⟩:=tab x r h
  exact⟨k,f',fd,ps',h1,hr,h2,h3,h4⟩
 cs:=M.cs
theorem QkS{st:Stmt}{ps:List Str}{qual:Str}{f:Addr}{cdv:Value}{A:Around}{outer:List Env}{s:Shared}{H:Hp}{E:XK}{k:Nat}{Γ:List (Str×FnR)}{cs:List (Str×Cn)}(S:QaZ (namesOf (Qh st)) ps (Qh st))(M:Qc0 mg cs)(tab:QaG P w K mg base k Γ)
  (hr:QZ k (A.deeper (envOfC qual (Qh st) s.heap.objs.size f cdv))):QI (QdW CX0 P w K mg base (namesOf (Qh st)) qual (Qh st) f cdv A outer s H E).nox (Qej st Γ cs):=QsS S M tab hr PassesOwn.never
theorem QvP{x qual:Str}{st:Stmt}{f:Addr}{fd:FuncData}{ps:List Str}{k n:Nat}{Γ:List (Str×FnR)}{cs:List (Str×Cn)}{g:DS}(F:Fun K x qual st f fd)(S:QaZ (namesOf (Qh st)) ps (Qh st))(M:Qc0 mg cs)(tab:QaG P w K mg base k Γ)
  (hc:Qaa n (Qej st Γ cs) (Qah st)=some g):Qab P w K mg base CX0 (k+1) f fd ps (spV K ps.length (Qx (namesOf (Qh st)).length g)):=by
 refine F.ok S (QmC rfl) λcdv A outer s H vs Q E hr h=>?_
 obtain⟨ds,L,d,fr,rps,hl,hd,q⟩:=h
 refine⟨_,(Qj0 n).Ss _ _ _ g (QkS S M tab hr) hc H L,?_⟩
 obtain⟨F0,rel⟩:=Qjf (N:=namesOf (Qh st)) rps
 unfold Qx at hd
 refine Qe hd λo ho hd=>?_
 refine⟨_,[],F0,o,rel,ho,?_⟩
 cases o with
 | nx ρ=>
  cases hd
  exact λσ H' F' rel'=>q .non H' [] ⟨rel'.same,.Qf3,λa ha=>by simp at ha,λ_=>⟨Zaj,rfl,λa ha=>by simp at ha⟩⟩
 | bk ρ=>cases hd
 | ct ρ=>cases hd
 | rt d' fr'=>
  cases hd
  exact λv H' G r=>q v H' G r
structure Fact (K:PySem.W.Frag) (x:Str) (st:Stmt):Prop where
 ex:∃f fd,Fun K x x st f fd/\PySem.W.nsIn K mainGlobals x=some (some (.ref f))
theorem fact_mk{x:Str}{st:Stmt}{f:Addr}{oc:Value}{od an:Option Addr}{osl:Array (Option Value)}{kV doc pm cdv ct:Value}(a:PySem.W.nsIn K mainGlobals x=some (some (.ref f)))(l:K.lookup f=some ⟨oc,od,.func (PySem.W.fnOf x x (QcQ st) (Qah st) (Qh st) .none kV doc pm an cdv ct),osl⟩)
  (c:PySem.W.codeIn K cdv x=true) (k:PySem.W.keepIn K (.ref f)=true):Fact K x st:=⟨f,_,Qoo l c k,a⟩
theorem l0{α:Type}{P:List α->Prop}(h:P []):∀l:List α,l.length=0->P l:=λl e=>(List.length_eq_zero_iff.mp e).symm▸h
theorem lc{α:Type}{n:Nat}{P:List α->Prop}(h:∀a,∀l:List α,l.length=n->P (a::l)):∀l:List α,l.length=n+1->P l
 | a::l,e=>h a l (Nat.succ.inj e)
def QM(x:Str)(st:Stmt)(ps:List Str):Prop:=∀(kV doc pm:Value) (an:Option Addr) (cdv ct:Value) (us:List Value),us.length=ps.length->bindArgs (PySem.W.fnOf x x (QcQ st) (Qah st) (Qh st) .none kV doc pm an cdv ct) ⟨us,[]⟩=pure (ps.zip us)
theorem Q0{h:Heap}{x:Str}{st:Stmt}{ps:List Str}{k n:Nat}{Γ:List (Str×FnR)}{cs:List (Str×Cn)}{g:DS}(X:K.In h)(G:h.Ns mainGlobals mg)(F:Fact K x st)(S:QaZ (namesOf (Qh st)) ps (Qh st))(B:QM x st ps)(M:Qc0 mg cs)(tab:QaG P w K mg base k Γ)
  (hc:Qaa n (Qej st Γ cs) (Qah st)=some g):Known P w K mg base (k+1) x ⟨ps.length,[],Qx (namesOf (Qh st)).length g⟩:=by
 obtain⟨f,fd,Fn,a⟩:=F.ex
 refine⟨f,fd,ps,QvP Fn S M tab hc,Zbd X G a,Fn.kp,λm hm=>⟨[],[],Fn.binds (B ·),.nil,λH=>by simp[Rps]⟩⟩
end
end HS
namespace HS
open PySem PySem.Spec L2 PyProof.Rows
theorem QqW{l:PySem.W.OpenLaw}{k:Nat}{q:Program}{loose:List Str}{XP:(Str->Option Value)->Heap->Prop}{YP:World->Heap->Prop}{d:DefRec}{K:Params->PySem.W.Frag}{den:Den}{x:Str}
  (hn:l.most=some 63) (hdf:d.params.defaults=[]) (hr:QZ k callerA) (hY:∀(w:World) (h:Heap),YP w h->(K w.params).In h)
  (hden:∀ns:List Int,ns.length<=63->∃fr,den [.lst (ns.map .int)]=some (.bl true,fr))
  (F:∀(w:World) (mg:Str->Option Value) (fa:Addr) (h:Heap),(K w.params).In h->h.Ns mainGlobals mg->mg d.name=some (.ref fa)→
   ∃fd:FuncData,(∀(s:Shared) (u:Value),BindsTo s fd ⟨[u],[]⟩ [(x,u)])∧
    ∀base:Heap,(K w.params).In base->base.Ns mainGlobals mg->Qab l.prog w (K w.params) mg base CX0 k fa fd [x] (spV (K w.params) 1 den)):
  PySem.W.WalkO q loose XP YP l.row.toRowW d [] (λf vs=>PySem.call f vs):=by
 refine Att.QgS hn hdf λw s₀ s₁ mg mb fa o pm cd doc a vs ns G Y ho hd hcd hmg hobj hints hlen hg=>?_
 have KX:=hY w _ Y
 obtain⟨fd,hb,hF⟩:=F w mg fa _ KX G.T.g hmg
 have h63:(63:Nat)<=sizeLine:=by decide
 refine Qkf KX G.T.g G.T.b G.T.builtins G.T.nolimit hg hobj hints (ZF hlen h63) hr hF hb (λH hO hS=>?_) λH e s' z=>z
 have fx:Fix (K w.params) H a (ns.map V.int):=by
  rcases hS with(h | ⟨o,h⟩) | ⟨o,its,n,hk,hc,hdn,hda,hz,rv⟩
  ·rcases hO a with z | ⟨o,xs,z⟩<;>rw[h]at z<;>cases z
  ·exact .inl ⟨o,h⟩
  ·have e:=KX a o hk
   rw[hobj]at e
   cases e
   cases hda
   exact .inr ⟨vs,_,hk,by rw[Zj];exact ZF hlen h63,by simpa using rv⟩
 obtain⟨fr,hfr⟩:=hden ns hlen
 have rp:Rp (K w.params) H (.lst (ns.map .int)) (.ref a) []:=by
  simp only[Rp]
  refine⟨by rw[Zj];exact ZF hlen h63,a,_,rfl,.inr ⟨fx,?_⟩⟩
  have gen:∀ns:List Int,Rps (K w.params) H (ns.map .int) (ns.map .int) []:=by
   intro ns
   induction ns with
   | nil=>simp[Rps]
   | cons n ns ih=>simp only[Zq,Rps];exact⟨_,_,[],[],rfl,rfl,.int_mk,ih⟩
  exact gen ns
 refine⟨[.lst (ns.map .int)],[],.bl true,fr,?_,rfl,hfr,λv H' G r=>r.rp.QeV⟩
 simp only[Rps]
 exact⟨_,_,[],[],rfl,rfl,rp,rfl,rfl⟩
end HS
namespace HS
open PySem PySem.Spec PyProof.Rows L2
section
variable {P:Program}{w:World}{K:PySem.W.Frag}{mg:Str->Option Value}{base:Heap}
end
end HS
namespace HS
open PySem PySem.Spec L2 PyProof.Rows
noncomputable def hide(H:Hp)(P:List Addr):Hp:=λa=>if a∈P then none else H a
noncomputable def Qd7:Option HO->Prop
 | some (.lst _)=>True
 | some (.ins _ _ _)=>True
 | some (.dT _)=>True
 | _=>False
section
variable {K:PySem.W.Frag}{H H':Hp}{P:List Addr}
theorem Qgk{a:Addr}(h:a∈P):hide H P a=none:=if_pos h
theorem Qfl{a:Addr}(h:a∉P):hide H P a=H a:=if_neg h
theorem Qi7{a:Addr}(h:hide H P a=none):a∈P∨H a=none:=by
 by_cases q:a∈P
 ·exact .inl q
 ·rw[Qfl q]at h;exact .inr h
theorem Qo5:Qw (hide H P) H:=λb o h=>by
 by_cases q:b∈P
 ·rw[Qgk q]at h;cases h
 ·rw[Qfl q]at h;exact h
theorem Qbo(s:Qw (hide H P) H'){a:Addr}{u:HO}(h:H a=some u)(n:a∉P):H' a=some u:=s a u (by rw[Qfl n];exact h)
theorem Qgt(hm:∀a∈P,Qd7 (H a)){a:Addr}{u:HO}(h:H a=some u)(n:¬Qd7 (some u)):a∉P:=λz=>n (h▸hm a z)
theorem Qcd.mut{v:V}{vs:List V}{A:List Addr}:∀{o:Ob},Qcd K H v vs A o->∀a∈A,Qd7 (H a)
 | .ins _ _,⟨a,C,dx,e1,e2,e3,e4,e5⟩,b,hb=>by rw[e2]at hb;rw[Zl.mp hb,e4];exact True.intro
 | .pin _,⟨_,_,e⟩,b,hb=>by rw[e]at hb;simp at hb
 | .pair,⟨e,_⟩,b,hb=>by rw[e]at hb;simp at hb
theorem Qcd.but(s:Qw (hide H P) H'){v:V}{vs:List V}{A:List Addr}:∀{o:Ob},Qcd K H v vs A o->(∀a∈A,a∉P)->Qcd K H' v vs A o
 | .ins _ _,⟨a,C,dx,e1,e2,e3,e4,e5⟩,hn=>⟨a,C,dx,e1,e2,e3,Qbo s e4 (hn a (by rw[e2];exact List.mem_singleton_self a)),e5⟩
 | .pin _,h,_=>h
 | .pair,h,_=>h
mutual
theorem Rp.mut:∀{d:D}{v:V}{F:List Addr},Rp K H d v F->∀a∈F,Qd7 (H a)
 | .non,_,_,h,a,ha=>by simp only[Rp]at h;rw[h.2]at ha;simp at ha
 | .bl _,_,_,h,a,ha=>by simp only[Rp]at h;rw[h.2]at ha;simp at ha
 | .int _,_,_,h,a,ha=>by simp only[Rp]at h;rw[h.2]at ha;simp at ha
 | .str _,_,_,h,a,ha=>by simp only[Rp]at h;rw[h.2]at ha;simp at ha
 | .exc _,_,_,h,a,ha=>by simp only[Rp]at h;rw[h.2]at ha;simp at ha
 | .dk _,_,_,h,a,ha=>by simp only[Rp]at h;obtain⟨b,e,eF,q⟩:=h;subst eF;rw[Zl.mp ha,q];exact True.intro
 | .obj _ _,_,_,h,a,ha=>by
  simp only[Rp]at h
  obtain⟨vs,A,G,eF,q,r⟩:=h
  subst eF
  exact(Zr.mp ha).elim (q.mut a) (Rps.mut r a)
 | .tup ds,_,_,h,a,ha=>by
  simp only[Rp]at h
  obtain⟨_,vs,e,q,r⟩:=h
  exact Rps.mut r a ha
 | .lst ds,_,_,h,a,ha=>by
  simp only[Rp]at h
  obtain⟨_,b,vs,e,⟨G,eF,q,r⟩ | ⟨q,r⟩⟩:=h
  ·subst eF
   rcases Zo.mp ha with z | z
   ·rw[z,q];exact True.intro
   ·exact Rps.mut r a z
  ·exact Rps.mut r a ha
theorem Rps.mut:∀{ds:List D}{vs:List V}{F:List Addr},Rps K H ds vs F->∀a∈F,Qd7 (H a)
 | [],_,_,h,a,ha=>by simp only[Rps]at h;rw[h.2]at ha;simp at ha
 | d::ds,_,_,h,a,ha=>by
  simp only[Rps]at h
  obtain⟨v,ws,F1,F2,e,eF,r,q⟩:=h
  subst eF
  exact(Zr.mp ha).elim (Rp.mut r a) (Rps.mut q a)
end
theorem QtD(hm:∀a∈P,Qd7 (H a))(s:Qw (hide H P) H'){a:Addr}{vs:List V}(h:SqT K H a vs):SqT K H' a vs:=by
 rcases h with(h | ⟨o,h⟩) | h
 ·exact .inl (.inl (Qbo s h (Qgt hm h λz=>z)))
 ·exact .inl (.inr ⟨o,Qbo s h (Qgt hm h λz=>z)⟩)
 ·exact .inr h
theorem Qtq(hm:∀a∈P,Qd7 (H a))(s:Qw (hide H P) H'){a:Addr}{vs:List V}(h:Fix K H a vs):Fix K H' a vs:=by
 rcases h with⟨o,h⟩ | h
 ·exact .inl ⟨o,Qbo s h (Qgt hm h λz=>z)⟩
 ·exact .inr h
mutual
theorem Rp.but(hm:∀a∈P,Qd7 (H a))(s:Qw (hide H P) H'):∀{d:D}{v:V}{F:List Addr},Rp K H d v F->(∀a∈F,a∉P)->Rp K H' d v F
 | .exc _,_,_,h,_=>by
  simp only[Rp]at h ⊢
  obtain⟨⟨a,e,C,q1,q2⟩,z⟩:=h
  exact⟨⟨a,e,C,q1,Qbo s q2 (Qgt hm q2 λz=>z)⟩,z⟩
 | .dk _,_,_,h,hn=>by
  simp only[Rp]at h ⊢
  obtain⟨a,e,eF,q⟩:=h
  subst eF
  exact⟨a,e,rfl,Qbo s q (hn a (List.mem_singleton_self a))⟩
 | .obj _ _,_,_,h,hn=>by
  simp only[Rp]at h ⊢
  obtain⟨vs,A,G,eF,q,r⟩:=h
  subst eF
  exact⟨vs,A,G,rfl,q.but s λa z=>hn a (Zh _ z),Rps.but hm s r λa z=>hn a (Ze _ z)⟩
 | .non,_,_,h,_=>h
 | .bl _,_,_,h,_=>h
 | .int _,_,_,h,_=>h
 | .str _,_,_,h,_=>h
 | .tup ds,_,_,h,hn=>by
  simp only[Rp]at h ⊢
  obtain⟨a,vs,e,q,r⟩:=h
  exact⟨a,vs,e,QtD hm s q,Rps.but hm s r hn⟩
 | .lst ds,_,_,h,hn=>by
  simp only[Rp]at h ⊢
  obtain⟨hz,a,vs,e,⟨G,eF,q,r⟩ | ⟨q,r⟩⟩:=h
  ·subst eF
   exact⟨hz,a,vs,e,.inl ⟨G,rfl,Qbo s q (hn a Zf),Rps.but hm s r λb z=>hn b (Zb _ z)⟩⟩
  ·exact⟨hz,a,vs,e,.inr ⟨Qtq hm s q,Rps.but hm s r hn⟩⟩
theorem Rps.but(hm:∀a∈P,Qd7 (H a))(s:Qw (hide H P) H'):∀{ds:List D}{vs:List V}{F:List Addr},Rps K H ds vs F->(∀a∈F,a∉P)->Rps K H' ds vs F
 | [],_,_,h,_=>h
 | d::ds,_,_,h,hn=>by
  simp only[Rps]at h ⊢
  obtain⟨v,ws,F1,F2,e,eF,r,q⟩:=h
  subst eF
  exact⟨v,ws,F1,F2,e,rfl,Rp.but hm s r λb z=>hn b (Zh _ z),Rps.but hm s q λb z=>hn b (Ze _ z)⟩
end
end
def Qi6(H0:Hp)(hs:List (V×D×List Addr))(ρ:En)(F:Nat->List Addr)(i:Nat)(a:Addr):Prop:=
 H0 a=none/\(∀(j:Nat) d b,ρ[j]? =some (some (d,b))->j≠i->a∉F j)/\∀t∈hs,a∉t.2.2
section
variable {K:PySem.W.Frag}{H0 H H':Hp}{A0:List Addr}{hs:List (V×D×List Addr)}{ρ:En}{F:Nat->List Addr}{σ:L2.St}{i:Nat}{d d':D}{v:V}{G:List Addr}
theorem Rel.QmJ(r:Rel K H0 A0 hs ρ F σ H)(e:ρ[i]? =some (some (d,true))){a:Addr}(h:a∈F i∨H a=none):Qi6 H0 hs ρ F i a:=by
 rcases h with h | h
 ·obtain⟨_,_,h3,h4,h5⟩:=r.own i d e
  exact⟨h3 a h,λj d' b' ej hj=>h4 j d' b' hj ej a h,λt ht=>h5 t ht a h⟩
 ·refine⟨r.same.free h,λj d' b' ej hj z=>?_,λt ht z=>?_⟩
  ·obtain⟨u,q⟩:=r.mem ej z
   rw[h]at q;cases q
  ·obtain⟨u,q⟩:=(r.held t ht).1.mem a z
   rw[h]at q;cases q
theorem Rel.io(r:Rel K H0 A0 hs ρ F σ H)(e:ρ[i]? =some (some (d,true)))(hv:σ[i]? =some (some v))(s:Qw (hide H (F i)) H')(rp:Rp K H' d' v G)(nd:G.Nodup)(nl:G.length=d'.nl)(sub:∀a∈G,Qi6 H0 hs ρ F i a):
  Rel K H0 A0 hs (ρ.set i (some (d',true))) (λj=>if j=i then G else F j) σ H':=by
 obtain⟨o1,o2,o3,o4,o5⟩:=r.own i d e
 obtain⟨w,hw,rpi⟩:=r.val i d true e
 have hm:∀a∈F i,Qd7 (H a):=rpi.mut
 have hl:i<ρ.length:=(Zd.mp e).1
 refine⟨by rw[ZaQ];exact r.len,λj d2 b ej=>?_,λj d2 ej=>?_,λj d2 b ej a ha=>?_,λt ht=>⟨(r.held t ht).1.but hm s λa ha z=>o5 t ht a z ha,(r.held t ht).2⟩,λb u hb=>?_⟩
 ·by_cases hj:j=i
  ·subst hj
   rw[Zt hl]at ej
   cases ej
   exact⟨v,hv,by rw[if_pos rfl];exact rp⟩
  ·rw[Zi (Ne.symm hj)]at ej
   obtain⟨v2,h1,h2⟩:=r.val j d2 b ej
   exact⟨v2,h1,by rw[if_neg hj];exact h2.but hm s λa ha z=>o4 j d2 b hj ej a z ha⟩
 ·by_cases hj:j=i
  ·subst hj
   rw[Zt hl]at ej
   cases ej
   rw[if_pos rfl]
   refine⟨nl,nd,λa ha=>(sub a ha).1,λk d3 b3 hk ek a ha=>?_,λt ht a ha=>(sub a ha).2.2 t ht⟩
   rw[Zi (Ne.symm hk)]at ek
   rw[if_neg hk]
   exact(sub a ha).2.1 k d3 b3 ek hk
  ·rw[Zi (Ne.symm hj)]at ej
   obtain⟨p1,p2,p3,p4,p5⟩:=r.own j d2 ej
   rw[if_neg hj]
   refine⟨p1,p2,p3,λk d3 b3 hk ek a ha=>?_,p5⟩
   by_cases hki:k=i
   ·subst hki
    rw[if_pos rfl]
    exact λz=>(sub a z).2.1 j d2 true ej hj ha
   ·rw[Zi (Ne.symm hki)]at ek
    rw[if_neg hki]
    exact p4 k d3 b3 hk ek a ha
 ·by_cases hj:j=i
  ·subst hj
   rw[if_pos rfl]at ha
   exact .inl (sub a ha).1
  ·rw[Zi (Ne.symm hj)]at ej
   rw[if_neg hj]at ha
   exact r.src j d2 b ej a ha
 ·exact Qbo s (r.same b u hb) λz=>by rw[o3 b z]at hb;cases hb
theorem Rel.new(r:Rel K H0 A0 hs ρ F σ H)(rp:Rp K H d v G)(nd:G.Nodup)(nl:G.length=d.nl)(sub:∀a∈G,Qi6 H0 hs ρ F i a):
  Rel K H0 A0 hs (ρ.set i (some (d,true))) (λj=>if j=i then G else F j) (σ.set i (some v)) H:=by
 have lt:∀{y:D×Bool},(ρ.set i (some (d,true)))[i]? =some (some y)->i<ρ.length:=λ{y} e=>by
  by_cases hl:i<ρ.length
  ·exact hl
  ·rw[Zy (by simp;omega)]at e;cases e
 refine⟨by simp[r.len],λj d2 b ej=>?_,λj d2 ej=>?_,λj d2 b ej a ha=>?_,r.held,r.same⟩
 ·by_cases hj:j=i
  ·subst hj
   have hl:=lt ej
   rw[Zt hl]at ej
   cases ej
   exact⟨v,by rw[Zt (by rw[← r.len];exact hl)],by rw[if_pos rfl];exact rp⟩
  ·rw[Zi (Ne.symm hj)]at ej
   obtain⟨v2,h1,h2⟩:=r.val j d2 b ej
   exact⟨v2,by rw[Zi (Ne.symm hj)];exact h1,by rw[if_neg hj];exact h2⟩
 ·by_cases hj:j=i
  ·subst hj
   have hl:=lt ej
   rw[Zt hl]at ej
   cases ej
   rw[if_pos rfl]
   refine⟨nl,nd,λa ha=>(sub a ha).1,λk d3 b3 hk ek a ha=>?_,λt ht a ha=>(sub a ha).2.2 t ht⟩
   rw[Zi (Ne.symm hk)]at ek
   rw[if_neg hk]
   exact(sub a ha).2.1 k d3 b3 ek hk
  ·rw[Zi (Ne.symm hj)]at ej
   obtain⟨p1,p2,p3,p4,p5⟩:=r.own j d2 ej
   rw[if_neg hj]
   refine⟨p1,p2,p3,λk d3 b3 hk ek a ha=>?_,p5⟩
   by_cases hki:k=i
   ·subst hki
    rw[if_pos rfl]
    exact λz=>(sub a z).2.1 j d2 true ej hj ha
   ·rw[Zi (Ne.symm hki)]at ek
    rw[if_neg hki]
    exact p4 k d3 b3 hk ek a ha
 ·by_cases hj:j=i
  ·subst hj
   rw[if_pos rfl]at ha
   exact .inl (sub a ha).1
  ·rw[Zi (Ne.symm hj)]at ej
   rw[if_neg hj]at ha
   exact r.src j d2 b ej a ha
end
end HS
namespace HS
open PySem PySem.Spec L2 PyProof.Rows
inductive QaF (K:PySem.W.Frag) (ρ:En) (F:Nat->List Addr) (σ:L2.St) (i:Nat):Hp->Hp->List (Option R)->List V->List (List Addr)->Prop
 | nil {H:Hp}:QaF K ρ F σ i H H [] [] []
 | val {H H1 H2:Hp}{r:R}{v:V}{G:List Addr}{rs:List (Option R)}{vs:List V}{Gs:List (List Addr)}(p:QO K ρ F H H1 r v G) (t:QaF K ρ F σ i H1 H2 rs vs Gs):QaF K ρ F σ i H H2 (some r::rs) (v::vs) (G::Gs)
 | slot {H H2:Hp}{v:V}{rs:List (Option R)}{vs:List V}{Gs:List (List Addr)}(e:σ[i]? =some (some v)) (t:QaF K ρ F σ i H H2 rs vs Gs):QaF K ρ F σ i H H2 (none::rs) (v::vs) (F i::Gs)
noncomputable def evs:List (Option DE)->En->Option (List (Option R))
 | [],_=>some []
 | some f::fs,ρ=>(f ρ).bind λr=>(evs fs ρ).map λrs=>some r::rs
 | none::fs,ρ=>(evs fs ρ).map λrs=>none::rs
noncomputable def tVL(K:PySem.W.Frag)(H0:Hp)(A0:List Addr)(i:Nat)(fs:List (Option DE)):TA:=λσ H Q=>∃ρ hs F rs,Rel K H0 A0 hs ρ F σ H/\evs fs ρ=some rs/\(none∈fs->∃v,σ[i]? =some (some v))/\∀vs H' Gs,QaF K ρ F σ i H H' rs vs Gs->Q vs H'
noncomputable def QjS(X:Cx)(i:Nat)(e:Expr):Option DE->Prop
 | some f=>SE X e f
 | none=>PE X e (Qfj i)
inductive Qbb (X:Cx) (i:Nat):List Expr->List (Option DE)->Prop
 | nil:Qbb X i [] []
 | cons {e:Expr}{f:Option DE}{es:List Expr}{fs:List (Option DE)}(h:QjS X i e f) (s:∀es env,starEach (e::es) env=(false,eval e env)::starEach es env) (t:Qbb X i es fs):Qbb X i (e::es) (f::fs)
section
variable {X:Cx}{i:Nat}{es:List Expr}{fs:List (Option DE)}
theorem Qbb.any(h:Qbb X i es fs)(pos:Pos)(env:Env):(backTo pos (starEach es env)).any (·.1)=false:=by
 induction h with
 | nil=>rfl
 | cons h s t ih=>rw[s];simpa[backTo]using ih
theorem Qvs(h:Qbb X i es fs)(H0:Hp)(A0:List Addr):PA X es (tVL X.K H0 A0 i fs):=by
 induction h with
 | nil=>exact QbW.mono λσ H Q ⟨ρ,hs,F,rs,rel,e,hv,q⟩=>by cases e;exact q _ _ _ .nil
 | @cons e f es fs h s t ih=>
  cases f with
  | some f=>
   refine(Qan ((show SE X e f from h) H0 A0) ih (s _ _)).mono λσ H Q hpt=>?_
   obtain⟨ρ,hs,F,rs,rel,e,hv,q⟩:=hpt
   refine Qe e λr e1 e=>?_
   obtain⟨rs',e2,rfl⟩:=Zc.mp e
   exact⟨ρ,hs,F,r,rel,e1,λv H1 G p=>⟨ρ,hs,F,rs',rel.ext p.same,e2,λz=>hv (Zb _ z),λvs H' Gs pl=>q _ _ _ (.val p pl)⟩⟩
  | none=>
   refine(Qan (show PE X e (Qfj i)from h) ih (s _ _)).mono λσ H Q hpt=>?_
   obtain⟨ρ,hs,F,rs,rel,e,hv,q⟩:=hpt
   obtain⟨rs',e2,rfl⟩:=Zc.mp e
   obtain⟨v,ev⟩:=hv Zf
   exact⟨v,ev,ρ,hs,F,rs',rel,e2,λz=>hv (Zb _ z),λvs H' Gs pl=>q _ _ _ (.slot ev pl)⟩
end
structure QhI (K:PySem.W.Frag) (H:Hp) (Fp:List Addr) (d dp:D) (vp v:V) (H':Hp) (G Gp:List Addr):Prop where
 same:Qw (hide H Fp) H'
 rp:Rp K H' d v G
 rpp:Rp K H' dp vp Gp
 nd:(G++Gp).Nodup
 len:G.length=d.nl
 lenp:Gp.length=dp.nl
 fr:∀a∈G++Gp,a∈Fp∨H a=none
noncomputable abbrev Qcb:=List D->Option (D×D)
noncomputable def QdZ(K:PySem.W.Frag)(n p:Nat)(den:Qcb):Sp:=λvs H Q _=>∃(ds:List D) (F:Nat->List Addr) (a:Addr) (d dp:D),ds.length=n/\vs.length=n/\(∀j dj,ds[j]? =some dj->∃v,vs[j]? =some v/\Rp K H dj v (F j))/\p<n/\vs[p]? =some (.ref a)∧
 (F p).Nodup/\(F p).length=(ds.getD p .non).nl/\(∀j,j<n->j≠p->∀b∈F p,b∉F j)/\den ds=some (d,dp)/\∀v H' G Gp,QhI K H (F p) d dp (.ref a) v H' G Gp->Q v H'
noncomputable def Qcr(k p:Nat)(a:Addr)(ds:List D):En:=(Qao k ds).set p (some (.obj (.pin a) [ds.getD p .non],true))
noncomputable def Qgo(p:Nat)(a:Addr):Out->Option (D×D)
 | .rt (.obj .pair [d,.obj (.pin b) [dp]]) true=>if b=a then some (d,dp)else none
 | .nx ρ=>match ρ[p]? with
  | some (some (.obj (.pin b) [dp],true))=>if b=a then some (.non,dp)else none
  | _=>none
 | _=>none
def UIO(k p:Nat)(g:DS)(den:Qcb):Prop:=∀ds q,den ds=some q->∀a,∃o,g (Qcr k p a ds)=some o/\Qgo p a o=some q
section
variable {K:PySem.W.Frag}{H H':Hp}
theorem Rps.QrS{d:D}{v:V}{F:List Addr}(h:Rps K H [d] [v] F):Rp K H d v F:=by
 simp only[Rps]at h
 obtain⟨u,ws,F1,F2,e,eF,r,e2,e3⟩:=h
 cases e
 rw[eF,e3,ZM];exact r
theorem Rps.Qor{d:D}{v:V}{F:List Addr}(h:Rp K H d v F):Rps K H [d] [v] F:=by
 simp only[Rps]
 exact⟨v,[],F,[],rfl,(ZM F).symm,h,rfl,rfl⟩
theorem Rp.QcW{a:Addr}{d:D}{v:V}{F:List Addr}(h:Rp K H (.obj (.pin a) [d]) v F):v= .ref a/\Rp K H d v F:=by
 simp only[Rp]at h
 obtain⟨vs,A,G,eF,⟨e1,e2,e3⟩,r⟩:=h
 subst e2 e3
 rw[eF,ZaR]
 exact⟨e1,r.QrS⟩
theorem Rp.QhQ{a:Addr}{d:D}{F:List Addr}(h:Rp K H d (.ref a) F):Rp K H (.obj (.pin a) [d]) (.ref a) F:=by
 simp only[Rp]
 exact⟨[.ref a],[],F,rfl,⟨rfl,rfl,rfl⟩,Rps.Qor h⟩
theorem Rp.Qqf{d e:D}{v:V}{F:List Addr}(h:Rp K H (.obj .pair [d,e]) v F):∃u F1 F2,F=F1++F2/\Rp K H d v F1/\Rp K H e u F2:=by
 simp only[Rp]at h
 obtain⟨vs,A,G,eF,⟨e1,_,u,e2⟩,r⟩:=h
 subst e1 e2
 simp only[Rps]at r
 obtain⟨v',ws,F1,F2,e1,e2,r1,u',ws',F3,F4,e3,e4,r2,e5,e6⟩:=r
 cases e1
 cases e3
 subst e6
 exact⟨u,F1,F3,by rw[eF,e2,e4,ZM,ZaR],r1,r2⟩
theorem Rp.QrP{d e:D}{v u:V}{F1 F2:List Addr}(h1:Rp K H d v F1)(h2:Rp K H e u F2)(hn:v≠ .non):Rp K H (.obj .pair [d,e]) v (F1++F2):=by
 simp only[Rp]
 refine⟨[v,u],[],F1++F2,rfl,⟨rfl,hn,u,rfl⟩,?_⟩
 simp only[Rps]
 exact⟨v,[u],F1,F2,rfl,rfl,h1,u,[],F2,[],rfl,(ZM F2).symm,h2,rfl,rfl⟩
theorem QcH(a:Addr)(d:D):(D.obj (.pin a) [d]).nl=d.nl:=by simp only[D.nl,nls,Ob.n];omega
theorem Qmj(d e:D):(D.obj .pair [d,e]).nl=d.nl+e.nl:=by simp only[D.nl,nls,Ob.n];omega
end
section
variable {P:Program}{w:World}{K:PySem.W.Frag}{mg:Str->Option Value}{base:Heap}
theorem Qds{k p:Nat}{a:Addr}{ds:List D}{j:Nat}{d:D}{b:Bool}(h:(Qcr k p a ds)[j]? =some (some (d,b))):(j=p/\d= .obj (.pin a) [ds.getD p .non]/\b=true)∨(j≠p/\ds[j]? =some d/\b=d.flat):=by
 unfold Qcr at h
 by_cases hj:j=p
 ·subst hj
  by_cases hl:j<(Qao k ds).length
  ·rw[Zt hl]at h
   cases h
   exact .inl ⟨rfl,rfl,rfl⟩
  ·rw[Zy (by simp;omega)]at h;cases h
 ·rw[Zi (Ne.symm hj)]at h
  obtain⟨h1,h2⟩:=QeN h
  exact .inr ⟨hj,h1,h2⟩
theorem QlR{H:Hp}{ds:List D}{vs:List V}{F:Nat->List Addr}{N:List Str}{n p:Nat}{a:Addr}(hl:ds.length=n)(hvl:vs.length=n)(hv:∀j dj,ds[j]? =some dj->∃v,vs[j]? =some v/\Rp K H dj v (F j))(hp:p<n)(ha:vs[p]? =some (.ref a))
  (nd:(F p).Nodup) (ln:(F p).length=(ds.getD p .non).nl) (ap:∀j,j<n->j≠p->∀b∈F p,b∉F j):Rel K (hide H (F p)) ((List.range n).flatMap F) [] (Qcr N.length p a ds) F (start N vs) H:=by
 have at_:∀{j:Nat}{v:V},vs[j]? =some v->(start N vs)[j]? =some (some v):=λ{j v} e=>by
  have hi:j<vs.length:=(Zd.mp e).1
  unfold L2.start
  rw[ZT (by simpa using hi),Zv,e];rfl
 have hd:ds[p]? =some (ds.getD p .non):=by rw[ZH,Zs (by omega)];rfl
 obtain⟨v0,e0,r0⟩:=hv p _ hd
 rw[ha]at e0
 cases e0
 have inA:∀{j:Nat}{b:Addr},j<n->b∈F j->b∈(List.range n).flatMap F:=λ{j b} h1 h2=>List.mem_flatMap.mpr ⟨j,ZG.mpr h1,h2⟩
 refine⟨by unfold Qcr Qao L2.start;simp[hl,hvl],λj d b e=>?_,λj d e=>?_,λj d b e c hc=>?_,λt ht=>absurd ht (by simp),Qo5⟩
 ·rcases Qds e with⟨rfl,rfl,rfl⟩ | ⟨hj,e1,_⟩
  ·exact⟨_,at_ ha,Rp.QhQ r0⟩
  ·obtain⟨v,h1,h2⟩:=hv j d e1
   exact⟨v,at_ h1,h2⟩
 ·rcases Qds e with⟨rfl,rfl,_⟩ | ⟨hj,e1,ef⟩
  ·refine⟨by rw[QcH];exact ln,nd,λc hc=>Qgk hc,λk d' b' hk ek c hc=>?_,λt ht=>absurd ht (by simp)⟩
   rcases Qds ek with⟨z,_⟩ | ⟨_,e2,_⟩
   ·exact absurd z hk
   ·have:k<ds.length:=(Zd.mp e2).1
    exact ap k (by omega) hk c hc
  ·obtain⟨v,h1,h2⟩:=hv j d e1
   have z:F j=[]:=h2.Qa7 ef.symm
   rw[z]
   exact⟨(Qb0 d ef.symm).symm,Zaj,λa ha=>by simp at ha,λ_ _ _ _ _ a ha=>by simp at ha,λ_ _ a ha=>by simp at ha⟩
 ·rcases Qds e with⟨rfl,_⟩ | ⟨_,e1,_⟩
  ·exact .inl (Qgk hc)
  ·have:j<ds.length:=(Zd.mp e1).1
   exact .inr (inA (by omega) hc)
theorem QqO{n p:Nat}{den:Qcb}{ps:List Str}(hn:ps.length=n):∀vs H Q E,QdZ K n p den vs H Q E->vs.length=ps.length:=λvs H Q E ⟨ds,F,a,d,dp,h1,h2,_⟩=>by rw[hn,h2]
theorem Qss{H:Hp}{F:Nat->List Addr}{p:Nat}{a:Addr}{A0:List Addr}{o:Out}{d dp:D}{Q:VK}(ho:Qgo p a o=some (d,dp))(q:∀v H' G Gp,QhI K H (F p) d dp (.ref a) v H' G Gp->Q v H'):
  Fits K (hide H (F p)) A0 [] {nx:=λ_ H'=>Q .non H',rt:=Q} o:=by
 unfold Qgo at ho
 split at ho
 ·rename_i d' b dp'
  split at ho
  ·rename_i hb
   cases ho
   subst hb
   refine λv H' G rt=>?_
   obtain⟨u,G1,G2,eG,r1,r2⟩:=rt.rp.Qqf
   obtain⟨e,r3⟩:=r2.QcW
   subst e eG
   obtain⟨n1,n2,n3⟩:=rt.cnt rfl
   rw[Qmj,QcH,Zp]at n2
   have l1:=r1.Q8
   have l2:=r3.Q8
   exact q v H' G1 G2 ⟨rt.same,r1,r3,n1,by omega,by omega,λc hc=>Qi7 (n3 c hc)⟩
  ·cases ho
 ·rename_i ρ
  split at ho
  ·rename_i b dp' hρ
   split at ho
   ·rename_i hb
    cases ho
    subst hb
    refine λσ H' F' rel=>?_
    obtain⟨v,e,rp⟩:=rel.val p _ _ hρ
    obtain⟨e,r3⟩:=rp.QcW
    subst e
    obtain⟨o1,o2,o3,_,_⟩:=rel.own p _ hρ
    rw[QcH]at o1
    exact q .non H' [] (F' p) ⟨rel.same,.Qf3,r3,by simpa using o2,rfl,o1,λc hc=>Qi7 (o3 c (by simpa using hc))⟩
   ·cases ho
  ·cases ho
 ·cases ho
theorem Qwz{x qual:Str}{st:Stmt}{f:Addr}{fd:FuncData}{ps:List Str}{k n p:Nat}{Θ:Th}{g:DS}{den:Qcb}(F:Fun K x qual st f fd)(S:QaZ (namesOf (Qh st)) ps (Qh st))
  (hΘ:∀(cdv:Value) (A:Around) (outer:List Env) (s:Shared) (H:Hp) (E:XK),QZ k (A.deeper (envOfC qual (Qh st) s.heap.objs.size f cdv))->QI (QdW CX0 P w K mg base (namesOf (Qh st)) qual (Qh st) f cdv A outer s H E).nox Θ)
  (hc:Qaa n Θ (Qah st)=some g) (hU:UIO (namesOf (Qh st)).length p g den):Qab P w K mg base CX0 (k+1) f fd ps (QdZ K ps.length p den):=by
 refine F.ok S (QqO rfl) λcdv A outer s H vs Q E hr h=>?_
 obtain⟨ds,L,a,d,dp,h1,h2,h3,h4,h5,h6,h7,h8,h9,q⟩:=h
 refine⟨_,(Qj0 n).Ss _ _ _ g (hΘ cdv A outer s H E hr) hc (hide H (L p)) ((List.range ps.length).flatMap L),?_⟩
 obtain⟨o,e1,e2⟩:=hU ds _ h9 a
 exact⟨_,[],L,o,QlR h1 h2 h3 h4 h5 h6 h7 h8,e1,Qss e2 q⟩
end
noncomputable def QdJ(p:Nat)(fa:DE):DS:=λρ=>(fa ρ).bind λr=>match ρ[p]? with
 | some (some (dp,true))=>if(r.norm.fr && decide r.norm.M.Nodup && !r.norm.M.contains p && !r.d.Qm1)=true then some (.rt (.obj .pair [r.d,dp]) true)else none
 | _=>none
section
variable {X:Cx}{e:Expr}{fa:DE}{pos:Pos}{p:Nat}
theorem QsJ(he:SE X e fa):S1 X (.Return (some e) pos) (QdJ p fa):=λH0 A0=>(QoD (he H0 A0)).mono λE σ H=>exK λρ hs F o rel e q=>by
 refine Qe e λr e1 e=>?_
 split at e
 ·rename_i dp hρ
  split at e
  ·rename_i hc
   cases e
   simp only[Zg,decide_eq_true_eq,ZY]at hc
   obtain⟨⟨⟨c1,c2⟩,c3⟩,c4⟩:=hc
   refine⟨ρ,hs,F,r,rel,e1,λv H' G p1=>q v H' (G++F p) ?_⟩
   have p':=p1.norm
   obtain⟨g1,g2⟩:=p'.fresh rel c1 c2
   have g3:=(p'.cnt c1).2
   rw[r.Qcl]at g3
   obtain⟨u,eu,ru⟩:=rel.val p dp true hρ
   obtain⟨o1,o2,o3,o4,o5⟩:=rel.own p dp hρ
   refine⟨rel.same.trans p1.same,Rp.QrP p1.rp (ru.same p1.same) ?_,λa ha=>?_,λ_=>⟨ZP.mpr ⟨g1,o2,λa ha b hb hab=>?_⟩,by rw[Qmj,Zp,g3,o1],λa ha=>?_⟩⟩
   ·have:=QrL p1.rp
    rw[c4]at this
    exact of_decide_eq_false this
   ·rcases Zr.mp ha with z | z
    ·exact .inl (g2 a z).1
    ·exact .inl (o3 a z)
   ·subst hab
    rcases(g2 a ha).2 with z | ⟨i,d,hi,ei,mi⟩
    ·obtain⟨w,hw⟩:=ru.mem a hb
     rw[z]at hw;cases hw
    ·have hne:i≠p:=λz=>by
      subst z
      have:r.norm.M.contains i=true:=ZK.mpr hi
      rw[this]at c3;cases c3
     exact o4 i d true hne ei a hb mi
   ·rcases Zr.mp ha with z | z
    ·exact(g2 a z).1
    ·exact o3 a z
  ·cases e
 ·cases e
end
end HS
namespace HS
open PySem PySem.Spec L2 PyProof.Rows
noncomputable abbrev ClT:=List (Str×List Str)
def Qev(K:PySem.W.Frag)(T:ClT):Prop:=∀x fs,look x T=some fs->∀C,PySem.W.nsIn K mainGlobals x=some (some (.ref C))->Cls K C/\∀f∈fs,QbF K C f
noncomputable def unp:D->D
 | .obj (.pin _) [d]=>d
 | d=>d
noncomputable def Qis(T:ClT)(f:Str)(d:D):Option D:=match unp d with
 | .obj (.ins x ns) ds=>(look x T).bind λfs=>if fs.contains f=true then(posOf f ns).bind λj=>ds[j]? else none
 | _=>none
noncomputable def Qdn(T:ClT)(f:Str)(fa:DE):DE:=λρ=>(fa ρ).bind λr=>(Qis T f r.d).map λd=>R.norm ⟨d,r.fr,r.M⟩
section
variable {K:PySem.W.Frag}{H H':Hp}
theorem Rp.unp{d:D}{v:V}{F:List Addr}(h:Rp K H d v F):Rp K H (HS.unp d) v F/\(HS.unp d).nl=d.nl:=by
 unfold HS.unp
 split
 ·exact⟨h.QcW.2,(QcH _ _).symm⟩
 ·exact⟨h,rfl⟩
theorem Rp.QeO{x:Str}{ns:List Str}{ds:List D}{v:V}{F:List Addr}(h:Rp K H (.obj (.ins x ns) ds) v F):
  ∃a C dx vs G,v= .ref a/\F=a::G/\PySem.W.nsIn K mainGlobals x=some (some (.ref C))/\H a=some (.ins C dx (ns.zip vs))/\ns.length=vs.length/\Rps K H ds vs G:=by
 simp only[Rp]at h
 obtain⟨vs,A,G,eF,⟨a,C,dx,e1,e2,e3,e4,e5⟩,r⟩:=h
 subst e2
 exact⟨a,C,dx,vs,G,e1,eF,e3,e4,e5,r⟩
theorem Rp.Qh0{x:Str}{ns:List Str}{ds:List D}{a C dx:Addr}{vs:List V}{G:List Addr}(e3:PySem.W.nsIn K mainGlobals x=some (some (.ref C)))(e4:H a=some (.ins C dx (ns.zip vs)))(e5:ns.length=vs.length)(r:Rps K H ds vs G):Rp K H (.obj (.ins x ns) ds) (.ref a) (a::G):=by
 simp only[Rp]
 exact⟨vs,[a],G,rfl,⟨a,C,dx,rfl,rfl,e3,e4,e5⟩,r⟩
theorem Qfo{f:Str}:∀{ns:List Str}{vs:List V}{j:Nat}{v:V},posOf f ns=some j->vs[j]? =some v->(ns.zip vs).lookup f=some v
 | [],_,_,_,h,_=>by cases h
 | g::ns,[],_,_,_,e=>by simp at e
 | g::ns,u::vs,j,v,h,e=>by
  unfold posOf at h
  split at h
  ·rename_i hg
   cases h
   subst hg
   simp at e
   subst e
   simp[Zu]
  ·rename_i hg
   obtain⟨k,hk,rfl⟩:=Zc.mp h
   rw[ZaF,Zu,beq_eq_false_iff_ne.mpr hg]
   exact Qfo hk (by simpa using e)
theorem Qex{f:Str}:∀{ns:List Str}{vs:List V},f∉ns->(ns.zip vs).lookup f=none
 | [],_,_=>rfl
 | g::ns,[],_=>rfl
 | g::ns,u::vs,h=>by
  have h1:f≠g:=λz=>h (by rw[z];exact Zf)
  rw[ZaF,Zu,beq_eq_false_iff_ne.mpr h1]
  exact Qex λz=>h (Zb _ z)
theorem Qk6{f:Str}{y:V}:∀{ns:List Str}{vs:List V}{j:Nat},posOf f ns=some j->ns.length=vs.length->Qa4 f y (ns.zip vs)=ns.zip (vs.set j y)
 | [],_,_,h,_=>by cases h
 | g::ns,[],_,_,e=>by simp at e
 | g::ns,u::vs,j,h,e=>by
  unfold posOf at h
  split at h
  ·rename_i hg
   cases h
   subst hg
   simp[Qa4]
  ·rename_i hg
   obtain⟨k,hk,rfl⟩:=Zc.mp h
   rw[ZaF,Qa4,if_neg (Ne.symm hg),Qk6 hk (by simpa using e)]
   rfl
theorem Qkp{f:Str}{y:V}:∀{ns:List Str}{vs:List V},posOf f ns=none->ns.length=vs.length->Qa4 f y (ns.zip vs)=(ns++[f]).zip (vs++[y])
 | [],[],_,_=>rfl
 | [],_::_,_,e=>by simp at e
 | g::ns,[],_,e=>by simp at e
 | g::ns,u::vs,h,e=>by
  unfold posOf at h
  split at h
  ·cases h
  ·rename_i hg
   have hk:posOf f ns=none:=by
    cases q:posOf f ns with
    | none=>rfl
    | some k=>rw[q]at h;cases h
   rw[ZaF,Qa4,if_neg (Ne.symm hg),Qkp hk (by simpa using e)]
   rfl
end
section
variable {X:Cx}{T:ClT}{f:Str}{e:Expr}{fa:DE}{pos:Pos}
theorem Quk(hT:Qev X.K T)(he:SE X e fa)(hb:attributeBase e f X.env (eval e X.env)=eval e X.env):SE X (.Attribute e f pos) (Qdn T f fa):=λH0 A0=>(QtZ (he H0 A0) hb).mono λσ H Q=>exK λρ hs F r rel e q=>by
 refine Qe e λra e1 e=>?_
 obtain⟨d,e2,rfl⟩:=Zc.mp e
 refine⟨ρ,hs,F,ra,rel,e1,λv H1 G p=>?_⟩
 unfold Qis at e2
 obtain⟨ru,rn⟩:=p.rp.unp
 split at e2
 ·rename_i x ns ds hu
  rw[hu]at ru rn
  refine Qe e2 λfs h1 e2=>?_
  split at e2
  ·rename_i hf
   refine Qe e2 λj h2 e2=>?_
   obtain⟨a,C,dx,vs,G0,ev,eG,e3,e4,e5,rs⟩:=ru.QeO
   obtain⟨c1,c2⟩:=hT x fs h1 C e3
   obtain⟨u,F1,G1,F2,g1,g2,g3,g4⟩:=rs.get e2
   refine⟨a,C,dx,_,u,ev,e4,c1,c2 f (ZK.mp hf),Qfo h2 g1,q u H1 G1 (p.sub g3 (λb=>?_) λhl=>g4 ?_).norm⟩
   ·rw[eG,g2,Zav,Zad,Zad];omega
   ·rw[eG,Zk]at hl
    rw[← rn]at hl
    simp only[D.nl,Ob.n]at hl
    omega
  ·cases e2
 ·cases e2
end
noncomputable def putD(T:ClT)(f:Str)(y:D)(d:D):Option D:=match d with
 | .obj (.ins x ns) ds=>(look x T).bind λfs=>if(fs.contains f && decide (ns.length<1000))=true then(match posOf f ns with
  | some j=>if j<ds.length then some (.obj (.ins x ns) (ds.set j y))else none
  | none=>some (.obj (.ins x (ns++[f])) (ds++[y])))else none
 | _=>none
noncomputable def QfQ(g:D->Option D)(d:D):Option D:=match d with
 | .obj (.pin a) [e]=>(g e).map λz=> .obj (.pin a) [z]
 | d=>g d
section
variable {K:PySem.W.Frag}{H0 H H':Hp}{A0:List Addr}{hs:List (V×D×List Addr)}{ρ:En}{F:Nat->List Addr}{σ:L2.St}{i:Nat}{d d' dy:D}{v y:V}{G:List Addr}{T:ClT}{f:Str}
theorem QjB{a:Addr}{u:HO}{P:List Addr}(h:a∈P):Qw (hide H P) (upd H a u):=λb o e=>by
 by_cases q:b∈P
 ·rw[Qgk q]at e;cases e
 ·rw[Qfl q]at e
  rw[Qz (λz:b=a=>q (by rw[z];exact h))];exact e
theorem Qtr{a:Addr}{L:List Addr}(hT:Qev K T)(rp:Rp K H d v L)(nd:L.Nodup)(ln:L.length=d.nl)(ry:Rp K H dy y G)(gn:G.Nodup)(gl:G.length=dy.nl)(ap:∀b∈G,b∉L)(e:putD T f dy d=some d'):
  ∃a C dx fs,v= .ref a/\H a=some (.ins C dx fs)/\Cls K C/\QbF K C f/\fs.length<1000/\a∈L/\∃L',Rp K (upd H a (.ins C dx (Qa4 f y fs))) d' v L'/\L'.Nodup/\L'.length=d'.nl/\∀b∈L',b∈L∨b∈G:=by
 unfold putD at e
 split at e
 ·rename_i x ns ds
  refine Qe e λfs h1 e=>?_
  split at e
  ·rename_i hc
   simp only[Zg,decide_eq_true_eq]at hc
   obtain⟨a,C,dx,vs,G0,ev,eL,e3,e4,e5,rs⟩:=rp.QeO
   obtain⟨c1,c2⟩:=hT x fs h1 C e3
   subst eL
   obtain⟨na,n0⟩:=ZS.mp nd
   have hm:∀b∈[a],Qd7 (H b):=λb hb=>by rw[Zl.mp hb,e4];exact True.intro
   have sm:∀u,Qw (hide H [a]) (upd H a u):=λu=>QjB (List.mem_singleton_self a)
   have keep:∀{b:Addr},b∈G0->b∉[a]:=λ{b} hb z=>na (by rw[Zl.mp z]at hb;exact hb)
   have keepG:∀{b:Addr},b∈G->b∉[a]:=λ{b} hb z=>ap b hb (by rw[Zl.mp z];exact Zf)
   have l0:G0.length=nls ds:=by
    rw[Zk]at ln
    simp only[D.nl,Ob.n]at ln
    omega
   refine⟨a,C,dx,_,ev,e4,c1,c2 f (ZK.mp hc.1),by rw[List.length_zip];omega,Zf,?_⟩
   subst ev
   split at e
   ·rename_i j hj
    split at e
    ·rename_i hlt
     cases e
     have hd:ds[j]? =some ds[j]:=Zs hlt
     obtain⟨F1,Gj,F2,w,eG,ew,r1,r2,r3⟩:=rs.split hd
     have hvl:j<vs.length:=(Zd.mp ew).1
     have i1:∀b∈F1,b∈G0:=λb hb=>by rw[eG];exact Zh _ hb
     have i2:∀b∈F2,b∈G0:=λb hb=>by rw[eG];exact Ze _ (Ze _ hb)
     have ij:∀b∈Gj,b∈G0:=λb hb=>by rw[eG];exact Ze _ (Zh _ hb)
     rw[eG]at n0
     obtain⟨m1,m2,m3⟩:=ZP.mp n0
     obtain⟨m4,m5,m6⟩:=ZP.mp m2
     refine⟨a::(F1++(G++F2)),Rp.Qh0 e3 (by rw[Qag,Qk6 hj e5]) (by rw[ZaQ];exact e5) (Rps.Qrw (r1.but hm (sm _) λb hb=>keep (i1 b hb)) (ry.but hm (sm _) λb hb=>keepG hb) (r3.but hm (sm _) λb hb=>keep (i2 b hb)) hlt hvl),?_,?_,λb hb=>?_⟩
     ·refine ZS.mpr ⟨λz=>?_,ZP.mpr ⟨m1,ZP.mpr ⟨gn,m5,λb hb c hcc hbc=>?_⟩,λb hb c hcc hbc=>?_⟩⟩
      ·rcases Zr.mp z with z | z
       ·exact na (i1 a z)
       ·rcases Zr.mp z with z | z
        ·exact ap a z Zf
        ·exact na (i2 a z)
      ·subst hbc
       exact ap b hb (Zb _ (i2 b hcc))
      ·subst hbc
       rcases Zr.mp hcc with z | z
       ·exact ap b z (Zb _ (i1 b hb))
       ·exact m3 b hb b (Ze _ z) rfl
     ·have k1:=Qe8 (e:=dy) hd
      have k2:=r2.Q8
      have k3:=congrArg List.length eG
      simp only[Zp]at k3
      have k4:=r1.Q8
      have k5:=r3.Q8
      have k6:nls ds=nls (ds.take j)+(ds[j].nl+nls (ds.drop (j+1))):=by
       have:ds=ds.take j++ds[j]::ds.drop (j+1):=by rw[← Zas hlt,Zau]
       have h':=congrArg nls this
       rw[Qa8]at h'
       exact h'
      simp only[D.nl,Ob.n,Zk,Zp]
      omega
     ·rcases Zo.mp hb with z | z
      ·exact .inl (by rw[z];exact Zf)
      ·rcases Zr.mp z with z | z
       ·exact .inl (Zb _ (i1 b z))
       ·rcases Zr.mp z with z | z
        ·exact .inr z
        ·exact .inl (Zb _ (i2 b z))
    ·cases e
   ·rename_i hj
    cases e
    refine⟨a::(G0++G),Rp.Qh0 e3 (by rw[Qag,Qkp hj e5]) (by rw[Zp,Zp,e5];rfl) ((rs.but hm (sm _) λb hb=>keep hb).append (Rps.Qor (ry.but hm (sm _) λb hb=>keepG hb))),?_,?_,λb hb=>?_⟩
    ·refine ZS.mpr ⟨λz=>?_,ZP.mpr ⟨n0,gn,λb hb c hcc hbc=>?_⟩⟩
     ·rcases Zr.mp z with z | z
      ·exact na z
      ·exact ap a z Zf
     ·subst hbc
      exact ap b hcc (Zb _ hb)
    ·simp only[D.nl,Ob.n,Zk,Zp,Qa8,nls]
     omega
    ·rcases Zo.mp hb with z | z
     ·exact .inl (by rw[z];exact Zf)
     ·rcases Zr.mp z with z | z
      ·exact .inl (Zb _ z)
      ·exact .inr z
  ·cases e
 ·cases e
theorem Qqk{g:D->Option D}{d d':D}(h:QfQ g d=some d'):(∃a e z,d= .obj (.pin a) [e]/\g e=some z/\d'= .obj (.pin a) [z])∨g d=some d':=by
 unfold QfQ at h
 split at h
 ·rename_i a e
  obtain⟨z,h1,h2⟩:=Zc.mp h
  exact .inl ⟨a,e,z,rfl,h1,h2.symm⟩
 ·exact .inr h
theorem Rel.QtQ(hT:Qev K T)(r:Rel K H0 A0 hs ρ F σ H)(e:ρ[i]? =some (some (d,true)))(ry:Rp K H dy y G)(gn:G.Nodup)(gl:G.length=dy.nl)(gs:∀b∈G,Qi6 H0 hs ρ F i b/\b∉F i)(hp:QfQ (putD T f dy) d=some d'):
  ∃v a C dx fs,σ[i]? =some (some v)/\v= .ref a/\H a=some (.ins C dx fs)/\Cls K C/\QbF K C f/\fs.length<1000/\∃F',Rel K H0 A0 hs (ρ.set i (some (d',true))) F' σ (upd H a (.ins C dx (Qa4 f y fs))):=by
 obtain⟨v,hv,rp⟩:=r.val i d true e
 obtain⟨o1,o2,o3,o4,o5⟩:=r.own i d e
 have core:∀{e0 z:D},Rp K H e0 v (F i)->(F i).length=e0.nl->putD T f dy e0=some z->(∀{H'':Hp}{L':List Addr},Rp K H'' z v L'->Rp K H'' d' v L')->z.nl=d'.nl→
   ∃v a C dx fs,σ[i]? =some (some v)/\v= .ref a/\H a=some (.ins C dx fs)/\Cls K C/\QbF K C f/\fs.length<1000/\∃F',Rel K H0 A0 hs (ρ.set i (some (d',true))) F' σ (upd H a (.ins C dx (Qa4 f y fs))):=λ{e0 z} r0 l0 hz up hn=>by
  obtain⟨a,C,dx,fs,ev,ha,c1,c2,c3,hm,L',rl,nl',ll,sub⟩:=Qtr (a:=0) hT r0 o2 l0 ry gn gl (λb hb=>(gs b hb).2) hz
  refine⟨v,a,C,dx,fs,hv,ev,ha,c1,c2,c3,_,r.io e hv (QjB hm) (up rl) nl' (by rw[ll,hn]) λb hb=>?_⟩
  rcases sub b hb with q | q
  ·exact r.QmJ e (.inl q)
  ·exact(gs b q).1
 rcases Qqk hp with⟨a,e0,z,rfl,hz,rfl⟩ | hz
 ·obtain⟨ea,r0⟩:=rp.QcW
  subst ea
  exact core r0 (by rw[o1,QcH]) hz (λh=>Rp.QhQ h) (QcH _ _).symm
 ·exact core rp o1 hz (λh=>h) rfl
theorem QfH:∀(M:List Nat) (ρ:En) (i:Nat),i∉M->(kill M ρ)[i]? =ρ[i]?
 | [],ρ,i,_=>rfl
 | j::M,ρ,i,h=>by
  unfold kill
  rw[QfH M _ i (λz=>h (Zb _ z)),Zi (λz=>h (by rw[z];exact Zf))]
theorem QO.QmJ{rr:R}{v:V}(r:Rel K H0 A0 hs ρ F σ H)(p:QO K ρ F H H' rr v G)(hf:rr.fr=true)(nd:rr.M.Nodup)(hi:i∉rr.M)(e:ρ[i]? =some (some (d,true))):∀b∈G,Qi6 H0 hs (kill rr.M ρ) F i b/\b∉F i:=by
 obtain⟨gn,gs⟩:=p.fresh r hf nd
 have apart:∀(j:Nat) d b,(kill rr.M ρ)[j]? =some (some (d,b))->∀a∈G,a∉F j:=λj d b e a ha hj=>by
  obtain⟨b',e',_⟩:=(Qbl rr.M ρ).2 j d b e
  rcases(gs a ha).2 with q | ⟨k,d',hk,ek,hak⟩
  ·obtain⟨vs,w⟩:=r.mem e' hj
   rw[q]at w;cases w
  ·have hjk:j≠k:=λz=>by subst z;exact Qew rr.M ρ j d b hk e
   exact(r.own k d' ek).2.2.2.1 j d b' hjk e' a hak hj
 refine λb hb=>⟨⟨(gs b hb).1,λj d' b' ej hj=>apart j d' b' ej b hb,λt ht hj=>?_⟩,apart i d true (by rw[QfH _ _ _ hi];exact e) b hb⟩
 rcases(gs b hb).2 with q | ⟨k,d',hk,ek,hak⟩
 ·obtain⟨vs,w⟩:=(r.held t ht).1.mem b hj
  rw[q]at w;cases w
 ·exact(r.own k d' ek).2.2.2.2 t ht b hak hj
end
noncomputable def Qgn(T:ClT)(i:Nat)(f:Str)(fa:DE):DS:=λρ=>(fa ρ).bind λr=>match ρ[i]? with
 | some (some (d,true))=>if(r.norm.fr && decide r.norm.M.Nodup && !r.norm.M.contains i)=true then(QfQ (putD T f r.d) d).map λd'=> .nx ((kill r.norm.M ρ).set i (some (d',true)))else none
 | _=>none
noncomputable def Qgg(T:ClT)(i:Nat)(f:Str)(fa:DE):DS:=λρ=>match ρ[i]? with
 | some (some (d,true))=>(Qis T f d).bind λx=>match x with
  | .int k=>(fa ρ).bind λr=>match r.d with
   | .int m=>(QfQ (putD T f (.int (k+m))) d).map λd'=> .nx (ρ.set i (some (d',true)))
   | _=>none
  | _=>none
 | _=>none
section
variable {X:Cx}{T:ClT}{f:Str}{o e:Expr}{fa:DE}{pos pos':Pos}{i:Nat}
theorem QsC(hT:Qev X.K T)(ho:PE X o (Qfj i))(he:SE X e fa)(hs:swapsWith e (some (.Attribute o f pos')) pos.line X.env=pure false):S1 X (.Assign [.Attribute o f pos'] e pos) (Qgn T i f fa):=λH0 A0=>(QvM ho (he H0 A0) hs).mono λE σ H=>exK λρ hs F out rel e q=>by
 refine Qe e λr e1 e=>?_
 split at e
 ·rename_i d hρ
  split at e
  ·rename_i hc
   simp only[Zg,decide_eq_true_eq,ZY]at hc
   obtain⟨⟨c1,c2⟩,c3⟩:=hc
   have hi:i∉r.norm.M:=λz=>by rw[ZK.mpr z]at c3;cases c3
   obtain⟨d',e2,rfl⟩:=Zc.mp e
   refine⟨ρ,hs,F,r,rel,e1,λy H1 G p=>?_⟩
   have p':=p.norm
   obtain⟨gn,_⟩:=p'.fresh rel c1 c2
   have gl:=(p'.cnt c1).2
   have lo:=p'.QmJ rel c1 c2 hi hρ
   rw[r.Qcl]at gl
   have r1:=(rel.ext p.same).weak (Qbl r.norm.M ρ)
   obtain⟨v,a,C,dx,fs,hv,ev,ha,k1,k2,k3,F',rel'⟩:=r1.QtQ hT (by rw[QfH _ _ _ hi];exact hρ) p.rp gn gl lo e2
   exact⟨v,hv,a,C,dx,fs,ev,ha,k1,k2,k3,q _ _ F' rel'⟩
  ·cases e
 ·cases e
theorem Qsq(hT:Qev X.K T)(ho:PE X o (Qfj i))(he:SE X e fa):S1 X (.AugAssign (.Attribute o f pos') .Add e pos) (Qgg T i f fa):=λH0 A0=>(Qpo ho (he H0 A0) Qu0).mono λE σ H=>exK λρ hs F out rel e q=>by
 unfold Qgg at e
 split at e
 ·rename_i d hρ
  refine Qe e λx hx e=>?_
  split at e
  ·rename_i k
   refine Qe e λr e1 e=>?_
   split at e
   ·rename_i m hm
    obtain⟨d',e2,rfl⟩:=Zc.mp e
    obtain⟨v,hv,rp⟩:=rel.val i d true hρ
    unfold Qis at hx
    obtain⟨ru,rn⟩:=rp.unp
    split at hx
    ·rename_i x ns ds hu
     rw[hu]at ru rn
     refine Qe hx λfs h1 hx=>?_
     split at hx
     ·rename_i hf
      refine Qe hx λj h2 hx=>?_
      obtain⟨a,C,dx,vs,G0,ev,eG,e3,e4,e5,rs⟩:=ru.QeO
      obtain⟨c1,c2⟩:=hT x fs h1 C e3
      obtain⟨u,F1,G1,F2,g1,g2,g3,g4⟩:=rs.get hx
      have eu:=g3.int_inv
      subst eu
      refine⟨v,hv,a,C,dx,_,_,ev,e4,c1,c2 f (ZK.mp hf),Qfo h2 g1,ρ,hs,F,r,rel,e1,λy H1 G p=>?_⟩
      have ey:=(hm▸p.rp:Rp X.K H1 (.int m) y G).int_inv
      subst ey
      obtain⟨v',a',C',dx',fs',hv',ev',ha',k1,k2,k3,F',rel'⟩:=(rel.ext p.same).QtQ (y:= .int (k+m)) (G:=[]) hT hρ .int_mk Zaj rfl (λb hb=>by simp at hb) e2
      rw[hv]at hv'
      cases hv'
      subst ev
      cases ev'
      have hh:=p.same _ _ e4
      rw[ha']at hh
      cases hh
      exact⟨k,m,rfl,rfl,dx,_,ha',k3,q _ _ F' rel'⟩
     ·cases hx
    ·cases hx
   ·cases e
  ·cases e
 ·cases e
end
end HS
namespace HS
open PySem PySem.Spec L2 PyProof.Rows
structure IoR where
 n:Nat
 p:Nat
 den:Qcb
noncomputable abbrev MeT:=List (Str×List (Str×IoR))
def Qoe(X:Cx)(T:MeT):Prop:=∀x ms m r,look x T=some ms->look m ms=some r->∀C,PySem.W.nsIn X.K mainGlobals x=some (some (.ref C))->∃k f fd ps,Cls X.K C/\QiN X.K C m f/\Qab X.prog X.w X.K X.mg X.base CX0 k f fd ps (QdZ X.K r.n 0 r.den)/\QZ k X.A/\Binds X.K fd ps []
noncomputable def ioM(T:MeT)(m:Str)(ds:List D)(d:D):Option (D×D):=match d with
 | .obj (.ins x ns) es=>(look x T).bind λms=>(look m ms).bind λr=>if(!ns.contains m && decide (r.n=ds.length+1))=true then r.den (.obj (.ins x ns) es::ds)else none
 | _=>none
noncomputable def Qfp(g:D->Option (D×D))(d:D):Option (D×D):=match d with
 | .obj (.pin a) [e]=>(g e).map λq=>(q.1,.obj (.pin a) [q.2])
 | d=>g d
section
variable {K:PySem.W.Frag}{H0 H H':Hp}{A0:List Addr}{hs:List (V×D×List Addr)}{ρ:En}{F:Nat->List Addr}{σ:L2.St}{i x:Nat}{d d2 dp:D}{v v2:V}{G Gp:List Addr}
theorem Qkv{g:D->Option (D×D)}{d:D}{q:D×D}(h:Qfp g d=some q):∃e z,g e=some (q.1,z)/\((∃a,d= .obj (.pin a) [e]/\q.2= .obj (.pin a) [z])∨(d=e/\q.2=z)):=by
 unfold Qfp at h
 split at h
 ·rename_i a e
  obtain⟨z,h1,h2⟩:=Zc.mp h
  subst h2
  exact⟨e,z.2,h1,.inl ⟨a,rfl,rfl⟩⟩
 ·exact⟨d,q.2,h,.inr ⟨rfl,rfl⟩⟩
theorem Rel.QrG(r:Rel K H0 A0 hs ρ F σ H)(e:ρ[i]? =some (some (d,true)))(hv:σ[i]? =some (some v))(ip:QhI K H (F i) d2 dp v v2 H' G Gp){dq:D}(up:Rp K H' dp v Gp->Rp K H' dq v Gp)(un:dq.nl=dp.nl)(hx:x≠i):
  ∃F',Rel K H0 A0 hs ((ρ.set i (some (dq,true))).set x (some (d2,true))) F' (σ.set x (some v2)) H':=by
 obtain⟨n1,n2,n3⟩:=ZP.mp ip.nd
 have lo:∀b∈G++Gp,Qi6 H0 hs ρ F i b:=λb hb=>r.QmJ e (ip.fr b hb)
 have r1:=r.io e hv ip.same (up ip.rpp) n2 (by rw[un];exact ip.lenp) λb hb=>lo b (Ze _ hb)
 refine⟨_,r1.new (i:=x) ip.rp n1 ip.len λb hb=>⟨(lo b (Zh _ hb)).1,λj d' b' ej hj=>?_,(lo b (Zh _ hb)).2.2⟩⟩
 by_cases hji:j=i
 ·subst hji
  dsimp only
  rw[if_pos rfl]
  exact λz=>n3 b hb b z rfl
 ·dsimp only
  rw[if_neg hji]
  rw[Zi (Ne.symm hji)]at ej
  exact(lo b (Zh _ hb)).2.1 j d' b' ej hji
end
noncomputable def QgC(T:MeT)(x i:Nat)(m:Str)(fs:DA):DS:=λρ=>(fs ρ).bind λr=>match ρ[i]? with
 | some (some (d,true))=>if(decide (x≠i) && !r.M.contains i)=true then(Qfp (ioM T m r.ds) d).map λq=> .nx ((ρ.set i (some (q.2,true))).set x (some (q.1,true)))else none
 | _=>none
section
variable {X:Cx}{T:MeT}{m nm:Str}{o e:Expr}{es:List Expr}{fs:DA}{pos cpos apos p:Pos}{i x:Nat}
theorem Qlt{K:PySem.W.Frag}{H:Hp}{ds:List D}{vs:List V}{G:List Addr}(h:Rps K H ds vs G):∃F:Nat->List Addr,(∀j b,b∈F j->b∈G)/\∀j d,ds[j]? =some d->∃v,vs[j]? =some v/\Rp K H d v (F j):=by
 obtain⟨Fs,h1,h2⟩:=h.parts
 refine⟨λj=>Fs.getD j [],λj b hb=>?_,h2⟩
 dsimp only at hb
 rw[ZH]at hb
 by_cases hj:j<Fs.length
 ·rw[Zs hj]at hb
  exact h1 _ (Zba hj) b hb
 ·rw[Zy (by omega)]at hb
  simp at hb
theorem Qr3{pl:Sem Bool}(hN:X.N.Nodup)(hx1:X.N[x]? =some nm)(hx2:Loc X.env.scope nm)(hx3:X.fn nm=true∨X.env.scope.names.lookup nm=some .local)(hM:Qoe X T)(ho:PE X o (Qfj i))(ha:SA X (e::es) fs)
  (hst:starEach (e::es) X.env=(false,eval e X.env)::starEach es X.env) (hpl:(backTo cpos (starEach es X.env)).any (·.1)=false)
  (ht:eval (.Call (.Attribute o m apos) (e::es) [] cpos) X.env=(do
   let ov ← eval o X.env
   standAt apos.atName
   let (f,first) ← holding [ov] (getMethod ov m pl)
   callWith cpos f first (backTo cpos (starEach (e::es) X.env)) (backToKw cpos (keywordEach [] X.env)))):
  S1 X (.Assign [.Name nm p] (.Call (.Attribute o m apos) (e::es) [] cpos) pos) (QgC T x i m fs):=by
 intro H0 A0 pins s σ H E I hpt
 obtain⟨ρ,hs,F,out,rel,e,q⟩:=hpt
 refine Qe e λr e1 e=>?_
 split at e
 ·rename_i d hρ
  split at e
  ·rename_i hc
   simp only[Zg,decide_eq_true_eq,ZY]at hc
   obtain⟨hxi,hM0⟩:=hc
   have hi:i∉r.M:=λz=>by rw[ZK.mpr z]at hM0;cases hM0
   obtain⟨qq,e2,rfl⟩:=Zc.mp e
   obtain⟨e0,z,hg,hd⟩:=Qkv e2
   obtain⟨v,hv,rp⟩:=rel.val i d true hρ
   obtain⟨o1,o2,o3,o4,o5⟩:=rel.own i d hρ
   have r0:Rp X.K H e0 v (F i)/\e0.nl=d.nl:=by
    rcases hd with⟨a,rfl,_⟩ | ⟨rfl,_⟩
    ·exact⟨rp.QcW.2,(QcH _ _).symm⟩
    ·exact⟨rp,rfl⟩
   have un:qq.2.nl=z.nl:=by
    rcases hd with⟨a,rfl,h2⟩ | ⟨rfl,h2⟩
    ·rw[h2,QcH]
    ·rw[h2]
   have up:∀{H'':Hp}{L:List Addr},Rp X.K H'' z v L->Rp X.K H'' qq.2 v L:=λ{H'' L} h=>by
    rcases hd with⟨a,rfl,h2⟩ | ⟨rfl,h2⟩
    ·obtain⟨ea,_⟩:=rp.QcW
     rw[h2]
     subst ea
     exact Rp.QhQ h
    ·rw[h2];exact h
   unfold ioM at hg
   split at hg
   ·rename_i cn ns ds0
    refine Qe hg λms h1 hg=>?_
    refine Qe hg λio h2 hg=>?_
    split at hg
    ·rename_i hn
     simp only[Zg,decide_eq_true_eq,ZY]at hn
     obtain⟨hn1,hn2⟩:=hn
     obtain⟨a,C,dx,vs0,G0,ev,eG,k3,k4,k5,rs⟩:=r0.1.QeO
     obtain⟨k,f,fd,ps,c1,c2,c3,c4,c5⟩:=hM cn ms m io h1 h2 C k3
     subst ev
     refine(Qf7 hN hx1 hx2 (Qs1 ho c1 c2 c3 c4 c5 .nil Qgm (ha H0 A0) hst hpl ht) (QcX rfl) hx3) pins s σ H E I ⟨_,hv,a,dx,_,rfl,k4,Qex λz=>?_,ρ,hs,F,r,rel,e1,λvs H1 G p1=>?_⟩
     ·rw[ZK.mpr z]at hn1;cases hn1
     ·obtain⟨Fs,f1,f2⟩:=Qlt p1.rp
      have hlen:=p1.rp.length
      have ap:∀b∈F i,b∉G:=λb hb hbG=>by
       rcases p1.src b hbG with w | ⟨j,d',b',ej,mj,hj⟩
       ·obtain⟨u,hu⟩:=rp.mem b hb
        rw[w]at hu;cases hu
       ·by_cases hji:j=i
        ·subst hji
         rw[hρ]at ej
         cases ej
         exact hi (hj rfl)
        ·exact o4 j d' b' hji ej b hb mj
      refine⟨.obj (.ins cn ns) ds0::r.ds,λj=>match j with | 0=>F i | j+1=>Fs j,a,qq.1,z,by rw[Zk,hn2],by rw[ZM,Zk,← hlen,hn2],λj dj ej=>?_,by omega,rfl,o2,?_,λj hj hj0 b hb=>?_,hg,λv2 H2 G2 Gp ip=>?_⟩
      ·cases j with
       | zero=>simp at ej;subst ej;exact⟨_,rfl,r0.1.same p1.same⟩
       | succ j=>
        obtain⟨u,g1,g2⟩:=f2 j dj (by simpa using ej)
        exact⟨u,by simpa using g1,g2⟩
      ·show(F i).length=_
       rw[o1,← r0.2];rfl
      ·cases j with
       | zero=>exact absurd rfl hj0
       | succ j=>exact λw=>ap b hb (f1 j b w)
      ·obtain⟨F',rel'⟩:=(rel.ext p1.same).QrG hρ hv ip (up (H'':=H2)) un hxi
       exact q _ _ F' rel'
    ·cases hg
   ·cases hg
  ·cases e
 ·cases e
end
noncomputable def rsD:List (Option R)->D->List D
 | [],_=>[]
 | some r::rs,d=>r.d::rsD rs d
 | none::rs,d=>d::rsD rs d
noncomputable def rsM:List (Option R)->List Nat
 | []=>[]
 | some r::rs=>r.M++rsM rs
 | none::rs=>rsM rs
noncomputable def isRef:D->Bool
 | .obj (.ins _ _) _=>true
 | .lst _=>true
 | _=>false
theorem Rp.QoB{K:PySem.W.Frag}{H:Hp}{d:D}{v:V}{L:List Addr}(h:Rp K H d v L)(hr:isRef d=true):∃a,v= .ref a:=by
 unfold isRef at hr
 split at hr
 ·obtain⟨a,C,dx,vs,G,e,_⟩:=h.QeO
  exact⟨a,e⟩
 ·obtain⟨a,vs,G,e,_⟩:=h.lst_inv
  exact⟨a,e⟩
 ·cases hr
noncomputable def oneAt:List (Option DE)->Nat->Bool
 | [],_=>false
 | none::fs,0=>fs.all Option.isSome
 | some _::fs,p+1=>oneAt fs p
 | _,_=>false
noncomputable def Qur(r:IoR)(x i:Nat)(fs:List (Option DE)):DS:=λρ=>(evs fs ρ).bind λrs=>match ρ[i]? with
 | some (some (d,true))=>if(decide (x≠i) && !(rsM rs).contains i && oneAt fs r.p && decide (fs.length=r.n))=true then(Qfp (λe=>if isRef e=true then r.den (rsD rs e)else none) d).map λq=> .nx ((ρ.set i (some (q.2,true))).set x (some (q.1,true)))else none
 | _=>none
section
variable {K:PySem.W.Frag}{H0 H H':Hp}{A0:List Addr}{hs:List (V×D×List Addr)}{ρ:En}{F:Nat->List Addr}{σ:L2.St}{i:Nat}{rs:List (Option R)}{vs:List V}{Gs:List (List Addr)}
theorem QaF.same(h:QaF K ρ F σ i H H' rs vs Gs):Qw H H':=by
 induction h with
 | nil=>exact Qw.refl _
 | val p t ih=>exact p.same.trans ih
 | slot e t ih=>exact ih
theorem QaF.len(h:QaF K ρ F σ i H H' rs vs Gs):vs.length=rs.length:=by
 induction h with
 | nil=>rfl
 | val p t ih=>rw[Zk,Zk,ih]
 | slot e t ih=>rw[Zk,Zk,ih]
theorem QeT:∀(rs:List (Option R)) (d:D),(rsD rs d).length=rs.length
 | [],_=>rfl
 | some r::rs,d=>by rw[rsD,Zk,Zk,QeT rs d]
 | none::rs,d=>by rw[rsD,Zk,Zk,QeT rs d]
theorem QgE:∀{fs:List (Option DE)}{ρ:En}{rs:List (Option R)},evs fs ρ=some rs->rs.length=fs.length
 | [],_,_,h=>by cases h;rfl
 | some f::fs,_,_,h=>by
  refine Qe h λr h1 h=>?_
  obtain⟨rs',h2,rfl⟩:=Zc.mp h
  rw[Zk,Zk,QgE h2]
 | none::fs,_,_,h=>by
  obtain⟨rs',h2,rfl⟩:=Zc.mp h
  rw[Zk,Zk,QgE h2]
theorem QaF.each(h:QaF K ρ F σ i H H' rs vs Gs){e0:D}{v:V}(hv:σ[i]? =some (some v))(r0:Rp K H e0 v (F i)):∀j dj,(rsD rs e0)[j]? =some dj->∃u,vs[j]? =some u/\Rp K H' dj u (Gs.getD j []):=by
 induction h with
 | nil=>intro j dj e;simp[rsD]at e
 | val p t ih=>
  intro j dj e
  cases j with
  | zero=>simp[rsD]at e;subst e;exact⟨_,rfl,by simpa using p.rp.same t.same⟩
  | succ j=>
   obtain⟨u,g1,g2⟩:=ih (r0.same p.same) j dj (by simpa[rsD]using e)
   exact⟨u,by simpa using g1,by simpa using g2⟩
 | slot e1 t ih=>
  intro j dj e
  cases j with
  | zero=>
   simp[rsD]at e
   subst e
   rw[hv]at e1
   cases e1
   exact⟨_,rfl,by simpa using r0.same t.same⟩
  | succ j=>
   obtain⟨u,g1,g2⟩:=ih r0 j dj (by simpa[rsD]using e)
   exact⟨u,by simpa using g1,by simpa using g2⟩
theorem QaF.apart(rel:Rel K H0 A0 hs ρ F σ H)(h:QaF K ρ F σ i H H' rs vs Gs){d:D}(hρ:ρ[i]? =some (some (d,true)))(hM:i∉rsM rs):∀j,(∃r,rs[j]? =some (some r))->∀b∈F i,b∉Gs.getD j []:=by
 induction h with
 | nil=>intro j ⟨r,e⟩;simp at e
 | val p t ih=>
  intro j hj b hb
  cases j with
  | zero=>
   simp only[List.getD_cons_zero]
   intro hbG
   obtain⟨o1,o2,o3,o4,o5⟩:=rel.own i d hρ
   rcases p.src b hbG with w | ⟨j,d',b',ej,mj,hj'⟩
   ·obtain⟨u,hu⟩:=rel.mem hρ hb
    rw[w]at hu;cases hu
   ·by_cases hji:j=i
    ·subst hji
     rw[hρ]at ej
     cases ej
     exact hM (Zh _ (hj' rfl))
    ·exact o4 j d' b' hji ej b hb mj
  | succ j=>
   obtain⟨r',e⟩:=hj
   simp only[List.getD_cons_succ]
   exact ih (rel.ext p.same) (λz=>hM (Ze _ z)) j ⟨r',by simpa using e⟩ b hb
 | slot e1 t ih=>
  intro j hj b hb
  obtain⟨r',e⟩:=hj
  cases j with
  | zero=>simp at e
  | succ j=>
   simp only[List.getD_cons_succ]
   exact ih rel hM j ⟨r',by simpa using e⟩ b hb
theorem QaF.QrT(h:QaF K ρ F σ i H H' rs vs Gs):∀j,rs[j]? =some none->Gs.getD j []=F i/\∃v,σ[i]? =some (some v)/\vs[j]? =some v:=by
 induction h with
 | nil=>intro j e;simp at e
 | val p t ih=>
  intro j e
  cases j with
  | zero=>simp at e
  | succ j=>
   obtain⟨g1,v,g2,g3⟩:=ih j (by simpa using e)
   exact⟨by simpa using g1,v,g2,by simpa using g3⟩
 | slot e1 t ih=>
  intro j e
  cases j with
  | zero=>exact⟨by simp,_,e1,by simp⟩
  | succ j=>
   obtain⟨g1,v,g2,g3⟩:=ih j (by simpa using e)
   exact⟨by simpa using g1,v,g2,by simpa using g3⟩
theorem QdH:∀{fs:List (Option DE)}{ρ:En}{rs:List (Option R)},evs fs ρ=some rs->fs.all Option.isSome=true->∀j,j<rs.length->∃r,rs[j]? =some (some r)
 | [],_,_,h,_,j,hj=>by cases h;simp at hj
 | some f::fs,_,_,h,ha,j,hj=>by
  refine Qe h λr h1 h=>?_
  obtain⟨rs',h2,rfl⟩:=Zc.mp h
  cases j with
  | zero=>exact⟨r,rfl⟩
  | succ j=>
   obtain⟨r',e⟩:=QdH h2 (by simpa using ha) j (by simpa using hj)
   exact⟨r',by simpa using e⟩
 | none::fs,_,_,h,ha,j,hj=>by simp at ha
theorem Qjm:∀{fs:List (Option DE)}{p:Nat}{ρ:En}{rs:List (Option R)},oneAt fs p=true->evs fs ρ=some rs->rs[p]? =some none/\none∈fs/\∀j,j<rs.length->j≠p->∃r,rs[j]? =some (some r)
 | [],_,_,_,h,_=>by cases h
 | none::fs,0,_,_,h,e=>by
  obtain⟨rs',h2,rfl⟩:=Zc.mp e
  refine⟨rfl,Zf,λj hj h0=>?_⟩
  cases j with
  | zero=>exact absurd rfl h0
  | succ j=>
   obtain⟨r,e⟩:=QdH h2 h j (by simpa using hj)
   exact⟨r,by simpa using e⟩
 | none::fs,p+1,_,_,h,_=>by cases h
 | some f::fs,0,_,_,h,_=>by cases h
 | some f::fs,p+1,_,_,h,e=>by
  refine Qe e λr h1 e=>?_
  obtain⟨rs',h2,rfl⟩:=Zc.mp e
  obtain⟨g1,g2,g3⟩:=Qjm (fs:=fs) (p:=p) h h2
  refine⟨by simpa using g1,Zb _ g2,λj hj h0=>?_⟩
  cases j with
  | zero=>exact⟨r,rfl⟩
  | succ j=>
   obtain⟨r',e⟩:=g3 j (by simpa using hj) (λz=>h0 (by rw[z]))
   exact⟨r',by simpa using e⟩
theorem Qk4:∀{rs:List (Option R)}{p:Nat}{e:D},rs[p]? =some none->(rsD rs e).getD p .non=e
 | [],_,_,h=>by simp at h
 | none::rs,0,e,h=>rfl
 | some r::rs,0,e,h=>by simp at h
 | none::rs,p+1,e,h=>by rw[rsD,List.getD_cons_succ];exact Qk4 (by simpa using h)
 | some r::rs,p+1,e,h=>by rw[rsD,List.getD_cons_succ];exact Qk4 (by simpa using h)
end
def QpL(X:Cx)(x:Str)(r:IoR):Prop:=∃k f fd ps,Qab X.prog X.w X.K X.mg X.base CX0 k f fd ps (QdZ X.K r.n r.p r.den)/\QZ k X.A/\X.mg x=some (.ref f)/\PySem.W.keepIn X.K (.ref f)=true/\Binds X.K fd ps []
section
variable {X:Cx}{nm g:Str}{e:Expr}{es:List Expr}{f:Option DE}{fs:List (Option DE)}{pos cpos np p:Pos}{i x:Nat}{r:IoR}
theorem Quz(hN:X.N.Nodup)(hx1:X.N[x]? =some nm)(hx2:Loc X.env.scope nm)(hx3:X.fn nm=true∨X.env.scope.names.lookup nm=some .local)(hF:QpL X g r)(hg:Gl X g)(hdb:(g == ("__debug__" :Str))=false)
  (ha:Qbb X i (e::es) fs) (hst:starEach (e::es) X.env=(false,eval e X.env)::starEach es X.env) (hpl:(backTo cpos (starEach es X.env)).any (·.1)=false):
  S1 X (.Assign [.Name nm p] (.Call (.Name g np) (e::es) [] cpos) pos) (Qur r x i fs):=by
 intro H0 A0 pins s σ H E I hpt
 obtain⟨ρ,hs,F,out,rel,e,q⟩:=hpt
 refine Qe e λrs e1 e=>?_
 split at e
 ·rename_i d hρ
  split at e
  ·rename_i hc
   simp only[Zg,decide_eq_true_eq,ZY]at hc
   obtain⟨⟨⟨hxi,hM0⟩,hone⟩,hlen⟩:=hc
   have hi:i∉rsM rs:=λz=>by rw[ZK.mpr z]at hM0;cases hM0
   obtain⟨qq,e2,rfl⟩:=Zc.mp e
   obtain⟨e0,z,hgd,hd⟩:=Qkv e2
   obtain⟨v,hv,rp⟩:=rel.val i d true hρ
   obtain⟨o1,o2,o3,o4,o5⟩:=rel.own i d hρ
   have r0:Rp X.K H e0 v (F i)/\e0.nl=d.nl:=by
    rcases hd with⟨a,rfl,_⟩ | ⟨rfl,_⟩
    ·exact⟨rp.QcW.2,(QcH _ _).symm⟩
    ·exact⟨rp,rfl⟩
   have un:qq.2.nl=z.nl:=by
    rcases hd with⟨a,rfl,h2⟩ | ⟨rfl,h2⟩
    ·rw[h2,QcH]
    ·rw[h2]
   have up:∀{H'':Hp}{L:List Addr},Rp X.K H'' z v L->Rp X.K H'' qq.2 v L:=λ{H'' L} h=>by
    rcases hd with⟨a,rfl,h2⟩ | ⟨rfl,h2⟩
    ·obtain⟨ea,_⟩:=rp.QcW
     rw[h2]
     subst ea
     exact Rp.QhQ h
    ·rw[h2];exact h
   obtain⟨k,f,fd,ps,c3,c4,c6,c7,c5⟩:=hF
   obtain⟨s1,s2,s3⟩:=Qjm hone e1
   refine(Qf7 hN hx1 hx2 (QiJ c3 c4 hg c6 c7 c5 .nil Qgm (Qvs ha H0 A0) hdb hst hpl) (QcX rfl) hx3) pins s σ H E I ⟨ρ,hs,F,rs,rel,e1,λ_=>⟨v,hv⟩,λvs H1 Gs pl=>?_⟩
   obtain⟨gs1,v',gv,gv2⟩:=pl.QrT r.p s1
   rw[hv]at gv
   cases gv
   split at hgd
   case isFalse=>cases hgd
   rename_i hir
   obtain⟨a,rfl⟩:=r0.1.QoB hir
   have hrl:rs.length=r.n:=by rw[QgE e1,hlen]
   refine⟨rsD rs e0,λj=>Gs.getD j [],a,qq.1,z,by rw[QeT,hrl],by rw[ZM,pl.len,hrl],λj dj ej=>?_,?_,by rw[ZM];exact gv2,(show(Gs.getD r.p []).Nodup by rw[gs1];exact o2),?_,λj hj hj0 b hb=>?_,hgd,λv2 H2 G2 Gp ip=>?_⟩
   ·rw[ZM]
    exact pl.each hv r0.1 j dj ej
   ·have:=(Zd.mp s1).1
    omega
   ·dsimp only
    rw[gs1,o1,Qk4 s1,r0.2]
   ·dsimp only at hb ⊢
    rw[gs1]at hb
    exact pl.apart rel hρ hi j (s3 j (by omega) hj0) b hb
   ·dsimp only at ip
    rw[gs1]at ip
    obtain⟨F',rel'⟩:=(rel.ext pl.same).QrG hρ hv ip (up (H'':=H2)) un hxi
    exact q _ _ F' rel'
  ·cases e
 ·cases e
end
end HS
namespace HS
open PySem PySem.Spec L2 PyProof.Rows
section
variable {K:PySem.W.Frag}{H0 H H':Hp}{A0:List Addr}{hs:List (V×D×List Addr)}{ρ:En}{F:Nat->List Addr}{σ:L2.St}{i:Nat}{rs:List (Option R)}{vs:List V}{Gs:List (List Addr)}
theorem QaF.later(rel:Rel K H0 A0 hs ρ F σ H)(h:QaF K ρ F σ i H H' rs vs Gs){b:Addr}(hb:∃u,H b=some u)(hf:∀(j:Nat) d c,ρ[j]? =some (some (d,c))->b∉F j):∀j,(∃r,rs[j]? =some (some r))->b∉Gs.getD j []:=by
 induction h with
 | nil=>intro j ⟨r,e⟩;simp at e
 | val p t ih=>
  intro j hj
  cases j with
  | zero=>
   simp only[List.getD_cons_zero]
   intro hbG
   rcases p.src b hbG with w | ⟨j,d',b',ej,mj,_⟩
   ·obtain⟨u,hu⟩:=hb
    rw[w]at hu;cases hu
   ·exact hf j d' b' ej mj
  | succ j=>
   obtain⟨r',e⟩:=hj
   simp only[List.getD_cons_succ]
   obtain⟨u,hu⟩:=hb
   exact ih (rel.ext p.same) ⟨u,p.same _ _ hu⟩ j ⟨r',by simpa using e⟩
 | slot e1 t ih=>
  intro j hj
  obtain⟨r',e⟩:=hj
  cases j with
  | zero=>simp at e
  | succ j=>
   simp only[List.getD_cons_succ]
   exact ih rel hb j ⟨r',by simpa using e⟩
theorem QaF.QxC(rel:Rel K H0 A0 hs ρ F σ H)(h:QaF K ρ F σ i H H' rs vs Gs):∀p r,rs[p]? =some (some r)->r.fr=true->r.M=[]->(Gs.getD p []).Nodup/\(Gs.getD p []).length=r.d.nl/\(∀b∈Gs.getD p [],H b=none)/\∀j,j≠p->(∃r',rs[j]? =some (some r'))->∀b∈Gs.getD p [],b∉Gs.getD j []:=by
 induction h with
 | nil=>intro p r e;simp at e
 | @val H H1 H2 r0 v G rs vs Gs p t ih=>
  intro k r e hf hM
  cases k with
  | zero=>
   simp at e
   subst e
   obtain⟨c,ln⟩:=p.cnt hf
   rw[hM]at c
   have c1:∀b,G.count b<=nw H b:=λb=>by have:=c b;simpa using this
   have fr:∀b∈G,H b=none:=λb hb=>by
    cases q:H b with
    | none=>rfl
    | some u=>
     have h1:=c1 b
     rw[QcZ q]at h1
     have h2:0<G.count b:=Zao.mpr hb
     omega
   simp only[List.getD_cons_zero]
   refine⟨ZX.mpr λb=>?_,ln,fr,λj hj hj' b hb=>?_⟩
   ·have h1:=c1 b
    have h2:nw H b<=1:=by unfold nw;split<;>omega
    omega
   ·cases j with
    | zero=>exact absurd rfl hj
    | succ j=>
     obtain⟨r',e'⟩:=hj'
     simp only[List.getD_cons_succ]
     refine t.later (rel.ext p.same) (p.rp.mem b hb) (λk d c ek hk=>?_) j ⟨r',by simpa using e'⟩
     obtain⟨u,hu⟩:=rel.mem ek hk
     rw[fr b hb]at hu;cases hu
  | succ k=>
   obtain⟨g1,g2,g3,g4⟩:=ih (rel.ext p.same) k r (by simpa using e) hf hM
   simp only[List.getD_cons_succ]
   refine⟨g1,g2,λb hb=>p.same.free (g3 b hb),λj hj hj' b hb=>?_⟩
   cases j with
   | zero=>
    simp only[List.getD_cons_zero]
    intro z
    obtain⟨u,hu⟩:=p.rp.mem b z
    rw[g3 b hb]at hu;cases hu
   | succ j=>
    obtain⟨r',e'⟩:=hj'
    simp only[List.getD_cons_succ]
    exact g4 j (λz=>hj (by rw[z])) ⟨r',by simpa using e'⟩ b hb
 | slot e1 t ih=>
  intro k r e hf hM
  cases k with
  | zero=>simp at e
  | succ k=>
   obtain⟨g1,g2,g3,g4⟩:=ih rel k r (by simpa using e) hf hM
   simp only[List.getD_cons_succ]
   refine⟨g1,g2,g3,λj hj hj' b hb=>?_⟩
   obtain⟨r',e'⟩:=hj'
   cases j with
   | zero=>simp at e'
   | succ j=>
    simp only[List.getD_cons_succ]
    exact g4 j (λz=>hj (by rw[z])) ⟨r',by simpa using e'⟩ b hb
theorem QaF.QrB(h:QaF K ρ F σ i H H' rs vs Gs):∀j r,rs[j]? =some (some r)->∃u,vs[j]? =some u/\Rp K H' r.d u (Gs.getD j []):=by
 induction h with
 | nil=>intro j r e;simp at e
 | val p t ih=>
  intro j r e
  cases j with
  | zero=>simp at e;subst e;exact⟨_,rfl,by simpa using p.rp.same t.same⟩
  | succ j=>
   obtain⟨u,g1,g2⟩:=ih j r (by simpa using e)
   exact⟨u,by simpa using g1,by simpa using g2⟩
 | slot e1 t ih=>
  intro j r e
  cases j with
  | zero=>simp at e
  | succ j=>
   obtain⟨u,g1,g2⟩:=ih j r (by simpa using e)
   exact⟨u,by simpa using g1,by simpa using g2⟩
theorem Qfr:∀{rs:List (Option R)}{d:D}{j:Nat}{r:R},rs[j]? =some (some r)->(rsD rs d)[j]? =some r.d
 | [],_,_,_,h=>by simp at h
 | some r0::rs,d,0,r,h=>by simp at h;subst h;rfl
 | none::rs,d,0,r,h=>by simp at h
 | some r0::rs,d,j+1,r,h=>by rw[rsD,List.getElem?_cons_succ];exact Qfr (by simpa using h)
 | none::rs,d,j+1,r,h=>by rw[rsD,List.getElem?_cons_succ];exact Qfr (by simpa using h)
theorem QtE{H1:Hp}{Fp G Gp:List Addr}{d dp:D}{vp v:V}(s:Qw H H1)(fr:∀b∈Fp,H b=none)(ip:QhI K H1 Fp d dp vp v H' G Gp):QO K ρ F H H' ⟨d,true,[]⟩ v G where
 same:=λb u e=>Qbo ip.same (s b u e) λz=>by rw[fr b z]at e;cases e
 rp:=ip.rp
 src:=λa ha=>by
  rcases ip.fr a (Zh _ ha)with z | z
  ·exact .inl (fr a z)
  ·exact .inl (s.free z)
 cnt:=λ_=>by
  refine⟨λa=>?_,ip.len⟩
  have n1:=(ZP.mp ip.nd).1
  by_cases ha:a∈G
  ·have z:H a=none:=by
    rcases ip.fr a (Zh _ ha)with z | z
    ·exact fr a z
    ·exact s.free z
   rw[QaD z]
   have:=ZX.mp n1 a
   omega
  ·rw[ZI.mpr ha];exact Zaf _
 own:=QaE.nil
end
noncomputable def Qf5(r:IoR)(fs:List (Option DE)):DE:=λρ=>(evs fs ρ).bind λrs=>match rs[r.p]? with
 | some (some rp)=>if(rp.fr && rp.M.isEmpty && isRef rp.d && fs.all Option.isSome && decide (fs.length=r.n))=true then(r.den (rsD rs .non)).map λq=>⟨q.1,true,[]⟩else none
 | _=>none
section
variable {X:Cx}{g:Str}{e:Expr}{es:List Expr}{fs:List (Option DE)}{cpos np:Pos}{r:IoR}
theorem QkJ{fs:List (Option DE)}(h:fs.all Option.isSome=true):none∉fs:=λz=>by
 have:=Zar.mp h none z
 cases this
theorem Qu1(hF:QpL X g r)(hg:Gl X g)(hdb:(g == ("__debug__" :Str))=false)(ha:Qbb X 0 (e::es) fs)(hst:starEach (e::es) X.env=(false,eval e X.env)::starEach es X.env)(hpl:(backTo cpos (starEach es X.env)).any (·.1)=false):
  SE X (.Call (.Name g np) (e::es) [] cpos) (Qf5 r fs):=by
 intro H0 A0
 obtain⟨k,f,fd,ps,c3,c4,c6,c7,c5⟩:=hF
 refine(QiJ c3 c4 hg c6 c7 c5 .nil Qgm (Qvs ha H0 A0) hdb hst hpl).mono λσ H Q=>exK λρ hs F out rel e q=>?_
 refine Qe e λrs e1 e=>?_
 split at e
 ·rename_i rp hp
  split at e
  ·rename_i hc
   simp only[Zg,decide_eq_true_eq]at hc
   obtain⟨⟨⟨⟨c1,c2⟩,c8⟩,c9⟩,c10⟩:=hc
   have hM:rp.M=[]:=Zbl.mp c2
   obtain⟨qq,e2,rfl⟩:=Zc.mp e
   refine⟨ρ,hs,F,rs,rel,e1,λz=>absurd z (QkJ c9),λvs H1 Gs pl=>?_⟩
   have hrl:rs.length=r.n:=by rw[QgE e1,c10]
   obtain⟨t1,t2,t3,t4⟩:=pl.QxC rel r.p rp hp c1 hM
   obtain⟨u,u1,u2⟩:=pl.QrB r.p rp hp
   obtain⟨a,rfl⟩:=u2.QoB c8
   have hpl:r.p<rs.length:=(Zd.mp hp).1
   refine⟨rsD rs .non,λj=>Gs.getD j [],a,qq.1,qq.2,by rw[QeT,hrl],by rw[ZM,pl.len,hrl],λj dj ej=>?_,by omega,by rw[ZM];exact u1,t1,?_,λj hj hj0 b hb=>?_,e2,λv2 H2 G2 Gp ip=>?_⟩
   ·have hj:j<rs.length:=by have:=(Zd.mp ej).1;rw[QeT]at this;exact this
    obtain⟨r',er⟩:=QdH e1 c9 j hj
    rw[Qfr er]at ej
    cases ej
    obtain⟨w,w1,w2⟩:=pl.QrB j r' er
    exact⟨w,by rw[ZM];exact w1,w2⟩
   ·dsimp only
    rw[t2,ZH,Qfr hp];rfl
   ·exact t4 j hj0 (QdH e1 c9 j (by omega)) b hb
   ·exact q v2 H2 G2 (QtE pl.same t3 ip)
  ·cases e
 ·cases e
end
noncomputable def QhK(cn:Str)(r:IoR)(fs:DA):DE:=λρ=>(fs ρ).bind λra=>if r.n=ra.ds.length+1 then(r.den (.obj (.ins cn []) []::ra.ds)).bind λq=>match q.1 with
 | .non=>some ⟨q.2,true,[]⟩
 | _=>none
 else none
noncomputable def Qe7(cn:Str):DE:=λ_=>some ⟨.obj (.ins cn []) [],true,[]⟩
def QuN(X:Cx)(cn:Str)(r:IoR):Prop:=∃k C f fd ps,PySem.W.nsIn X.K mainGlobals cn=some (some (.ref C))/\Mk X.K C f/\Qab X.prog X.w X.K X.mg X.base CX0 k f fd ps (QdZ X.K r.n 0 r.den)/\QZ (k+1) X.A/\X.mg cn=some (.ref C)/\Binds X.K fd ps []
def Qru(X:Cx)(cn:Str):Prop:=∃C,PySem.W.nsIn X.K mainGlobals cn=some (some (.ref C))/\PySem.W.makesIn X.K C=true/\PySem.W.findIn X.K (.ref C) "__init__" =some (some (.builtin "object.__init__"))/\PySem.W.keepIn X.K (.ref C)=true/\X.mg cn=some (.ref C)
section
variable {X:Cx}{g:Str}{e:Expr}{es:List Expr}{fs:DA}{cpos np:Pos}{r:IoR}
theorem QrV(hF:QuN X g r)(hg:Gl X g)(hdb:(g == ("__debug__" :Str))=false)(ha:SA X (e::es) fs)(hst:starEach (e::es) X.env=(false,eval e X.env)::starEach es X.env)(hpl:(backTo cpos (starEach es X.env)).any (·.1)=false):
  SE X (.Call (.Name g np) (e::es) [] cpos) (QhK g r fs):=by
 intro H0 A0
 obtain⟨k,C,f,fd,ps,cn,c2,c3,c4,c6,c5⟩:=hF
 refine(Qty c2 c3 c4 hg c6 c5 .nil Qgm (ha H0 A0) hdb hst hpl).mono λσ H Q=>exK λρ hs F out rel e q=>?_
 refine Qe e λra e1 e=>?_
 split at e
 ·rename_i hn
  refine Qe e λqq e2 e=>?_
  split at e
  ·rename_i hq1
   cases e
   refine⟨ρ,hs,F,ra,rel,e1,λvs H1 G p1 x dx hx hdx hne=>?_⟩
   obtain⟨Fs,f1,f2⟩:=Qlt p1.rp
   have hlen:=p1.rp.length
   have sm:Qw H1 (upd (upd H1 dx (.own x)) x (.ins C dx [])):=(QaN hdx).trans (QaN (by rw[Qz (Ne.symm hne)];exact hx))
   have hxx:(upd (upd H1 dx (.own x)) x (.ins C dx [])) x=some (.ins C dx []):=Qag ..
   refine⟨.obj (.ins g []) []::ra.ds,λj=>match j with | 0=>[x] | j+1=>Fs j,x,qq.1,qq.2,by rw[Zk,hn],by rw[ZM,Zk,← hlen,hn],λj dj ej=>?_,by omega,rfl,(by simp),rfl,λj hj hj0 b hb=>?_,e2,λv2 H2 G2 Gp ip=>?_⟩
   ·cases j with
    | zero=>
     simp at ej
     subst ej
     refine⟨_,rfl,Rp.Qh0 (ns:=[]) (vs:=[]) (G:=[]) cn hxx rfl ?_⟩
     simp[Rps]
    | succ j=>
     obtain⟨u,g1,g2⟩:=f2 j dj (by simpa using ej)
     exact⟨u,by simpa using g1,g2.same sm⟩
   ·cases j with
    | zero=>exact absurd rfl hj0
    | succ j=>
     intro z
     rw[Zl.mp hb]at z
     obtain⟨u,hu⟩:=p1.rp.mem x (f1 j x z)
     rw[hx]at hu;cases hu
   ·have hv:v2= .non:=by
     have:=ip.rp
     rw[hq1]at this
     exact this.QeS
    refine⟨hv,q _ H2 Gp ?_⟩
    have fr:∀a∈Gp,H a=none:=λa ha=>by
     rcases ip.fr a (Ze _ ha)with z | z
     ·rw[Zl.mp z];exact p1.same.free hx
     ·exact p1.same.free (sm.free z)
    refine⟨λb u eb=>Qbo ip.same (sm b u (p1.same b u eb)) λz=>?_,ip.rpp,λa ha=> .inl (fr a ha),λ_=>⟨λa=>?_,ip.lenp⟩,QaE.nil⟩
    ·rw[Zl.mp z]at eb
     rw[p1.same.free hx]at eb;cases eb
    ·by_cases ha:a∈Gp
     ·rw[QaD (fr a ha)]
      have:=ZX.mp (ZP.mp ip.nd).2.1 a
      omega
     ·rw[ZI.mpr ha];exact Zaf _
  ·cases e
 ·cases e
theorem QqU(hF:Qru X g)(hg:Gl X g)(hdb:(g == ("__debug__" :Str))=false):SE X (.Call (.Name g np) [] [] cpos) (Qe7 g):=by
 intro H0 A0 pins s σ H Q I hpt
 obtain⟨ρ,hs,F,out,rel,e,q⟩:=hpt
 cases e
 obtain⟨C,cn,h1,h2,h3,h4⟩:=hF
 refine wpAny_Call_Name_kw (QeX I hg h4 ?_ hdb)
 refine PySem.W.callWith_K0 I.kIn h3 ?_
 have hx:=I.hok.fresh (ZaB s.heap.objs.size)
 have hdx:=I.hok.fresh (Zm s.heap.objs.size)
 have hne:s.heap.objs.size≠s.heap.objs.size+1:=ZN (Zaz _)
 have I2:=Inv.made (C:=C) I
 have sm:Qw H (upd (upd H s.heap.objs.size (.own (s.heap.objs.size+1))) (s.heap.objs.size+1) (.ins C s.heap.objs.size [])):=(QaN hdx).trans (QaN (by rw[Qz (Ne.symm hne)];exact hx))
 have hq:EP X pins σ Q (.ref (s.heap.objs.size+1)) {s with heap:=(s.heap.push PySem.W.emptyDict).push (PySem.W.instObj C s.heap.objs.size)}:=by
  refine⟨V.ref (s.heap.objs.size+1),_,I2,rfl,q _ _ [s.heap.objs.size+1] ⟨sm,Rp.Qh0 (ns:=[]) (vs:=[]) (G:=[]) cn (Qag ..) rfl (by simp[Rps]),λa ha=> .inl (by rw[Zl.mp ha];exact hx),λ_=>⟨λa=>?_,rfl⟩,QaE.nil⟩⟩
  by_cases ha:a=s.heap.objs.size+1
  ·rw[ha,QaD hx];simp
  ·rw[ZI.mpr (by simpa using ha)];exact Zaf _
 have Y:=ZbG (M:=model X.prog X.w) I.kIn h1
 refine wpAny_call ?_
 refine Qol I.kIn h1 h2 (λself=>PySem.W.Looks.of_pure (PySem.W.oi_bind self)) ?_
 have e2:((s.heap.push PySem.W.emptyDict).push (PySem.W.instObj C s.heap.objs.size)).get? (s.heap.objs.size+1)=some (PySem.W.instObj C s.heap.objs.size):=by
  have:=ZD (s.heap.push PySem.W.emptyDict) (o:=PySem.W.instObj C s.heap.objs.size) rfl
  rwa[ZaA]at this
 have t1:PySem.W.Looks (model X.prog X.w) ((s.heap.push PySem.W.emptyDict).push (PySem.W.instObj C s.heap.objs.size)) (typeOf (.ref (s.heap.objs.size+1))) (.ref C):=(PySem.W.Looks.ld e2).andThen .now
 have t2:PySem.W.Looks (model X.prog X.w) ((s.heap.push PySem.W.emptyDict).push (PySem.W.instObj C s.heap.objs.size)) (isInstance (.ref (s.heap.objs.size+1)) (.type "object")) true:=t1.andThen (Y.top.keeps λb o e=>Zn _ (Zn _ e))
 refine codeAny_call_builtin PySem.W.oi_plain PySem.W.entry_oi (@PySem.W.check_slot (model X.prog X.w) _ _ _ "object.__init__" "object" "__init__" (.ref (s.heap.objs.size+1)) [] [] _ PySem.W.oi_kind PySem.W.oi_split t2 (PySem.W.oi_args (.ref (s.heap.objs.size+1))) ?_)
 rw[PySem.W.oi_run]
 exact wpAny_pure (And.intro rfl hq)
end
end HS
namespace HS
open PySem PySem.Spec L2 PyProof.Rows
structure ObT where
 cl:ClT
 me:MeT
 io:List (Str×IoR)
 ma:List (Str×IoR)
 mk0:List Str
structure Qlj (X:Cx) (T:ObT):Prop where
 cl:Qev X.K T.cl
 me:Qoe X T.me
 io:∀g r,look g T.io=some r->QpL X g r
 ma:∀g r,look g T.ma=some r->QuN X g r
 mk0:∀g∈T.mk0,Qru X g
noncomputable def te1(n:Nat)(Θ:Th)(T:ObT)(e:Expr):Option DE:=match e with
 | .Attribute o f _=>(Qaz o).bind λx=>(Θ.slot x).map λi=>Qdn T.cl f (Qa i)
 | .Call fn args kw _=>match kw with
  | _::_=>none
  | []=>(Qaz fn).bind λx=>if Θ.gl x=true then(match args with
   | []=>if T.mk0.contains x=true then some (Qe7 x)else none
   | a::as=>(look x T.ma).bind λr=>(QaY n Θ (a::as)).map λfs=>QhK x r fs)else none
 | _=>none
noncomputable def Qj2(n:Nat)(Θ:Th):List Expr->Option (List (Option DE))
 | []=>some []
 | e::es=>(Ql n Θ e).bind λf=>(Qj2 n Θ es).map λfs=>some f::fs
noncomputable def Qno(n:Nat)(Θ:Th):Nat->List Expr->Option (Nat×List (Option DE))
 | _,[]=>none
 | 0,e::es=>(Qaz e).bind λx=>(Θ.slot x).bind λi=>(Qj2 n Θ es).map λfs=>(i,none::fs)
 | p+1,e::es=>(Ql n Θ e).bind λf=>(Qno n Θ p es).map λq=>(q.1,some f::q.2)
noncomputable def te2(n:Nat)(Θ:Th)(T:ObT)(e:Expr):Option DE:=match te1 n Θ T e with
 | some f=>some f
 | none=>match e with
  | .Call fn args kw _=>match kw with
   | _::_=>none
   | []=>match args with
    | []=>none
    | a::as=>(Qaz fn).bind λx=>if Θ.gl x=true then(look x T.io).bind λr=>(Qj2 n {Θ with te:=te1 n Θ T} (a::as)).map λfs=>Qf5 r fs else none
  | _=>none
noncomputable def QvF(T:MeT)(m:Str):Bool:=T.any λq=>(look m q.2).isSome
noncomputable def Quj(n:Nat)(Θ:Th)(T:ObT)(p:Option Nat)(st:Stmt):Option DS:=match st with
 | .Assign ts e _=>match ts with
  | []=>none
  | t::ts=>match ts with
   | _::_=>none
   | []=>match t with
    | .Name x _=>match e with
     | .Call fn args kw cp=>match kw with
      | _::_=>none
      | []=>match args with
       | []=>none
       | a::as=>match fn with
        | .Attribute o m ap=>if(QvF T.me m && (ap.endLine == cp.line) && decide (as.length<20))=true then(Qaz o).bind λy=>(Θ.QcL x).bind λix=>(Θ.slot y).bind λi=>(QaY n Θ (a::as)).map λfs=>QgC T.me ix i m fs else none
        | .Name g _=>if Θ.gl g=true then(look g T.io).bind λr=>(Θ.QcL x).bind λix=>(Qno n Θ r.p (a::as)).map λq=>Qur r ix q.1 q.2 else none
        | _=>none
     | _=>none
    | .Attribute o f _=>if Qdl e=true then(Qaz o).bind λy=>(Θ.slot y).bind λi=>(Ql n Θ e).map λfa=>Qgn T.cl i f fa else none
    | _=>none
 | .AugAssign t op e _=>match t with
  | .Attribute o f _=>match op with
   | .Add=>(Qaz o).bind λy=>(Θ.slot y).bind λi=>(Ql n Θ e).map λfa=>Qgg T.cl i f fa
   | _=>none
  | _=>none
 | .Return v _=>v.bind λe=>p.bind λp=>(Ql n Θ e).map λfa=>QdJ p fa
 | _=>none
theorem QoR{o:Expr}{m:Str}{apos cpos:Pos}{es:List Expr}{env:Env}(hb:attributeBase o m env (eval o env)=eval o env)(hl:(apos.endLine == cpos.line)=true)(ha:(backTo cpos (starEach es env)).all (λx=> !x.1)=true)(hn:es.length<29):
  eval (.Call (.Attribute o m apos) es [] cpos) env=(do
   let ov ← eval o env
   standAt apos.atName
   let (f,first) ← holding [ov] (getMethod ov m (do return (← importBound o env).getD true))
   callWith cpos f first (backTo cpos (starEach es env)) (backToKw cpos (keywordEach [] env))):=by
 rw[arm_eval_Call,hb]
 have hform:methodCallForm (es.length+([]:List Keyword).length) (backTo cpos (starEach es env)) (backToKw cpos (keywordEach [] env))=true:=by
  unfold methodCallForm
  rw[ha]
  have:es.length+([]:List Keyword).length+(if(backToKw cpos (keywordEach [] env)).isEmpty=true then 0 else 1)<30:=by
   split<;>(simp only[List.length_nil];omega)
  simp only[Bool.true_and,Zg,decide_eq_true_eq]
  exact⟨rfl,this⟩
 have hpos:methodCallPos true o env apos cpos=pure cpos:=by unfold methodCallPos;simp[hl]
 have key:∀ov,methodCall o m apos cpos env ov (es.length+([]:List Keyword).length) (backTo cpos (starEach es env)) (backToKw cpos (keywordEach [] env))=(do
   let (f,first) ← holding [ov] (getMethod ov m (do return (← importBound o env).getD true))
   callWith cpos f first (backTo cpos (starEach es env)) (backToKw cpos (keywordEach [] env))):=by
  intro ov
  unfold methodCall
  rw[hform,hpos]
  rfl
 simp only[key]
section
variable {X:Cx}{Θ:Th}{T:ObT}{n:Nat}
theorem QI.Qku{f:Expr->Option DE}(ok:QI X Θ)(h:∀e g,f e=some g->SE X e g):QI X {Θ with te:=f}:=
 ⟨⟨ok.N,ok.nd,ok.lc,ok.ce,ok.fe,ok.gl,ok.units,ok.mg,ok.cs⟩,ok.calm,ok.pass,ok.fns,ok.tr,h⟩
theorem QI.Qvg{f:Stmt->Option DS}(ok:QI X Θ)(h:∀st g,f st=some g->S1 X st g):QI X {Θ with tr:=f}:=
 ⟨⟨ok.N,ok.nd,ok.lc,ok.ce,ok.fe,ok.gl,ok.units,ok.mg,ok.cs⟩,ok.calm,ok.pass,ok.fns,h,ok.te⟩
theorem QbN{e:Expr}{x:Str}(h:Qaz e=some x):∃p,e= .Name x p:=by
 cases e with
 | Name z p=>cases h;exact⟨p,rfl⟩
 | _=>exact nomatch (show(none:Option Str)=some _ from h)
theorem Qn1(ok:QI X Θ)(ob:Qlj X T):∀e f,te1 n Θ T e=some f->SE X e f:=by
 intro e f h
 cases e with
 | Attribute o fl p=>
  refine Qe (show(Qaz o).bind _=some f from h) λx hx h=>?_
  refine mapR h λi hi=>?_
  obtain⟨np,rfl⟩:=QbN hx
  exact Quk ob.cl (QnP (Qcs ok.toCtxB hi)) rfl
 | Call fn args kw p=>
  cases kw with
  | cons _ _=>exact nomatch (show(none:Option DE)=some _ from h)
  | nil=>
   refine Qe (show(Qaz fn).bind _=some f from h) λx hx h'=>?_
   clear h
   obtain⟨np,rfl⟩:=QbN hx
   have h:=h'
   clear h'
   split at h
   ·rename_i hg
    obtain⟨g1,g2,g3⟩:=QdK ok.toCtxB hg
    cases args with
    | nil=>
     dsimp only at h
     split at h
     ·rename_i hc
      cases h
      exact QqU (ob.mk0 x (ZK.mp hc)) g1 g2
     ·cases h
    | cons a as=>
     refine Qe h λr hr h=>?_
     refine mapR h λfs hfs=>?_
     obtain⟨s1,s2⟩:=callArgs (X:=X) hfs rfl p
     exact QrV (ob.ma x r hr) g1 g2 ((Qaw n).A X Θ _ fs ok hfs) s1 s2
   ·cases h
 | _=>exact nomatch (show(none:Option DE)=some _ from h)
theorem Qhg(ok:QI X Θ)(i:Nat):∀{es:List Expr}{fs:List (Option DE)},Qj2 n Θ es=some fs->Qbb X i es fs
 | [],fs,h=>by cases h;exact .nil
 | e::es,fs,h=>by
  refine Qe h λf h1 h=>?_
  exact mapR (M:=λfs=>Qbb X i (e::es) fs) h λfs' h2=> .cons (show QjS X i e (some f)from(Qaw n).E X Θ e f ok h1) (λes env=>Qar h1 es env) (Qhg ok i h2)
theorem Qlv(ok:QI X Θ):∀{p:Nat}{es:List Expr}{q:Nat×List (Option DE)},Qno n Θ p es=some q->Qbb X q.1 es q.2
 | p,[],q,h=>by cases p<;>cases h
 | 0,e::es,q,h=>by
  refine Qe (show(Qaz e).bind _=some q from h) λx hx h1=>?_
  clear h
  refine Qe h1 λi hi h=>?_
  clear h1
  obtain⟨np,rfl⟩:=QbN hx
  exact mapR (M:=λq=>Qbb X q.1 (Expr.Name x np::es) q.2) h λfs hf=> .cons (show QjS X i (.Name x np) none from Qcs ok.toCtxB hi) (λ_ _=>rfl) (Qhg ok i hf)
 | p+1,e::es,q,h=>by
  refine Qe (show(Ql n Θ e).bind _=some q from h) λf h1 h=>?_
  exact mapR (M:=λq=>Qbb X q.1 (e::es) q.2) h λq' hq=> .cons (show QjS X q'.1 e (some f)from(Qaw n).E X Θ e f ok h1) (λes env=>Qar h1 es env) (Qlv ok hq)
theorem Qbb.star{i:Nat}{e:Expr}{es:List Expr}{fs:List (Option DE)}(h:Qbb X i (e::es) fs)(pos:Pos):starEach (e::es) X.env=(false,eval e X.env)::starEach es X.env/\(backTo pos (starEach es X.env)).any (·.1)=false:=by
 cases h with
 | cons h s t=>exact⟨s _ _,t.any pos X.env⟩
theorem Qpp(ok:QI X Θ)(ob:Qlj X T):∀e f,te2 n Θ T e=some f->SE X e f:=by
 intro e f h
 unfold te2 at h
 split at h
 ·rename_i g hg
  cases h
  exact Qn1 ok ob e _ hg
 ·cases e with
  | Call fn args kw p=>
   cases kw with
   | cons _ _=>exact nomatch (show(none:Option DE)=some _ from h)
   | nil=>
    cases args with
    | nil=>exact nomatch (show(none:Option DE)=some _ from h)
    | cons a as=>
     refine Qe (show(Qaz fn).bind _=some f from h) λx hx h'=>?_
     clear h
     obtain⟨np,rfl⟩:=QbN hx
     have h:=h'
     clear h'
     split at h
     ·rename_i hg
      obtain⟨g1,g2,g3⟩:=QdK ok.toCtxB hg
      refine Qe h λr hr h=>?_
      refine mapR h λfs hfs=>?_
      have ha:=Qhg (ok.Qku (Qn1 ok ob)) 0 hfs
      obtain⟨s1,s2⟩:=ha.star p
      exact Qu1 (ob.io x r hr) g1 g2 ha s1 s2
     ·cases h
  | _=>exact nomatch (show(none:Option DE)=some _ from h)
theorem Qti(ok:QI X Θ)(ob:Qlj X T)(p:Option Nat):∀st f,Quj n Θ T p st=some f->S1 X st f:=by
 intro st f h
 have hN:X.N.Nodup:=by rw[ok.N];exact ok.nd
 cases st with
 | Assign ts e pos=>
  rcases ts with _ | ⟨t,_ | ⟨t2,ts⟩⟩
  ·exact nomatch (show(none:Option DS)=some _ from h)
  ·cases t with
   | Name x xp=>
    cases e with
    | Call fn args kw cp=>
     cases kw with
     | cons _ _=>exact nomatch (show(none:Option DS)=some _ from h)
     | nil=>
      cases args with
      | nil=>exact nomatch (show(none:Option DS)=some _ from h)
      | cons a as=>
       cases fn with
       | Attribute o m ap=>
        change(if(QvF T.me m && (ap.endLine == cp.line) && decide (as.length<20))=true then _ else none)=some f at h
        split at h
        ·rename_i hcc
         simp only[Zg,decide_eq_true_eq]at hcc
         refine Qe h λy hy h=>?_
         refine Qe h λix hx h=>?_
         refine Qe h λi hi h=>?_
         refine mapR h λfs hfs=>?_
         obtain⟨np,rfl⟩:=QbN hy
         obtain⟨x1,x2,x3⟩:=Qdp ok.toCtxB hx
         obtain⟨s1,s2⟩:=callArgs (X:=X) hfs rfl cp
         exact Qr3 hN x1 x2 x3 ob.me (Qcs ok.toCtxB hi) ((Qaw n).A X Θ _ fs ok hfs) s1 s2 (QoR rfl hcc.1.2 (by
          have:=QiR hfs cp X.env
          rw[List.all_eq_not_any_not]
          simpa using this) (by rw[Zk];omega))
        ·cases h
       | Name g gp=>
        change(if Θ.gl g=true then _ else none)=some f at h
        split at h
        ·rename_i hg
         refine Qe h λr hr h=>?_
         refine Qe h λix hx h=>?_
         refine mapR h λq hq=>?_
         obtain⟨g1,g2,g3⟩:=QdK ok.toCtxB hg
         obtain⟨x1,x2,x3⟩:=Qdp ok.toCtxB hx
         have ha:=Qlv ok hq
         obtain⟨s1,s2⟩:=ha.star cp
         exact Quz hN x1 x2 x3 (ob.io g r hr) g1 g2 ha s1 s2
        ·cases h
       | _=>exact nomatch (show(none:Option DS)=some _ from h)
    | _=>exact nomatch (show(none:Option DS)=some _ from h)
   | Attribute o fl ap=>
    change(if Qdl e=true then _ else none)=some f at h
    split at h
    ·rename_i hc
     refine Qe h λy hy h=>?_
     refine Qe h λi hi h=>?_
     refine mapR h λfa hfa=>?_
     obtain⟨np,rfl⟩:=QbN hy
     exact QsC ob.cl (Qcs ok.toCtxB hi) ((Qaw n).E X Θ e fa ok hfa) (QcX hc)
    ·cases h
   | _=>exact nomatch (show(none:Option DS)=some _ from h)
  ·exact nomatch (show(none:Option DS)=some _ from h)
 | AugAssign t op e pos=>
  cases t with
  | Attribute o fl ap=>
   cases op with
   | Add=>
    refine Qe (show(Qaz o).bind _=some f from h) λy hy h=>?_
    refine Qe h λi hi h=>?_
    refine mapR h λfa hfa=>?_
    obtain⟨np,rfl⟩:=QbN hy
    exact Qsq ob.cl (Qcs ok.toCtxB hi) ((Qaw n).E X Θ e fa ok hfa)
   | _=>exact nomatch (show(none:Option DS)=some _ from h)
  | _=>exact nomatch (show(none:Option DS)=some _ from h)
 | Return v pos=>
  refine Qe (show v.bind _=some f from h) λe he h=>?_
  cases he
  refine Qe h λp hp h=>?_
  exact mapR (M:=λf=>S1 X (.Return (some e) pos) f) h λfa hfa=>QsJ ((Qaw n).E X Θ e fa ok hfa)
 | _=>exact nomatch (show(none:Option DS)=some _ from h)
noncomputable def thO(n:Nat)(Θ:Th)(T:ObT)(p:Option Nat):Th:={Θ with te:=te2 n Θ T,tr:=Quj n {Θ with te:=te2 n Θ T} T p}
theorem QoH(ok:QI X Θ)(ob:Qlj X T)(p:Option Nat):QI X (thO n Θ T p):=
 (ok.Qku (Qpp ok ob)).Qvg (Qti (ok.Qku (Qpp ok ob)) ob p)
end
section
variable (P:Program) (w:World) (K:PySem.W.Frag) (mg:Str->Option Value) (base:Heap)
structure QcD (k:Nat) (T:ObT):Prop where
 cl:Qev K T.cl
 me:∀x ms m r,look x T.me=some ms->look m ms=some r->∀C,PySem.W.nsIn K mainGlobals x=some (some (.ref C))->∃f fd ps,Cls K C/\QiN K C m f/\Qab P w K mg base CX0 k f fd ps (QdZ K r.n 0 r.den)/\Binds K fd ps []
 io:∀g r,look g T.io=some r->∃f fd ps,Qab P w K mg base CX0 k f fd ps (QdZ K r.n r.p r.den)/\mg g=some (.ref f)/\PySem.W.keepIn K (.ref f)=true/\Binds K fd ps []
 ma:∀g r,look g T.ma=some r->∃C f fd ps,PySem.W.nsIn K mainGlobals g=some (some (.ref C))/\Mk K C f/\Qab P w K mg base CX0 k f fd ps (QdZ K r.n 0 r.den)/\mg g=some (.ref C)/\Binds K fd ps []
 mk0:∀g∈T.mk0,∃C,PySem.W.nsIn K mainGlobals g=some (some (.ref C))/\PySem.W.makesIn K C=true/\PySem.W.findIn K (.ref C) "__init__" =some (some (.builtin "object.__init__"))/\PySem.W.keepIn K (.ref C)=true/\mg g=some (.ref C)
end
section
variable {P:Program}{w:World}{K:PySem.W.Frag}{mg:Str->Option Value}{base:Heap}
theorem QcD.mono{j k:Nat}{T:ObT}(t:QcD P w K mg base j T)(h:j<=k):QcD P w K mg base k T where
 cl:=t.cl
 me:=λx ms m r h1 h2 C h3=>let ⟨f,fd,ps,c1,c2,c3,c4⟩:=t.me x ms m r h1 h2 C h3;⟨f,fd,ps,c1,c2,c3.mono h,c4⟩
 io:=λg r h1=>let ⟨f,fd,ps,c1,c2⟩:=t.io g r h1;⟨f,fd,ps,c1.mono h,c2⟩
 ma:=λg r h1=>let ⟨C,f,fd,ps,c1,c2,c3,c4⟩:=t.ma g r h1;⟨C,f,fd,ps,c1,c2,c3.mono h,c4⟩
 mk0:=t.mk0
theorem QcD.ob{k:Nat}{T:ObT}{X:Cx}(t:QcD X.prog X.w X.K X.mg X.base k T)(hr:QZ (k+1) X.A):Qlj X T where
 cl:=t.cl
 me:=λx ms m r h1 h2 C h3=>let ⟨f,fd,ps,c1,c2,c3,c4⟩:=t.me x ms m r h1 h2 C h3;⟨k,f,fd,ps,c1,c2,c3,hr.mono (ZaB k),c4⟩
 io:=λg r h1=>let ⟨f,fd,ps,c1,c2,c3,c4⟩:=t.io g r h1;⟨k,f,fd,ps,c1,hr.mono (ZaB k),c2,c3,c4⟩
 ma:=λg r h1=>let ⟨C,f,fd,ps,c1,c2,c3,c4,c5⟩:=t.ma g r h1;⟨k,C,f,fd,ps,c1,c2,c3,hr,c4,c5⟩
 mk0:=t.mk0
theorem Qrm{x qual:Str}{st:Stmt}{f:Addr}{fd:FuncData}{ps:List Str}{k n n' p:Nat}{Γ:List (Str×FnR)}{cs:List (Str×Cn)}{T:ObT}{g:DS}{den:Qcb}(F:Fun K x qual st f fd)(S:QaZ (namesOf (Qh st)) ps (Qh st))(M:Qc0 mg cs)(tab:QaG P w K mg base (k+1) Γ)(tabo:QcD P w K mg base k T)
  (hc:Qaa n (thO n' (Qej st Γ cs) T (some p)) (Qah st)=some g) (hU:UIO (namesOf (Qh st)).length p g den):Qab P w K mg base CX0 (k+2) f fd ps (QdZ K ps.length p den):=by
 refine Qwz F S (λcdv A outer s H E hr=>?_) hc hU
 have ok:=QkS (P:=P) (w:=w) (K:=K) (base:=base) (qual:=qual) (f:=f) (cdv:=cdv) (outer:=outer) (s:=s) (H:=H) (E:=E) S M tab hr
 exact QoH ok (QcD.ob (X:=(QdW CX0 P w K mg base (namesOf (Qh st)) qual (Qh st) f cdv A outer s H E).nox) tabo hr) (some p)
theorem Qwc{x qual:Str}{st:Stmt}{f:Addr}{fd:FuncData}{ps:List Str}{k n n':Nat}{Γ:List (Str×FnR)}{cs:List (Str×Cn)}{T:ObT}{g:DS}(F:Fun K x qual st f fd)(S:QaZ (namesOf (Qh st)) ps (Qh st))(M:Qc0 mg cs)(tab:QaG P w K mg base (k+1) Γ)(tabo:QcD P w K mg base k T)
  (hc:Qaa n (thO n' (Qej st Γ cs) T none) (Qah st)=some g):Qab P w K mg base CX0 (k+2) f fd ps (spV K ps.length (Qx (namesOf (Qh st)).length g)):=by
 refine F.ok S (QmC rfl) λcdv A outer s H vs Q E hr h=>?_
 obtain⟨ds,L,d,fr,rps,hl,hd,q⟩:=h
 have ok:=QkS (P:=P) (w:=w) (K:=K) (base:=base) (qual:=qual) (f:=f) (cdv:=cdv) (outer:=outer) (s:=s) (H:=H) (E:=E) S M tab hr
 have ok2:=QoH (n:=n') ok (QcD.ob (X:=(QdW CX0 P w K mg base (namesOf (Qh st)) qual (Qh st) f cdv A outer s H E).nox) tabo hr) none
 refine⟨_,(Qj0 n).Ss _ _ _ g ok2 hc H L,?_⟩
 obtain⟨F0,rel⟩:=Qjf (N:=namesOf (Qh st)) rps
 unfold Qx at hd
 refine Qe hd λo ho hd=>?_
 refine⟨_,[],F0,o,rel,ho,?_⟩
 cases o with
 | nx ρ=>
  cases hd
  exact λσ H' F' rel'=>q .non H' [] ⟨rel'.same,.Qf3,λa ha=>by simp at ha,λ_=>⟨Zaj,rfl,λa ha=>by simp at ha⟩⟩
 | bk ρ=>cases hd
 | ct ρ=>cases hd
 | rt d' fr'=>
  cases hd
  exact λv H' G r=>q v H' G r
theorem Qvq{h:Heap}{x y:Str}{st:Stmt}{fa:Addr}{k n n':Nat}{Γ:List (Str×FnR)}{cs:List (Str×Cn)}{T:ObT}{g:DS}(X:K.In h)(G:h.Ns mainGlobals mg)(hmg:mg x=some (.ref fa))
  (F:Fact K x st) (S:QaZ (namesOf (Qh st)) [y] (Qh st)) (B:QM x st [y]) (M:Qc0 mg cs) (tab:∀base:Heap,QaG P w K mg base (k+1) Γ) (tabo:∀base:Heap,QcD P w K mg base k T) (hc:Qaa n (thO n' (Qej st Γ cs) T none) (Qah st)=some g):
  ∃fd:FuncData,(∀(s:Shared) (u:Value),BindsTo s fd ⟨[u],[]⟩ [(y,u)])∧
    ∀base:Heap,K.In base->base.Ns mainGlobals mg->Qab P w K mg base CX0 (k+2) fa fd [y] (spV K 1 (Qx (namesOf (Qh st)).length g)):=by
 obtain⟨f,fd,Fn,a⟩:=F.ex
 have e:=hmg.symm.trans (Zbd X G a)
 cases e
 refine⟨fd,λs u=>?_,λbase _ _=>Qwc Fn S M (tab base) (tabo base) hc⟩
 obtain⟨oc,od,kV,doc,pm,an,cdv,ct,osl,rfl,lk,hcd⟩:=Fn.ex
 exact .of_eq (B kV doc pm an cdv ct [u] rfl)
structure Qgu (K:PySem.W.Frag) (c m qual:Str) (st:Stmt):Prop where
 ex:∃C f fd,PySem.W.nsIn K mainGlobals c=some (some (.ref C))/\Cls K C/\QiN K C m f/\Fun K m qual st f fd
theorem Qfn{c m qual:Str}{st:Stmt}{C f:Addr}{oc:Value}{od an:Option Addr}{osl:Array (Option Value)}{kV doc pm cdv ct:Value}(a:PySem.W.nsIn K mainGlobals c=some (some (.ref C)))
  (c1:PySem.W.plainGet K C Str.empty=true) (c2:PySem.W.hasDictIn K C=true) (c3:PySem.W.plainOver K C=true) (c4:PySem.W.findIn K (.ref C) "__setattr__" =some (some (.builtin "object.__setattr__")))
  (m1:PySem.W.findIn K (.ref C) m=some (some (.ref f))) (m2:PySem.W.isFn K (.ref f)=true) (k:PySem.W.keepIn K (.ref f)=true)
  (l:K.lookup f=some ⟨oc,od,.func (PySem.W.fnOf m qual (QcQ st) (Qah st) (Qh st) .none kV doc pm an cdv ct),osl⟩) (cd:PySem.W.codeIn K cdv qual=true):Qgu K c m qual st:=
 ⟨C,f,_,a,⟨c1,c2,c3,c4⟩,⟨m1,m2,k⟩,Qoo l cd k⟩
end
end HS
namespace HS
open PySem PySem.Spec L2 PyProof.Rows
noncomputable def QdV(k p:Nat)(g:DS):Qcb:=λds=>open Classical in if h:∃q,∀a,∃o,g (Qcr k p a ds)=some o/\Qgo p a o=some q then some h.choose else none
theorem Qd2{k p:Nat}{g:DS}:UIO k p g (QdV k p g):=λds q e a=>by
 unfold QdV at e
 split at e
 ·rename_i h
  cases e
  exact h.choose_spec a
 ·cases e
theorem Qtu{k p:Nat}{g:DS}{ds:List D}{q:D×D}(h:∀a,∃o,g (Qcr k p a ds)=some o/\Qgo p a o=some q):QdV k p g ds=some q:=by
 have hx:∃q,∀a,∃o,g (Qcr k p a ds)=some o/\Qgo p a o=some q:=⟨q,h⟩
 unfold QdV
 rw[dif_pos hx]
 obtain⟨o,h1,h2⟩:=h 0
 obtain⟨o',h3,h4⟩:=hx.choose_spec 0
 rw[h1]at h3
 cases h3
 rw[h2]at h4
 exact h4.symm
section
variable (P:Program) (w:World) (K:PySem.W.Frag) (mg:Str->Option Value) (base:Heap)
noncomputable def Qj1(C:Addr):List Str->Prop
 | []=>True
 | f::r=>QbF K C f/\Qj1 C r
def Qh8(x:Str)(fs:List Str):Prop:=∃C,PySem.W.nsIn K mainGlobals x=some (some (.ref C))/\Cls K C/\Qj1 K C fs
noncomputable def Qnw:ClT->Prop
 | []=>True
 | (x,fs)::r=>Qh8 K x fs/\Qnw r
def QjP(x:Str):Prop:=∃C,PySem.W.nsIn K mainGlobals x=some (some (.ref C))/\PySem.W.makesIn K C=true/\PySem.W.findIn K (.ref C) "__init__" =some (some (.builtin "object.__init__"))/\PySem.W.keepIn K (.ref C)=true
def QjY(x:Str):Prop:=∃C,PySem.W.nsIn K mainGlobals x=some (some (.ref C))/\PySem.W.makesIn K C=true/\PySem.W.keepIn K (.ref C)=true
noncomputable def Qqu:List Str->Prop
 | []=>True
 | x::r=>QjP K x/\Qqu r
def Qfs(k:Nat)(x m:Str)(r:IoR):Prop:=∃C f fd ps,PySem.W.nsIn K mainGlobals x=some (some (.ref C))/\Cls K C/\QiN K C m f/\Qab P w K mg base CX0 k f fd ps (QdZ K r.n 0 r.den)/\Binds K fd ps []
noncomputable def QmN(k:Nat)(x:Str):List (Str×IoR)->Prop
 | []=>True
 | (m,r)::l=>Qfs P w K mg base k x m r/\QmN k x l
noncomputable def QnL(k:Nat):MeT->Prop
 | []=>True
 | (x,ms)::l=>QmN P w K mg base k x ms/\QnL k l
def QiZ(k:Nat)(g:Str)(r:IoR):Prop:=∃f fd ps,Qab P w K mg base CX0 k f fd ps (QdZ K r.n r.p r.den)/\mg g=some (.ref f)/\PySem.W.keepIn K (.ref f)=true/\Binds K fd ps []
noncomputable def Qm6(k:Nat):List (Str×IoR)->Prop
 | []=>True
 | (g,r)::l=>QiZ P w K mg base k g r/\Qm6 k l
noncomputable def Qm3(k:Nat):List (Str×IoR)->Prop
 | []=>True
 | (g,r)::l=>(QjY K g/\Qfs P w K mg base k g "__init__" r)/\Qm3 k l
def QfF(x qual:Str)(st:Stmt)(ps:List Str):Prop:=∀(kV doc pm:Value) (an:Option Addr) (cdv ct:Value) (us:List Value),us.length=ps.length->bindArgs (PySem.W.fnOf x qual (QcQ st) (Qah st) (Qh st) .none kV doc pm an cdv ct) ⟨us,[]⟩=pure (ps.zip us)
end
section
variable {P:Program}{w:World}{K:PySem.W.Frag}{mg:Str->Option Value}{base:Heap}
theorem Qkx{C:Addr}:∀{fs:List Str},Qj1 K C fs->∀f∈fs,QbF K C f
 | [],_,f,hf=>by simp at hf
 | g::r,h,f,hf=>by
  rcases Zo.mp hf with rfl | hf
  ·exact h.1
  ·exact Qkx h.2 f hf
theorem Qlx:∀{T:ClT},Qnw K T->Qev K T
 | [],_,x,fs,h,_,_=>by cases h
 | (y,gs)::r,hc,x,fs,h,C,hC=>by
  unfold look at h
  split at h
  ·rename_i e
   cases h
   subst e
   obtain⟨C',h1,h2,h3⟩:=hc.1
   rw[hC]at h1
   cases h1
   exact⟨h2,Qkx h3⟩
  ·exact Qlx hc.2 x fs h C hC
theorem Ql6{h:Heap}(X:K.In h)(G:h.Ns mainGlobals mg):∀{l:List Str},Qqu K l->∀g∈l,∃C,PySem.W.nsIn K mainGlobals g=some (some (.ref C))/\PySem.W.makesIn K C=true/\PySem.W.findIn K (.ref C) "__init__" =some (some (.builtin "object.__init__"))/\PySem.W.keepIn K (.ref C)=true/\mg g=some (.ref C)
 | [],_,f,hf=>by simp at hf
 | g::r,hh,f,hf=>by
  rcases Zo.mp hf with rfl | hf
  ·obtain⟨C,h1,h2,h3,h4⟩:=hh.1
   exact⟨C,h1,h2,h3,h4,Zbd X G h1⟩
  ·exact Ql6 X G hh.2 f hf
theorem Qlm{k:Nat}{x:Str}:∀{l:List (Str×IoR)},QmN P w K mg base k x l->∀m r,look m l=some r->Qfs P w K mg base k x m r
 | [],_,m,r,h=>by cases h
 | (y,q)::l,hh,m,r,h=>by
  unfold look at h
  split at h
  ·rename_i e
   cases h
   subst e
   exact hh.1
  ·exact Qlm hh.2 m r h
theorem Qk7{k:Nat}:∀{T:MeT},QnL P w K mg base k T->∀x ms m r,look x T=some ms->look m ms=some r->Qfs P w K mg base k x m r
 | [],_,x,ms,m,r,h,_=>by cases h
 | (y,q)::l,hh,x,ms,m,r,h,h2=>by
  unfold look at h
  split at h
  ·rename_i e
   cases h
   subst e
   exact Qlm hh.1 m r h2
  ·exact Qk7 hh.2 x ms m r h h2
theorem Qkh{k:Nat}:∀{l:List (Str×IoR)},Qm6 P w K mg base k l->∀g r,look g l=some r->QiZ P w K mg base k g r
 | [],_,m,r,h=>by cases h
 | (y,q)::l,hh,m,r,h=>by
  unfold look at h
  split at h
  ·rename_i e
   cases h
   subst e
   exact hh.1
  ·exact Qkh hh.2 m r h
theorem Qkq{k:Nat}:∀{l:List (Str×IoR)},Qm3 P w K mg base k l->∀g r,look g l=some r->QjY K g/\Qfs P w K mg base k g "__init__" r
 | [],_,m,r,h=>by cases h
 | (y,q)::l,hh,m,r,h=>by
  unfold look at h
  split at h
  ·rename_i e
   cases h
   subst e
   exact hh.1
  ·exact Qkq hh.2 m r h
theorem Qfs.mono{j k:Nat}{x m:Str}{r:IoR}(h:Qfs P w K mg base j x m r)(hk:j<=k):Qfs P w K mg base k x m r:=by
 obtain⟨C,f,fd,ps,c1,c2,c3,c4,c5⟩:=h
 exact⟨C,f,fd,ps,c1,c2,c3,c4.mono hk,c5⟩
theorem QiZ.mono{j k:Nat}{g:Str}{r:IoR}(h:QiZ P w K mg base j g r)(hk:j<=k):QiZ P w K mg base k g r:=by
 obtain⟨f,fd,ps,c1,c2⟩:=h
 exact⟨f,fd,ps,c1.mono hk,c2⟩
theorem QaG.rise{j k:Nat}{Γ:List (Str×FnR)}(t:QaG P w K mg base j Γ)(hk:j<=k):QaG P w K mg base k Γ:=λx r e=>(t x r e).mono hk
theorem QiA{h:Heap}{k:Nat}{T:ObT}(X:K.In h)(G:h.Ns mainGlobals mg)(h1:Qnw K T.cl)(h2:QnL P w K mg base k T.me)(h3:Qm6 P w K mg base k T.io)(h4:Qm3 P w K mg base k T.ma)(h5:Qqu K T.mk0):QcD P w K mg base k T where
 cl:=Qlx h1
 me:=λx ms m r e1 e2 C hC=>by
  obtain⟨C',f,fd,ps,c1,c2,c3,c4,c5⟩:=Qk7 h2 x ms m r e1 e2
  rw[hC]at c1
  cases c1
  exact⟨f,fd,ps,c2,c3,c4,c5⟩
 io:=λg r e=>Qkh h3 g r e
 ma:=λg r e=>by
  obtain⟨⟨C,b1,b2,b3⟩,C',f,fd,ps,c1,c2,c3,c4,c5⟩:=Qkq h4 g r e
  rw[b1]at c1
  cases c1
  exact⟨C,f,fd,ps,b1,⟨b2,c3.at_,c3.fn,b3⟩,c4,Zbd X G b1,c5⟩
 mk0:=Ql6 X G h5
theorem QjX{c m qual:Str}{st:Stmt}{ps:List Str}{k n n':Nat}{Γ:List (Str×FnR)}{cs:List (Str×Cn)}{T:ObT}{g:DS}{den:Qcb}(F:Qgu K c m qual st)(S:QaZ (namesOf (Qh st)) ps (Qh st))(B:QfF m qual st ps)(M:Qc0 mg cs)(tab:QaG P w K mg base (k+1) Γ)(tabo:QcD P w K mg base k T)
  (hc:Qaa n (thO n' (Qej st Γ cs) T (some 0)) (Qah st)=some g) (hU:UIO (namesOf (Qh st)).length 0 g den):Qfs P w K mg base (k+2) c m ⟨ps.length,0,den⟩:=by
 obtain⟨C,f,fd,c1,c2,c3,Fn⟩:=F.ex
 exact⟨C,f,fd,ps,c1,c2,c3,Qrm Fn S M tab tabo hc hU,Fn.binds (B ·)⟩
theorem Qwe{h:Heap}{x:Str}{st:Stmt}{ps:List Str}{k n n' p:Nat}{Γ:List (Str×FnR)}{cs:List (Str×Cn)}{T:ObT}{g:DS}{den:Qcb}(X:K.In h)(G:h.Ns mainGlobals mg)(F:Fact K x st)(S:QaZ (namesOf (Qh st)) ps (Qh st))(B:QM x st ps)(M:Qc0 mg cs)(tab:QaG P w K mg base (k+1) Γ)(tabo:QcD P w K mg base k T)
  (hc:Qaa n (thO n' (Qej st Γ cs) T (some p)) (Qah st)=some g) (hU:UIO (namesOf (Qh st)).length p g den):QiZ P w K mg base (k+2) x ⟨ps.length,p,den⟩:=by
 obtain⟨f,fd,Fn,a⟩:=F.ex
 exact⟨f,fd,ps,Qrm Fn S M tab tabo hc hU,Zbd X G a,Fn.kp,Fn.binds (B ·)⟩
theorem Qha{x:Str}{fs:List Str}{C:Addr}(a:PySem.W.nsIn K mainGlobals x=some (some (.ref C)))(c1:PySem.W.plainGet K C Str.empty=true)(c2:PySem.W.hasDictIn K C=true)(c3:PySem.W.plainOver K C=true)(c4:PySem.W.findIn K (.ref C) "__setattr__" =some (some (.builtin "object.__setattr__")))(n:Qj1 K C fs):Qh8 K x fs:=
 ⟨C,a,⟨c1,c2,c3,c4⟩,n⟩
theorem Qk0{x:Str}{C:Addr}(a:PySem.W.nsIn K mainGlobals x=some (some (.ref C)))(c1:PySem.W.makesIn K C=true)(c2:PySem.W.findIn K (.ref C) "__init__" =some (some (.builtin "object.__init__")))(c3:PySem.W.keepIn K (.ref C)=true):QjP K x:=⟨C,a,c1,c2,c3⟩
theorem QqS{x:Str}{C:Addr}(a:PySem.W.nsIn K mainGlobals x=some (some (.ref C)))(c1:PySem.W.makesIn K C=true)(c3:PySem.W.keepIn K (.ref C)=true):QjY K x:=⟨C,a,c1,c3⟩
end
end HS
namespace HS
open PySem L2
noncomputable def pairD(p:Int×Int):D:= .tup [.int p.1,.int p.2]
noncomputable def QcO(p:Int×Int×Bool):D:= .tup [.int p.1,.int p.2.1,.bl p.2.2]
noncomputable def Qi(ns:List Int):D:= .lst (ns.map .int)
noncomputable def Q9(ps:List (Int×Int)):D:= .lst (ps.map pairD)
noncomputable def Qp(m:Int)(R L:List (Int×Int)):D:= .tup [.int m,Q9 R,Q9 L]
theorem Qci{α:Type}{f:α->D}(h:∀a,(f a).flat=true):∀l:List α,QB (l.map f)=true
 | []=>rfl
 | a::l=>by simp[QB,h a,Qci h l]
@[simp] theorem Qxk(i:Int):(D.int i).flat=true:=rfl
@[simp] theorem Qyg(i:Bool):(D.bl i).flat=true:=rfl
@[simp] theorem Qxi:D.non.flat=true:=rfl
@[simp] theorem QxY(x:Str):(D.str x).flat=true:=rfl
@[simp] theorem Qxf(xs:List D):(D.lst xs).flat=false:=rfl
@[simp] theorem QxB(xs:List D):(D.tup xs).flat=QB xs:=rfl
@[simp] theorem Qxd:QB []=true:=rfl
@[simp] theorem QwO(d:D)(ds:List D):QB (d::ds)=(d.flat && QB ds):=rfl
@[simp] theorem Qxc(p:Int×Int):(pairD p).flat=true:=rfl
@[simp] theorem QxK(p:Int×Int×Bool):(QcO p).flat=true:=rfl
@[simp] theorem Qxb(ns:List Int):(Qi ns).flat=false:=rfl
@[simp] theorem Qw8(ns:List (Int×Int)):(Q9 ns).flat=false:=rfl
@[simp] theorem Qv0(ps:List (Int×Int)):QB (ps.map pairD)=true:=Qci (λ_=>rfl) _
@[simp] theorem Qm2(ps:List (Int×Int×Bool)):QB (ps.map QcO)=true:=Qci (λ_=>rfl) _
@[simp] theorem Qh3(ns:List Int):QB (ns.map .int)=true:=Qci (λ_=>rfl) _
@[simp] theorem Qxe(xs ys:List D):QB (xs++ys)=(QB xs && QB ys):=Qea xs ys
def Run(f:DS)(ρ:En)(Q:Out->Prop):Prop:=∃o,f ρ=some o/\Q o
noncomputable def Nx(Q:En->Prop):Out->Prop
 | .nx ρ=>Q ρ
 | _=>False
noncomputable def Rt(Q:D->Bool->Prop):Out->Prop
 | .rt d fr=>Q d fr
 | _=>False
theorem Run.mono(h:Run f ρ Q)(m:∀o,Q o->Q' o):Run f ρ Q':=let ⟨o,h1,h2⟩:=h;⟨o,h1,m o h2⟩
theorem Qn(h:Q (.nx ρ)):Run Qo ρ Q:=⟨_,rfl,h⟩
theorem run_seq(h:Run f ρ (Nx λρ'=>Run g ρ' Q)):Run (Qd f g) ρ Q:=by
 obtain⟨o,h1,h2⟩:=h
 cases o with
 | nx ρ'=>
  obtain⟨o',h3,h4⟩:=h2
  exact⟨o',by simp[Qd,h1,h3],h4⟩
 | _=>exact False.elim h2
theorem QE(h:Run f ρ λo=>match o with | .nx ρ'=>Run g ρ' Q | o=>Q o):Run (Qd f g) ρ Q:=by
 obtain⟨o,h1,h2⟩:=h
 cases o with
 | nx ρ'=>
  obtain⟨o',h3,h4⟩:=h2
  exact⟨o',by simp[Qd,h1,h3],h4⟩
 | bk ρ'=>exact⟨_,by simp[Qd,h1],h2⟩
 | ct ρ'=>exact⟨_,by simp[Qd,h1],h2⟩
 | rt d fr=>exact⟨_,by simp[Qd,h1],h2⟩
theorem Qj(h:fa ρ=some r)(q:Q (.nx (asg i r ρ))):Run (Qv i fa) ρ Q:=⟨_,by simp[Qv,h],q⟩
theorem Qmk(h:fa ρ=some r)(q:Q (.rt r.d (r.norm.fr && decide r.norm.M.Nodup))):Run (Qai fa) ρ Q:=⟨_,by simp[Qai,h],q⟩
theorem Qae(h:g ρ=some b)(q1:b=true->Run f1 ρ Q)(q2:b=false->Run f2 ρ Q):Run (sIf g f1 f2) ρ Q:=by
 cases b with
 | true=>obtain⟨o,h1,h2⟩:=q1 rfl;exact⟨o,by simp[sIf,h,h1],h2⟩
 | false=>obtain⟨o,h1,h2⟩:=q2 rfl;exact⟨o,by simp[sIf,h,h1],h2⟩
theorem QbV(h:Run f (Qao k ds) (Rt λd' fr'=>d'=d/\fr'=fr)):Qx k f ds=some (d,fr):=by
 obtain⟨o,h1,h2⟩:=h
 unfold Qx
 cases o with
 | rt d' fr'=>obtain⟨rfl,rfl⟩:=h2;rw[h1];rfl
 | _=>exact False.elim h2
theorem Qk9{α:Type}{t:Tg}{fb:DS}{toD:α->D}{Q:Out->Prop}(I:Nat->En->Prop):∀(xs ys:List α) (ρ:En),I ys.length ρ→
  (∀i x ρ,(ys++xs)[i]? =some x->ys.length<=i->I i ρ->∃ρ1,Qbm t (toD x) ρ=some ρ1/\Run fb ρ1 λo=>match o with | .nx ρ2=>I (i+1) ρ2 | .ct ρ2=>I (i+1) ρ2 | .bk ρ2=>Q (.nx ρ2) | .rt d fr=>Q (.rt d fr))→
  (∀ρ,I (ys++xs).length ρ->Q (.nx ρ))->Run (QcJ t fb (xs.map toD)) ρ Q
 | [],ys,ρ,h0,_,fin=>⟨_,rfl,fin ρ (by simpa using h0)⟩
 | x::xs,ys,ρ,h0,turn,fin=>by
  obtain⟨ρ1,h1,o,h2,h3⟩:=turn ys.length x ρ (by simp) (Zm _) h0
  have next:∀ρ2,I (ys.length+1) ρ2->Run (QcJ t fb (xs.map toD)) ρ2 Q:=λρ2 hi=>
   Qk9 I xs (ys++[x]) ρ2 (by simpa using hi) (λi y ρ' e hl=>turn i y ρ' (by simpa using e) (by simp at hl;omega)) (λρ' h=>fin ρ' (by simpa using h))
  cases o with
  | nx ρ2=>obtain⟨o',e1,e2⟩:=next ρ2 h3;exact⟨o',by simp[QcJ,h1,h2,e1],e2⟩
  | ct ρ2=>obtain⟨o',e1,e2⟩:=next ρ2 h3;exact⟨o',by simp[QcJ,h1,h2,e1],e2⟩
  | bk ρ2=>exact⟨_,by simp[QcJ,h1,h2],h3⟩
  | rt d fr=>exact⟨_,by simp[QcJ,h1,h2],h3⟩
theorem Qad{α:Type}{fi:DI}{t:Tg}{fb:DS}{toD:α->D}{ρ:En}{ir:IR}{Q:Out->Prop}(xs:List α)(I:Nat->En->Prop)(h:fi ρ=some ir)(hx:ir.items=xs.map toD)(h0:I 0 (QbH ir.M ρ))
  (turn:∀i x ρ,xs[i]? =some x->I i ρ->∃ρ1,Qbm t (toD x) ρ=some ρ1/\Run fb ρ1 λo=>match o with | .nx ρ2=>I (i+1) ρ2 | .ct ρ2=>I (i+1) ρ2 | .bk ρ2=>Q (.nx ρ2) | .rt d fr=>Q (.rt d fr))
  (fin:∀ρ,I xs.length ρ->Q (.nx ρ)):Run (Qa3 fi t fb) ρ Q:=by
 obtain⟨o,h1,h2⟩:=Qk9 (t:=t) (fb:=fb) (toD:=toD) (Q:=Q) I xs [] (QbH ir.M ρ) h0 (λi x ρ e _=>turn i x ρ (by simpa using e)) (λρ h=>fin ρ (by simpa using h))
 exact⟨o,by simp[Qa3,h,hx,h1],h2⟩
theorem Qjr{α:Type}{t:Tg}{ft:DT}{fe:DE}{ρc:En}{toD:α->D}{keep:α->Bool}{out:α->D}:∀(xs:List α) (acc:List D),
  (∀x∈xs,∃ρ1,Qbm t (toD x) ρc=some ρ1/\ft ρ1=some (keep x)/\(keep x=true->∃r,fe ρ1=some r/\r.d=out x/\r.norm.fr=true))→
  (xs.map toD).foldlM (QeA t ft fe ρc) (acc,true)=some (acc++(xs.filter keep).map out,true)
 | [],acc,_=>by simp
 | x::xs,acc,h=>by
  obtain⟨ρ1,h1,h2,h3⟩:=h x Zf
  have ih:=λacc=>Qjr xs acc (λy hy=>h y (Zb _ hy))
  cases hk:keep x with
  | false=>
   have e:QeA t ft fe ρc (acc,true) (toD x)=some (acc,true):=by simp[QeA,h1,h2,hk]
   simp[ZbJ,e,ih,hk]
  | true=>
   obtain⟨r,h4,h5,h6⟩:=h3 hk
   have e:QeA t ft fe ρc (acc,true) (toD x)=some (acc++[out x],true):=by simp[QeA,h1,h2,hk,h4,h5,h6]
   simp[ZbJ,e,ih,hk]
theorem QeQ{α:Type}{fi:DI}{t:Tg}{cap:List (Option Nat)}{ft:DT}{fe:DE}{ρ:En}{ir:IR}{toD:α->D}{keep:α->Bool}{out:α->D}(xs:List α)(h:fi ρ=some ir)(hx:ir.items=xs.map toD)
  (turn:∀x∈xs,∃ρ1,Qbm t (toD x) (Qc6 cap ρ)=some ρ1/\ft ρ1=some (keep x)/\(keep x=true->∃r,fe ρ1=some r/\r.d=out x/\r.norm.fr=true)):
  Q6 fi t cap ft fe ρ=some ⟨.lst ((xs.filter keep).map out),true,[]⟩:=by
 unfold Q6
 rw[h,Za,hx,Qjr xs [] turn]
 simp
theorem QaJ{α:Type}{fi:DI}{t:Tg}{cap:List (Option Nat)}{fe:DE}{ρ:En}{ir:IR}{toD:α->D}{out:α->D}(xs:List α)(h:fi ρ=some ir)(hx:ir.items=xs.map toD)
  (turn:∀x∈xs,∃ρ1,Qbm t (toD x) (Qc6 cap ρ)=some ρ1/\∃r,fe ρ1=some r/\r.d=out x/\r.norm.fr=true):
  Q6 fi t cap Qa6 fe ρ=some ⟨.lst (xs.map out),true,[]⟩:=by
 have:=QeQ (keep:=λ_=>true) (ft:=Qa6) xs h hx (cap:=cap) (t:=t) (fe:=fe) (out:=out) λx hx=>by
  obtain⟨ρ1,h1,h2⟩:=turn x hx
  exact⟨ρ1,h1,rfl,λ_=>h2⟩
 rw[this,List.filter_eq_self.mpr λ_ _=>rfl]
@[simp] theorem Qq4(d:D):R.norm ⟨d,true,[]⟩=⟨d,true,[]⟩:=by unfold R.norm;split<;>rfl
@[simp] theorem Qy(i:Nat)(d:D)(ρ:En):asg i ⟨d,true,[]⟩ ρ=ρ.set i (some (d,true)):=by unfold asg;simp[kill]
theorem Qdi{i:Nat}{d:D}{fr:Bool}{M:List Nat}{ρ:En}(h:d.flat=true):asg i ⟨d,fr,M⟩ ρ=ρ.set i (some (d,true)):=by
 unfold asg R.norm;simp[h,kill]
theorem Qbd{i:Nat}{ρ:En}{d:D}{b:Bool}(h:ρ[i]? =some (some (d,b))):Qa i ρ=some (if d.flat then⟨d,true,[]⟩else if b then⟨d,true,[i]⟩else⟨d,false,[]⟩):=by
 unfold Qa
 rw[h]
 dsimp only
 split
 ·simp_all
 ·split<;>simp_all
theorem Qvi{i:Nat}{ρ:En}{n:Int}{b:Bool}(h:ρ[i]? =some (some (.int n,b))):Qa i ρ=some ⟨.int n,true,[]⟩:=by rw[Qbd h];rfl
@[simp] theorem Qnk(d:D)(ρ:En):dC d ρ=some ⟨d,true,[]⟩:=rfl
theorem Qal{g:D->D->Option D}{fa fb:DE}{ρ:En}{ra rb:R}{d:D}(ha:fa ρ=some ra)(hb:fb ρ=some rb)(h:g ra.d rb.d=some d):dOp g fa fb ρ=some ⟨d,true,[]⟩:=by simp[dOp,ha,hb,h]
theorem QF{fa:DE}{fs:DA}{ρ:En}{r:R}{rs:RA}(ha:fa ρ=some r)(hs:fs ρ=some rs):Qc fa fs ρ=some ⟨r.d::rs.ds,r.fr && rs.fr,r.M++rs.M⟩:=by simp[Qc,ha,hs]
@[simp] theorem QaV(ρ:En):Qf ρ=some ⟨[],true,[]⟩:=rfl
noncomputable def vf(d:D)(b:Bool)(i:Nat):R:=if d.flat then⟨d,true,[]⟩else if b then⟨d,true,[i]⟩else⟨d,false,[]⟩
@[simp] theorem Qyo(d:D)(b:Bool)(i:Nat):(vf d b i).d=d:=by unfold vf;split;rfl;split<;>rfl
@[simp] theorem Qlb(i j:Int)(h:0<=j):Qd3 i j=i % j:=by unfold Qd3;rw[if_pos h]
@[simp] theorem Qhj(i j:Int)(h:0<=j):Qdy i j=i / j:=by unfold Qdy;rw[if_pos h]
theorem QdQ{i j:Int}(h:i.natAbs<2^64):QdI i j=true:=by unfold QdI;simp[h]
theorem Qdq{i j:Int}(h:j.natAbs<2^64):QdI i j=true:=by unfold QdI;simp[h]
theorem Qes:(sizeLine:Nat)=16777216:=sizeLine_eq
noncomputable def Qb(m:Nat)(f:Nat->Int):D:= .lst ((List.range m).map λi=> .int (f i))
noncomputable def Qa5(m n:Nat)(f:Nat->Nat->Int):D:= .lst ((List.range m).map λi=>Qb n (f i))
@[simp] theorem Qxu(m:Nat)(f:Nat->Int):(Qb m f).flat=false:=rfl
@[simp] theorem QxV(m n:Nat)(f:Nat->Nat->Int):(Qa5 m n f).flat=false:=rfl
@[simp] theorem Qod(m:Nat)(f:Nat->Int):QB ((List.range m).map λi=>D.int (f i))=true:=Qci (f:=λi=>D.int (f i)) (λ_=>rfl) _
noncomputable def up(f:Nat->Int)(i:Nat)(v:Int):Nat->Int:=λj=>if j=i then v else f j
noncomputable def up2(f:Nat->Nat->Int)(i j:Nat)(v:Int):Nat->Nat->Int:=λk=>if k=i then up (f k) j v else f k
theorem QeY{n:Nat}{i:Int}(h0:0<=i)(h:i<n):ixN n i=some i.toNat:=by
 unfold ixN;rw[if_pos (by omega),if_pos (by omega)]
theorem QiV{α:Type}{xs:List α}{i:Int}(h0:0<=i)(h:i<xs.length):atI xs i=xs[i.toNat]? :=by
 unfold atI;rw[QeY h0 h];rfl
theorem QfB{α:Type}{m:Nat}{f:Nat->α}{i:Nat}{v:α}:((List.range m).map f).set i v=(List.range m).map λj=>if j=i then v else f j:=by
 apply Zby
 intro k
 rw[List.getElem?_set]
 simp only[Zj,ZR,Zv]
 by_cases hk:k<m
 ·rw[Zan hk]
  by_cases e:i=k
  ·subst e;simp[hk]
  ·simp[e,Ne.symm e]
 ·rw[Zy (by simp;omega)]
  by_cases e:i=k
  ·subst e;simp[hk]
  ·simp[e]
theorem Qin{m:Nat}{f:Nat->Int}{i:Nat}{v:Int}:((List.range m).map λj=>D.int (f j)).set i (.int v)=(List.range m).map λj=>D.int (up f i v j):=by
 rw[QfB]
 congr 1;funext j;unfold up;split<;>rfl
theorem Qmp{m:Nat}{f:Nat->Int}{i:Int}(h0:0<=i)(h:i<m):atI ((List.range m).map λj=>D.int (f j)) i=some (.int (f i.toNat)):=by
 rw[QiV h0 (by simpa using h),Zv,Zan (by omega)];rfl
theorem QrZ{m n:Nat}{f:Nat->Nat->Int}{i:Int}(h0:0<=i)(h:i<m):atI ((List.range m).map λj=>Qb n (f j)) i=some (Qb n (f i.toNat)):=by
 rw[QiV h0 (by simpa using h),Zv,Zan (by omega)];rfl
theorem Qcg{x m:Nat}{f:Nat->Int}{fi fa:DE}{ρ:En}{i:Int}{v:Int}{ri ra:R}{Q:Out->Prop}(hx:ρ[x]? =some (some (Qb m f,true)))(hi:fi ρ=some ri)(ei:ri.d= .int i)(ha:fa ρ=some ra)(ea:ra.d= .int v)(h0:0<=i)(h:i<m)
  (q:Q (.nx (ρ.set x (some (Qb m (up f i.toNat v),true))))):Run (Qce x Q1 fi fa) ρ Q:=by
 refine⟨_,?_,q⟩
 have hn:ra.norm=⟨.int v,true,[]⟩:=by unfold R.norm;rw[ea];rfl
 unfold Qce
 rw[ha,Za,hx]
 simp only[Q1,Za,hi,ei,Qbr,Qb,Zj,ZR,QeY h0 h,hn,ea,QaW,Qin]
 simp[kill]
theorem Qqw{g:D->D->Option D}{x m:Nat}{f:Nat->Int}{fi fa:DE}{ρ:En}{i w:Int}{ri ra:R}{Q:Out->Prop}(hx:ρ[x]? =some (some (Qb m f,true)))(hi:fi ρ=some ri)(ei:ri.d= .int i)(ha:fa ρ=some ra)(h0:0<=i)(h:i<m)
  (hg:g (.int (f i.toNat)) ra.d=some (.int w)) (q:Q (.nx (ρ.set x (some (Qb m (up f i.toNat w),true))))):Run (Qdg g x Q1 fi fa) ρ Q:=by
 refine⟨_,?_,q⟩
 have hj:((List.range m).map λj=>D.int (f j))[i.toNat]? =some (.int (f i.toNat)):=by rw[Zv,Zan (by omega)];rfl
 unfold Qdg
 rw[hx]
 simp only[Q1,Za,hi,ei,Qbr,Qb,Zj,ZR,QeY h0 h,hj,ha,hg,QaW,Qin,ZU]
theorem QkZ{g:D->D->Option D}{x m n:Nat}{f:Nat->Nat->Int}{fp fi fa:DE}{ρ:En}{i j w:Int}{rp ri ra:R}{Q:Out->Prop}(hx:ρ[x]? =some (some (Qa5 m n f,true)))(hp:fp ρ=some rp)(ep:rp.d= .int i)(hi:fi ρ=some ri)(ei:ri.d= .int j)(ha:fa ρ=some ra)
  (h0:0<=i) (h:i<m) (k0:0<=j) (k:j<n) (hg:g (.int (f i.toNat j.toNat)) ra.d=some (.int w)) (q:Q (.nx (ρ.set x (some (Qa5 m n (up2 f i.toNat j.toNat w),true))))):Run (Qdg g x (Qgi Q1 fp) fi fa) ρ Q:=by
 refine⟨_,?_,q⟩
 have hj:((List.range n).map λk=>D.int (f i.toNat k))[j.toNat]? =some (.int (f i.toNat j.toNat)):=by rw[Zv,Zan (by omega)];rfl
 have hd:Qbr (Qa5 m n f) [i]=some (Qb n (f i.toNat)):=by
  simp only[Qbr,Qa5,D.items,Za,QrZ h0 h]
 have hu:QaW [i] (Qa5 m n f) (.lst (((List.range n).map λk=>D.int (f i.toNat k)).set j.toNat (.int w)))=Qa5 m n (up2 f i.toNat j.toNat w):=by
  simp only[QaW,Qa5,Zj,ZR,QeY h0 h,Qin]
  rw[QfB]
  congr 2;funext k
  unfold up2
  split
  ·rename_i e;subst e;rfl
  ·rfl
 unfold Qdg
 rw[hx]
 simp only[Qgi,Q1,Za,hp,ep,ZaR,hi,ei,hd,Qb,Zj,ZR,QeY k0 k,hj,ha,hg,ZU]
 rw[hu]
theorem QbS{n:Nat}(h:fa ρ=some r)(e:r.d= .int n)(hn:n<=16777216):QaO fa ρ=some ⟨(List.range n).map λ(k:Nat)=> .int (k:Int),[]⟩:=by
 unfold QaO
 rw[h,Za,e]
 dsimp only
 rw[if_pos ⟨by omega,by omega⟩]
 simp[Qhr]
theorem QmD{α:Type}(x:α):∀n:Nat,(List.replicate n [x]).flatten=(List.range n).map λ_=>x
 | 0=>rfl
 | n+1=>by
  rw[Zam,Zat,QmD x n,List.range_succ_eq_map,Zq,Zaq];rfl
theorem Qc7{n:Nat}(h:fb ρ=some r)(e:r.d= .int n)(hn:n<=16777216):Qas (Q4 (Qc (dC (.int z)) Qf)) fb ρ=some ⟨Qb n (λ_=>z),true,[]⟩:=by
 have h1:Q4 (Qc (dC (.int z)) Qf) ρ=some ⟨.lst [.int z],true,[]⟩:=rfl
 unfold Qas
 rw[h1,Za,h,Za,e]
 dsimp only
 rw[if_pos ⟨by simp[Qes];omega,by omega,by omega,rfl⟩]
 simp only[ZO,QmD]
 rfl
noncomputable def QiM:DS:=(Qd (Qv 2 (Q6 (Qay (Qa 0)) (.tp [1,2]) [none,none,none] Qa6 (QbR (Qc (Qa 1) (Qc (Qa 2) Qf))))) (Qd (Qv 3 (Q6 (Qay (Qa 0)) (.tp [1,2]) [none,none,none] Qa6 (QbR (Qc (Qa 2) (Qc (Qa 1) Qf))))) (Qd (Qai (QD (QD (Qa 2) (Qa 3)) (dList (Qc (Qa 1) Qf)))) Qo)))
theorem Qmq(ha:fa ρ=some ra)(ea:ra.d=Q9 A)(hb:fb ρ=some rb)(eb:rb.d=Q9 B)(hl:A.length+B.length<=16777216):QD fa fb ρ=some ⟨Q9 (A++B),true,[]⟩:=by
 unfold QD
 rw[ha,Za,hb,Za,ea,eb]
 simp only[Q9,Zj,Qes,if_pos hl,Qax]
 simp
theorem Qq0(h:fs ρ=some rs)(e:rs.ds=[Q9 A])(_:True=True):dList fs ρ=some ⟨Q9 A,true,[]⟩:=by
 unfold dList
 rw[h,Za,e]
 simp[Q9,Qax]
theorem Q7(h:fa ρ=some r)(q:Q r.d (r.norm.fr && decide r.norm.M.Nodup)):Run (Qd (Qai fa) g) ρ (Rt Q):=QE (Qmk h q)
theorem Qn9{R L:List (Int×Int)}(hl:R.length+R.length+L.length<=16777216):Qx 4 QiM [Q9 R,Q9 L]=some (Q9 (R++R.map Prod.swap++L),true):=by
 refine QbV ?_
 refine run_seq (Qj (QaJ R rfl rfl λx _=>⟨[none,some (.int x.1,true),some (.int x.2,true)],rfl,⟨pairD x,true,[]⟩,rfl,rfl,rfl⟩) ?_)
 refine run_seq (Qj (QaJ R rfl rfl λx _=>⟨[none,some (.int x.1,true),some (.int x.2,true)],rfl,⟨pairD x.swap,true,[]⟩,rfl,rfl,rfl⟩) ?_)
 have e1:(R.map λx=>pairD x.swap)=(R.map Prod.swap).map pairD:=by simp[Zaq,Function.comp_def]
 rw[e1]
 exact Q7 (Qmq (Qmq rfl rfl rfl rfl (by simpa using(by omega:R.length+R.length<=16777216))) rfl (Qq0 rfl rfl rfl) rfl (by simpa using hl)) ⟨rfl,rfl⟩
theorem QL(h:fs ρ=some r)(hd:den (r.ds++dfl)=some (d,true))(hl:r.ds.length+dfl.length=n):QG n den dfl fs ρ=some ⟨d,true,[]⟩:=by
 unfold QG
 rw[h,Za,if_pos hl,hd]
 simp
theorem Qb4(h:fa ρ=some r)(e:r.d= .lst xs):Qay fa ρ=some ⟨xs,r.M⟩:=by
 unfold Qay
 rw[h,Za,e]
noncomputable def stepT(m:Nat)(f:Nat->Nat->Int)(s:Int×Int):Nat->Nat->Int:=
 let f1:=if s.1<m then up2 f s.1.toNat s.1.toNat (f s.1.toNat s.1.toNat-1)else f
 if s.1<m/\s.2<m then up2 f1 s.1.toNat s.2.toNat (f1 s.1.toNat s.2.toNat+1)else f1
noncomputable def Qs(m:Nat)(S:List (Int×Int)):Nat->Nat->Int:=S.foldl (stepT m) λ_ _=>0
noncomputable def Qd5(QcT:Den):DS:=(Qd (Qv 1 (Qbx (Qr (Qa 0) (dC (.int 0))))) (Qd (Qv 2 (Q6 (QaO (Qa 1)) (.nm 1) [none,none,some 1] Qa6 (Qas (Q4 (Qc (dC (.int 0)) Qf)) (Qa 2)))) (Qd (Qa3 (Qay (QG 2 QcT [] (Qc (Qr (Qa 0) (dC (.int 1))) (Qc (Qr (Qa 0) (dC (.int 2))) Qf)))) (.tp [3,4]) (Qd (sIf (QC (dOp gLt (Qa 3) (Qa 1))) (Qd (Qdg Qdo 2 (Qgi Q1 (Qa 3)) (Qa 3) (dC (.int 1))) Qo) Qo) (Qd (sIf (QiL (QC (dOp gLt (Qa 3) (Qa 1))) (QC (dOp gLt (Qa 4) (Qa 1)))) (Qd (Qdg (gI λi j=>some (.int (i+j))) 2 (Qgi Q1 (Qa 3)) (Qa 4) (dC (.int 1))) Qo) Qo) Qo))) (Qd (Qai (Qa 2)) Qo))))
theorem Qqn{QcT:Den}{m:Nat}{R L S:List (Int×Int)}(hm:m<=16777216)(hs:QcT [Q9 R,Q9 L]=some (Q9 S,true))(hS:∀s∈S,0<=s.1/\0<=s.2):Qx 5 (Qd5 QcT) [Qp m R L]=some (Qa5 m m (Qs m S),true):=by
 refine QbV ?_
 refine run_seq (Qj rfl ?_)
 refine run_seq (Qj (QaJ (List.range m) (QbS rfl rfl hm) rfl λx _=>⟨[none,some (.int x,true),some (.int m,true)],rfl,_,Qc7 rfl rfl hm,rfl,rfl⟩) ?_)
 refine run_seq (Qad S (λi ρ=>∃j1 j2,ρ=[some (Qp m R L,false),some (.int m,true),some (Qa5 m m (Qs m (S.take i)),true),j1,j2]) (ir:=⟨S.map pairD,[]⟩) ?_ rfl ⟨none,none,rfl⟩ ?_ ?_)
 ·exact Qb4 (QL (r:=⟨[Q9 R,Q9 L],false,[]⟩) rfl hs rfl) rfl
 ·rintro i s ρ hi ⟨j1,j2,rfl⟩
  refine⟨_,rfl,?_⟩
  obtain⟨s1,s2⟩:=hS s (ZC hi)
  refine run_seq (Run.mono (Q:=Nx λρ=>ρ=[some (Qp m R L,false),some (.int m,true),some (Qa5 m m (if s.1<m then up2 (Qs m (S.take i)) s.1.toNat s.1.toNat (Qs m (S.take i) s.1.toNat s.1.toNat-1)else Qs m (S.take i)),true),some (.int s.1,true),some (.int s.2,true)]) ?_ ?_)
  ·refine Qae rfl (λh=>?_) (λh=>?_)
   ·have h:=of_decide_eq_true h
    rw[if_pos h]
    exact run_seq (QkZ rfl rfl rfl rfl rfl rfl s1 h s1 h rfl (Qn rfl))
   ·have h:=of_decide_eq_false h
    rw[if_neg h]
    exact Qn rfl
  ·intro o ho
   cases o with
   | nx ρ=>
    subst ho
    have fin:Qs m (S.take (i+1))=stepT m (Qs m (S.take i)) s:=by
     unfold Qs
     rw[Zbz,hi,List.foldl_append];rfl
    refine run_seq (Run.mono (Q:=Nx λρ=>ρ=[some (Qp m R L,false),some (.int m,true),some (Qa5 m m (stepT m (Qs m (S.take i)) s),true),some (.int s.1,true),some (.int s.2,true)]) ?_ ?_)
    ·refine Qae (b:=decide (s.1<m/\s.2<m)) ?_ (λh=>?_) (λh=>?_)
     ·by_cases h:s.1<(m:Int)
      ·simp[QiL,QC,dOp,Qa,gLt,gI,D.tru,h]
      ·simp[QiL,QC,dOp,Qa,gLt,gI,D.tru,h]
     ·have h:=of_decide_eq_true h
      refine run_seq (QkZ rfl rfl rfl rfl rfl rfl s1 h.1 s2 h.2 rfl (Qn ?_))
      unfold stepT
      rw[if_pos h];rfl
     ·have h:=of_decide_eq_false h
      refine Qn ?_
      unfold stepT
      rw[if_neg h];rfl
    ·intro o ho
     cases o with
     | nx ρ=>
      subst ho
      exact Qn ⟨_,_,by rw[fin]⟩
     | _=>exact False.elim ho
   | _=>exact False.elim ho
 ·rintro ρ ⟨j1,j2,rfl⟩
  rw[Zak]
  exact Q7 rfl ⟨rfl,rfl⟩
noncomputable def hit(i j:Nat)(s:Int×Int):Int:=(if s.1=i/\s.2=j then 1 else 0)-(if s.1=i/\i=j then 1 else 0)
theorem Qmo:up2 f a b v i j=if i=a/\j=b then v else f i j:=by
 unfold up2 up
 by_cases h1:i=a
 ·by_cases h2:j=b
  ·simp[h1,h2]
  ·simp[h1,h2]
 ·simp[h1]
theorem QoO(hi:i<m)(hj:j<m)(h1:0<=s.1)(h2:0<=s.2):stepT m f s i j=f i j+hit i j s:=by
 unfold stepT hit
 have e1:(s.1=(i:Int))↔(i=s.1.toNat):=by omega
 have e2:(s.2=(j:Int))↔(j=s.2.toNat):=by omega
 simp only[e1,e2]
 by_cases c1:s.1<(m:Int)
 ·by_cases c2:s.2<(m:Int)
  ·simp only[c1,c2,and_self,if_true,Qmo]
   generalize s.1.toNat=a
   generalize s.2.toNat=b
   by_cases d1:i=a
   ·subst d1
    by_cases d2:j=b
    ·subst d2
     by_cases d3:i=j
     ·subst d3;simp
     ·have d4:¬j=i:=λz=>d3 z.symm
      simp[d3,d4]
    ·by_cases d3:i=j
     ·subst d3;simp[d2];omega
     ·have d4:¬j=i:=λz=>d3 z.symm
      simp[d2,d3,d4]
   ·simp[d1]
  ·have d2:¬(j=s.2.toNat):=by omega
   simp only[c1,c2,and_false,if_false,if_true,Qmo,d2]
   generalize s.1.toNat=a
   by_cases d1:i=a
   ·subst d1
    by_cases d3:i=j
    ·subst d3;simp;omega
    ·have d4:¬j=i:=λz=>d3 z.symm
     simp[d3,d4]
   ·simp[d1]
 ·have d1:¬(i=s.1.toNat):=by omega
  simp[c1,d1]
theorem Qjy(hi:i<m)(hj:j<m):∀(S:List (Int×Int)) (f:Nat->Nat->Int),(∀s∈S,0<=s.1/\0<=s.2)->S.foldl (stepT m) f i j=f i j+(S.map (hit i j)).sum
 | [],f,_=>by simp
 | s::S,f,h=>by
  obtain⟨h1,h2⟩:=h s Zf
  rw[ZbT,Qjy hi hj S _ (λt ht=>h t (Zb _ ht)),QoO hi hj h1 h2,Zq,Zae]
  omega
theorem QbQ(hi:i<m)(hj:j<m)(h:∀s∈S,0<=s.1/\0<=s.2):Qs m S i j=(S.map (hit i j)).sum:=by
 unfold Qs
 rw[Qjy hi hj S _ h];simp
noncomputable def isI(i:Nat)(a:Int):Int:=if a=i then 1 else 0
noncomputable def Qq(R L:List (Int×Int))(i:Nat):Int:=(R.map λr=>isI i r.1+isI i r.2).sum+(L.map λl=>isI i l.1).sum
theorem sum_neg(S:List (Int×Int))(i:Nat)(h:∀s∈S,s.1≠s.2):(S.map (hit i i)).sum= -(S.map λs=>isI i s.1).sum:=by
 induction S with
 | nil=>rfl
 | cons s S ih=>
  rw[Zq,Zae,ih λt ht=>h t (Zb _ ht),Zq,Zae]
  have hn:=h s Zf
  unfold hit isI
  by_cases e:s.1=(i:Int)
  ·have:¬(s.2=(i:Int)):=λz=>hn (e.trans z.symm)
   simp[e,this];omega
  ·simp[e]
noncomputable def Qk(R L:List (Int×Int)):List (Int×Int):=R++R.map Prod.swap++L
theorem Qjx(R L:List (Int×Int))(i:Nat):((Qk R L).map λs=>isI i s.1).sum=Qq R L i:=by
 unfold Qk Qq
 rw[ZJ,ZJ,Zab,Zab]
 have:(R.map λr=>isI i r.1+isI i r.2).sum=(R.map λs=>isI i s.1).sum+((R.map Prod.swap).map λs=>isI i s.1).sum:=by
  induction R with
  | nil=>rfl
  | cons r R ih=>simp only[Zq,Zae,ih,Prod.fst_swap];omega
 omega
def Good(m:Nat)(s:Int×Int):Prop:=0<=s.1/\0<=s.2/\s.1<=m/\s.2<=m/\s.1≠s.2
theorem QaT{m:Nat}{R L:List (Int×Int)}(hR:∀s∈R,Good m s)(hL:∀s∈L,Good m s):∀s∈Qk R L,Good m s:=λs hs=>by
 unfold Qk at hs
 rcases Zr.mp hs with hs | hs
 ·rcases Zr.mp hs with hs | hs
  ·exact hR s hs
  ·obtain⟨t,ht,rfl⟩:=ZQ.mp hs
   obtain⟨h1,h2,h3,h4,h5⟩:=hR t ht
   exact⟨h2,h1,h4,h3,λz=>h5 z.symm⟩
 ·exact hL s hs
def Qe1(d:Den):Prop:=∀(m:Nat) (R L:List (Int×Int)),m<=1000->R.length+R.length+L.length<=1000000->(∀s∈R,Good m s)->(∀s∈L,Good m s)->d [Qp m R L]=some (Qa5 m m (Qs m (Qk R L)),true)
theorem Qr7:Qe1 (Qx 5 (Qd5 (Qx 4 QiM))):=λm R L hm hl hR hL=>by
 refine Qqn (by omega) (Qn9 (by omega)) λs hs=>?_
 obtain⟨h1,h2,_⟩:=QaT hR hL s hs
 exact⟨h1,h2⟩
noncomputable def QeG(Q3:Den):DS:=(Qd (Qai (Q6 (Qdv (QG 1 Q3 [] (Qc (Qa 0) Qf))) (.tp [1,2]) [none,none,none] Qa6 (dOp Qdo (dC (.int 0)) (Qr (Qa 2) (Qa 1))))) Qo)
theorem Qih{α:Type}(m:Nat)(f:Nat->D):Qc4 ((List.range m).map f)=(List.range m).map λi=> .tup [.int i,f i]:=by
 apply Zby
 intro k
 unfold Qc4
 simp only[Zv,Zbp,Nat.zero_add]
 by_cases hk:k<m
 ·rw[Zan hk];rfl
 ·rw[Zy (by simp;omega)];rfl
theorem Qqd{d:Den}(hd:Qe1 d){m:Nat}{R L:List (Int×Int)}(hm:m<=1000)(hl:R.length+R.length+L.length<=1000000)(hR:∀s∈R,Good m s)(hL:∀s∈L,Good m s):Qx 1 (QeG d) [Qp m R L]=some (Qb m (Qq R L),true):=by
 refine QbV ?_
 refine Q7 (QaJ (toD:=λ(i:Nat)=> .tup [.int i,Qb m (Qs m (Qk R L) i)]) (out:=λ(i:Nat)=> .int (Qq R L i)) (ir:=⟨Qc4 ((List.range m).map λi=>Qb m (Qs m (Qk R L) i)),[]⟩) (List.range m) ?_ ?_ λi hi=>?_) ⟨rfl,rfl⟩
 ·unfold Qdv
  rw[QL (n:=1) (fs:=Qc (Qa 0) Qf) (ρ:=Qao 1 [Qp m R L]) (dfl:=[]) (r:=⟨[Qp m R L],false,[]⟩) rfl (hd m R L hm hl hR hL) rfl];rfl
 ·exact Qih (α:=Nat) m _
 ·have hi:=ZG.mp hi
  refine⟨[none,some (.int i,true),some (Qb m (Qs m (Qk R L) i),false)],rfl,⟨.int (0-Qs m (Qk R L) i i),true,[]⟩,?_,?_,rfl⟩
  ·have e:Qr (Qa 2) (Qa 1) [none,some (.int (i:Int),true),some (Qb m (Qs m (Qk R L) i),false)]=some ⟨.int (Qs m (Qk R L) i i),true,[]⟩:=by
    show((D.items (Qb m (Qs m (Qk R L) i))).bind λxs=>(atI xs (i:Int)).map λd=>(HS.R.norm ⟨d,false,[]⟩))=_
    unfold Qb
    rw[show D.items (.lst ((List.range m).map λj=>D.int (Qs m (Qk R L) i j)))=some ((List.range m).map λj=>D.int (Qs m (Qk R L) i j))from rfl,Za,Qmp (by omega) (by omega)]
    rfl
   exact Qal (rfl) e rfl
  ·have g:=QaT hR hL
   rw[QbQ hi hi λs hs=>⟨(g s hs).1,(g s hs).2.1⟩,sum_neg _ i λs hs=>(g s hs).2.2.2.2,Qjx]
   show D.int (0- -(Qq R L i))=_
   rw[show(0:Int)- -(Qq R L i)=Qq R L i by omega]
theorem QiO(a b:Int):deq (.int a) (.int b)=decide (a=b):=by
 show PyData.eqv (.int a) (.int b)=_
 unfold PyData.eqv
 exact Bool.beq_eq_decide_eq a b
theorem Qd9(ha:fa ρ=some ra)(ea:ra.d= .int a)(hb:fb ρ=some rb)(eb:rb.d= .int b):dOp gEq fa fb ρ=some ⟨.bl (decide (a=b)),true,[]⟩:=by
 refine Qal ha hb ?_
 rw[ea,eb]
 show some (D.bl (deq (.int a) (.int b)))=_
 rw[QiO]
theorem QlE(ha:fa ρ=some ra)(ea:ra.d= .int a)(hb:fb ρ=some rb)(eb:rb.d= .int b):dOp gNe fa fb ρ=some ⟨.bl (!decide (a=b)),true,[]⟩:=by
 refine Qal ha hb ?_
 rw[ea,eb]
 show some (D.bl (!deq (.int a) (.int b)))=_
 rw[QiO]
theorem Qro(ha:fa ρ=some ⟨.bl a,true,[]⟩)(hb:fb ρ=some ⟨.bl b,true,[]⟩):dOr fa fb ρ=some ⟨.bl (a || b),true,[]⟩:=by
 unfold dOr
 rw[ha]
 cases a<;>simp[D.tru,hb]
theorem QlA(ha:fa ρ=some ⟨.bl a,true,[]⟩)(hb:fb ρ=some ⟨.bl b,true,[]⟩):Qf1 fa fb ρ=some ⟨.bl (a && b),true,[]⟩:=by
 unfold Qf1
 rw[ha]
 cases a<;>simp[D.tru,hb]
theorem QJ(ha:fa ρ=some r)(e:r.d= .bl b):QC fa ρ=some b:=by
 unfold QC
 rw[ha,Za,e];rfl
theorem Qbc(h:g ρ=some b):Qbp g ρ=some (!b):=by unfold Qbp;rw[h];rfl
theorem Qdd(ha:g1 ρ=some a)(hb:g2 ρ=some b):bOr g1 g2 ρ=some (a || b):=by
 unfold bOr;rw[ha];cases a<;>simp[hb]
theorem QbI(ha:fa ρ=some ra)(ea:ra.d= .int a)(hb:fb ρ=some rb)(eb:rb.d= .int b)(h:QdI a b=true):Qas fa fb ρ=some ⟨.int (a*b),true,[]⟩:=by
 unfold Qas
 rw[ha,Za,hb,Za,ea,eb]
 simp[h]
theorem QX(ha:fa ρ=some ra)(ea:ra.d= .int a)(hb:fb ρ=some rb)(eb:rb.d= .int b):QD fa fb ρ=some ⟨.int (a+b),true,[]⟩:=by
 unfold QD
 rw[ha,Za,hb,Za,ea,eb]
theorem Qaq(ha:fa ρ=some ra)(ea:ra.d= .int a)(hb:fb ρ=some rb)(eb:rb.d= .int b)(h:0<b):dOp QaL fa fb ρ=some ⟨.int (a % b),true,[]⟩:=by
 refine Qal ha hb ?_
 rw[ea,eb]
 show(if b≠0 then some (D.int (Qd3 a b))else none)=_
 rw[if_pos (by omega),Qlb _ _ (by omega)]
theorem QhG(ha:fa ρ=some ra)(ea:ra.d= .int a)(hb:fb ρ=some rb)(eb:rb.d= .int b)(h:0<b)(h2:b<2^64):dOp Qfe fa fb ρ=some ⟨.int (a / b),true,[]⟩:=by
 refine Qal ha hb ?_
 rw[ea,eb]
 have:Qcp b=true:=by
  unfold Qcp
  have h3:b.natAbs<2^8000:=Zz (by omega:b.natAbs<2^64) (ZaJ (by decide) (by decide))
  simp only[Zg,decide_eq_true_eq]
  exact⟨by omega,h3⟩
 show(if Qcp b=true then some (D.int (Qdy a b))else none)=_
 rw[if_pos this,Qhj _ _ (by omega)]
theorem Qd0(h:fa ρ=some r):Qbx fa ρ=some ⟨r.d,false,r.M⟩:=by unfold Qbx;rw[h];rfl
theorem Qbg{fa fb:DE}{ρ:En}{ra rb:R}{m:Nat}{f:Nat->Int}{i:Int}(ha:fa ρ=some ra)(ea:ra.d=Qb m f)(hb:fb ρ=some rb)(eb:rb.d= .int i)(h0:0<=i)(h:i<m):Qr fa fb ρ=some ⟨.int (f i.toNat),true,[]⟩:=by
 unfold Qr
 rw[ha,Za,hb,Za,ea,eb]
 simp only[Qb,D.items,Za,Qmp h0 h,ZU]
 rfl
theorem QbJ{fa fb:DE}{ρ:En}{ra rb:R}{ns:List Int}{i:Int}{v:Int}(ha:fa ρ=some ra)(ea:ra.d= .lst (ns.map .int))(hb:fb ρ=some rb)(eb:rb.d= .int i)(h0:0<=i)(h:ns[i.toNat]? =some v):Qr fa fb ρ=some ⟨.int v,true,[]⟩:=by
 have hl:i<ns.length:=by have:=(Zd.mp h).1;omega
 unfold Qr
 rw[ha,Za,hb,Za,ea,eb]
 simp only[D.items,Za]
 rw[QiV h0 (by simpa using hl),Zv,h]
 rfl
theorem QnT{m n:Nat}{f:Nat->Int}(h:n<=m):cutD ((List.range m).map λi=>D.int (f i)) none (some (n:Int))=(List.range n).map λi=>D.int (f i):=by
 unfold cutD
 simp only[Zj,ZR,HT.Qg7,HT.QgA,Zbw,ZbQ,Zbq h]
 rw[← Zbe,List.take_range,Zbq h]
theorem Qim{fa fb:DE}{ρ:En}{ra rb:R}{m n:Nat}{f:Nat->Int}(ha:fa ρ=some ra)(ea:ra.d=Qb m f)(hb:fb ρ=some rb)(eb:rb.d= .int n)(h:n<=m):Qbq fa QbU (Qam fb) ρ=some ⟨Qb n f,true,[]⟩:=by
 unfold Qbq QbU Qam
 rw[ha,Za,hb,ea]
 simp only[Za,eb,Qb,QnT h,Qax,Qod,if_true]
theorem QpX(h:fs ρ=some r)(hd:den (r.ds++dfl)=some (d,fr))(hl:r.ds.length+dfl.length=n):QG n den dfl fs ρ=some (if fr=true then⟨d,true,[]⟩else HS.R.norm ⟨d,false,r.M⟩):=by
 unfold QG
 rw[h,Za,if_pos hl,hd]
 rfl
theorem QoV(h:d.flat=false):asg i (if fr=true then⟨d,true,[]⟩else HS.R.norm ⟨d,false,[]⟩) ρ=ρ.set i (some (d,fr)):=by
 cases fr
 ·simp[HS.R.norm,h,asg,QbH]
 ·simp
noncomputable def Qkd(t k:Int):Int:=(t+17)*(k*k+7*k+11)*69621 % 2147483647
noncomputable def Qm9(m t k:Int):Int:=if Qkd t k % (k+1)<k then(Qkd t k % (k+1)+t) % m else m
noncomputable def QuI(m t kind:Int)(k:Int):Int×Int×Bool:=((k+t) % m,Qm9 m t k,decide (kind=2) || (decide (kind=3) && decide (Qkd t k / 64 % 2=1)))
noncomputable def QnF(m:Nat)(t kind:Int):List (Int×Int×Bool):=(List.range m).map λ(k:Nat)=>QuI m t kind k
def GoodW(m:Nat)(w:Int×Int×Bool):Prop:=Good m (w.1,w.2.1)/\(w.2.2=true->w.1<m)
noncomputable def QS(W:List (Int×Int×Bool)):D:= .lst (W.map QcO)
@[simp] theorem Qw1(W:List (Int×Int×Bool)):(QS W).flat=false:=rfl
theorem QuG{a x n:Int}(h1:0<x)(h2:x<n):(a+x) % n≠a % n:=λh=>by
 have h3:(a+x-a) % n=0:=Int.emod_eq_emod_iff_emod_sub_eq_zero.mp h
 rw[show a+x-a=x by omega,ZbA (by omega) h2]at h3
 omega
theorem QtC(hx:ρ[x]? =some (some (.lst xs,true)))(ha:fa ρ=some r)(hf:r.d.flat=true)(hl:xs.length<16777216)(q:Q (.nx (ρ.set x (some (.lst (xs++[r.d]),true))))):Run (QdA x Q1 fa) ρ Q:=by
 refine⟨_,?_,q⟩
 have hn:r.norm=⟨r.d,true,[]⟩:=by unfold HS.R.norm;rw[if_pos hf]
 unfold QdA
 rw[hx]
 simp only[Q1,Za,ha,Qbr,Qia,hn,QaW,kill,Qes]
 simp[hl]
theorem Qe9{x y m:Nat}{f:Nat->Int}{ρ:En}{i:Int}{b:Bool}{Q:Out->Prop}(hx:ρ[x]? =some (some (Qb m f,true)))(hy:ρ[y]? =some (some (.int i,b)))(h0:0<=i)(h:i<m)
  (q:Q (.nx (ρ.set x (some (Qb m (up f i.toNat (f i.toNat+1)),true))))):Run (Qce x Q1 (Qa y) (QD (Qr (Qa x) (Qa y)) (dC (.int 1)))) ρ Q:=by
 have e1:Qa y ρ=some ⟨.int i,true,[]⟩:=Qvi hy
 have e2:=Qbd hx
 exact Qcg hx e1 rfl (QX (Qbg e2 (by simp) e1 rfl h0 h) rfl (Qnk (.int 1) _) rfl) rfl h0 h q
theorem Run.nx(h:Run f ρ (Nx Q))(m:∀ρ,Q ρ->Q' ρ):Run f ρ (Nx Q'):=h.mono λo ho=>by
 cases o with
 | nx ρ=>exact m ρ ho
 | _=>exact ho.elim
theorem QaM(h:Run f ρ (Nx P))(k:∀ρ',P ρ'->Run g ρ' Q):Run (Qd f g) ρ Q:=run_seq (h.nx k)
theorem QiE{fa fb:DE}{ρ:En}{ra rb:R}{A B:List (Int×Int×Bool)}(ha:fa ρ=some ra)(ea:ra.d=QS A)(hb:fb ρ=some rb)(eb:rb.d=QS B)(hl:A.length+B.length<=16777216):QD fa fb ρ=some ⟨QS (A++B),true,[]⟩:=by
 unfold QD
 rw[ha,Za,hb,Za,ea,eb]
 simp only[QS,Zj,Qes,if_pos hl,Qax]
 simp
noncomputable def Qc5(w:Int×Int×Bool):Int×Int:=(if w.2.1<w.1 then w.2.1 else w.1,if w.2.1>w.1 then w.2.1 else w.1)
noncomputable def QhE(w:Int×Int×Bool):Int×Int:=(w.1,w.2.1)
noncomputable def Qat(W:List (Int×Int×Bool)):List (Int×Int):=(W.filter λw=> !w.2.2).map Qc5
noncomputable def Qac(W:List (Int×Int×Bool)):List (Int×Int):=(W.filter λw=>w.2.2).map QhE
theorem Qc8{m:Nat}{W:List (Int×Int×Bool)}(h:∀w∈W,GoodW m w):∀s∈Qat W,Good m s/\s.1<s.2:=λs hs=>by
 obtain⟨w,hw,rfl⟩:=ZQ.mp hs
 obtain⟨⟨h1,h2,h3,h4,h5⟩,_⟩:=h w (Zax.mp hw).1
 simp only at h1 h2 h3 h4 h5
 unfold Qc5 Good
 simp only
 split<;>split<;>omega
theorem Qcz{m:Nat}{W:List (Int×Int×Bool)}(h:∀w∈W,GoodW m w):∀s∈Qac W,Good m s/\s.1<m:=λs hs=>by
 obtain⟨w,hw,rfl⟩:=ZQ.mp hs
 obtain⟨h1,h2⟩:=h w (Zax.mp hw).1
 exact⟨h1,h2 (by simpa using(Zax.mp hw).2)⟩
theorem QjF(W:List (Int×Int×Bool)):(Qat W).length<=W.length:=by unfold Qat;rw[Zj];exact List.length_filter_le _ _
theorem Qi8(W:List (Int×Int×Bool)):(Qac W).length<=W.length:=by unfold Qac;rw[Zj];exact List.length_filter_le _ _
structure QvB (m:Nat) (t kind:Int) (R L:List (Int×Int)):Prop where
 ex:∃W,(∀w∈QnF m t kind,w∈W)/\(∀w∈W,GoodW m w)/\W.length<=100/\R=Qat W/\L=Qac W
theorem QvB.good{m:Nat}{t kind:Int}{R L:List (Int×Int)}(h:QvB m t kind R L):(∀s∈R,Good m s)/\(∀s∈L,Good m s)/\R.length<=100/\L.length<=100:=by
 obtain⟨W,_,h2,h3,rfl,rfl⟩:=h.ex
 exact⟨λs hs=>(Qc8 h2 s hs).1,λs hs=>(Qcz h2 s hs).1,ZF (QjF W) h3,ZF (Qi8 W) h3⟩
theorem Qpv{fa:DE}{ρ:En}{r:R}{W:List (Int×Int×Bool)}(h:fa ρ=some r)(e:r.d=QS W):Q6 (Qay fa) (.tp [1,2,3]) [none,none,none,none] (Qbp (QC (Qa 3))) (QbR (Qc (dBf QhT (Qc (Qa 1) (Qc (Qa 2) Qf))) (Qc (dBf Qid (Qc (Qa 1) (Qc (Qa 2) Qf))) Qf))) ρ=some ⟨Q9 (Qat W),true,[]⟩:=by
 rw[QeQ W (Qb4 h e) rfl λw _=>⟨[none,some (.int w.1,true),some (.int w.2.1,true),some (.bl w.2.2,true)],rfl,Qbc (QJ rfl rfl),λ_=>⟨⟨pairD (Qc5 w),true,[]⟩,rfl,rfl,rfl⟩⟩]
 unfold Q9 Qat
 rw[Zaq];rfl
theorem Qq6{fa:DE}{ρ:En}{r:R}{W:List (Int×Int×Bool)}(h:fa ρ=some r)(e:r.d=QS W):Q6 (Qay fa) (.tp [1,2,3]) [none,none,none,none] (QC (Qa 3)) (QbR (Qc (Qa 1) (Qc (Qa 2) Qf))) ρ=some ⟨Q9 (Qac W),true,[]⟩:=by
 rw[QeQ W (Qb4 h e) rfl λw _=>⟨[none,some (.int w.1,true),some (.int w.2.1,true),some (.bl w.2.2,true)],rfl,QJ rfl rfl,λ_=>⟨⟨pairD (QhE w),true,[]⟩,rfl,rfl,rfl⟩⟩]
 unfold Q9 Qac
 rw[Zaq];rfl
theorem Qhy:up f i v k=if k=i then v else f k:=rfl
theorem Qcv{fa:DE}{ρ:En}{r:R}{m:Int}{R L:List (Int×Int)}(h:fa ρ=some r)(e:r.d=Qp m R L):
  Qr fa (dC (.int 0)) ρ=some ⟨.int m,true,[]⟩/\Qr fa (dC (.int 1)) ρ=some ⟨Q9 R,r.fr,r.M⟩/\Qr fa (dC (.int 2)) ρ=some ⟨Q9 L,r.fr,r.M⟩:=by
 unfold Qr
 rw[h]
 simp only[Za,e,Qnk]
 exact⟨rfl,rfl,rfl⟩
noncomputable def Qie:DS:=(Qd (Qv 1 (Qas (Q4 (Qc (dC (.int 0)) Qf)) (QD (Qr (Qa 0) (dC (.int 0))) (dC (.int 1))))) (Qd (Qa3 (Qay (Qr (Qa 0) (dC (.int 1)))) (.tp [2,3]) (Qd (Qce 1 Q1 (Qa 2) (QD (Qr (Qa 1) (Qa 2)) (dC (.int 1)))) (Qd (Qce 1 Q1 (Qa 3) (QD (Qr (Qa 1) (Qa 3)) (dC (.int 1)))) Qo))) (Qd (Qa3 (Qay (Qr (Qa 0) (dC (.int 2)))) (.tp [2,3]) (Qd (Qce 1 Q1 (Qa 2) (QD (Qr (Qa 1) (Qa 2)) (dC (.int 1)))) Qo)) (Qd (Qai (Qbq (Qa 1) QbU (Qam (Qr (Qa 0) (dC (.int 0)))))) Qo))))
theorem Qfy{α:Type}{g:α->Int}{xs:List α}{i:Nat}{x:α}(h:xs[i]? =some x):((xs.take (i+1)).map g).sum=((xs.take i).map g).sum+g x:=by
 rw[Zbz,h,ZJ,Zab];simp
def QiD(d:Den):Prop:=∀(m:Nat) (R L:List (Int×Int)),m<=1000->(∀s∈R,Good m s)->(∀s∈L,Good m s)->d [Qp m R L]=some (Qb m (Qq R L),true)
theorem Qvz:QiD (Qx 4 Qie):=λm R L hm hR hL=>by
 refine QbV ?_
 have it:∀{ρ:En},ρ[0]? =some (some (Qp m R L,false))->Qa 0 ρ=some ⟨Qp m R L,false,[]⟩:=λh=>Qbd h
 refine run_seq (Qj (Qc7 (n:=m+1) (QX (Qcv (it rfl) rfl).1 rfl rfl rfl) rfl (by omega)) ?_)
 rw[Qy]
 refine QaM (P:=λρ=>∃j2 j3,ρ=[some (Qp m R L,false),some (Qb (m+1) (λk=>(R.map λr=>isI k r.1+isI k r.2).sum),true),j2,j3]) ?_ ?_
 ·refine Qad R (λi ρ=>∃f j2 j3,(∀k,f k=((R.take i).map λr=>isI k r.1+isI k r.2).sum)/\ρ=[some (Qp m R L,false),some (Qb (m+1) f,true),j2,j3]) (Qb4 (Qcv (it rfl) rfl).2.1 rfl) rfl ⟨λ_=>0,none,none,λk=>by simp,rfl⟩ ?_ ?_
  ·rintro i s ρ hi ⟨f,j2,j3,hf,rfl⟩
   obtain⟨h1,h2,h3,h4,h5⟩:=hR s (ZC hi)
   refine⟨_,rfl,?_⟩
   refine run_seq (Qe9 rfl rfl h1 (by omega) ?_)
   refine run_seq (Qe9 rfl rfl h2 (by omega) (Qn ⟨_,_,_,λk=>?_,rfl⟩))
   rw[Qfy hi,← hf k]
   unfold isI
   simp only[Qhy]
   have n1:¬s.1.toNat=s.2.toNat:=by omega
   by_cases c1:k=s.1.toNat
   ·have c2:¬k=s.2.toNat:=by omega
    have c3:s.1=(k:Int):=by omega
    have c4:¬s.2=(k:Int):=by omega
    rw[if_neg c2,if_pos c1,if_pos c3,if_neg c4,c1];omega
   ·have c3:¬s.1=(k:Int):=by omega
    by_cases c2:k=s.2.toNat
    ·have c4:s.2=(k:Int):=by omega
     rw[if_pos c2,if_neg (λz=>n1 z.symm),if_neg c3,if_pos c4,c2];omega
    ·have c4:¬s.2=(k:Int):=by omega
     rw[if_neg c2,if_neg c1,if_neg c3,if_neg c4];omega
  ·rintro ρ ⟨f,j2,j3,hf,rfl⟩
   rw[Zak]at hf
   have:f=λk=>(R.map λr=>isI k r.1+isI k r.2).sum:=funext hf
   subst this
   exact⟨j2,j3,rfl⟩
 rintro ρ ⟨j2,j3,rfl⟩
 refine QaM (P:=λρ=>∃j2 j3,ρ=[some (Qp m R L,false),some (Qb (m+1) (Qq R L),true),j2,j3]) ?_ ?_
 ·refine Qad L (λi ρ=>∃f j2 j3,(∀k,f k=(R.map λr=>isI k r.1+isI k r.2).sum+((L.take i).map λl=>isI k l.1).sum)/\ρ=[some (Qp m R L,false),some (Qb (m+1) f,true),j2,j3]) (Qb4 (Qcv (it rfl) rfl).2.2 rfl) rfl ⟨_,j2,j3,λk=>by simp,rfl⟩ ?_ ?_
  ·rintro i s ρ hi ⟨f,j2,j3,hf,rfl⟩
   obtain⟨h1,h2,h3,h4,h5⟩:=hL s (ZC hi)
   refine⟨_,rfl,?_⟩
   refine run_seq (Qe9 rfl rfl h1 (by omega) (Qn ⟨_,_,_,λk=>?_,rfl⟩))
   rw[Qfy hi,← Zbn,← hf k]
   unfold isI
   simp only[Qhy]
   by_cases c1:k=s.1.toNat
   ·have c3:s.1=(k:Int):=by omega
    rw[if_pos c1,if_pos c3,c1]
   ·have c3:¬s.1=(k:Int):=by omega
    rw[if_neg c1,if_neg c3];omega
  ·rintro ρ ⟨f,j2,j3,hf,rfl⟩
   rw[Zak]at hf
   have:f=Qq R L:=funext hf
   subst this
   exact⟨j2,j3,rfl⟩
 rintro ρ ⟨j2,j3,rfl⟩
 exact Q7 (Qim (Qbd rfl) rfl (Qcv (it rfl) rfl).1 rfl (by omega)) ⟨rfl,rfl⟩
def Qh6(d:Den):Prop:=∀ns:List Int,d [.lst (ns.map .int),.lst (ns.map .int)]=some (.bl true,true)
theorem QpJ(ns:List Int):Qd4 (ns.map D.int) (ns.map D.int)=ns.map λn=> .tup [.int n,.int n]:=by
 induction ns with
 | nil=>rfl
 | cons n ns ih=>unfold Qd4 at ih ⊢;simp only[Zq,ZaF,ih]
theorem QcI(h:fa ρ=some r)(e:r.d= .lst xs):dBf QaI (Qc fa Qf) ρ=some ⟨.int xs.length,true,[]⟩:=by
 unfold dBf
 rw[QF h (QaV _),Za]
 simp[e,QaI]
def Qle(d:Den):Prop:=∀(m:Nat) (R L:List (Int×Int)),m<=1000->R.length+R.length+L.length<=1000000->(∀s∈R,Good m s)->(∀s∈L,Good m s)->d [Qp m R L]=some (Qb m (Qq R L),true)
theorem Qtj(h:Qe1 d):Qle (Qx 1 (QeG d)):=λm R L h1 h2 h3 h4=>Qqd h h1 h2 h3 h4
theorem Qi9(h:0<b)(h2:b<2^200):Qcp b=true:=by
 unfold Qcp
 have h3:b.natAbs<2^8000:=Zz (by omega:b.natAbs<2^200) (ZaJ (by decide) (by decide))
 simp only[Zg,decide_eq_true_eq]
 exact⟨by omega,h3⟩
theorem QfC(ha:fa ρ=some ra)(ea:ra.d= .int a)(hb:fb ρ=some rb)(eb:rb.d= .int b)(h:0<b)(h2:b<2^200)
  (q:Q (.nx ((ρ.set i (some (.int (a / b),true))).set j (some (.int (a % b),true))))):Run (Qdt (.tp [i,j]) (dDm (Qc fa (Qc fb Qf)))) ρ Q:=by
 have e:dDm (Qc fa (Qc fb Qf)) ρ=some ⟨.tup [.int (a / b),.int (a % b)],true,[]⟩:=by
  unfold dDm
  rw[QF ha (QF hb (QaV _)),Za]
  simp only[ea,eb]
  rw[if_pos (Qi9 h h2),Qhj _ _ (by omega),Qlb _ _ (by omega)]
 refine⟨_,?_,q⟩
 unfold Qdt
 rw[e]
 rfl
theorem QxA(xs:List D):deq (.lst xs) (.lst [])=xs.isEmpty:=by cases xs<;>rfl
theorem QuF(n:Nat)(ns:List Int):(Qi ns).sim (n+1)=true:=by
 unfold Qi
 simp only[D.sim,List.all_map,Zar]
 intro p _
 cases n<;>rfl
theorem QkE{fa:DE}{ρ:En}{r:R}{ns:List Int}(ha:fa ρ=some r)(e:r.d= .lst (ns.map .int)):QC (dOp gNe fa (Q4 Qf)) ρ=some (!ns.isEmpty):=by
 refine QJ (Qal ha rfl ?_) rfl
 rw[e]
 unfold gNe
 have:(D.lst (ns.map .int)).sim 8=true:=QuF 7 ns
 rw[this]
 show some (D.bl (!deq (.lst (ns.map .int)) (.lst [])))=_
 rw[QxA];simp
theorem Qph(ha:fa ρ=some ra)(ea:ra.d= .int a)(hb:fb ρ=some rb)(eb:rb.d= .int b)(h:0<=b/\b<=1000/\a.natAbs<2^200):dOp Qgb fa fb ρ=some ⟨.int (a^b.toNat),true,[]⟩:=by
 refine Qal ha hb ?_
 rw[ea,eb]
 show(if 0<=b/\b<=1000/\a.natAbs<2^200 then some (D.int (a^b.toNat))else none)=_
 rw[if_pos h]
theorem Qlp(hx:ρ[x]? =some (some (Qi A,true)))(ha:fa ρ=some r)(hf:r.d= .int n)(hl:A.length<16777216)(q:Q (.nx (ρ.set x (some (Qi (A++[n]),true))))):Run (QdA x Q1 fa) ρ Q:=by
 refine QtC hx ha (by rw[hf];rfl) (by simpa using hl) ?_
 rw[hf]
 unfold Qi at q
 rw[ZJ]at q
 exact q
noncomputable abbrev B40:Int:=10000000000000000000000000000000000000000
noncomputable def Qen:DS:=(Qd (Qv 2 (dOp Qgb (dC (.int 10)) (dC (.int 40)))) (Qd (Qv 3 (dC (.int 0))) (Qd (sIf (QC (dOp gNe (Qa 0) (Q4 Qf))) (Qd (Qv 3 (Qbx (Qr (Qa 0) (dC (.int 0))))) Qo) Qo) (Qd (Qv 4 (Q4 Qf)) (Qd (Qa3 (QaO (Qa 1)) (.nm 5) (Qd (Qdt (.tp [3,6]) (dDm (Qc (Qa 3) (Qc (Qa 2) Qf)))) (Qd (QdA 4 Q1 (Qa 6)) Qo))) (Qd (sIf (QC (dOp gGt (Qa 3) (dC (.int 0)))) (Qd (Qai (Qa 4)) Qo) Qo) (Qd (Qv 7 (Q4 Qf)) (Qd (Qa3 (QaO (Qa 1)) (.nm 5) (Qd (Qv 8 (dC (.int 7919))) (Qd (sIf (QC (dOp gNe (Qa 0) (Q4 Qf))) (Qd (Qv 8 (Qbx (Qr (Qa 0) (dOp QaL (Qa 5) (dBf QaI (Qc (Qa 0) Qf)))))) Qo) Qo) (Qd (Qv 8 (dOp QaL (Qas (QD (QD (QD (Qa 8) (Qas (Qas (Qa 5) (Qa 5)) (dC (.int 7919)))) (Qas (Qa 5) (dC (.int 104729)))) (dC (.int 31))) (dC (.int 48271))) (dC (.int 2147483647)))) (Qd (Qv 8 (dOp QaL (Qas (dOp QaL (Qas (Qa 8) (Qa 8)) (dC (.int 2147483629))) (QD (Qas (dC (.int 2)) (Qa 5)) (dC (.int 69621)))) (dC (.int 2147483587)))) (Qd (QdA 7 Q1 (dOp QaL (Qas (Qa 8) (dOp Qgb (dC (.int 618970019642690137449562111)) (dC (.int 2)))) (Qa 2))) Qo)))))) (Qd (Qai (Qa 7)) Qo)))))))))
def CellsOk(d:Den):Prop:=∀(ns:List Int) (n:Nat),ns.length<=63->n<=200->∃cs:List Int,d [.lst (ns.map .int),.int n]=some (Qi cs,true)/\cs.length=n/\∀c∈cs,0<=c/\c<B40
theorem QpH:CellsOk (Qx 9 Qen):=λns n hl hn=>by
 have key:Run Qen (Qao 9 [.lst (ns.map .int),.int n]) (Rt λd fr=>∃cs:List Int,d=Qi cs/\fr=true/\cs.length=n/\∀c∈cs,0<=c/\c<B40):=by
  refine run_seq (Qj (r:=⟨.int B40,true,[]⟩) ?_ ?_)
  ·exact Qph (a:=10) (b:=40) rfl rfl rfl rfl (by decide)
  rw[Qy]
  refine run_seq (Qj (r:=⟨.int 0,true,[]⟩) rfl ?_)
  rw[Qy]
  refine QaM (P:=λρ=>∃z:Int,ρ=[some (.lst (ns.map .int),false),some (.int n,true),some (.int B40,true),some (.int z,true),none,none,none,none,none]) ?_ ?_
  ·refine Qae (QkE (ns:=ns) (r:=⟨.lst (ns.map .int),false,[]⟩) rfl rfl) (λh=>?_) (λ_=>Qn ⟨0,rfl⟩)
   cases ns with
   | nil=>cases h
   | cons a r=>exact run_seq (Qj (Qd0 (QbJ rfl rfl rfl rfl (by decide) rfl)) (Qn ⟨a,by rw[Qdi rfl];rfl⟩))
  rintro ρ ⟨z,rfl⟩
  refine run_seq (Qj rfl ?_)
  rw[Qy]
  refine QaM (P:=λρ=>∃(z:Int) (cs:List Int) (j5 j6:Option (D×Bool)),cs.length=n/\(∀c∈cs,0<=c/\c<B40)/\ρ=[some (.lst (ns.map .int),false),some (.int n,true),some (.int B40,true),some (.int z,true),some (Qi cs,true),j5,j6,none,none]) ?_ ?_
  ·refine Qad (List.range n) (λi ρ=>∃(z:Int) (cs:List Int) (j5 j6:Option (D×Bool)),cs.length=i/\(∀c∈cs,0<=c/\c<B40)/\ρ=[some (.lst (ns.map .int),false),some (.int n,true),some (.int B40,true),some (.int z,true),some (Qi cs,true),j5,j6,none,none]) (QbS rfl rfl (by omega)) rfl ⟨z,[],none,none,rfl,by simp,rfl⟩ ?_ ?_
   ·rintro i k ρ hi ⟨z,cs,j5,j6,h1,h2,rfl⟩
    have hin:i<n:=by have:=(Zd.mp hi).1;simpa using this
    refine⟨_,rfl,?_⟩
    refine run_seq (QfC rfl rfl rfl rfl (by decide) (by decide) ?_)
    refine run_seq (Qlp rfl rfl rfl (by omega) (Qn ⟨z / B40,cs++[z % B40],_,_,by simp[h1],λc hc=>?_,rfl⟩))
    rcases Zr.mp hc with hc | hc
    ·exact h2 c hc
    ·rw[Zl.mp hc];exact⟨ZE _ (by decide),ZA _ (by decide)⟩
   ·rintro ρ ⟨z,cs,j5,j6,h1,h2,rfl⟩
    exact⟨z,cs,j5,j6,by simpa using h1,h2,rfl⟩
  rintro ρ ⟨z,cs,j5,j6,h1,h2,rfl⟩
  refine QE (Qae (QJ rfl rfl) (λ_=>Q7 (Q:=λd fr=>∃cs:List Int,d=Qi cs/\fr=true/\cs.length=n/\∀c∈cs,0<=c/\c<B40) rfl ⟨cs,rfl,rfl,h1,h2⟩ |> λh=>h.mono λo ho=>by cases o<;>first | exact ho | exact ho.elim) (λ_=>Qn ?_))
  refine run_seq (Qj rfl ?_)
  rw[Qy]
  refine QaM (P:=λρ=>∃(cs':List Int) (j5 j8:Option (D×Bool)),cs'.length=n/\(∀c∈cs',0<=c/\c<B40)/\ρ=[some (.lst (ns.map .int),false),some (.int n,true),some (.int B40,true),some (.int z,true),some (Qi cs,true),j5,j6,some (Qi cs',true),j8]) ?_ ?_
  ·refine Qad (List.range n) (λi ρ=>∃(cs':List Int) (j5 j8:Option (D×Bool)),cs'.length=i/\(∀c∈cs',0<=c/\c<B40)/\ρ=[some (.lst (ns.map .int),false),some (.int n,true),some (.int B40,true),some (.int z,true),some (Qi cs,true),j5,j6,some (Qi cs',true),j8]) (QbS rfl rfl (by omega)) rfl ⟨[],_,none,rfl,by simp,rfl⟩ ?_ ?_
   ·rintro i k ρ hi ⟨cs',j5,j8,h3,h4,rfl⟩
    have hin:i<n:=by have:=(Zd.mp hi).1;simpa using this
    have hk:k<n:=by have:=ZC hi;simpa using this
    refine⟨_,rfl,?_⟩
    refine run_seq (Qj rfl ?_)
    rw[Qy]
    refine QaM (P:=λρ=>∃y:Int,ρ=[some (.lst (ns.map .int),false),some (.int n,true),some (.int B40,true),some (.int z,true),some (Qi cs,true),some (.int k,true),j6,some (Qi cs',true),some (.int y,true)]) ?_ ?_
    ·refine Qae (QkE rfl rfl) (λh=>?_) (λ_=>Qn ⟨7919,rfl⟩)
     have hne:0<ns.length:=by cases ns with
      | nil=>cases h
      | cons a r=>simp
     have m1:=ZE (k:Int) (by omega:(ns.length:Int)≠0)
     have m2:=ZA (k:Int) (by omega:(0:Int)<ns.length)
     have hg:ns[((k:Int) % ns.length).toNat]? =some (ns[((k:Int) % ns.length).toNat]'(by omega)):=Zs _
     have elen:dBf QaI (Qc (Qa 0) Qf) [some (.lst (ns.map .int),false),some (.int n,true),some (.int B40,true),some (.int z,true),some (Qi cs,true),some (.int k,true),j6,some (Qi cs',true),some (.int 7919,true)]=some ⟨.int ns.length,true,[]⟩:=by
      rw[QcI rfl rfl,Zj]
     exact run_seq (Qj (Qd0 (QbJ rfl rfl (Qaq rfl rfl elen rfl (by omega)) rfl m1 hg)) (Qn ⟨_,by rw[Qdi rfl];rfl⟩))
    rintro ρ ⟨y,rfl⟩
    refine run_seq (Qj (Qaq (QbI (QX (QX (QX rfl rfl (QbI (QbI rfl rfl rfl rfl (QdQ (by omega))) rfl rfl rfl (Qdq (by decide))) rfl) rfl (QbI rfl rfl rfl rfl (Qdq (by decide))) rfl) rfl rfl rfl) rfl rfl rfl (Qdq (by decide))) rfl rfl rfl (by decide)) ?_)
    rw[Qy]
    generalize ew:(y+(k:Int)*k*7919+(k:Int)*104729+31)*48271 % 2147483647=w
    have w1:0<=w:=by rw[← ew];exact ZE _ (by decide)
    have w2:w<2147483647:=by rw[← ew];exact ZA _ (by decide)
    refine run_seq (Qj (Qaq (QbI (Qaq (QbI rfl rfl rfl rfl (QdQ (by omega))) rfl rfl rfl (by decide)) rfl (QX (QbI rfl rfl rfl rfl (QdQ (by decide))) rfl rfl rfl) rfl (Qdq (by omega))) rfl rfl rfl (by decide)) ?_)
    rw[Qy]
    generalize eu:w*w % 2147483629*(2*(k:Int)+69621) % 2147483587=u
    have u1:0<=u:=by rw[← eu];exact ZE _ (by decide)
    have u2:u<2147483587:=by rw[← eu];exact ZA _ (by decide)
    have epow:dOp Qgb (dC (.int 618970019642690137449562111)) (dC (.int 2)) [some (.lst (ns.map .int),false),some (.int n,true),some (.int B40,true),some (.int z,true),some (Qi cs,true),some (.int k,true),j6,some (Qi cs',true),some (.int u,true)]=some ⟨.int (618970019642690137449562111^2),true,[]⟩:=Qph (b:=2) rfl rfl rfl rfl (by decide)
    refine run_seq (Qlp rfl (Qaq (QbI rfl rfl epow rfl (QdQ (by omega))) rfl rfl rfl (by decide)) rfl (by omega) (Qn ⟨_,_,_,?_,λc hc=>?_,rfl⟩))
    ·simp[h3]
    ·rcases Zr.mp hc with hc | hc
     ·exact h4 c hc
     ·rw[Zl.mp hc];exact⟨ZE _ (by decide),ZA _ (by decide)⟩
   ·rintro ρ ⟨cs',j5,j8,h3,h4,rfl⟩
    exact⟨cs',j5,j8,by simpa using h3,h4,rfl⟩
  rintro ρ ⟨cs',j5,j8,h3,h4,rfl⟩
  exact Q7 rfl ⟨cs',rfl,rfl,h3,h4⟩
 obtain⟨o,h1,h2⟩:=key
 cases o with
 | rt d fr=>
  obtain⟨cs,rfl,rfl,h3,h4⟩:=h2
  exact⟨cs,by unfold Qx;rw[h1];rfl,h3,h4⟩
 | _=>exact h2.elim
theorem Qsf{α β:Type}(f:α->β)(xs:List α)(k:Nat)(y:α):(Qau xs k y).map f=Qau (xs.map f) k (f y):=by
 unfold Qau;simp[Zbe,Zcb]
theorem Qgl{α:Type}{xs:List α}{k:Nat}{y z:α}:z∈Qau xs k y↔z=y∨z∈xs:=by
 unfold Qau
 rw[Zr,Zo]
 constructor
 ·rintro(h | h | h)
  ·exact .inr (ZaY h)
  ·exact .inl h
  ·exact .inr (List.mem_of_mem_drop h)
 ·rintro(h | h)
  ·exact .inr (.inl h)
  ·rw[← Zau k xs,Zr]at h
   rcases h with h | h
   ·exact .inl h
   ·exact .inr (.inr h)
theorem QtF{α:Type}(xs:List α)(k:Nat)(y:α):(Qau xs k y).length=xs.length+1:=by
 unfold Qau;rw[Zp,Zk,ZW,Zap];omega
theorem Qjj{α β:Type}(f:α->β):∀(l:List α) (k:Nat),(l.map f).eraseIdx k=(l.eraseIdx k).map f
 | [],_=>rfl
 | _::_,0=>rfl
 | a::l,k+1=>by simp only[Zq,ZaN,Qjj f l k]
theorem QhY{α:Type}:∀(l:List α) (k:Nat) (b:α),l[k]? =some b->(b::l.eraseIdx k).Perm l
 | [],_,_,h=>by simp at h
 | a::l,0,b,h=>by simp at h;subst h;exact .refl _
 | a::l,k+1,b,h=>by
  have:=QhY l k b (by simpa using h)
  simp only[ZaN]
  exact(List.Perm.swap a b _).trans (this.cons a)
theorem Qqe{x:Nat}{fi fa:DE}{ρ:En}{ri r:R}{W:List (Int×Int×Bool)}{w:Int×Int×Bool}{i:Int}{Q:Out->Prop}(hx:ρ[x]? =some (some (QS W,true)))(hi:fi ρ=some ri)(ei:ri.d= .int i)(ha:fa ρ=some r)(hf:r.d=QcO w)(h0:0<=i)(h1:i<2^62)(hl:W.length<16777216)
  (q:Q (.nx (ρ.set x (some (QS (Qau W (min i.toNat W.length) w),true))))):Run (Qhm x Q1 fi fa) ρ Q:=by
 refine⟨_,?_,q⟩
 unfold Qhm
 rw[hx]
 simp only[Q1,Za,hi,ha,Qbr,QS,ei,hf,Zj,Qes]
 rw[if_pos ⟨rfl,h0,h1,hl⟩]
 simp only[QaW,Qsf]
theorem Qnv{x y:Nat}{fi:DE}{ρ:En}{ri:R}{A B:List Int}{i b:Int}{Q:Out->Prop}(hx:ρ[x]? =some (some (Qi A,true)))(hy:ρ[y]? =some (some (Qi B,true)))(hi:fi ρ=some ri)(ei:ri.d= .int i)(hxy:x≠y)(h0:0<=i)(h1:i<2^62)(hb:B[i.toNat]? =some b)(hl:A.length<16777216)
  (q:Q (.nx ((ρ.set y (some (Qi (B.eraseIdx i.toNat),true))).set x (some (Qi (A++[b]),true))))):Run (QdO x y fi) ρ Q:=by
 refine⟨_,?_,q⟩
 unfold QdO
 rw[hx,hy]
 simp only[Qi,Za,hi,ei,Zj,Qes]
 rw[if_pos ⟨hxy,Qh3 B,h0,h1,hl⟩,Zv,hb]
 simp only[ZU,ZJ]
 rw[Qjj]
 rfl
noncomputable def QdD:DS:=(Qd (Qv 3 (QjV (Qa 1))) (Qd (Qv 4 (Q4 Qf)) (Qd (Qv 5 (Q4 Qf)) (Qd (Qa3 (QaO (Qa 1)) (.nm 6) (Qd (Qdt (.tp [7,8]) (dDm (Qc (Qr (Qa 0) (Qa 6)) (Qc (dBf QaI (Qc (Qa 3) Qf)) Qf)))) (Qd (Qdt (.tp [7,9]) (dDm (Qc (Qa 7) (Qc (QD (Qa 6) (dC (.int 1))) Qf)))) (Qd (Qv 10 (Qbx (Qa 1))) (Qd (sIf (QC (dOp gLt (Qa 9) (Qa 6))) (Qd (Qv 10 (Qbx (Qr (Qa 4) (Qa 9)))) Qo) Qo) (Qd (QdO 4 3 (Qa 8)) (Qd (Qv 11 (dOr (dOp gEq (Qa 2) (dC (.int 2))) (Qf1 (dOp gEq (Qa 2) (dC (.int 3))) (dOp gEq (dOp QaL (Qa 7) (dC (.int 2))) (dC (.int 1)))))) (Qd (Qhm 5 Q1 (dOp QaL (dOp Qfe (Qa 7) (dC (.int 2))) (QD (Qa 6) (dC (.int 1)))) (QbR (Qc (Qr (Qa 4) (Qa 6)) (Qc (Qa 10) (Qc (Qa 11) Qf))))) Qo)))))))) (Qd (Qai (Qa 5)) Qo)))))
def Esc(m:Nat)(W:List (Int×Int×Bool)):Prop:=∀A:Nat->Prop,(∃p,p<m/\A p)->∃w∈W,w.1<m/\A w.1.toNat/\(w.2.1=m∨¬A w.2.1.toNat)
theorem Esc.mono{m:Nat}{W W':List (Int×Int×Bool)}(h:Esc m W)(s:∀w∈W,w∈W'):Esc m W':=λA hA=>let ⟨w,hw,r⟩:=h A hA;⟨w,s w hw,r⟩
def QfD(m:Nat)(O:List Int)(w:Int×Int×Bool)(j:Nat):Prop:=O[j]? =some w.1/\(w.2.1=m∨∃i,i<j/\O[i]? =some w.2.1)
theorem QfD.app{m:Nat}{O O':List Int}{w:Int×Int×Bool}{j:Nat}(h:QfD m O w j):QfD m (O++O') w j:=by
 obtain⟨h1,h2⟩:=h
 have hj:j<O.length:=(Zd.mp h1).1
 refine⟨by rw[ZT hj];exact h1,?_⟩
 rcases h2 with h2 | ⟨i,hi,h2⟩
 ·exact .inl h2
 ·exact .inr ⟨i,hi,by rw[ZT (by omega)];exact h2⟩
theorem QuR{m:Nat}{O:List Int}{W:List (Int×Int×Bool)}(hp:O.Perm ((List.range m).map λ(k:Nat)=>(k:Int)))(hW:∀j,j<m->∃w∈W,QfD m O w j):Esc m W:=λA hpt=>by
 obtain⟨p,hp1,hp2⟩:=hpt
 have hl:O.length=m:=by rw[hp.length_eq];simp
 have nd:O.Nodup:=hp.nodup_iff.mpr (by
  rw[ZaZ,ZbB]
  exact List.Pairwise.imp (λh z=>h (by omega)) Zbm)
 have mem:∀x∈O,0<=x/\x<m:=λx hx=>by
  obtain⟨k,hk,rfl⟩:=ZQ.mp (hp.mem_iff.mp hx)
  have:=ZG.mp hk
  omega
 have ex:∃(j:Nat) (x:Int),O[j]? =some x/\A x.toNat:=by
  have:(p:Int)∈O:=hp.mem_iff.mpr (ZQ.mpr ⟨p,ZG.mpr hp1,rfl⟩)
  obtain⟨j,hj⟩:=List.getElem?_of_mem this
  exact⟨j,_,hj,by simpa using hp2⟩
 have least:∃(j:Nat),(∃x:Int,O[j]? =some x/\A x.toNat)/\∀i:Nat,i<j->¬ ∃x:Int,O[i]? =some x/\A x.toNat:=by
  obtain⟨j,hj⟩:=ex
  induction j using Nat.strongRecOn with
  | _ j ih=>
   by_cases h:∃i:Nat,i<j/\∃x:Int,O[i]? =some x/\A x.toNat
   ·obtain⟨i,hi,h⟩:=h;exact ih i hi h
   ·exact⟨j,hj,λi hi hx=>h ⟨i,hi,hx⟩⟩
 obtain⟨j,⟨x,hx,hA⟩,hmin⟩:=least
 have hj:j<m:=by rw[← hl];exact(Zd.mp hx).1
 obtain⟨w,hw,h1,h2⟩:=hW j hj
 rw[hx]at h1
 cases h1
 refine⟨w,hw,(mem _ (ZC hx)).2,hA,?_⟩
 rcases h2 with h2 | ⟨i,hi,h2⟩
 ·exact .inl h2
 ·exact .inr λhA'=>hmin i hi ⟨_,h2,hA'⟩
theorem QoP{m:Nat}{O:List Int}{w:Int×Int×Bool}{j:Nat}(nd:O.Nodup)(mem:∀x∈O,0<=x/\x<m)(h:QfD m O w j):GoodW m w:=by
 obtain⟨h1,h2⟩:=h
 have a:=mem _ (ZC h1)
 refine⟨⟨a.1,?_,by dsimp only;omega,?_,?_⟩,λ_=>a.2⟩
 ·rcases h2 with h2 | ⟨i,hi,h2⟩
  ·dsimp only;omega
  ·exact(mem _ (ZC h2)).1
 ·rcases h2 with h2 | ⟨i,hi,h2⟩
  ·dsimp only;omega
  ·have:=mem _ (ZC h2);dsimp only;omega
 ·rcases h2 with h2 | ⟨i,hi,h2⟩
  ·dsimp only;omega
  ·dsimp only
   intro z
   rw[z,← h2]at h1
   have hil:i<O.length:=(Zd.mp h2).1
   have hjl:j<O.length:=by
    by_cases q:j<O.length
    ·exact q
    ·rw[Zy (by omega),h2]at h1;cases h1
   have:=(List.getElem?_inj hjl nd).mp h1
   omega
def QiH(d:Den):Prop:=∀(m:Nat) (cs:List Int) (kind:Int),0<m->m<=1000->m<=cs.length->(∀c∈cs,0<=c/\c<B40)->∃W,d [Qi cs,.int m,.int kind]=some (QS W,true)/\W.length=m/\(∀w∈W,GoodW m w)/\Esc m W
theorem QqH:QiH (Qx 12 QdD):=λm cs kind m0 hm hcl hcs=>by
 have key:Run QdD (Qao 12 [Qi cs,.int m,.int kind]) (Rt λd fr=>∃W,d=QS W/\fr=true/\W.length=m/\(∀w∈W,GoodW m w)/\Esc m W):=by
  refine run_seq (Qj (r:=⟨Qi ((List.range m).map λ(k:Nat)=>(k:Int)),true,[]⟩) ?_ ?_)
  ·show(if 0<=(m:Int)/\(m:Int)<=1000000 then some (HS.R.mk (.lst ((List.range (m:Int).toNat).map λ(k:Nat)=> .int (k:Int))) true [])else none)=_
   rw[if_pos ⟨by omega,by omega⟩]
   unfold Qi
   rw[Zaq];rfl
  rw[Qy]
  refine run_seq (Qj rfl ?_)
  rw[Qy]
  refine run_seq (Qj rfl ?_)
  rw[Qy]
  refine run_seq (Qad (List.range m) (λk ρ=>∃(Rs O:List Int) (W:List (Int×Int×Bool)) (j6 j7 j8 j9 j10 j11:Option (D×Bool)),O.length=k/\(O++Rs).Perm ((List.range m).map λ(k:Nat)=>(k:Int))/\W.length=k/\(∀w∈W,∃j,QfD m O w j)/\(∀j,j<k->∃w∈W,QfD m O w j)∧
    ρ=[some (Qi cs,false),some (.int m,true),some (.int kind,true),some (Qi Rs,true),some (Qi O,true),some (QS W,true),j6,j7,j8,j9,j10,j11]) (QbS rfl rfl (by omega)) rfl ⟨_,[],[],none,none,none,none,none,none,rfl,by simp,rfl,by simp,λj hj=>absurd hj (by omega),rfl⟩ ?_ ?_)
  ·rintro k k' ρ hk ⟨Rs,O,W,j6,j7,j8,j9,j10,j11,hO,hP,hWl,hW1,hW2,rfl⟩
   have hk':k<m/\k=k':=by
    obtain⟨h1,h2⟩:=Zd.mp hk
    simp at h1 h2;exact⟨h1,h2⟩
   obtain⟨hkm,rfl⟩:=hk'
   have hRl:Rs.length=m-k:=by have:=hP.length_eq;simp at this;omega
   obtain⟨c,hc⟩:∃c,cs[k]? =some c:=⟨cs[k]'(by omega),Zs (by omega)⟩
   have hc0:=(hcs c (ZC hc))
   refine⟨_,rfl,?_⟩
   have elen:dBf QaI (Qc (Qa 3) Qf) [some (Qi cs,false),some (.int m,true),some (.int kind,true),some (Qi Rs,true),some (Qi O,true),some (QS W,true),some (.int k,true),j7,j8,j9,j10,j11]=some ⟨.int Rs.length,true,[]⟩:=by
    rw[QcI rfl rfl,Zj]
   refine run_seq (QfC (QbJ rfl rfl rfl rfl (by omega) (by simpa using hc)) rfl elen rfl (by omega) (by omega) ?_)
   have a1:=ZE c (by omega:(Rs.length:Int)≠0)
   have a2:=ZA c (by omega:(0:Int)<Rs.length)
   have a3:0<=c / Rs.length:=ZaT hc0.1 (by omega)
   generalize c % (Rs.length:Int)=at' at a1 a2
   generalize c / (Rs.length:Int)=nb at a3
   refine run_seq (QfC rfl rfl (QX rfl rfl rfl rfl) rfl (by omega) (by omega) ?_)
   have b1:=ZE nb (by omega:(k:Int)+1≠0)
   have b2:=ZA nb (by omega:(0:Int)<(k:Int)+1)
   have b3:0<=nb / ((k:Int)+1):=ZaT a3 (by omega)
   generalize nb % ((k:Int)+1)=to at b1 b2
   generalize nb / ((k:Int)+1)=nc at b3
   refine run_seq (Qj rfl ?_)
   rw[Qdi rfl]
   refine QaM (P:=λρ=>∃e:Int,(e=m∨∃i,i<k/\O[i]? =some e)/\ρ=[some (Qi cs,false),some (.int m,true),some (.int kind,true),some (Qi Rs,true),some (Qi O,true),some (QS W,true),some (.int k,true),some (.int nc,true),some (.int at',true),some (.int to,true),some (.int e,true),j11]) ?_ ?_
   ·refine Qae (QJ rfl rfl) (λh=>?_) (λ_=>Qn ⟨m,.inl rfl,rfl⟩)
    have h:=of_decide_eq_true h
    obtain⟨e,he⟩:∃e,O[to.toNat]? =some e:=⟨O[to.toNat]'(by omega),Zs (by omega)⟩
    exact run_seq (Qj (Qd0 (QbJ rfl rfl rfl rfl b1 he)) (Qn ⟨e,.inr ⟨to.toNat,by omega,he⟩,by rw[Qdi rfl];rfl⟩))
   rintro ρ ⟨e,he,rfl⟩
   obtain⟨b,hb⟩:∃b,Rs[at'.toNat]? =some b:=⟨Rs[at'.toNat]'(by omega),Zs (by omega)⟩
   refine run_seq (Qnv rfl rfl rfl rfl (by decide) a1 (by omega) hb (by omega) ?_)
   refine run_seq (Qj (Qro (Qd9 rfl rfl rfl rfl) (QlA (Qd9 rfl rfl rfl rfl) (Qd9 (Qaq rfl rfl rfl rfl (by decide)) rfl rfl rfl))) ?_)
   rw[Qy]
   generalize (decide (kind=2) || (decide (kind=3) && decide (nc % 2=1)))=ln
   have c1:=ZE (nc / 2) (by omega:(k:Int)+1≠0)
   have c2:=ZA (nc / 2) (by omega:(0:Int)<(k:Int)+1)
   have hOb:(O++[b])[k]? =some b:=by rw[Zaw (by omega)];simp[hO]
   have eidx:=QbJ (fa:=Qa 4) (fb:=Qa 6) (ρ:=[some (Qi cs,false),some (.int m,true),some (.int kind,true),some (Qi (Rs.eraseIdx at'.toNat),true),some (Qi (O++[b]),true),some (QS W,true),some (.int k,true),some (.int nc,true),some (.int at',true),some (.int to,true),some (.int e,true),some (.bl ln,true)]) rfl rfl rfl rfl (by omega) (by simpa using hOb)
   have ew:QbR (Qc (Qr (Qa 4) (Qa 6)) (Qc (Qa 10) (Qc (Qa 11) Qf))) [some (Qi cs,false),some (.int m,true),some (.int kind,true),some (Qi (Rs.eraseIdx at'.toNat),true),some (Qi (O++[b]),true),some (QS W,true),some (.int k,true),some (.int nc,true),some (.int at',true),some (.int to,true),some (.int e,true),some (.bl ln,true)]=some ⟨QcO (b,e,ln),true,[]⟩:=by
    unfold QbR
    rw[QF eidx (QF rfl (QF rfl (QaV _)))]
    rfl
   have fr:QfD m (O++[b]) (b,e,ln) k:=by
    refine⟨hOb,?_⟩
    rcases he with he | ⟨i,hi,he⟩
    ·exact .inl he
    ·exact .inr ⟨i,hi,by rw[ZT (by omega)];exact he⟩
   refine run_seq (Qqe rfl (Qaq (QhG rfl rfl rfl rfl (by decide) (by decide)) rfl (QX rfl rfl rfl rfl) rfl (by omega)) rfl ew rfl c1 (by omega) (by omega) (Qn ⟨_,_,_,_,_,_,_,_,_,by simp[hO],?_,by rw[QtF,hWl],?_,?_,rfl⟩))
   ·refine List.Perm.trans ?_ hP
    rw[ZaH]
    refine List.Perm.append_left O ?_
    exact QhY Rs _ b hb
   ·intro w hw
    rcases Qgl.mp hw with rfl | hw
    ·exact⟨k,fr⟩
    ·obtain⟨j,hj⟩:=hW1 w hw;exact⟨j,hj.app⟩
   ·intro j hj
    by_cases hjk:j=k
    ·subst hjk;exact⟨_,Qgl.mpr (.inl rfl),fr⟩
    ·obtain⟨w,hw,hf⟩:=hW2 j (by omega);exact⟨w,Qgl.mpr (.inr hw),hf.app⟩
  ·rintro ρ ⟨Rs,O,W,j6,j7,j8,j9,j10,j11,hO,hP,hWl,hW1,hW2,rfl⟩
   rw[ZR]at *
   have hR0:Rs=[]:=by have:=hP.length_eq;simp at this;exact Zag (by omega)
   subst hR0
   rw[ZM]at hP
   have nd:O.Nodup:=hP.nodup_iff.mpr (by
    rw[ZaZ,ZbB]
    exact List.Pairwise.imp (λh z=>h (by omega)) Zbm)
   have mem:∀x∈O,0<=x/\x<m:=λx hx=>by
    obtain⟨k,hk,rfl⟩:=ZQ.mp (hP.mem_iff.mp hx)
    have:=ZG.mp hk
    omega
   exact Q7 rfl ⟨W,rfl,rfl,hWl,λw hw=>let ⟨j,hj⟩:=hW1 w hw;QoP nd mem hj,QuR hP hW2⟩
 obtain⟨o,h1,h2⟩:=key
 cases o with
 | rt d fr=>
  obtain⟨W,rfl,rfl,h3,h4,h5⟩:=h2
  exact⟨W,by unfold Qx;rw[h1];rfl,h3,h4,h5⟩
 | _=>exact h2.elim
noncomputable def Qfz:DS:=(Qd (Qv 3 (Qas (Q4 (Qc (dC (.int 0)) Qf)) (QD (Qa 0) (dC (.int 1))))) (Qd (Qa3 (Qay (Qa 1)) (.tp [4,5,6]) (Qd (Qce 3 Q1 (Qa 4) (QD (Qr (Qa 3) (Qa 4)) (dC (.int 1)))) (Qd (sIf (Qbp (QC (Qa 6))) (Qd (Qce 3 Q1 (Qa 5) (QD (Qr (Qa 3) (Qa 5)) (dC (.int 1)))) Qo) Qo) Qo))) (Qd (Qv 7 (dC (.int 1))) (Qd (Qa3 (Qay (Qbq (Qa 3) QbU (Qam (Qa 0)))) (.nm 8) (Qd (Qv 7 (Qas (Qa 7) (Qa 8))) Qo)) (Qd (Qai (dOp gLe (Qa 7) (Qa 2))) Qo)))))
theorem Qh2{W:List (Int×Int×Bool)}{n:Nat}:cutD (W.map QcO) none (some (n:Int))=(W.take n).map QcO/\cutD (W.map QcO) (some (n:Int)) none=(W.drop n).map QcO:=by
 unfold cutD
 simp only[Zj,HT.Qg7,HT.QgA,Zbw,ZbQ]
 constructor
 ·rw[← Zbe]
  by_cases h:n<=W.length
  ·rw[Zbq h]
  ·rw[Nat.min_eq_right (by omega),Zai (by omega),Zai (by omega)]
 ·rw[← Zcb,← Zbe]
  congr 1
  by_cases h:n<=W.length
  ·rw[Zbq h,Zai (by simp)]
  ·rw[Nat.min_eq_right (by omega),ZbR (by omega),ZbR (by omega)];simp
theorem QsP{fa fb:DE}{ρ:En}{ra rb:R}{W:List (Int×Int×Bool)}{n:Nat}(ha:fa ρ=some ra)(ea:ra.d=QS W)(hb:fb ρ=some rb)(eb:rb.d= .int n):
  Qbq fa QbU (Qam fb) ρ=some ⟨QS (W.take n),true,[]⟩/\Qbq fa (Qam fb) QbU ρ=some ⟨QS (W.drop n),true,[]⟩:=by
 unfold Qbq QbU Qam
 simp only[ha,hb,Za,ea,eb,QS,Qh2.1,Qh2.2,Qax,Qm2,if_true]
 exact⟨trivial,trivial⟩
theorem QpQ{m:Nat}{a s:Int}{ln:Bool}(h0:0<=a)(h1:a<=m)(hs:0<=s)(hs2:s<m)(hl:ln=true->a<m):GoodW m (a,(a+1+s) % (m+1),ln):=by
 have h5:=ZE (a+1+s) (by omega:(m:Int)+1≠0)
 have h6:=ZA (a+1+s) (by omega:(0:Int)<m+1)
 have h7:=QuG (a:=a) (x:=1+s) (n:=(m:Int)+1) (by omega) (by omega)
 rw[← Zbn,show a % ((m:Int)+1)=a from ZbA h0 (by omega)]at h7
 exact⟨⟨h0,h5,h1,by dsimp only;omega,λz=>h7 z.symm⟩,hl⟩
noncomputable def Qm(m:Nat)(g:Nat->Int):Int:=((List.range m).map g).sum
theorem QN(m:Nat)(g:Nat->Int):Qm (m+1) g=Qm m g+g m:=by
 unfold Qm;rw[List.range_succ,ZJ,Zab];simp
theorem QW(h:∀i,i<m->f i=g i):Qm m f=Qm m g:=by
 unfold Qm;rw[Zac λi hi=>h i (ZG.mp hi)]
theorem Qaf(m:Nat)(f g:Nat->Int):Qm m (λi=>f i+g i)=Qm m f+Qm m g:=by
 induction m with
 | zero=>rfl
 | succ m ih=>rw[QN,QN,QN,ih];omega
theorem Qqs(m:Nat)(f:Nat->Int):Qm m (λi=> -f i)= -Qm m f:=by
 induction m with
 | zero=>rfl
 | succ m ih=>rw[QN,QN,ih];omega
theorem QK(m:Nat):Qm m (λ_=>0)=0:=by
 induction m with
 | zero=>rfl
 | succ m ih=>rw[QN,ih];rfl
theorem Qg9(m:Nat)(c:Int)(f:Nat->Int):Qm m (λi=>c*f i)=c*Qm m f:=by
 induction m with
 | zero=>simp[Qm]
 | succ m ih=>rw[QN,QN,ih,Zca]
theorem Qpr(m n:Nat)(f:Nat->Nat->Int):Qm m (λi=>Qm n λj=>f i j)=Qm n λj=>Qm m λi=>f i j:=by
 induction m with
 | zero=>show 0=Qm n λj=>0;rw[QK]
 | succ m ih=>
  rw[QN,ih,← Qaf]
  exact QW λj _=>by rw[QN]
theorem QY(hp:p<m)(v:Int)(f:Nat->Int):Qm m (λi=>(if i=p then v else 0)*f i)=v*f p:=by
 induction m with
 | zero=>omega
 | succ m ih=>
  rw[QN]
  by_cases h:p=m
  ·subst h
   rw[if_pos rfl,QW (g:=λ_=>0) λi hi=>by rw[if_neg (by omega)];simp,QK];simp
  ·rw[ih (by omega),if_neg (λz=>h z.symm)];simp
noncomputable def Qg(m:Nat)(T:Nat->Nat->Int)(f c:Nat->Int):Nat->Int:=λj=>f j+Qm m λi=>c i*T i j
theorem Qa0(h:∀i,i<m->f i=g i):Qb m f=Qb m g:=by
 unfold Qb
 congr 1
 refine Zac λi hi=>?_
 rw[h i (ZG.mp hi)]
noncomputable def QeB:DS:=(Qd (Qa3 (Qay (Qa 1)) (.nm 2) (Qd (sIf (QC (dOp gNe (dBf QaI (Qc (Qa 2) Qf)) (Qr (Qa 0) (dC (.int 0))))) (Qd QR Qo) Qo) Qo)) Qo)
def QhW(d:Den):Prop:=∀(m:Nat) (R L:List (Int×Int)) (fs:List (Nat->Int)),d [Qp m R L,.lst (fs.map λf=>Qb m f)]=some (.non,true)
theorem Qth:QhW (Qx 3 QeB):=λm R L fs=>by
 have key:Run QeB (Qao 3 [Qp m R L,.lst (fs.map λf=>Qb m f)]) (Nx λ_=>True):=by
  refine run_seq (Qad fs (λ_ ρ=>∃j2,ρ=[some (Qp m R L,false),some (.lst (fs.map λf=>Qb m f),false),j2]) rfl rfl ⟨none,rfl⟩ ?_ ?_)
  ·rintro i f ρ _ ⟨j2,rfl⟩
   refine⟨_,rfl,?_⟩
   refine run_seq (Qae (b:=false) (QJ (QlE (QcI rfl rfl) rfl (Qcv rfl rfl).1 rfl) (by simp)) (λh=>by cases h) (λ_=>Qn (Qn ⟨_,rfl⟩)))
  ·rintro ρ ⟨j2,rfl⟩
   exact Qn trivial
 obtain⟨o,h1,h2⟩:=key
 unfold Qx
 rw[h1]
 cases o with
 | nx ρ=>rfl
 | _=>exact h2.elim
noncomputable def Qmn(QaR:Den)(Q3:Den):DS:=(Qd (Qdr (QG 2 QaR [] (Qc (Qa 0) (Qc (Q4 (Qc (Qa 1) (Qc (Qa 2) Qf))) Qf)))) (Qd (Qv 3 (dList (Qc (Qa 1) Qf))) (Qd (Qa3 (QbT (QG 1 Q3 [] (Qc (Qa 0) Qf)) (Qa 2)) (.tp [4,5]) (Qd (Qv 3 (Q6 (QbT (Qa 3) (Qa 4)) (.tp [1,2]) [none,none,none,some 5] Qa6 (QD (Qa 1) (Qas (Qa 3) (Qa 2))))) Qo)) (Qd (Qai (Qa 3)) Qo))))
theorem Qek(h:fa ρ=some r)(q:Q (.nx ρ)):Run (Qdr fa) ρ Q:=⟨_,by simp[Qdr,h],q⟩
theorem Qnm(f g:Nat->D):Qd4 ((List.range m).map f) ((List.range m).map g)=(List.range m).map λi=> .tup [f i,g i]:=by
 generalize List.range m=l
 induction l with
 | nil=>rfl
 | cons n ns ih=>unfold Qd4 at ih ⊢;simp only[Zq,ZaF,ih]
theorem Qdm(h:fs ρ=some rs)(e:rs.ds=[Qb m f]):dList fs ρ=some ⟨Qb m f,true,[]⟩:=by
 unfold dList
 rw[h,Za,e]
 simp[Qb,Qax]
theorem QdS(ha:fa ρ=some ra)(ea:ra.d= .lst ((List.range m).map f))(hb:fb ρ=some rb)(eb:rb.d= .lst ((List.range m).map g)):QbT fa fb ρ=some ⟨(List.range m).map λi=> .tup [f i,g i],ra.M++rb.M⟩:=by
 unfold QbT
 rw[ha,Za,hb,Za,ea,eb]
 simp only[Qnm]
theorem Qsg(i j:Nat)(s:Int×Int):(hit i j s).natAbs<=1:=by unfold hit;split<;>split<;>decide
theorem QeI(i j:Nat):∀S:List (Int×Int),((S.map (hit i j)).sum).natAbs<=S.length
 | []=>by simp
 | s::S=>by
  have:=QeI i j S
  have:=Qsg i j s
  rw[Zq,Zae,Zk]
  omega
def QiQ(d:Den):Prop:=∀(m:Nat) (R L:List (Int×Int)) (f c:Nat->Int),m<=1000->R.length+R.length+L.length<=1000000->(∀s∈R,Good m s)->(∀s∈L,Good m s)->d [Qp m R L,Qb m f,Qb m c]=some (Qb m (Qg m (Qs m (Qk R L)) f c),true)
theorem QqB(hn:QhW dn)(ht:Qe1 dt):QiQ (Qx 6 (Qmn dn dt)):=λm R L f c hm hl hR hL=>by
 have gS:=QaT hR hL
 have tb:∀i j,i<m->j<m->(Qs m (Qk R L) i j).natAbs<2^64:=λi j hi hj=>by
  rw[QbQ hi hj λs hs=>⟨(gS s hs).1,(gS s hs).2.1⟩]
  have:=QeI i j (Qk R L)
  have:(Qk R L).length<=1000000:=by unfold Qk;simp;omega
  omega
 refine QbV ?_
 refine run_seq (Qek (QL rfl (hn m R L [f,c]) rfl) ?_)
 refine run_seq (Qj (Qdm rfl rfl) ?_)
 rw[Qy]
 refine QaM (P:=λρ=>∃j4 j5,ρ=[some (Qp m R L,false),some (Qb m f,false),some (Qb m c,false),some (Qb m (Qg m (Qs m (Qk R L)) f c),true),j4,j5]) ?_ ?_
 ·refine Qad (List.range m) (λk ρ=>∃j4 j5,ρ=[some (Qp m R L,false),some (Qb m f,false),some (Qb m c,false),some (Qb m (λj=>f j+Qm k λi=>c i*Qs m (Qk R L) i j),true),j4,j5]) (QdS (QL rfl (ht m R L hm hl hR hL) rfl) rfl rfl rfl) rfl ⟨none,none,?_⟩ ?_ ?_
  ·show [some (Qp m R L,false),some (Qb m f,false),some (Qb m c,false),some (Qb m f,true),none,none]=_
   have:Qb m f=Qb m λj=>f j+Qm 0 λi=>c i*Qs m (Qk R L) i j:=Qa0 λi _=>by show f i=f i+0;omega
   rw[← this]
  ·rintro k k' ρ hk ⟨j4,j5,rfl⟩
   have hk':k<m/\k=k':=by
    obtain⟨h1,h2⟩:=Zd.mp hk
    simp at h1 h2;exact⟨h1,h2⟩
   obtain⟨hkm,rfl⟩:=hk'
   refine⟨_,rfl,?_⟩
   refine run_seq (Qj ?_ (Qn ⟨_,_,by rw[Qy];rfl⟩))
   have e:=QaJ (fi:=QbT (Qa 3) (Qa 4)) (t:= .tp [1,2]) (cap:=[none,none,none,some 5]) (fe:=QD (Qa 1) (Qas (Qa 3) (Qa 2))) (ρ:=[some (Qp m R L,false),some (Qb m f,false),some (Qb m c,false),some (Qb m (λj=>f j+Qm k λi=>c i*Qs m (Qk R L) i j),true),some (Qb m (Qs m (Qk R L) k),false),some (.int (c k),true)])
    (List.range m) (QdS rfl rfl rfl rfl) rfl λj hj=>by
     have hj:=ZG.mp hj
     exact⟨[none,some (.int (f j+Qm k λi=>c i*Qs m (Qk R L) i j),true),some (.int (Qs m (Qk R L) k j),true),some (.int (c k),true)],rfl,_,QX rfl rfl (QbI rfl rfl rfl rfl (Qdq (tb k j hkm hj))) rfl,rfl,rfl⟩
   refine e.trans ?_
   congr 2
   show D.lst _=D.lst _
   congr 1
   refine Zac λj _=>?_
   show _=D.int (f j+Qm (k+1) λi=>c i*Qs m (Qk R L) i j)
   rw[QN,Zbn]
  ·rintro ρ ⟨j4,j5,rfl⟩
   rw[ZR]
   exact⟨j4,j5,rfl⟩
 rintro ρ ⟨j4,j5,rfl⟩
 exact Q7 rfl ⟨rfl,rfl⟩
theorem QgD{a b:Nat}(ha:fa ρ=some ra)(ea:ra.d=Qi cs)(hl:fl ρ=some rl)(el:rl.d= .int a)(hh:fh ρ=some rh)(eh:rh.d= .int b):Qbq fa (Qam fl) (Qam fh) ρ=some ⟨Qi ((cs.drop (min a cs.length)).take (min b cs.length-min a cs.length)),true,[]⟩:=by
 unfold Qbq Qam
 simp only[ha,hl,hh,Za,ea,el,eh,Qi,cutD,Zj,HT.QgA,← Zcb,← Zbe,Qax,Qh3,if_true]
theorem Qmf{cs:List Int}{a b:Nat}{c:Int}(h:c∈(cs.drop a).take b):c∈cs:=List.mem_of_mem_drop (ZaY h)
structure Qbf (m:Nat) (R L:List (Int×Int)):Prop where
 ex:∃W,Esc m W/\(∀w∈W,GoodW m w)/\W.length<=200/\R=Qat W/\L=Qac W
theorem Qbf.good{m:Nat}{R L:List (Int×Int)}(h:Qbf m R L):(∀s∈R,Good m s)/\(∀s∈L,Good m s)/\R.length<=200/\L.length<=200/\(∀s∈R,s.1<s.2)/\∀s∈L,s.1<m:=by
 obtain⟨W,_,h2,h3,rfl,rfl⟩:=h.ex
 exact⟨λs hs=>(Qc8 h2 s hs).1,λs hs=>(Qcz h2 s hs).1,ZF (QjF W) h3,ZF (Qi8 W) h3,λs hs=>(Qc8 h2 s hs).2,λs hs=>(Qcz h2 s hs).2⟩
theorem Qp1(hi:i<m)(g:Good m s):Qm m (λj=>hit i j s)= -(if s.1=i/\s.2=m then 1 else 0):=by
 obtain⟨g1,g2,g3,g4,g5⟩:=g
 have e:(λj:Nat=>hit i j s)=λj=>(if j=s.2.toNat then(if s.1=(i:Int)then 1 else 0)else 0)*1+ -((if j=i then(if s.1=(i:Int)then 1 else 0)else 0)*1):=by
  funext j
  unfold hit
  have e2:(s.2=(j:Int))↔(j=s.2.toNat):=by omega
  have e3:(i=j)↔(j=i):=⟨Eq.symm,Eq.symm⟩
  simp only[e2,e3]
  by_cases a:s.1=(i:Int)
  ·simp only[a,true_and,if_true,ZbW,Int.sub_eq_add_neg]
  ·simp[a]
 rw[e,Qaf,Qqs,QY hi]
 by_cases hm:s.2=(m:Int)
 ·have:Qm m (λj=>(if j=s.2.toNat then(if s.1=(i:Int)then(1:Int)else 0)else 0)*1)=0:=by
   rw[QW (g:=λ_=>0) λj hj=>by rw[if_neg (by omega)];rfl,QK]
  rw[this]
  by_cases a:s.1=(i:Int)<;>simp[a,hm]
 ·rw[QY (by omega)]
  simp[hm,Int.add_right_neg]
theorem Qdu{α:Type}(m:Nat)(g:Nat->α->Int):∀S:List α,Qm m (λj=>(S.map (g j)).sum)=(S.map λs=>Qm m λj=>g j s).sum
 | []=>by simp[QK]
 | s::S=>by
  simp only[Zq,Zae]
  rw[Qaf,Qdu m g S]
theorem QiX{α:Type}(c:Int)(f:α->Int):∀S:List α,c*(S.map f).sum=(S.map λs=>c*f s).sum
 | []=>by simp
 | s::S=>by simp only[Zq,Zae,Zca,QiX c f S]
theorem QvW(hp:p<m):Qb m (Qg m T (Qg m T f c) (up (λ_=>0) p v))=Qb m (Qg m T f (up c p (c p+v))):=Qa0 λj _=>by
 unfold Qg
 have e1:(λi=>up (λ_=>0) p v i*T i j)=λi=>(if i=p then v else 0)*T i j:=by funext i;rfl
 have e2:(λi=>up c p (c p+v) i*T i j)=λi=>c i*T i j+(if i=p then v else 0)*T i j:=by
  funext i
  unfold up
  by_cases h:i=p
  ·subst h;simp only[if_true];rw[ZaE]
  ·simp[h]
 rw[e1,e2,Qaf,QY hp]
 omega
theorem Qln:Qb m (Qg m T f λ_=>0)=Qb m f:=Qa0 λj _=>by
 unfold Qg
 rw[QW (g:=λ_=>0) λi _=>by simp,QK];omega
theorem Qsv(h:fa ρ=some r)(e:r.d=Qb m f):dBf Qgs (Qc fa Qf) ρ=some ⟨.int (Qm m f),true,[]⟩:=by
 unfold dBf
 rw[QF h (QaV _),Za]
 have:Qb m f= .lst (((List.range m).map f).map .int):=by unfold Qb;rw[Zaq];rfl
 simp only[e,this,Qgs,Qfx,ZU]
 rfl
theorem Qs8(ha:fa ρ=some ra)(ea:ra.d=d)(hb:fb ρ=some rb)(eb:rb.d=d)(hs:d.sim 8=true):dOp gEq fa fb ρ=some ⟨.bl true,true,[]⟩:=by
 refine Qal ha hb ?_
 rw[ea,eb]
 unfold gEq
 rw[hs,QpO hs];rfl
theorem Qyd(n m:Nat)(f:Nat->Int):(Qb m f).sim (n+1)=true:=by
 have:Qb m f=Qi ((List.range m).map f):=by unfold Qb Qi;rw[Zaq];rfl
 rw[this];exact QuF n _
structure TP (m:Nat) (T:Nat->Nat->Int):Prop where
 neg:∀p,p<m->T p p<0
 pos:∀i j,i<m->j<m->i≠j->0<=T i j
 bnd:∀i j,i<m->j<m->(T i j).natAbs<2^64
 wt:∃w:Nat->Int,(∀j,0<=w j)/\∀i,i<m->Qm m (λj=>T i j*w j)<= -1
inductive Leg (m:Nat) (T:Nat->Nat->Int) (f:Nat->Int):(Nat->Int)->Prop where
 | nil:Leg m T f λ_=>0
 | step {c:Nat->Int}{p:Nat}{t:Int}:Leg m T f c->p<m->0<=t->t*(0-T p p)<=Qg m T f c p->Leg m T f (up c p (c p+t))
def Stb(m:Nat)(T:Nat->Nat->Int)(g:Nat->Int):Prop:=∀p,p<m->g p<0-T p p
theorem Qgw(hp:p<m)(j:Nat):Qg m T f (up c p (c p+v)) j=Qg m T f c j+v*T p j:=by
 unfold Qg
 have e2:(λi=>up c p (c p+v) i*T i j)=λi=>c i*T i j+(if i=p then v else 0)*T i j:=by
  funext i
  unfold up
  by_cases h:i=p
  ·subst h;simp only[if_true];rw[ZaE]
  ·simp[h]
 rw[e2,Qaf,QY hp]
 omega
theorem Leg.nonneg(h:Leg m T f c):∀i,0<=c i:=by
 induction h with
 | nil=>intro i;exact Zay _
 | step _ _ ht _ ih=>
  intro i
  unfold up
  split
  ·have:=ih ‹Nat›;rename_i p _ _ _ _ _;have:=ih p;omega
  ·exact ih i
theorem Qa1(h:∀i,i<m->f i<=g i):Qm m f<=Qm m g:=by
 induction m with
 | zero=>exact Zay _
 | succ m ih=>
  rw[QN,QN]
  have:=ih λi hi=>h i (by omega)
  have:=h m (by omega)
  omega
theorem Leg.least(tp:TP m T)(h:Leg m T f c)(h0:∀i,i<m->0<=c' i)(hs:Stb m T (Qg m T f c')):∀i,i<m->c i<=c' i:=by
 induction h with
 | nil=>exact h0
 | @step c p t _ hp ht hle ih=>
  intro i hi
  unfold up
  split
  ·rename_i e
   subst e
   have key:Qg m T f c i+(c' i-c i)*T i i<=Qg m T f c' i:=by
    unfold Qg
    have e1:Qm m (λk=>c k*T k i)+(c' i-c i)*T i i=Qm m (λk=>c k*T k i+(if k=i then c' i-c i else 0)*T k i):=by rw[Qaf,QY hi]
    have e2:Qm m (λk=>c k*T k i+(if k=i then c' i-c i else 0)*T k i)<=Qm m (λk=>c' k*T k i):=by
     refine Qa1 λk hk=>?_
     by_cases hki:k=i
     ·subst hki;rw[if_pos rfl,← ZaE];rw[show c k+(c' k-c k)=c' k by omega];exact Zay _
     ·rw[if_neg hki,ZaD,Int.add_zero]
      exact ZaO (ih k hk) (tp.pos k i hk hi hki)
    omega
   have h1:=hs i hi
   have h2:=tp.neg i hi
   by_cases hlt:c i+t<=c' i
   ·exact hlt
   ·exfalso
    have h3:(c' i-c i+1)<=t:=by omega
    have h4:(c' i-c i+1)*(0-T i i)<=t*(0-T i i):=ZaO h3 (by omega)
    have h5:(c' i-c i+1)*(0-T i i)=(0-T i i)-(c' i-c i)*T i i:=by rw[ZaE,Zbh,Int.mul_sub,Int.mul_zero];omega
    omega
  ·exact ih i hi
theorem Leg.unique(tp:TP m T)(hc:Leg m T f c)(hd:Leg m T f d)(sc:Stb m T (Qg m T f c))(sd:Stb m T (Qg m T f d)):∀i,i<m->c i=d i:=λi hi=>by
 have h1:=hc.least tp (λi _=>hd.nonneg i) sd i hi
 have h2:=hd.least tp (λi _=>hc.nonneg i) sc i hi
 omega
theorem Qmg{m:Nat}{T:Nat->Nat->Int}{f c b:Nat->Int}(j:Nat):Qg m T (λi=>2*f i+b i) (λi=>2*c i) j=2*Qg m T f c j+b j:=by
 unfold Qg
 have e:(λi=>2*c i*T i j)=λi=>2*(c i*T i j):=by funext i;rw[ZaU]
 rw[e,Qg9];show 2*f j+b j+2*_=2*(f j+_)+b j;omega
theorem QbM(j:Nat)(h1:f j=g j)(h2:∀i,i<m->c i=d i):Qg m T f c j=Qg m T g d j:=by
 unfold Qg
 rw[h1,QW λi hi=>by rw[h2 i hi]]
theorem Leg.Qvo(h:Leg m T f c)(b:Nat->Int)(hb:∀i,0<=b i):∃d,Leg m T (λi=>2*f i+b i) d/\∀i,d i=2*c i:=by
 induction h with
 | nil=>exact⟨_,.nil,λi=>by simp⟩
 | @step c p t _ hp ht hle ih=>
  obtain⟨d,hd,e⟩:=ih
  have ed:d=λi=>2*c i:=funext e
  subst ed
  refine⟨_,.step (t:=2*t) hd hp (by omega) ?_,λi=>?_⟩
  ·rw[Qmg]
   have:=hb p
   have e2:2*t*(0-T p p)=2*(t*(0-T p p)):=by rw[ZaU]
   omega
  ·show up (λi=>2*c i) p (2*c p+2*t) i=2*up c p (c p+t) i
   unfold up
   split
   ·omega
   ·rfl
theorem Leg.cast(h:Leg m T f c)(e:∀i,c i=d i):Leg m T f d:=by
 have:c=d:=funext e
 rw[← this];exact h
theorem Leg.QrF(h:Leg m T f c)(e:∀i,i<m->f i=g i):Leg m T g c:=by
 induction h with
 | nil=>exact .nil
 | @step c p t _ hp ht hle ih=>exact .step ih hp ht (by rw[← QbM p (e p hp) (λ_ _=>rfl)];exact hle)
noncomputable def wtF(m:Nat)(w g:Nat->Int):Int:=Qm m λj=>g j*w j
theorem Qw6(hw:∀i,i<m->Qm m (λj=>T i j*w j)<= -1)(hp:p<m)(ht:0<=t):wtF m w (Qg m T f (up c p (c p+t)))<=wtF m w (Qg m T f c)-t:=by
 unfold wtF
 have e:(λj=>Qg m T f (up c p (c p+t)) j*w j)=λj=>Qg m T f c j*w j+t*(T p j*w j):=by
  funext j;rw[Qgw hp,ZaE,ZaU]
 rw[e,Qaf,Qg9]
 have h1:t*Qm m (λj=>T p j*w j)<=t*(-1):=Zah (hw p hp) ht
 omega
theorem Qo3(hw:∀j,0<=w j)(hg:∀j,j<m->0<=g j):0<=wtF m w g:=by
 have:=Qa1 λi hi=>ZaP (hg i hi) (hw i)
 rw[QK]at this
 exact this
theorem Qjl(I:Nat->En->Prop)(step:∀n ρ,I n ρ->∃b,g ρ=some b/\(b=false->Q (.nx ρ))/\(b=true->Run fb ρ λo=>match o with | .nx ρ2=>∃n',n'<n/\I n' ρ2 | .ct ρ2=>∃n',n'<n/\I n' ρ2 | .bk ρ2=>Q (.nx ρ2) | .rt d fr=>Q (.rt d fr))):
  ∀(n:Nat) (ρ:En),I n ρ->Run (Qck g fb) ρ Q:=by
 intro n
 induction n using Nat.strongRecOn with
 | _ n ih=>
  intro ρ h
  obtain⟨b,hb,hf,ht⟩:=step n ρ h
  unfold Run
  rw[QnW,hb,Za]
  cases b with
  | false=>exact⟨_,by simp,hf rfl⟩
  | true=>
   obtain⟨o,ho,hq⟩:=ht rfl
   rw[if_pos rfl,ho,Za]
   cases o with
   | nx ρ2=>obtain⟨n',hn,hI⟩:=hq;exact ih n' hn ρ2 hI
   | ct ρ2=>obtain⟨n',hn,hI⟩:=hq;exact ih n' hn ρ2 hI
   | bk ρ2=>exact⟨_,rfl,hq⟩
   | rt d fr=>exact⟨_,rfl,hq⟩
theorem Qs4(ha:fa ρ=some ra)(ea:ra.d= .int a)(hb:fb ρ=some rb)(eb:rb.d= .int b)(h:0<b)(h2:b<2^200):dOp Qfe fa fb ρ=some ⟨.int (a / b),true,[]⟩:=by
 refine Qal ha hb ?_
 rw[ea,eb]
 show(if Qcp b=true then some (D.int (Qdy a b))else none)=_
 rw[if_pos (Qi9 h h2),Qhj _ _ (by omega)]
theorem Qcj{i:Nat}(ha:fa ρ=some ra)(ea:ra.d=Qb m f)(hb:fb ρ=some rb)(eb:rb.d= .int i)(h:i<m):Qr fa fb ρ=some ⟨.int (f i),true,[]⟩:=by
 have:=Qbg ha ea hb eb (by omega) (by omega)
 rw[ZO]at this
 exact this
noncomputable def Qf6:DS:=(Qd (Qv 3 (dList (Qc (Qa 1) Qf))) (Qd (Qv 4 (dList (Qc (Qa 2) Qf))) (Qd (Qv 5 (dC (.bl true))) (Qd (Qck (QC (Qa 5)) (Qd (Qv 5 (dC (.bl false))) (Qd (Qa3 (Qdv (Qa 0)) (.tp [6,7]) (Qd (Qv 8 (dOp Qfe (Qr (Qa 3) (Qa 6)) (dOp Qdo (dC (.int 0)) (Qr (Qa 7) (Qa 6))))) (Qd (sIf (QC (dOp gGt (Qa 8) (dC (.int 0)))) (Qd (Qv 5 (dC (.bl true))) (Qd (Qdg (gI λi j=>some (.int (i+j))) 4 Q1 (Qa 6) (Qa 8)) (Qd (Qv 3 (Q6 (QbT (Qa 3) (Qa 7)) (.tp [1,2]) [none,none,none,some 8] Qa6 (QD (Qa 1) (Qas (Qa 3) (Qa 2))))) Qo))) Qo) Qo))) Qo))) (Qd (Qai (QbR (Qc (Qa 3) (Qc (Qa 4) Qf)))) Qo)))))
def Qf4(d:Den):Prop:=∀(m:Nat) (T:Nat->Nat->Int) (f k:Nat->Int),m<=1000->TP m T->Leg m T f k->(∀j,j<m->0<=Qg m T f k j)->∃k',d [Qa5 m m T,Qb m (Qg m T f k),Qb m k]=some (.tup [Qb m (Qg m T f k'),Qb m k'],true)/\Leg m T f k'/\(∀j,j<m->0<=Qg m T f k' j)/\Stb m T (Qg m T f k')
theorem Qm8{h s:Int}(hs:0<s)(ht:¬0<h / s)(h0:0<=h):h<s:=by
 have:=ZaT h0 (by omega:0<=s)
 have e:h / s=0:=by omega
 have:=ZA h hs
 have:=Int.emod_add_mul_ediv h s
 rw[e]at this;omega
theorem Qnh{h s:Int}(hs:0<s):h / s*s<=h:=Int.ediv_mul_le h (by omega)
theorem Qnl:Qf4 (Qx 9 Qf6):=λm T f k hm tp hk hpos=>by
 obtain⟨w,hw0,hw⟩:=tp.wt
 have key:Run Qf6 (Qao 9 [Qa5 m m T,Qb m (Qg m T f k),Qb m k]) (Rt λd fr=>∃k',d= .tup [Qb m (Qg m T f k'),Qb m k']/\fr=true/\Leg m T f k'/\(∀j,j<m->0<=Qg m T f k' j)/\Stb m T (Qg m T f k')):=by
  refine run_seq (Qj (Qdm rfl rfl) ?_)
  rw[Qy]
  refine run_seq (Qj (Qdm rfl rfl) ?_)
  rw[Qy]
  refine run_seq (Qj rfl ?_)
  rw[Qy]
  refine run_seq (Run.mono (Q:=Nx λρ=>∃k' j5 j6 j7 j8,Leg m T f k'/\(∀j,j<m->0<=Qg m T f k' j)/\Stb m T (Qg m T f k')/\ρ=[some (Qa5 m m T,false),some (Qb m (Qg m T f k),false),some (Qb m k,false),some (Qb m (Qg m T f k'),true),some (Qb m k',true),j5,j6,j7,j8]) ?_ ?_)
  ·refine Qjl (λn ρ=>∃k' bz j6 j7 j8,Leg m T f k'/\(∀j,j<m->0<=Qg m T f k' j)/\(bz=false->Stb m T (Qg m T f k'))/\n=(wtF m w (Qg m T f k')).toNat+(if bz=true then 1 else 0)/\ρ=[some (Qa5 m m T,false),some (Qb m (Qg m T f k),false),some (Qb m k,false),some (Qb m (Qg m T f k'),true),some (Qb m k',true),some (.bl bz,true),j6,j7,j8]) ?_ _ _ ⟨k,true,none,none,none,hk,hpos,λh=>by(cases h),rfl,rfl⟩
   rintro n ρ ⟨k',bz,j6,j7,j8,hL,hP,hS,rfl,rfl⟩
   refine⟨bz,QJ rfl rfl,λh=>⟨k',_,_,_,_,hL,hP,hS h,rfl⟩,λhb=>?_⟩
   subst hb
   refine run_seq (Qj rfl ?_)
   rw[Qy]
   refine QE (Run.mono (Q:=Nx λρ=>∃k2 b2 j6 j7 j8,Leg m T f k2/\(∀j,j<m->0<=Qg m T f k2 j)/\(b2=false->Stb m T (Qg m T f k2))/\(wtF m w (Qg m T f k2)+(if b2=true then 1 else 0)<=wtF m w (Qg m T f k'))/\ρ=[some (Qa5 m m T,false),some (Qb m (Qg m T f k),false),some (Qb m k,false),some (Qb m (Qg m T f k2),true),some (Qb m k2,true),some (.bl b2,true),j6,j7,j8]) ?_ ?_)
   ·refine Qad (List.range m) (λi ρ=>∃k2 b2 j6 j7 j8,Leg m T f k2/\(∀j,j<m->0<=Qg m T f k2 j)/\(b2=false->∀p,p<i->Qg m T f k2 p<0-T p p)/\(wtF m w (Qg m T f k2)+(if b2=true then 1 else 0)<=wtF m w (Qg m T f k'))/\ρ=[some (Qa5 m m T,false),some (Qb m (Qg m T f k),false),some (Qb m k,false),some (Qb m (Qg m T f k2),true),some (Qb m k2,true),some (.bl b2,true),j6,j7,j8]) rfl (Qih (α:=Nat) m _) ⟨k',false,_,_,_,hL,hP,λ_ p hp=>absurd hp (by omega),by simp,rfl⟩ ?_ ?_
    ·rintro i p ρ hi ⟨k2,b2,j6,j7,j8,hL2,hP2,hS2,hW2,rfl⟩
     have hp':i<m/\i=p:=by
      obtain⟨h1,h2⟩:=Zd.mp hi
      simp at h1 h2;exact⟨h1,h2⟩
     obtain⟨him,rfl⟩:=hp'
     have hneg:=tp.neg i him
     have hb:=tp.bnd i i him him
     have h0:=hP2 i him
     refine⟨_,rfl,?_⟩
     refine run_seq (Qj (Qs4 (Qcj rfl rfl rfl rfl him) rfl (Qal rfl (Qcj rfl rfl rfl rfl him) rfl) rfl (by omega) (by omega)) ?_)
     rw[Qy]
     generalize et:Qg m T f k2 i / (0-T i i)=t
     have t0:0<=t:=by rw[← et];exact ZaT h0 (by omega)
     refine QE (Qae (QJ rfl rfl) (λh=>?_) (λh=>?_))
     ·have h:=of_decide_eq_true h
      have hle:t*(0-T i i)<=Qg m T f k2 i:=by rw[← et];exact Qnh (by omega)
      refine run_seq (Qj rfl ?_)
      rw[Qy]
      refine run_seq (Qqw rfl rfl rfl rfl (by omega) (by omega) rfl ?_)
      rw[ZO]
      refine run_seq (Qj (r:=⟨Qb m (Qg m T f (up k2 i (k2 i+t))),true,[]⟩) ?_ (Qn (Qn ?_)))
      ·have e:=QaJ (fi:=QbT (Qa 3) (Qa 7)) (t:= .tp [1,2]) (cap:=[none,none,none,some 8]) (fe:=QD (Qa 1) (Qas (Qa 3) (Qa 2))) (ρ:=[some (Qa5 m m T,false),some (Qb m (Qg m T f k),false),some (Qb m k,false),some (Qb m (Qg m T f k2),true),some (Qb m (up k2 i (k2 i+t)),true),some (.bl true,true),some (.int i,true),some (Qb m (T i),false),some (.int t,true)])
        (List.range m) (QdS rfl rfl rfl rfl) rfl λj hj=>by
         have hj:=ZG.mp hj
         exact⟨[none,some (.int (Qg m T f k2 j),true),some (.int (T i j),true),some (.int t,true)],rfl,_,QX rfl rfl (QbI rfl rfl rfl rfl (Qdq (tp.bnd i j him hj))) rfl,rfl,rfl⟩
       refine e.trans ?_
       congr 2
       show D.lst _=D.lst _
       congr 1
       refine Zac λj _=>?_
       rw[Qgw him]
      ·rw[Qy]
       have hup:=Qw6 hw (f:=f) (c:=k2) him t0
       refine⟨up k2 i (k2 i+t),true,_,_,_,.step hL2 him t0 hle,λj hj=>?_,λz=>(by cases z),?_,rfl⟩
       ·rw[Qgw him]
        by_cases hji:j=i
        ·subst hji
         have:t*T j j= -(t*(0-T j j)):=by rw[Int.zero_sub,Int.mul_neg,Int.neg_neg]
         omega
        ·have:=hP2 j hj
         have:=ZaP t0 (tp.pos i j him hj (λz=>hji z.symm))
         omega
       ·rw[if_pos rfl]
        have:(0:Int)<=if b2=true then 1 else 0:=by split<;>omega
        omega
     ·have h:=of_decide_eq_false h
      refine Qn (Qn ⟨k2,b2,_,_,_,hL2,hP2,λhb2 p hp=>?_,hW2,rfl⟩)
      by_cases hpi:p=i
      ·subst hpi;exact Qm8 (by omega) (by rw[et];exact h) h0
      ·exact hS2 hb2 p (by omega)
    ·rintro ρ ⟨k2,b2,j6,j7,j8,hL2,hP2,hS2,hW2,rfl⟩
     rw[ZR]at hS2
     exact⟨k2,b2,_,_,_,hL2,hP2,hS2,hW2,rfl⟩
   ·intro o ho
    cases o with
    | nx ρ=>
     obtain⟨k2,b2,j6,j7,j8,hL2,hP2,hS2,hW2,rfl⟩:=ho
     refine Qn ⟨_,?_,k2,b2,_,_,_,hL2,hP2,hS2,rfl,rfl⟩
     have n1:=Qo3 hw0 hP2
     rw[if_pos rfl]
     cases b2<;>simp at hW2 ⊢ <;>omega
    | _=>exact ho.elim
  ·intro o ho
   cases o with
   | nx ρ=>
    obtain⟨k',j5,j6,j7,j8,hL,hP,hS,rfl⟩:=ho
    exact Q7 rfl ⟨k',rfl,rfl,hL,hP,hS⟩
   | _=>exact ho.elim
 obtain⟨o,h1,h2⟩:=key
 cases o with
 | rt d fr=>
  obtain⟨k',rfl,rfl,h3,h4,h5⟩:=h2
  exact⟨k',by unfold Qx;rw[h1];rfl,h3,h4,h5⟩
 | _=>exact h2.elim
def QiF(m:Nat)(S:List (Int×Int)):Prop:=∀A:Nat->Prop,(∃p,p<m/\A p)->∃s∈S,s.1<m/\A s.1.toNat/\(s.2=m∨¬A s.2.toNat)
theorem QfR(h:Esc m W):QiF m (Qk (Qat W) (Qac W)):=λA hA=>by
 obtain⟨w,hw,h1,h2,h3⟩:=h A hA
 refine⟨(w.1,w.2.1),?_,h1,h2,h3⟩
 unfold Qk
 cases e:w.2.2 with
 | true=>exact Ze _ (ZQ.mpr ⟨w,Zax.mpr ⟨hw,e⟩,rfl⟩)
 | false=>
  have hr:Qc5 w∈Qat W:=ZQ.mpr ⟨w,Zax.mpr ⟨hw,by simp[e]⟩,rfl⟩
  by_cases hlt:w.2.1<w.1
  ·refine Zh _ (Ze _ (ZQ.mpr ⟨Qc5 w,hr,?_⟩))
   unfold Qc5
   rw[if_pos hlt,if_neg (by omega)];rfl
  ·refine Zh _ (Zh _ ?_)
   have:Qc5 w=(w.1,w.2.1):=by
    unfold Qc5
    rw[if_neg hlt]
    by_cases hgt:w.2.1>w.1
    ·rw[if_pos hgt]
    ·rw[if_neg hgt];rw[show w.2.1=w.1 by omega]
   rw[← this];exact hr
inductive Rk (m:Nat) (S:List (Int×Int)):Nat->Nat->Prop where
 | pit {s:Int×Int}{n:Nat}:s∈S->s.2=m->Rk m S (n+1) s.1.toNat
 | step {s:Int×Int}{k n:Nat}:s∈S->s.2≠m->Rk m S k s.2.toNat->k<n->Rk m S n s.1.toNat
theorem Qhe{P:Nat->Prop}(h:∃n,P n):∃n,P n/\∀k,k<n->¬P k:=by
 obtain⟨n,hn⟩:=h
 induction n using Nat.strongRecOn with
 | _ n ih=>
  by_cases h:∃k,k<n/\P k
  ·obtain⟨k,hk,h⟩:=h;exact ih k hk h
  ·exact⟨n,hn,λk hk hx=>h ⟨k,hk,hx⟩⟩
theorem Qv8(he:QiF m S):∀p,p<m->∃n,Rk m S n p:=λp hp=>by
 by_cases h:∃n,Rk m S n p
 ·exact h
 ·exfalso
  obtain⟨s,hs,h1,h2,h3⟩:=he (λp=>¬ ∃n,Rk m S n p) ⟨p,hp,h⟩
  by_cases e:s.2=m
  ·exact h2 ⟨1,.pit hs e⟩
  ·rcases h3 with h3 | h3
   ·exact e h3
   ·have:∃n,Rk m S n s.2.toNat:=Classical.byContradiction λz=>h3 z
    obtain⟨k,hk⟩:=this
    exact h2 ⟨k+1,.step hs e hk (by omega)⟩
theorem Qmy{m:Nat}{S:List (Int×Int)}(hg:∀s∈S,Good m s)(he:QiF m S):∃r:Nat->Nat,r m=0/\∀p,p<m->∃s∈S,s.1=p/\r s.2.toNat<r p:=by
 have h:∀p,∃n,(p<m->Rk m S n p/\∀k,k<n->¬Rk m S k p)/\(p=m->n=0):=λp=>by
  by_cases hp:p<m
  ·obtain⟨n,hn⟩:=Qhe (Qv8 he p hp)
   exact⟨n,λ_=>hn,λz=>by omega⟩
  ·exact⟨0,λz=>absurd z hp,λ_=>rfl⟩
 obtain⟨r,hr⟩:=ZbK h
 refine⟨r,(hr m).2 rfl,λp hp=>?_⟩
 have h1:=((hr p).1 hp).1
 generalize r p=n at h1
 cases h1 with
 | @pit s n hs e=>
  obtain⟨g1,g2,g3,g4,g5⟩:=hg s hs
  exact⟨s,hs,by omega,by rw[e,ZO,(hr m).2 rfl];omega⟩
 | @step s k n hs e hk hkn=>
  obtain⟨g1,g2,g3,g4,g5⟩:=hg s hs
  refine⟨s,hs,by omega,?_⟩
  have hl:s.2.toNat<m:=by omega
  have:=((hr s.2.toNat).1 hl).2 k
  have:¬k<r s.2.toNat:=λz=>this z hk
  omega
theorem QkW(r:Nat->Nat):∀m:Nat,∃N,∀p,p<=m->r p<=N
 | 0=>⟨r 0,λp hp=>by rw[show p=0 by omega];exact Zm _⟩
 | m+1=>by
  obtain⟨N,hN⟩:=QkW r m
  refine⟨N+r (m+1),λp hp=>?_⟩
  by_cases e:p=m+1
  ·subst e;omega
  ·have:=hN p (by omega);omega
theorem Qpg(hi:i<m)(g:Good m s)(w:Nat->Int)(hw:w m=0):Qm m (λj=>hit i j s*w j)=if s.1=i then w s.2.toNat-w i else 0:=by
 obtain⟨g1,g2,g3,g4,g5⟩:=g
 by_cases h:s.1=i
 ·rw[if_pos h]
  have e:Qm m (λj=>hit i j s*w j)=Qm m (λj=>(if j=s.2.toNat then 1 else 0)*w j+(if j=i then-1 else 0)*w j):=QW λj _=>by
   have:hit i j s=(if j=s.2.toNat then 1 else 0)+(if j=i then-1 else 0):=by
    unfold hit
    by_cases a:s.2=j
    ·by_cases b:i=j
     ·rw[if_pos ⟨h,a⟩,if_pos ⟨h,b⟩,if_pos (by omega),if_pos b.symm];omega
     ·rw[if_pos ⟨h,a⟩,if_neg (λz=>b z.2),if_pos (by omega),if_neg (λz=>b z.symm)];omega
    ·by_cases b:i=j
     ·rw[if_neg (λz=>a z.2),if_pos ⟨h,b⟩,if_neg (by omega),if_pos b.symm];omega
     ·rw[if_neg (λz=>a z.2),if_neg (λz=>b z.2),if_neg (by omega),if_neg (λz=>b z.symm)];omega
   rw[this,ZaE]
  rw[e,Qaf,QY hi]
  by_cases hm:s.2.toNat<m
  ·rw[QY hm];omega
  ·have e2:Qm m (λj=>(if j=s.2.toNat then 1 else 0)*w j)=0:=by
    rw[QW λj hj=>by rw[if_neg (by omega),ZaD],QK]
   rw[e2,show s.2.toNat=m by omega,hw];omega
 ·rw[if_neg h]
  rw[QW (g:=λ_=>0) λj hj=>by
   unfold hit
   rw[if_neg (λz=>h z.1),if_neg (λz=>h z.1)];rw[Int.sub_self,ZaD],QK]
theorem Qdb{α:Type}{g:α->Int}{X:Int}:∀S:List α,(∀s∈S,g s<=X)->(S.map g).sum<=S.length*X
 | [],_=>by simp
 | a::S,h=>by
  have h1:=h a (by simp)
  have h2:=Qdb S λs hs=>h s (by simp[hs])
  simp only[Zq,Zae,Zk,Int.natCast_add,ZaE]
  rw[show((1:Nat):Int)*X=X by simp]
  omega
theorem QdG{α:Type}{g:α->Int}{X Y:Int}:∀(S:List α),(∀s∈S,g s<=X)->(∃s∈S,g s<=Y)->(S.map g).sum<=S.length*X-X+Y
 | [],_,h=>by obtain⟨s,hs,_⟩:=h;exact absurd hs (by simp)
 | a::S,h,h2=>by
  obtain⟨s,hs,hy⟩:=h2
  have hb:∀s∈S,g s<=X:=λs hs=>h s (by simp[hs])
  simp only[Zq,Zae,Zk,Int.natCast_add,ZaE]
  rw[show((1:Nat):Int)*X=X by simp]
  rcases Zo.mp hs with e | hs
  ·subst e
   have:=Qdb S hb
   omega
  ·have:=QdG S hb ⟨s,hs,hy⟩
   have:=h a (by simp)
   omega
theorem Qcm{α:Type}{g:α->Int}:∀S:List α,(∀s∈S,0<=g s)->0<=(S.map g).sum
 | [],_=>by simp
 | a::S,h=>by
  have h1:=h a (by simp)
  have h2:=Qcm S λs hs=>h s (by simp[hs])
  simp only[Zq,Zae]
  omega
theorem Qqq{m:Nat}{S:List (Int×Int)}(hg:∀s∈S,Good m s)(he:QiF m S)(hl:S.length<2^60):TP m (Qs m S):=by
 have hn:∀s∈S,0<=s.1/\0<=s.2:=λs hs=>⟨(hg s hs).1,(hg s hs).2.1⟩
 have pos:∀i j,i<m->j<m->i≠j->0<=Qs m S i j:=λi j hi hj hij=>by
  rw[QbQ hi hj hn]
  refine Qcm S λs _=>?_
  unfold hit
  rw[if_neg (λz=>hij z.2) (c:=s.1=i/\i=j)]
  split<;>omega
 obtain⟨r,r0,hr⟩:=Qmy hg he
 obtain⟨N,hN⟩:=QkW r m
 have M1:1<=S.length+1:=by omega
 have wt:∃w:Nat->Int,(∀j,0<=w j)/\∀i,i<m->Qm m (λj=>Qs m S i j*w j)<= -1:=by
  refine⟨λv=>(((S.length+1)^N:Nat):Int)-(((S.length+1)^(N-r v):Nat):Int),λj=>?_,λi hi=>?_⟩
  ·have:=ZaJ M1 (Nat.sub_le N (r j))
   show(0:Int)<=(((S.length+1)^N:Nat):Int)-(((S.length+1)^(N-r j):Nat):Int)
   omega
  ·generalize hw:(λv=>(((S.length+1)^N:Nat):Int)-(((S.length+1)^(N-r v):Nat):Int))=w
   have hw':∀v,w v=(((S.length+1)^N:Nat):Int)-(((S.length+1)^(N-r v):Nat):Int):=λv=>by rw[← hw]
   have wm:w m=0:=by rw[hw',r0,ZbQ];omega
   have e:Qm m (λj=>Qs m S i j*w j)=(S.map λs=>if s.1=(i:Int)then w s.2.toNat-w i else 0).sum:=by
    rw[QW (g:=λj=>(S.map λs=>hit i j s*w j).sum) λj hj=>by
     rw[QbQ hi hj hn,ZaK,QiX]
     congr 1
     exact Zac λs _=>ZaK _ _]
    rw[Qdu m (λj s=>hit i j s*w j) S]
    congr 1
    exact Zac λs hs=>Qpg hi (hg s hs) w wm
   rw[e]
   obtain⟨s0,hs0,e0,hlt⟩:=hr i hi
   generalize hX:(((S.length+1)^(N-r i):Nat):Int)=X
   have X1:1<=X:=by
    have:0<(S.length+1)^(N-r i):=Nat.pow_pos (by omega)
    omega
   have key:=QdG (Y:=X-(S.length+1)*X) S (λs _=>by
    show(if s.1=i then w s.2.toNat-w i else 0)<=X
    split
    ·rw[hw',hw' i,hX]
     have:0<=(((S.length+1)^(N-r s.2.toNat):Nat):Int):=Int.natCast_nonneg _
     omega
    ·omega) ⟨s0,hs0,by
    show(if s0.1=i then w s0.2.toNat-w i else 0)<=_
    rw[if_pos e0,hw',hw' i,hX]
    have hb:=hN i (by omega)
    have h1:(S.length+1)^(N-r i+1)<=(S.length+1)^(N-r s0.2.toNat):=ZaJ M1 (by omega)
    rw[Nat.pow_succ]at h1
    have h2:((((S.length+1)^(N-r i)*(S.length+1):Nat)):Int)<=(((S.length+1)^(N-r s0.2.toNat):Nat):Int):=by exact_mod_cast h1
    rw[Int.natCast_mul,hX,ZaK]at h2
    rw[show((S.length+1:Nat):Int)=(S.length:Int)+1 by omega]at h2
    omega⟩
   have:((S.length:Int)+1)*X=S.length*X+X:=by rw[ZaE,Zbh]
   omega
 refine⟨λp hp=>?_,pos,λi j hi hj=>?_,wt⟩
 ·obtain⟨w,w0,hw⟩:=wt
  have h1:=hw p hp
  by_cases hneg:Qs m S p p<0
  ·exact hneg
  ·exfalso
   have:0<=Qm m (λj=>Qs m S p j*w j):=by
    have:=Qa1 (f:=λ_=>0) (g:=λj=>Qs m S p j*w j) λj hj=>by
     by_cases e:p=j
     ·subst e;exact ZaP (by omega) (w0 _)
     ·exact ZaP (pos p j hp hj e) (w0 _)
    rw[QK]at this
    exact this
   omega
 ·rw[QbQ hi hj hn]
  have:=QeI i j S
  omega
theorem Qbf.tp{m:Nat}{R L:List (Int×Int)}(h:Qbf m R L):TP m (Qs m (Qk R L)):=by
 have hg:=h.good
 refine Qqq (QaT hg.1 hg.2.1) ?_ ?_
 ·obtain⟨W,h1,_,_,rfl,rfl⟩:=h.ex
  exact QfR h1
 ·unfold Qk
  simp only[Zp,Zj]
  omega
theorem Qbf.neg{m:Nat}{R L:List (Int×Int)}(h:Qbf m R L){i:Nat}(hi:i<m):0-Qs m (Qk R L) i i=Qq R L i:=by
 have hg:=h.good
 have hs:=QaT hg.1 hg.2.1
 rw[QbQ hi hi (λs z=>⟨(hs s z).1,(hs s z).2.1⟩),sum_neg _ _ (λs z=>(hs s z).2.2.2.2),Qjx]
 omega
theorem Qbf.Qfh{m:Nat}{R L:List (Int×Int)}(h:Qbf m R L){i:Nat}(hi:i<m):0<Qq R L i:=by
 have:=h.neg hi
 have:=h.tp.neg i hi
 omega
theorem Qep(m:Nat)(f:Nat->Int):Qb m f= .lst (((List.range m).map f).map D.int):=by
 unfold Qb;rw[Zaq];rfl
theorem Qmm:∀{ns:List Int},ns≠[]->∃m,Qhh ns=some m
 | [],h=>absurd rfl h
 | [n],_=>⟨n,rfl⟩
 | n::k::r,_=>by
  obtain⟨m,hm⟩:=Qmm (ns:=k::r) (by simp)
  exact⟨if m<n then m else n,by simp only[Qhh,hm,ZU]⟩
theorem Qmv:∀{ns:List Int},ns≠[]->∃m,Qg1 ns=some m
 | [],h=>absurd rfl h
 | [n],_=>⟨n,rfl⟩
 | n::k::r,_=>by
  obtain⟨m,hm⟩:=Qmv (ns:=k::r) (by simp)
  exact⟨if n<m then m else n,by simp only[Qg1,hm,ZU]⟩
theorem QnQ(h:0<m)(f:Nat->Int):(List.range m).map f≠[]:=by
 intro z
 have:=congrArg List.length z
 simp at this
 omega
theorem Qsh(m0:0<m)(f:Nat->Int):∃v,(∃i,i<m/\v=f i)/\(∀i,i<m->v<=f i)/\∀{fa:DE}{ρ:En}{r:R},fa ρ=some r->r.d=Qb m f->dBf Qgp (Qc fa Qf) ρ=some ⟨.int v,true,[]⟩:=by
 obtain⟨v,hv⟩:=Qmm (QnQ m0 f)
 obtain⟨h1,h2⟩:=Qgv hv
 refine⟨v,?_,λi hi=>h2 _ (ZQ.mpr ⟨i,ZG.mpr hi,rfl⟩),λ{fa ρ r} h e=>?_⟩
 ·obtain⟨i,hi,e⟩:=ZQ.mp h1
  exact⟨i,ZG.mp hi,e.symm⟩
 ·unfold dBf
  rw[QF h (QaV _),Za]
  simp only[e,Qep,Qgp,Qfx,Za,hv,ZU]
theorem Qtd(m0:0<m)(f:Nat->Int):∃v,(∃i,i<m/\v=f i)/\(∀i,i<m->f i<=v)/\∀{fa:DE}{ρ:En}{r:R},fa ρ=some r->r.d=Qb m f->dBf Qgh (Qc fa Qf) ρ=some ⟨.int v,true,[]⟩:=by
 obtain⟨v,hv⟩:=Qmv (QnQ m0 f)
 obtain⟨h1,h2⟩:=Qgz hv
 refine⟨v,?_,λi hi=>h2 _ (ZQ.mpr ⟨i,ZG.mpr hi,rfl⟩),λ{fa ρ r} h e=>?_⟩
 ·obtain⟨i,hi,e⟩:=ZQ.mp h1
  exact⟨i,ZG.mp hi,e.symm⟩
 ·unfold dBf
  rw[QF h (QaV _),Za]
  simp only[e,Qep,Qgh,Qfx,Za,hv,ZU]
noncomputable def QdX(QaR:Den):DS:=(Qd (Qdr (QG 2 QaR [] (Qc (Qa 0) (Qc (Qa 1) Qf)))) (Qd (Qa3 (Qay (Qa 1)) (.nm 2) (Qd (sIf (QC (dOp gLt (dBf Qgp (Qc (Qa 2) Qf)) (dC (.int 0)))) (Qd QR Qo) Qo) Qo)) Qo))
def Qe5(d:Den):Prop:=∀(m:Nat) (R L:List (Int×Int)) (fs:List (Nat->Int)),0<m->(∀f∈fs,∀j,j<m->0<=f j)->d [Qp m R L,.lst (fs.map λf=>Qb m f)]=some (.non,true)
theorem Qpt(hn:QhW dn):Qe5 (Qx 3 (QdX dn)):=λm R L fs m0 hf=>by
 have key:Run (QdX dn) (Qao 3 [Qp m R L,.lst (fs.map λf=>Qb m f)]) (Nx λ_=>True):=by
  refine run_seq (Qek (QL rfl (hn m R L fs) rfl) ?_)
  refine run_seq (Qad fs (λ_ ρ=>∃j2,ρ=[some (Qp m R L,false),some (.lst (fs.map λf=>Qb m f),false),j2]) rfl rfl ⟨none,rfl⟩ ?_ ?_)
  ·rintro i f ρ hi ⟨j2,rfl⟩
   refine⟨_,rfl,?_⟩
   obtain⟨v,⟨q,hq,e⟩,_,hv⟩:=Qsh m0 f
   have h0:=hf f (ZC hi) q hq
   refine run_seq (Qae (b:=false) (QJ (Qal (hv rfl rfl) rfl rfl) ?_) (λh=>by cases h) (λ_=>Qn (Qn ⟨_,rfl⟩)))
   show D.bl _=_
   rw[decide_eq_false (by omega)]
  ·rintro ρ ⟨j2,rfl⟩
   exact Qn trivial
 obtain⟨o,h1,h2⟩:=key
 unfold Qx
 rw[h1]
 cases o with
 | nx ρ=>rfl
 | _=>exact h2.elim
noncomputable def QiW(Q2:Den)(Q3:Den)(QcR:Den):DS:=(Qd (Qdr (QG 2 Q2 [] (Qc (Qa 0) (Qc (Q4 (Qc (Qa 1) Qf)) Qf)))) (Qd (Qv 2 (QG 1 Q3 [] (Qc (Qa 0) Qf))) (Qd (Qv 3 (Qas (Q4 (Qc (dC (.int 0)) Qf)) (Qr (Qa 0) (dC (.int 0))))) (Qd (Qv 4 (Qas (Q4 (Qc (dC (.int 0)) Qf)) (Qr (Qa 0) (dC (.int 0))))) (Qd (Qv 5 (QbR (Qc (Qa 3) (Qc (Qa 4) Qf)))) (Qd (Qv 6 (dBf Qgh (Qc (Qa 1) Qf))) (Qd (Qa3 (QeR (dOp Qdo (QjR (Qa 6)) (dC (.int 1))) (QmK (dC (.int 1))) (QmK (dC (.int 1)))) (.nm 7) (Qd (Qv 3 (Q6 (QbT (Qr (Qa 5) (dC (.int 0))) (Qa 1)) (.tp [1,2]) [none,none,none,some 7] Qa6 (QD (Qas (dC (.int 2)) (Qa 1)) (dOp QaL (dOp Qlf (Qa 2) (Qa 3)) (dC (.int 2)))))) (Qd (Qv 4 (Q6 (Qay (Qr (Qa 5) (dC (.int 1)))) (.nm 1) [none,none] Qa6 (Qas (dC (.int 2)) (Qa 1)))) (Qd (Qv 5 (QG 3 QcR [] (Qc (Qa 2) (Qc (Qa 3) (Qc (Qa 4) Qf))))) Qo)))) (Qd (Qai (Qa 5)) Qo))))))))
noncomputable def Qda(m:Nat)(T:Nat->Nat->Int)(f c:Nat->Int):D:= .tup [Qb m (Qg m T f c),Qb m c]
structure Told (m:Nat) (T:Nat->Nat->Int) (f c:Nat->Int):Prop where
 leg:Leg m T f c
 pos:∀j,j<m->0<=Qg m T f c j
 stb:Stb m T (Qg m T f c)
def Qit(d:Den):Prop:=∀(m:Nat) (R L:List (Int×Int)) (f:Nat->Int),0<m->m<=1000->Qbf m R L->(∀j,j<m->0<=f j/\f j<2^200)->∃c,d [Qp m R L,Qb m f]=some (Qda m (Qs m (Qk R L)) f c,true)/\Told m (Qs m (Qk R L)) f c
theorem Qpa(ha:fa ρ=some ra)(ea:ra.d= .int ((n:Int)-1))(hb:fb ρ=some rb)(eb:rb.d= .int (-1))(hc:fc ρ=some rc)(ec:rc.d= .int (-1))(hn:n<=16777216):QeR fa fb fc ρ=some ⟨(List.range n).map λ(k:Nat)=> .int ((n:Int)-1-k),[]⟩:=by
 unfold QeR
 rw[ha,Za,hb,Za,hc,Za,ea,eb,ec]
 show(if(n:Int)-1- -1<=16777216/\_ then _ else _)=_
 rw[if_pos ⟨by omega,by omega,by omega,by omega,by omega⟩]
 rw[show((n:Int)-1- -1).toNat=n by omega]
 rfl
theorem QuX{fa fb:DE}{ρ:En}{ra rb:R}{a:Int}{k:Nat}(ha:fa ρ=some ra)(ea:ra.d= .int a)(hb:fb ρ=some rb)(eb:rb.d= .int k):dOp Qlf fa fb ρ=some ⟨.int (a / 2^k),true,[]⟩:=by
 refine Qal ha hb ?_
 rw[ea,eb]
 show(if(0:Int)<=k then some (D.int (a / 2^(k:Int).toNat))else none)=_
 rw[if_pos (by omega),ZO]
theorem Qpw(x:Int)(s:Nat):x / 2^s=2*(x / 2^(s+1))+x / 2^s % 2:=by
 have e:x / 2^(s+1)=x / 2^s / 2:=by rw[Int.pow_succ,Int.ediv_ediv_of_nonneg (Int.pow_nonneg (by decide))]
 rw[e]
 omega
theorem QhP(e:∀j,j<m->f j=g j)(h:Told m T f c):Told m T g c where
 leg:=h.leg.QrF e
 pos:=λj hj=>by rw[← QbM j (e j hj) (λ_ _=>rfl)];exact h.pos j hj
 stb:=λj hj=>by rw[← QbM j (e j hj) (λ_ _=>rfl)];exact h.stb j hj
theorem QgP(e:∀j,j<m->f j=g j):Qda m T f c=Qda m T g c:=by
 unfold Qda
 rw[Qa0 λj hj=>QbM j (e j hj) λ_ _=>rfl]
theorem QqJ(hn:Qe5 dn)(ht:Qe1 dt)(hs:Qf4 ds):Qit (Qx 8 (QiW dn dt ds)):=λm R L f m0 hm hw hf=>by
 have hg:=hw.good
 have tp:=hw.tp
 have htoll:=ht m R L hm (by omega) hg.1 hg.2.1
 generalize hT:Qs m (Qk R L)=T at tp htoll ⊢
 obtain⟨top,⟨q,hq,etop⟩,hmax,evmax⟩:=Qtd m0 f
 have htop0:0<=top:=by rw[etop];exact(hf q hq).1
 have hB:Builtin.Int.intBits top<=200:=by
  rw[intBits_le_iff]
  have:top<2^200:=by rw[etop];exact(hf q hq).2
  have e2:((2^200:Nat):Int)=(2:Int)^200:=by rw[Int.natCast_pow];rfl
  generalize (2:Int)^200=z at this e2
  generalize (2:Nat)^200=z' at e2 ⊢
  omega
 have hlt:∀j,j<m->f j / 2^Builtin.Int.intBits top=0:=λj hj=>by
  have h1:=(intBits_le_iff (m:=Builtin.Int.intBits top)).mp (Zm _)
  refine Int.ediv_eq_zero_of_lt (hf j hj).1 ?_
  have h2:=hmax j hj
  have e2:((2^Builtin.Int.intBits top:Nat):Int)=(2:Int)^Builtin.Int.intBits top:=by rw[Int.natCast_pow];rfl
  rw[← e2]
  omega
 generalize hBe:Builtin.Int.intBits top=B at hB hlt
 have key:Run (QiW dn dt ds) (Qao 8 [Qp m R L,Qb m f]) (Rt λd fr=>∃c,d=Qda m T f c/\fr=true/\Told m T f c):=by
  have hneed:=hn m R L [f] m0 (λg hg' j hj=>by rw[Zl.mp hg'];exact(hf j hj).1)
  refine run_seq (Qek (QL rfl hneed rfl) ?_)
  refine run_seq (Qj (QL rfl htoll rfl) ?_)
  rw[Qy]
  refine run_seq (Qj (Qc7 rfl rfl (by omega)) ?_)
  rw[Qy]
  refine run_seq (Qj (Qc7 rfl rfl (by omega)) ?_)
  rw[Qy]
  refine run_seq (Qj rfl ?_)
  refine run_seq (Qj (evmax rfl rfl) ?_)
  rw[Qy]
  refine QaM (P:=λρ=>∃c j3 j4 j7,Told m T f c/\ρ=[some (Qp m R L,false),some (Qb m f,false),some (Qa5 m m T,true),j3,j4,some (Qda m T f c,true),some (.int top,true),j7]) ?_ ?_
  ·refine Qad (List.range B) (λi ρ=>∃c j3 j4 j7,Told m T (λj=>f j / 2^(B-i)) c/\ρ=[some (Qp m R L,false),some (Qb m f,false),some (Qa5 m m T,true),j3,j4,some (Qda m T (λj=>f j / 2^(B-i)) c,true),some (.int top,true),j7])
    (Qpa (Qal (ra:=⟨.int B,true,[]⟩) (by rw[← hBe];rfl) rfl rfl) rfl rfl rfl rfl rfl (by omega)) rfl ⟨λ_=>0,none,none,none,?_,?_⟩ ?_ ?_
   ·refine QhP (λj hj=>(hlt j hj).symm) ⟨.nil,λj hj=>?_,λj hj=>?_⟩
    ·unfold Qg
     rw[QW λi _=>by rw[ZaD],QK]
     exact Zay _
    ·unfold Qg
     rw[QW λi _=>by rw[ZaD],QK]
     have:=tp.neg j hj
     show(0:Int)+0<_
     omega
   ·show _=[some (Qp m R L,false),some (Qb m f,false),some (Qa5 m m T,true),none,none,some (Qda m T (λj=>f j / 2^B) λ_=>0,true),some (.int top,true),none]
    rw[← QgP λj hj=>(hlt j hj).symm]
    unfold Qda
    rw[Qln]
    rfl
   ·rintro i i' ρ hi ⟨c,j3,j4,j7,hc,rfl⟩
    have hi':i<B/\i=i':=by
     obtain⟨h1,h2⟩:=Zd.mp hi
     simp at h1 h2;exact⟨h1,h2⟩
    obtain⟨hiB,rfl⟩:=hi'
    obtain⟨s,hsB⟩:∃s:Nat,B-i=s+1:=⟨B-i-1,by omega⟩
    have es:(B:Int)-1-i=(s:Int):=by omega
    have es2:B-(i+1)=s:=by omega
    rw[hsB]at hc
    rw[hsB,es2,es]
    generalize hF:(λj=>f j / 2^(s+1))=F at hc
    have hF':∀j,F j=f j / 2^(s+1):=λj=>by rw[← hF]
    refine⟨_,rfl,?_⟩
    have e2:∀j,2*F j+f j / 2^s % 2=f j / 2^s:=λj=>by rw[hF',← Qpw]
    have erow:∀j,2*Qg m T F c j+f j / 2^s % 2=Qg m T (λj=>f j / 2^s) (λi=>2*c i) j:=λj=>by
     have:=Qmg (m:=m) (T:=T) (f:=F) (c:=c) (b:=λj=>f j / 2^s % 2) j
     rw[← this]
     exact(QbM j (e2 j).symm λ_ _=>rfl).symm
    refine run_seq (Qj (r:=⟨Qb m (Qg m T (λj=>f j / 2^s) (λi=>2*c i)),true,[]⟩) ?_ ?_)
    ·have e:=QaJ (fi:=QbT (Qr (Qa 5) (dC (.int 0))) (Qa 1)) (t:= .tp [1,2]) (cap:=[none,none,none,some 7]) (fe:=QD (Qas (dC (.int 2)) (Qa 1)) (dOp QaL (dOp Qlf (Qa 2) (Qa 3)) (dC (.int 2)))) (ρ:=[some (Qp m R L,false),some (Qb m f,false),some (Qa5 m m T,true),j3,j4,some (Qda m T F c,true),some (.int top,true),some (.int s,true)])
      (List.range m) (QdS rfl rfl rfl rfl) rfl λj hj=>
       ⟨[none,some (.int (Qg m T F c j),true),some (.int (f j),true),some (.int s,true)],rfl,_,QX (QbI rfl rfl rfl rfl (QdQ (by decide))) rfl (Qaq (QuX rfl rfl rfl rfl) rfl rfl rfl (by decide)) rfl,rfl,rfl⟩
     refine e.trans ?_
     congr 2
     show D.lst _=D.lst _
     congr 1
     refine Zac λj _=>?_
     rw[erow]
    ·rw[Qy]
     refine run_seq (Qj (r:=⟨Qb m (λi=>2*c i),true,[]⟩) ?_ ?_)
     ·exact QaJ (List.range m) (Qb4 rfl rfl) rfl λj hj=>⟨[none,some (.int (c j),true)],rfl,_,QbI rfl rfl rfl rfl (QdQ (by decide)),rfl,rfl⟩
     ·rw[Qy]
      obtain⟨d2,hd2,ed2⟩:=hc.leg.Qvo (λj=>f j / 2^s % 2) (λj=>ZE _ (by decide))
      have hleg:Leg m T (λj=>f j / 2^s) (λi=>2*c i):=(hd2.cast ed2).QrF λj _=>e2 j
      have hpos:∀j,j<m->0<=Qg m T (λj=>f j / 2^s) (λi=>2*c i) j:=λj hj=>by
       rw[← erow]
       have:=hc.pos j hj
       have:=ZE (f j / 2^s) (by decide:(2:Int)≠0)
       omega
      obtain⟨k',h1,h2,h3,h4⟩:=hs m T _ _ hm tp hleg hpos
      refine run_seq (Qj (QL rfl h1 rfl) (Qn ?_))
      rw[Qy]
      exact⟨k',_,_,_,⟨h2,h3,h4⟩,rfl⟩
   ·rintro ρ ⟨c,j3,j4,j7,hc,rfl⟩
    rw[ZR,Nat.sub_self]at *
    have e:∀j,j<m->f j / 2^0=f j:=λj _=>by rw[Int.pow_zero,Int.ediv_one]
    exact⟨c,_,_,_,QhP e hc,by rw[QgP e]⟩
  ·rintro ρ ⟨c,j3,j4,j7,hc,rfl⟩
   exact Q7 rfl ⟨c,rfl,rfl,hc⟩
 obtain⟨o,h1,h2⟩:=key
 cases o with
 | rt d fr=>
  obtain⟨c,rfl,rfl,h3⟩:=h2
  exact⟨c,by unfold Qx;rw[h1];rfl,h3⟩
 | _=>exact h2.elim
theorem QqE{m:Nat}{t kind:Int}:Esc m (QnF m t kind):=λA hpt=>by
 obtain⟨p,hp,hA⟩:=hpt
 have ex:∃j:Nat,j<m/\A (((j:Int)+t) % m).toNat:=by
  have h1:=ZE ((p:Int)-t) (by omega:(m:Int)≠0)
  have h2:=ZA ((p:Int)-t) (by omega:(0:Int)<m)
  refine⟨(((p:Int)-t) % m).toNat,by omega,?_⟩
  have e:(((((p:Int)-t) % m).toNat:Int)+t) % m=p:=by
   rw[Int.toNat_of_nonneg h1,Int.emod_add_emod,Int.sub_add_cancel]
   exact ZbA (by omega) (by omega)
  rw[e,ZO];exact hA
 obtain⟨j,⟨hj,hAj⟩,hmin⟩:=Qhe ex
 have s1:=ZE ((j:Int)+t) (by omega:(m:Int)≠0)
 have s2:=ZA ((j:Int)+t) (by omega:(0:Int)<m)
 refine⟨QuI m t kind j,ZQ.mpr ⟨j,ZG.mpr hj,rfl⟩,?_,hAj,?_⟩
 ·exact s2
 ·show Qm9 m t j=m∨¬A (Qm9 m t j).toNat
  unfold Qm9
  split
  ·rename_i h
   have n1:=ZE (Qkd t j) (by omega:(j:Int)+1≠0)
   right
   intro z
   refine hmin (Qkd t j % ((j:Int)+1)).toNat (by omega) ⟨by omega,?_⟩
   rw[Int.toNat_of_nonneg n1]
   exact z
  ·exact .inl rfl
noncomputable def QgR:DS:=(Qd (sIf (bOr (Qbp (QC (QeD "list" (Qa 0)))) (QC (dOp gNe (dBf QaI (Qc (Qa 0) Qf)) (dBf QaI (Qc (Qa 1) Qf))))) (Qd (Qai (dC (.bl false))) Qo) Qo) (Qd (Qa3 (QbT (Qa 0) (Qa 1)) (.tp [2,3]) (Qd (sIf (bOr (Qbp (QC (QeD "int" (Qa 2)))) (bOr (QC (QeD "bool" (Qa 2))) (QC (dOp gNe (Qa 2) (Qa 3))))) (Qd (Qai (dC (.bl false))) Qo) Qo) Qo)) (Qd (Qai (dC (.bl true))) Qo)))
theorem QwP:Qh6 (Qx 4 QgR):=λns=>by
 refine QbV ?_
 refine QE (Qae (b:=false) (Qdd (a:=false) (b:=false) (Qbc (b:=true) (QJ (b:=true) rfl rfl)) (QJ (b:=false) (r:=⟨.bl false,true,[]⟩) ?_ rfl)) (λh=>by cases h) (λ_=>Qn ?_))
 ·rw[QlE (QcI (xs:=ns.map D.int) rfl rfl) rfl (QcI (xs:=ns.map D.int) rfl rfl) rfl];simp
 refine QE (Qad (toD:=λn=> .tup [.int n,.int n]) ns (λ_ ρ=>∃j2 j3,ρ=[some (.lst (ns.map .int),false),some (.lst (ns.map .int),false),j2,j3]) (ir:=⟨Qd4 (ns.map D.int) (ns.map D.int),[]⟩) rfl (QpJ ns) ⟨none,none,rfl⟩ ?_ ?_)
 ·rintro i n ρ _ ⟨j2,j3,rfl⟩
  refine⟨_,rfl,?_⟩
  refine QE (Qae (b:=false) (Qdd (a:=false) (b:=false) (Qbc (b:=true) (QJ (b:=true) rfl rfl)) (Qdd (a:=false) (b:=false) (QJ (b:=false) rfl rfl) (QJ (b:=false) (r:=⟨.bl false,true,[]⟩) ?_ rfl))) (λh=>by cases h) (λ_=>Qn (Qn ⟨_,_,rfl⟩)))
  rw[QlE (a:=n) (b:=n) rfl rfl rfl rfl];simp
 ·rintro ρ ⟨j2,j3,rfl⟩
  exact Q7 rfl ⟨rfl,rfl⟩
noncomputable def QbK(m:Nat)(f:Nat->Int):Nat->Int:=λi=>if i<m then f i else 0
theorem Qjz(ha:fa ρ=some ra)(ea:ra.d=Qb m f)(hm:m<=1000):QD fa (Q4 (Qc (dC (.int 0)) Qf)) ρ=some ⟨Qb (m+1) (QbK m f),true,[]⟩:=by
 have e:Qb (m+1) (QbK m f)= .lst (((List.range m).map λi=>D.int (f i))++[.int 0]):=by
  unfold Qb
  rw[List.range_succ,ZJ]
  congr 2
  ·refine Zac λi hi=>?_
   unfold QbK
   rw[if_pos (ZG.mp hi)]
  ·show [D.int (QbK m f m)]=_
   unfold QbK
   rw[if_neg (by omega)]
 rw[e]
 unfold QD
 rw[ha,Za]
 show(Option.bind (some (⟨.lst [.int 0],true,[]⟩:HS.R)) _)=_
 rw[Za,ea]
 simp only[Qb,Zj,ZR,Qes]
 rw[if_pos (by simp;omega)]
 simp[Qax]
noncomputable def Qak(o:Nat->Int)(s:Int×Int)(j:Nat):Int:=(if s.2=j then o s.1.toNat else 0)-(if s.1=j then o s.1.toNat else 0)
theorem QoZ(hj:j<m)(g:Good m s)(c:Nat->Int):Qm m (λi=>c i*hit i j s)=Qak (QbK m c) s j:=by
 obtain⟨g1,g2,g3,g4,g5⟩:=g
 have e:Qm m (λi=>c i*hit i j s)=Qm m (λi=>(if i=s.1.toNat then(if s.2=j then 1 else 0)-(if s.1=j then 1 else 0)else 0)*c i):=QW λi _=>by
  have:hit i j s=(if i=s.1.toNat then(if s.2=j then 1 else 0)-(if s.1=j then 1 else 0)else 0):=by
   unfold hit
   by_cases a:s.1=i
   ·rw[if_pos (show i=s.1.toNat by omega)]
    congr 1
    ·by_cases b:s.2=j
     ·rw[if_pos ⟨a,b⟩,if_pos b]
     ·rw[if_neg (λz=>b z.2),if_neg b]
    ·by_cases b:i=j
     ·rw[if_pos ⟨a,b⟩,if_pos (by omega)]
     ·rw[if_neg (λz=>b z.2),if_neg (by omega)]
   ·rw[if_neg (λz=>a z.1),if_neg (λz=>a z.1),if_neg (by omega)];rfl
  rw[this,ZaK]
 rw[e]
 unfold Qak QbK
 by_cases hm:s.1.toNat<m
 ·rw[QY hm,if_pos hm]
  by_cases a:s.2=j
  ·rw[if_pos a,if_pos a]
   by_cases b:s.1=j
   ·rw[if_pos b,if_pos b];omega
   ·rw[if_neg b,if_neg b];omega
  ·rw[if_neg a,if_neg a]
   by_cases b:s.1=j
   ·rw[if_pos b,if_pos b];omega
   ·rw[if_neg b,if_neg b];omega
 ·rw[QW (g:=λ_=>0) λi hi=>by rw[if_neg (by omega),ZaD],QK,if_neg hm]
  simp
theorem Qr6{m:Nat}{R L:List (Int×Int)}(hR:∀s∈R,Good m s)(hL:∀s∈L,Good m s)(f c:Nat->Int){j:Nat}(hj:j<m):
  Qg m (Qs m (Qk R L)) f c j=QbK m f j+(R.map λs=>Qak (QbK m c) s j+Qak (QbK m c) s.swap j).sum+(L.map λs=>Qak (QbK m c) s j).sum:=by
 have gS:=QaT hR hL
 have e:Qm m (λi=>c i*Qs m (Qk R L) i j)=((Qk R L).map λs=>Qak (QbK m c) s j).sum:=by
  rw[QW (g:=λi=>((Qk R L).map λs=>c i*hit i j s).sum) λi hi=>by
   rw[QbQ hi hj λs hs=>⟨(gS s hs).1,(gS s hs).2.1⟩,QiX]]
  rw[Qdu m (λi s=>c i*hit i j s) (Qk R L)]
  congr 1
  exact Zac λs hs=>QoZ hj (gS s hs) c
 unfold Qg
 rw[e,show QbK m f j=f j by unfold QbK;rw[if_pos hj]]
 unfold Qk
 rw[ZJ,ZbV,ZJ,ZbV,Zaq]
 have:∀R:List (Int×Int),(R.map λs=>Qak (QbK m c) s j+Qak (QbK m c) s.swap j).sum=(R.map λs=>Qak (QbK m c) s j).sum+(R.map ((λs=>Qak (QbK m c) s j) ∘ Prod.swap)).sum:=by
  intro R
  induction R with
  | nil=>rfl
  | cons s R ih=>simp only[Zq,Zae,ih,Function.comp];omega
 rw[this]
 omega
noncomputable def Qey:DS:=(Qd (Qv 3 (QD (Qa 1) (Q4 (Qc (dC (.int 0)) Qf)))) (Qd (Qv 4 (QD (Qa 2) (Q4 (Qc (dC (.int 0)) Qf)))) (Qd (Qa3 (Qay (Qr (Qa 0) (dC (.int 1)))) (.tp [5,6]) (Qd (Qce 3 Q1 (Qa 5) (dOp Qdo (QD (Qr (Qa 3) (Qa 5)) (Qr (Qa 4) (Qa 6))) (Qr (Qa 4) (Qa 5)))) (Qd (Qce 3 Q1 (Qa 6) (dOp Qdo (QD (Qr (Qa 3) (Qa 6)) (Qr (Qa 4) (Qa 5))) (Qr (Qa 4) (Qa 6)))) Qo))) (Qd (Qa3 (Qay (Qr (Qa 0) (dC (.int 2)))) (.tp [5,6]) (Qd (Qce 3 Q1 (Qa 5) (dOp Qdo (Qr (Qa 3) (Qa 5)) (Qr (Qa 4) (Qa 5)))) (Qd (Qce 3 Q1 (Qa 6) (QD (Qr (Qa 3) (Qa 6)) (Qr (Qa 4) (Qa 5)))) Qo))) (Qd (Qai (Qbq (Qa 3) QbU (Qam (Qr (Qa 0) (dC (.int 0)))))) Qo)))))
def Qnn(d:Den):Prop:=∀(m:Nat) (R L:List (Int×Int)) (f c:Nat->Int),m<=1000->(∀s∈R,Good m s)->(∀s∈L,Good m s)->d [Qp m R L,Qb m f,Qb m c]=some (Qb m (Qg m (Qs m (Qk R L)) f c),true)
theorem Qu7:Qnn (Qx 7 Qey):=λm R L f c hm hR hL=>by
 refine QbV ?_
 have it:∀{ρ:En},ρ[0]? =some (some (Qp m R L,false))->Qa 0 ρ=some ⟨Qp m R L,false,[]⟩:=λh=>Qbd h
 refine run_seq (Qj (Qjz (m:=m) (f:=f) (ra:=⟨Qb m f,false,[]⟩) rfl rfl hm) ?_)
 rw[Qy]
 refine run_seq (Qj (Qjz (m:=m) (f:=c) (ra:=⟨Qb m c,false,[]⟩) rfl rfl hm) ?_)
 rw[Qy]
 generalize ho:QbK m c=o
 generalize hh:QbK m f=h0
 refine QaM (P:=λρ=>∃j5 j6,ρ=[some (Qp m R L,false),some (Qb m f,false),some (Qb m c,false),some (Qb (m+1) (λj=>h0 j+(R.map λs=>Qak o s j+Qak o s.swap j).sum),true),some (Qb (m+1) o,true),j5,j6]) ?_ ?_
 ·refine Qad (toD:=pairD) R (λi ρ=>∃g j5 j6,(∀j,g j=h0 j+((R.take i).map λs=>Qak o s j+Qak o s.swap j).sum)/\ρ=[some (Qp m R L,false),some (Qb m f,false),some (Qb m c,false),some (Qb (m+1) g,true),some (Qb (m+1) o,true),j5,j6]) (ir:=⟨R.map pairD,[]⟩) (Qb4 (Qcv (it rfl) rfl).2.1 rfl) rfl ⟨h0,none,none,λj=>by simp,rfl⟩ ?_ ?_
  ·rintro i s ρ hi ⟨g,j5,j6,hg,rfl⟩
   obtain⟨h1,h2,h3,h4,h5⟩:=hR s (ZC hi)
   refine⟨_,rfl,?_⟩
   refine run_seq (Qcg (m:=m+1) (f:=g) (i:=s.1) (v:=g s.1.toNat+o s.2.toNat-o s.1.toNat) rfl rfl rfl (Qal (QX (a:=g s.1.toNat) (b:=o s.2.toNat) (Qbg (m:=m+1) (f:=g) (i:=s.1) rfl rfl rfl rfl h1 (by omega)) rfl (Qbg (m:=m+1) (f:=o) (i:=s.2) rfl rfl rfl rfl h2 (by omega)) rfl) (Qbg (m:=m+1) (f:=o) (i:=s.1) rfl rfl rfl rfl h1 (by omega)) rfl) rfl h1 (by omega) ?_)
   refine run_seq (Qcg (m:=m+1) (f:=up g s.1.toNat (g s.1.toNat+o s.2.toNat-o s.1.toNat)) (i:=s.2) (v:=up g s.1.toNat (g s.1.toNat+o s.2.toNat-o s.1.toNat) s.2.toNat+o s.1.toNat-o s.2.toNat) rfl rfl rfl (Qal (QX (a:=up g s.1.toNat (g s.1.toNat+o s.2.toNat-o s.1.toNat) s.2.toNat) (b:=o s.1.toNat) (Qbg (m:=m+1) (f:=up g s.1.toNat (g s.1.toNat+o s.2.toNat-o s.1.toNat)) (i:=s.2) rfl rfl rfl rfl h2 (by omega)) rfl (Qbg (m:=m+1) (f:=o) (i:=s.1) rfl rfl rfl rfl h1 (by omega)) rfl) (Qbg (m:=m+1) (f:=o) (i:=s.2) rfl rfl rfl rfl h2 (by omega)) rfl) rfl h2 (by omega) (Qn ⟨_,_,_,λj=>?_,rfl⟩))
   rw[Qfy hi,← Zbn,← hg j]
   unfold Qak
   simp only[Qhy,Prod.fst_swap,Prod.snd_swap]
   have n1:¬s.1.toNat=s.2.toNat:=by omega
   by_cases c1:j=s.1.toNat
   ·have c2:¬j=s.2.toNat:=by omega
    have c3:s.1=(j:Int):=by omega
    have c4:¬s.2=(j:Int):=by omega
    rw[if_neg c2,if_pos c1,if_neg c4,if_pos c3,if_pos c3,if_neg c4,c1];omega
   ·have c3:¬s.1=(j:Int):=by omega
    by_cases c2:j=s.2.toNat
    ·have c4:s.2=(j:Int):=by omega
     rw[if_pos c2,if_neg (λz=>n1 z.symm),if_pos c4,if_neg c3,if_neg c3,if_pos c4,c2];omega
    ·have c4:¬s.2=(j:Int):=by omega
     rw[if_neg c2,if_neg c1,if_neg c4,if_neg c3,if_neg c3,if_neg c4];omega
  ·rintro ρ ⟨g,j5,j6,hg,rfl⟩
   rw[Zak]at hg
   have:g=λj=>h0 j+(R.map λs=>Qak o s j+Qak o s.swap j).sum:=funext hg
   subst this
   exact⟨j5,j6,rfl⟩
 rintro ρ ⟨j5,j6,rfl⟩
 refine QaM (P:=λρ=>∃j5 j6,ρ=[some (Qp m R L,false),some (Qb m f,false),some (Qb m c,false),some (Qb (m+1) (λj=>h0 j+(R.map λs=>Qak o s j+Qak o s.swap j).sum+(L.map λs=>Qak o s j).sum),true),some (Qb (m+1) o,true),j5,j6]) ?_ ?_
 ·refine Qad (toD:=pairD) L (λi ρ=>∃g j5 j6,(∀j,g j=h0 j+(R.map λs=>Qak o s j+Qak o s.swap j).sum+((L.take i).map λs=>Qak o s j).sum)/\ρ=[some (Qp m R L,false),some (Qb m f,false),some (Qb m c,false),some (Qb (m+1) g,true),some (Qb (m+1) o,true),j5,j6]) (ir:=⟨L.map pairD,[]⟩) (Qb4 (Qcv (it rfl) rfl).2.2 rfl) rfl ⟨_,j5,j6,λj=>by simp,rfl⟩ ?_ ?_
  ·rintro i s ρ hi ⟨g,j5,j6,hg,rfl⟩
   obtain⟨h1,h2,h3,h4,h5⟩:=hL s (ZC hi)
   refine⟨_,rfl,?_⟩
   refine run_seq (Qcg (m:=m+1) (f:=g) (i:=s.1) (v:=g s.1.toNat-o s.1.toNat) rfl rfl rfl (Qal (Qbg (m:=m+1) (f:=g) (i:=s.1) rfl rfl rfl rfl h1 (by omega)) (Qbg (m:=m+1) (f:=o) (i:=s.1) rfl rfl rfl rfl h1 (by omega)) rfl) rfl h1 (by omega) ?_)
   refine run_seq (Qcg (m:=m+1) (f:=up g s.1.toNat (g s.1.toNat-o s.1.toNat)) (i:=s.2) (v:=up g s.1.toNat (g s.1.toNat-o s.1.toNat) s.2.toNat+o s.1.toNat) rfl rfl rfl (QX (a:=up g s.1.toNat (g s.1.toNat-o s.1.toNat) s.2.toNat) (b:=o s.1.toNat) (Qbg (m:=m+1) (f:=up g s.1.toNat (g s.1.toNat-o s.1.toNat)) (i:=s.2) rfl rfl rfl rfl h2 (by omega)) rfl (Qbg (m:=m+1) (f:=o) (i:=s.1) rfl rfl rfl rfl h1 (by omega)) rfl) rfl h2 (by omega) (Qn ⟨_,_,_,λj=>?_,rfl⟩))
   rw[Qfy hi,← Zbn,← hg j]
   unfold Qak
   simp only[Qhy]
   have n1:¬s.1.toNat=s.2.toNat:=by omega
   by_cases c1:j=s.1.toNat
   ·have c2:¬j=s.2.toNat:=by omega
    have c3:s.1=(j:Int):=by omega
    have c4:¬s.2=(j:Int):=by omega
    rw[if_neg c2,if_pos c1,if_neg c4,if_pos c3,c1];omega
   ·have c3:¬s.1=(j:Int):=by omega
    by_cases c2:j=s.2.toNat
    ·have c4:s.2=(j:Int):=by omega
     rw[if_pos c2,if_neg (λz=>n1 z.symm),if_pos c4,if_neg c3,c2];omega
    ·have c4:¬s.2=(j:Int):=by omega
     rw[if_neg c2,if_neg c1,if_neg c4,if_neg c3];omega
  ·rintro ρ ⟨g,j5,j6,hg,rfl⟩
   rw[Zak]at hg
   have:g=λj=>h0 j+(R.map λs=>Qak o s j+Qak o s.swap j).sum+(L.map λs=>Qak o s j).sum:=funext hg
   subst this
   exact⟨j5,j6,rfl⟩
 rintro ρ ⟨j5,j6,rfl⟩
 refine Q7 (Qim (m:=m+1) (n:=m) (f:=λj=>h0 j+(R.map λs=>Qak o s j+Qak o s.swap j).sum+(L.map λs=>Qak o s j).sum) (ra:=⟨Qb (m+1) (λj=>h0 j+(R.map λs=>Qak o s j+Qak o s.swap j).sum+(L.map λs=>Qak o s j).sum),true,[3]⟩) rfl rfl (Qcv (it rfl) rfl).1 rfl (by omega)) ⟨?_,rfl⟩
 refine Qa0 λj hj=>?_
 rw[Qr6 hR hL f c hj,ho,hh]
theorem Qsw{a:Int}{k:Nat}{ρ:En}(h1:a.natAbs<2^200)(h2:k<=1000):dOp Qgb (dC (.int a)) (dC (.int k)) ρ=some ⟨.int (a^k),true,[]⟩:=by
 refine Qal (ra:=⟨.int a,true,[]⟩) (rb:=⟨.int k,true,[]⟩) rfl rfl ?_
 show(if 0<=(k:Int)/\(k:Int)<=1000/\a.natAbs<2^200 then some (D.int (a^(k:Int).toNat))else none)=_
 rw[if_pos ⟨by omega,by omega,h1⟩,ZO]
theorem QdM(i:Nat)(a:Int):0<=isI i a/\isI i a<=1:=by unfold isI;split<;>omega
theorem QpE(R L:List (Int×Int))(k:Nat):0<=Qq R L k/\Qq R L k<=2*R.length+L.length:=by
 unfold Qq
 have h1:=Qcm (g:=λr:Int×Int=>isI k r.1+isI k r.2) R λs _=>by
  have:=QdM k s.1;have:=QdM k s.2
  show 0<=isI k s.1+isI k s.2
  omega
 have h2:=Qcm (g:=λr:Int×Int=>isI k r.1) L λs _=>(QdM k s.1).1
 have h3:=Qdb (g:=λr:Int×Int=>isI k r.1+isI k r.2) (X:=2) R λs _=>by
  have:=QdM k s.1;have:=QdM k s.2
  show isI k s.1+isI k s.2<=2
  omega
 have h4:=Qdb (g:=λr:Int×Int=>isI k r.1) (X:=1) L λs _=>(QdM k s.1).2
 omega
theorem Qmz{m:Nat}(h:fa ρ=some r)(e:r.d=Qb m f):dBf QaI (Qc fa Qf) ρ=some ⟨.int m,true,[]⟩:=by
 rw[QcI h e];simp
theorem Quy(h:fs ρ=some rs)(hl:rs.ds.length<=64):Q4 fs ρ=some ⟨.lst rs.ds,rs.fr,rs.M⟩:=by
 unfold Q4
 rw[h,Za,if_pos hl]
noncomputable def Qu(l:List Nat):D:= .lst (l.map λ(p:Nat)=> .int (p:Int))
theorem QhC(l:List Nat):QB (l.map λ(p:Nat)=>D.int (p:Int))=true:=Qci (λ_=>rfl) l
theorem Qpm(l:List Nat):Qu l= .lst ((l.map λ(p:Nat)=>(p:Int)).map D.int):=by unfold Qu;rw[Zaq];rfl
theorem Qsk{o:Nat}{l:List Nat}:(l.map λ(p:Nat)=>D.int (p:Int)).any (λy=>deq y (.int o))=l.contains o:=by
 induction l with
 | nil=>rfl
 | cons a l ih=>
  rw[Zq,ZbD,ih,QiO,List.contains_cons]
  congr 1
  by_cases h:a=o
  ·subst h;simp
  ·rw[decide_eq_false (by omega)]
   exact(beq_eq_false_iff_ne.mpr (λz=>h z.symm)).symm
theorem Qre(n:Nat)(l:List Nat):(Qu l).sim (n+1)=true:=by
 unfold Qu
 simp only[D.sim,List.all_map,Zar]
 intro p _
 cases n<;>rfl
theorem QtV{o:Nat}(ha:fa ρ=some ra)(ea:ra.d= .int o)(hb:fb ρ=some rb)(eb:rb.d=Qu l):dOp (gIn neg) fa fb ρ=some ⟨.bl (if neg then !l.contains o else l.contains o),true,[]⟩:=by
 refine Qal ha hb ?_
 rw[ea,eb]
 have:(D.int (o:Int)).sim 8=true:=rfl
 show(if(D.int (o:Int)).sim 8 && (Qu l).sim 8 then some (D.bl (if neg then !((l.map λ(p:Nat)=>D.int (p:Int)).any λy=>deq y (.int o))else(l.map λ(p:Nat)=>D.int (p:Int)).any λy=>deq y (.int o)))else none)=_
 rw[this,Qre 7 l,Qsk]
 rfl
noncomputable def QnI:Option Int->D
 | none=> .non
 | some i=> .int i
@[simp] theorem QqM(o:Option Int):(QnI o).flat=true:=by cases o<;>rfl
noncomputable def QxL(m:Nat)(F:Nat->Option Int):D:= .lst ((List.range m).map λi=>QnI (F i))
@[simp] theorem Qxo(m:Nat)(F:Nat->Option Int):(QxL m F).flat=false:=rfl
@[simp] theorem Qxa(m:Nat)(F:Nat->Option Int):QB ((List.range m).map λi=>QnI (F i))=true:=Qci (f:=λi=>QnI (F i)) (λ_=>QqM _) _
noncomputable def upO(F:Nat->Option Int)(i:Nat)(v:Option Int):Nat->Option Int:=λj=>if j=i then v else F j
noncomputable def QcM(t:Int)(F:Nat->Option Int)(s:Int×Int):Nat->Option Int:=if F s.1.toNat=none/\F s.2.toNat=some t then upO F s.1.toNat (some (t+1))else F
noncomputable def Qbv(S:List (Int×Int))(F:Nat->Option Int):Nat->Nat->Option Int
 | 0=>F
 | t+1=>S.foldl (QcM t) (Qbv S F t)
noncomputable def QbO(m:Nat):Nat->Option Int:=λi=>if i=m then some 0 else none
theorem Qmc{fa fb:DE}{ρ:En}{ra rb:R}{l:List Nat}{i:Int}{v:Nat}(ha:fa ρ=some ra)(ea:ra.d=Qu l)(hb:fb ρ=some rb)(eb:rb.d= .int i)(h0:0<=i)(h:l[i.toNat]? =some v):Qr fa fb ρ=some ⟨.int v,true,[]⟩:=by
 refine QbJ (ns:=l.map λ(p:Nat)=>(p:Int)) ha (by rw[ea,Qpm]) hb eb h0 ?_
 rw[Zv,h];rfl
theorem QiU{fa:DE}{ρ:En}{r:R}{l:List Nat}(h:fa ρ=some r)(e:r.d=Qu l):dBf QaI (Qc fa Qf) ρ=some ⟨.int l.length,true,[]⟩:=by
 rw[QcI h e,Zj]
noncomputable abbrev wCl:ClT:=[("Way",[]),("Together",[]),("Picked",["picks","used"])]
inductive Wk where
 | plain | both | pick (ps:List Int)
noncomputable def wkD(k:Wk)(u:Nat):D:=match k with
 | .plain=> .obj (.ins "Way" []) []
 | .both=> .obj (.ins "Together" []) []
 | .pick ps=> .obj (.ins "Picked" ["picks","used"]) [Qi ps,.int u]
noncomputable def Qap(a:Addr)(d:D):D:= .obj (.pin a) [d]
noncomputable def QH(m:Nat)(s f:Nat->Int):List Nat:=(List.range m).filter λp=>decide (s p<=f p)
noncomputable def sel(k:Wk)(u:Nat)(l:List Nat):List Nat:=match k with
 | .plain=>l.take 1
 | .both=>l
 | .pick ps=>if l=[]then []else [l.getD (ps.getD u 0 % (l.length:Int)).toNat 0]
noncomputable def nxt(u:Nat)(l:List Nat):Nat:=if l=[]then u else u+1
noncomputable def QQ(t:List Nat):Nat->Int:=λp=>if p∈t then 1 else 0
noncomputable def QA(ts:List (List Nat)):Nat->Int:=λp=>(ts.map λt=>QQ t p).sum
noncomputable def Qav(ts:List (List Nat)):D:= .lst (ts.map Qu)
noncomputable def Qns:Wk->Prop
 | .pick ps=>ps.length<=1000
 | _=>True
noncomputable def IoE(p:Nat)(a:Addr)(d dp:D):Out->Prop
 | .rt d' fr=>d'= .obj .pair [d,Qap a dp]/\fr=true
 | .nx ρ=>d= .non/\ρ[p]? =some (some (Qap a dp,true))
 | _=>False
theorem Qe0{k p:Nat}{g:DS}{ds:List D}{d dp:D}(h:∀a,Run g (Qcr k p a ds) (IoE p a d dp)):QdV k p g ds=some (d,dp):=Qtu λa=>by
 obtain⟨o,h1,h2⟩:=h a
 refine⟨o,h1,?_⟩
 cases o with
 | rt d' fr=>
  obtain⟨rfl,rfl⟩:=h2
  show(if a=a then some (d,dp)else none)=_
  rw[if_pos rfl]
 | nx ρ=>
  obtain⟨rfl,e⟩:=h2
  show(match ρ[p]? with | some (some (.obj (.pin b) [dp],true))=>if b=a then some (D.non,dp)else none | _=>none)=_
  rw[e]
  show(if a=a then some (D.non,dp)else none)=_
  rw[if_pos rfl]
 | _=>exact False.elim h2
theorem Qei{fa:DE}{ρ:En}{r:HS.R}{p:Nat}{dp:D}{Q:Out->Prop}(h:fa ρ=some r)(hp:ρ[p]? =some (some (dp,true)))(c:(r.norm.fr && decide r.norm.M.Nodup && !r.norm.M.contains p && !r.d.Qm1)=true)(q:Q (.rt (.obj .pair [r.d,dp]) true)):Run (QdJ p fa) ρ Q:=by
 refine⟨_,?_,q⟩
 unfold QdJ
 rw[h,Za,hp]
 show(if _ then _ else _)=_
 rw[if_pos c]
theorem Qld{T:ClT}{i:Nat}{f:Str}{fa:DE}{ρ:En}{d d' y:D}{Q:Out->Prop}(h:fa ρ=some ⟨y,true,[]⟩)(hp:ρ[i]? =some (some (d,true)))(e:QfQ (putD T f y) d=some d')(q:Q (.nx (ρ.set i (some (d',true))))):Run (Qgn T i f fa) ρ Q:=by
 refine⟨_,?_,q⟩
 unfold Qgn
 rw[h,Za,hp,Qq4]
 show(if _ then _ else _)=_
 rw[if_pos (show(true && decide ([]:List Nat).Nodup && !([]:List Nat).contains i)=true from rfl),e]
 rfl
theorem QpZ{T:ClT}{i:Nat}{f:Str}{fa:DE}{ρ:En}{d d':D}{k m:Int}{Q:Out->Prop}(hp:ρ[i]? =some (some (d,true)))(h1:Qis T f d=some (.int k))(h:fa ρ=some ⟨.int m,true,[]⟩)(e:QfQ (putD T f (.int (k+m))) d=some d')(q:Q (.nx (ρ.set i (some (d',true))))):Run (Qgg T i f fa) ρ Q:=by
 refine⟨_,?_,q⟩
 unfold Qgg
 rw[hp]
 show(Qis T f d).bind _=_
 rw[h1,Za]
 show(fa ρ).bind _=_
 rw[h,Za]
 show(QfQ _ _).map _=_
 rw[e];rfl
theorem QkB{T:MeT}{x i:Nat}{m:Str}{fs:DA}{ρ:En}{r:RA}{d:D}{q:D×D}{Q:Out->Prop}(h:fs ρ=some r)(hp:ρ[i]? =some (some (d,true)))(c:(decide (x≠i) && !r.M.contains i)=true)(e:Qfp (ioM T m r.ds) d=some q)(k:Q (.nx ((ρ.set i (some (q.2,true))).set x (some (q.1,true))))):Run (QgC T x i m fs) ρ Q:=by
 refine⟨_,?_,k⟩
 unfold QgC
 rw[h,Za,hp]
 show(if _ then _ else _)=_
 rw[if_pos c,e];rfl
noncomputable def QeP(Q2:Den)(QbZ:Den):DS:=(Qd (Qdr (QG 2 Q2 [] (Qc (Qa 0) (Qc (Q4 (Qc (Qa 1) Qf)) Qf)))) (Qd (Qai (Q6 (Qdv (QG 1 QbZ [] (Qc (Qa 0) Qf))) (.tp [1,2]) [none,none,none,some 1] (QC (dOp gGe (Qr (Qa 3) (Qa 1)) (Qa 2))) (Qa 1))) Qo))
def QeZ(d:Den):Prop:=∀(m:Nat) (R L:List (Int×Int)) (f:Nat->Int),0<m->m<=1000->Qbf m R L->(∀j,j<m->0<=f j)->d [Qp m R L,Qb m f]=some (Qu (QH m (Qq R L) f),true)
theorem Qn8{fa:DE}{ρ:En}{ra:HS.R}{n:Nat}{f:Nat->Int}(ha:fa ρ=some ra)(ea:ra.d=Qb n f):Qdv fa ρ=some ⟨(List.range n).map λ(i:Nat)=> .tup [.int i,.int (f i)],ra.M⟩:=by
 unfold Qdv
 rw[ha,Za,ea]
 show some (IR.mk (Qc4 ((List.range n).map λi=>D.int (f i))) ra.M)=_
 congr 2
 unfold Qc4
 refine Zby λi=>?_
 rw[Zv,Zv,Zbp,Zv]
 by_cases z:i<n
 ·rw[Zan z];simp
 ·rw[Zy (by simp;omega)];rfl
theorem QqV{dn ds:Den}(hn:Qe5 dn)(hs:Qle ds):QeZ (Qx 2 (QeP dn ds)):=λm R L f m0 hm hw hf=>by
 obtain⟨g1,g2,g3,g4,_⟩:=hw.good
 refine QbV ?_
 refine run_seq (Qek (QL rfl (hn m R L [f] m0 λg hg=>by rw[Zl.mp hg];exact hf) rfl) ?_)
 refine Q7 (QeQ (keep:=λp=>decide (Qq R L p<=f p)) (out:=λ(p:Nat)=>D.int p) (List.range m) (Qn8 (QL rfl (hs m R L hm (by omega) g1 g2) rfl) rfl) rfl λp hp=>?_) ⟨rfl,rfl⟩
 have hp:=ZG.mp hp
 refine⟨[none,some (.int p,true),some (.int (Qq R L p),true),some (Qb m f,false)],rfl,?_,λ_=>⟨_,rfl,rfl,rfl⟩⟩
 exact QJ (Qal (d:= .bl (decide (Qq R L p<=f p))) (rb:=⟨.int (Qq R L p),true,[]⟩) (Qcj (m:=m) (f:=f) (i:=p) (ra:=⟨Qb m f,false,[]⟩) (rb:=⟨.int p,true,[]⟩) rfl rfl rfl rfl hp) rfl rfl) rfl
theorem QfJ{m:Nat}{s f:Nat->Int}{p:Nat}:p∈QH m s f↔p<m/\s p<=f p:=by
 unfold QH
 rw[Zax,ZG,decide_eq_true_eq]
theorem QlT{m:Nat}{s f:Nat->Int}:(QH m s f).Nodup:=Zbm.filter _
theorem QpK{fa:DE}{ρ:En}{ra:HS.R}{l:List Nat}(ha:fa ρ=some ra)(ea:ra.d=Qu l):Qbq fa QbU (Qam (dC (.int 1))) ρ=some ⟨Qu (l.take 1),true,[]⟩:=by
 have hc:cutD (l.map λ(p:Nat)=>D.int (p:Int)) none (some 1)=(l.take 1).map λ(p:Nat)=>D.int (p:Int):=by
  unfold cutD
  rw[show(1:Int)=((1:Nat):Int)from rfl]
  simp only[Zj,HT.Qg7,HT.QgA,ZbQ,Zbw]
  rw[← Zbe]
  congr 1
  cases l with
  | nil=>rfl
  | cons a l=>simp
 unfold Qbq QbU Qam
 simp only[ha,Qnk,Za,ea,Qu,hc,Qax,QhC,if_true]
noncomputable def Qf0(QU:Den):DS:=(Qd (QdJ 0 (Qbq (QG 2 QU [] (Qc (Qa 1) (Qc (Qa 2) Qf))) QbU (Qam (dC (.int 1))))) Qo)
noncomputable def QdF(QU:Den):DS:=(Qd (QdJ 0 (QG 2 QU [] (Qc (Qa 1) (Qc (Qa 2) Qf)))) Qo)
noncomputable def Qeu(QU:Den):DS:=(Qd (Qv 3 (QG 2 QU [] (Qc (Qa 1) (Qc (Qa 2) Qf)))) (Qd (sIf (Qbp (QC (Qa 3))) (Qd (QdJ 0 (Q4 Qf)) Qo) Qo) (Qd (Qv 4 (dIf (QC (dOp gLt (Qdn wCl "used" (Qa 0)) (dBf QaI (Qc (Qdn wCl "picks" (Qa 0)) Qf)))) (Qr (Qdn wCl "picks" (Qa 0)) (Qdn wCl "used" (Qa 0))) (dC (.int 0)))) (Qd (Qgg wCl 0 "used" (dC (.int 1))) (Qd (QdJ 0 (Q4 (Qc (Qr (Qa 3) (dOp QaL (Qa 4) (dBf QaI (Qc (Qa 3) Qf)))) Qf))) Qo)))))
noncomputable def QdE:DS:=(Qd (Qgn wCl 0 "picks" (dList (Qc (Qa 1) Qf))) (Qd (Qgn wCl 0 "used" (dC (.int 0))) Qo))
def Qfu(k:Wk)(e:Qcb):Prop:=∀(u m:Nat) (R L:List (Int×Int)) (f:Nat->Int),0<m->m<=1000->Qbf m R L->(∀j,j<m->0<=f j)->e [wkD k u,Qp m R L,Qb m f]=some (Qu (sel k u (QH m (Qq R L) f)),wkD k (nxt u (QH m (Qq R L) f)))
theorem Qt6{dr:Den}(hr:QeZ dr):Qfu .plain (QdV 3 0 (Qf0 dr)):=λu m R L f m0 hm hw hf=>Qe0 λa=>by
 refine QE (Qei (QpK (QL (r:=⟨[Qp m R L,Qb m f],false,[]⟩) rfl (hr m R L f m0 hm hw hf) rfl) rfl) (dp:=Qap a (wkD .plain u)) rfl rfl ?_)
 exact⟨rfl,rfl⟩
theorem QlI{dr:Den}(hr:QeZ dr):Qfu .both (QdV 3 0 (QdF dr)):=λu m R L f m0 hm hw hf=>Qe0 λa=>by
 refine QE (Qei (QL (r:=⟨[Qp m R L,Qb m f],false,[]⟩) rfl (hr m R L f m0 hm hw hf) rfl) (dp:=Qap a (wkD .both u)) rfl rfl ?_)
 exact⟨rfl,rfl⟩
theorem Qoh{fa:DE}{ρ:En}{r:HS.R}{cs:List Int}(h:fa ρ=some r)(e:r.d=Qi cs):dList (Qc fa Qf) ρ=some ⟨Qi cs,true,[]⟩:=by
 unfold dList
 rw[QF h (QaV ρ)]
 simp[e,Qi,Qax]
theorem QrN:∀ps:List Int,QdV 2 0 QdE [.obj (.ins "Picked" []) [],Qi ps]=some (.non,wkD (.pick ps) 0):=λps=>Qe0 λa=>by
 refine run_seq (Qld (y:=Qi ps) (d:=Qap a (.obj (.ins "Picked" []) [])) (d':=Qap a (.obj (.ins "Picked" ["picks"]) [Qi ps])) ?_ rfl rfl ?_)
 ·exact Qoh (cs:=ps) (r:=⟨Qi ps,false,[]⟩) rfl rfl
 refine run_seq (Qld (y:= .int 0) (d:=Qap a (.obj (.ins "Picked" ["picks"]) [Qi ps])) (d':=Qap a (wkD (.pick ps) 0)) rfl rfl rfl ?_)
 exact Qn ⟨rfl,rfl⟩
theorem Qpn{dr:Den}(hr:QeZ dr){ps:List Int}(hp:ps.length<=1000):Qfu (.pick ps) (QdV 5 0 (Qeu dr)):=λu m R L f m0 hm hw hf=>Qe0 λa=>by
 obtain⟨l,hl⟩:∃l,l=QH m (Qq R L) f:=⟨_,rfl⟩
 have el:=hr m R L f m0 hm hw hf
 rw[← hl]at el ⊢
 refine run_seq (Qj (QL (r:=⟨[Qp m R L,Qb m f],false,[]⟩) rfl el rfl) ?_)
 change Nx _ (.nx [some (Qap a (wkD (.pick ps) u),true),some (Qp m R L,false),some (Qb m f,false),some (Qu l,true),none])
 refine QE (Qae (b:=l.isEmpty) ?_ (λhe=>?_) (λhe=>?_))
 ·refine(Qbc (b:= !l.isEmpty) ?_).trans (by rw[Bool.not_not])
  show(D.lst (l.map λ(p:Nat)=>D.int (p:Int))).tru=_
  cases l<;>rfl
 ·have he:l=[]:=Zbl.mp he
  subst he
  exact QE (Qei (r:=⟨.lst [],true,[]⟩) rfl (dp:=Qap a (wkD (.pick ps) u)) rfl rfl ⟨rfl,rfl⟩)
 ·have hne:l≠[]:=λz=>by rw[z]at he;cases he
  have hpos:0<l.length:=ZaL.mpr hne
  have fu:Qdn wCl "used" (Qa 0) [some (Qap a (wkD (.pick ps) u),true),some (Qp m R L,false),some (Qb m f,false),some (Qu l,true),none]=some ⟨.int u,true,[]⟩:=rfl
  have fp:Qdn wCl "picks" (Qa 0) [some (Qap a (wkD (.pick ps) u),true),some (Qp m R L,false),some (Qb m f,false),some (Qu l,true),none]=some ⟨Qi ps,true,[0]⟩:=rfl
  refine Qn ?_
  refine run_seq (Qj (r:=⟨.int (ps.getD u 0),true,[]⟩) ?_ ?_)
  ·have fl:=QcI (fa:=Qdn wCl "picks" (Qa 0)) (xs:=ps.map D.int) fp rfl
   by_cases hlt:u<ps.length
   ·have hg:QC (dOp gLt (Qdn wCl "used" (Qa 0)) (dBf QaI (Qc (Qdn wCl "picks" (Qa 0)) Qf))) _=some true:=QJ (b:=true) (Qal (d:= .bl true) fu fl (by show some (D.bl (decide ((u:Int)<((ps.map D.int).length:Nat))))=_;rw[Zj,decide_eq_true (by omega)])) rfl
    unfold dIf
    rw[hg,Za,if_pos rfl]
    exact QbJ (ns:=ps) fp rfl fu rfl (by omega) (by rw[ZO,ZH,Zs hlt];rfl)
   ·have hg:QC (dOp gLt (Qdn wCl "used" (Qa 0)) (dBf QaI (Qc (Qdn wCl "picks" (Qa 0)) Qf))) _=some false:=QJ (b:=false) (Qal (d:= .bl false) fu fl (by show some (D.bl (decide ((u:Int)<((ps.map D.int).length:Nat))))=_;rw[Zj,decide_eq_false (by omega)])) rfl
    unfold dIf
    rw[hg,Za,if_neg ZZ,ZH,Zy (by omega)]
    rfl
  change Nx _ (.nx [some (Qap a (wkD (.pick ps) u),true),some (Qp m R L,false),some (Qb m f,false),some (Qu l,true),some (.int (ps.getD u 0),true)])
  refine run_seq (QpZ (d:=Qap a (wkD (.pick ps) u)) (d':=Qap a (wkD (.pick ps) (u+1))) (k:=u) (m:=1) rfl rfl rfl rfl ?_)
  change Nx _ (.nx [some (Qap a (wkD (.pick ps) (u+1)),true),some (Qp m R L,false),some (Qb m f,false),some (Qu l,true),some (.int (ps.getD u 0),true)])
  have hm0:0<=ps.getD u 0 % (l.length:Int):=ZE _ (by omega)
  have hm1:ps.getD u 0 % (l.length:Int)<l.length:=ZA _ (by omega)
  have hlt:(ps.getD u 0 % (l.length:Int)).toNat<l.length:=by omega
  have es:sel (.pick ps) u l=[l.getD (ps.getD u 0 % (l.length:Int)).toNat 0]:=by unfold sel;dsimp only;rw[if_neg hne]
  have en:nxt u l=u+1:=by unfold nxt;rw[if_neg hne]
  rw[es,en]
  refine QE (Qei (r:=⟨.lst [.int (l.getD (ps.getD u 0 % (l.length:Int)).toNat 0:Nat)],true,[]⟩) ?_ (dp:=Qap a (wkD (.pick ps) (u+1))) rfl rfl ⟨rfl,rfl⟩)
  refine(Quy (rs:=⟨[.int (l.getD (ps.getD u 0 % (l.length:Int)).toNat 0:Nat)],true,[]⟩) ?_ (show 1<=64 by decide)).trans rfl
  refine(QF (r:=⟨.int (l.getD (ps.getD u 0 % (l.length:Int)).toNat 0:Nat),true,[]⟩) ?_ (QaV _)).trans rfl
  exact Qmc (l:=l) (ra:=⟨Qu l,true,[3]⟩) rfl rfl (Qaq (b:=l.length) (ra:=⟨.int (ps.getD u 0),true,[]⟩) rfl rfl (QiU (l:=l) (r:=⟨Qu l,true,[3]⟩) rfl rfl) rfl (by omega)) rfl hm0 (by rw[Zs hlt,ZH (l:=l),Zs hlt];rfl)
noncomputable def wMe(e1 e2 e3:Qcb):MeT:=[("Way",[("chosen",⟨3,0,e1⟩)]),("Together",[("chosen",⟨3,0,e2⟩)]),("Picked",[("chosen",⟨3,0,e3⟩)])]
def Qpu(T:MeT):Prop:=∀(k:Wk) (u m:Nat) (R L:List (Int×Int)) (f:Nat->Int),Qns k->0<m->m<=1000->Qbf m R L->(∀j,j<m->0<=f j)->ioM T "chosen" [Qp m R L,Qb m f] (wkD k u)=some (Qu (sel k u (QH m (Qq R L) f)),wkD k (nxt u (QH m (Qq R L) f)))
theorem Qw2{e1 e2 e3:Qcb}(h1:Qfu .plain e1)(h2:Qfu .both e2)(h3:∀ps:List Int,ps.length<=1000->Qfu (.pick ps) e3):Qpu (wMe e1 e2 e3):=λk u m R L f hk m0 hm hw hf=>by
 cases k with
 | plain=>exact h1 u m R L f m0 hm hw hf
 | both=>exact h2 u m R L f m0 hm hw hf
 | pick ps=>exact h3 ps hk u m R L f m0 hm hw hf
theorem Qqo(hx:ρ[x]? =some (some (.lst xs,true)))(ha:fa ρ=some ⟨d,true,[]⟩)(hl:xs.length<16777216)(q:Q (.nx (ρ.set x (some (.lst (xs++[d]),true))))):Run (QdA x Q1 fa) ρ Q:=by
 refine⟨_,?_,q⟩
 have hn:(HS.R.mk d true []).norm=⟨d,true,[]⟩:=by unfold R.norm;split<;>rfl
 unfold QdA
 rw[hx]
 simp only[Q1,Za,ha,Qbr,Qia,hn,Qes]
 simp[hl,kill,QaW]
noncomputable def hpA(m:Nat)(T:Nat->Nat->Int)(f:Nat->Int)(ts:List (List Nat)):Nat->Int:=Qg m T f (QA ts)
structure Qbt (k:Wk) (u m:Nat) (T:Nat->Nat->Int) (s f:Nat->Int) (ts:List (List Nat)):Prop where
 st:∀i t,ts[i]? =some t->QH m s (hpA m T f (ts.take i))≠[]/\t=sel k (u+i) (QH m s (hpA m T f (ts.take i)))
theorem QqC(ts:List (List Nat))(t:List Nat)(p:Nat):QA (ts++[t]) p=QA ts p+QQ t p:=by
 unfold QA
 rw[ZJ,ZbV]
 simp
theorem Qee{ts:List (List Nat)}{i:Nat}{t:List Nat}(h:ts[i]? =some t)(p:Nat):QA (ts.take (i+1)) p=QA (ts.take i) p+QQ t p:=by
 rw[List.take_succ,h]
 exact QqC _ _ _
theorem Qto{k:Wk}{u:Nat}{l:List Nat}:∀p∈sel k u l,p∈l:=λp hp=>by
 cases k with
 | plain=>exact ZaY hp
 | both=>exact hp
 | pick ps=>
  unfold sel at hp
  dsimp only at hp
  split at hp
  ·simp at hp
  ·rename_i hne
   have hpos:0<l.length:=ZaL.mpr hne
   have hm0:0<=ps.getD u 0 % (l.length:Int):=ZE _ (by omega)
   have hm1:ps.getD u 0 % (l.length:Int)<l.length:=ZA _ (by omega)
   rw[Zl.mp hp,ZH (l:=l),Zs (by omega)]
   exact Zba _
theorem QoJ{k:Wk}{u:Nat}{l:List Nat}(h:l.Nodup):(sel k u l).Nodup:=by
 cases k with
 | plain=>exact h.sublist (List.take_sublist 1 l)
 | both=>exact h
 | pick ps=>
  unfold sel
  dsimp only
  split<;>simp
theorem Qiz{k:Wk}{u:Nat}{l:List Nat}:sel k u l=[]↔l=[]:=by
 cases k with
 | plain=>unfold sel;dsimp only;cases l<;>simp
 | both=>exact Iff.rfl
 | pick ps=>
  unfold sel
  dsimp only
  by_cases h:l=[]
  ·rw[if_pos h];simp[h]
  ·rw[if_neg h];simp[h]
theorem Qkc{m:Nat}{T:Nat->Nat->Int}{f c d:Nat->Int}(j:Nat):Qg m T f (λp=>c p+d p) j=Qg m T f c j+Qm m (λi=>d i*T i j):=by
 unfold Qg
 have:(λi=>(c i+d i)*T i j)=λi=>c i*T i j+d i*T i j:=by funext i;rw[ZaE]
 rw[this,Qaf];omega
theorem QsO{m:Nat}{T:Nat->Nat->Int}{f c d:Nat->Int}(j:Nat):Qg m T (Qg m T f c) d j=Qg m T f (λp=>c p+d p) j:=by
 rw[Qkc];rfl
theorem Qkn{p q:Nat}{l:List Nat}(h:p∉l):QQ (p::l) q=if q=p then 1 else QQ l q:=by
 unfold QQ
 by_cases e:q=p
 ·subst e;simp
 ·simp[e]
theorem QmB{m:Nat}:∀{t:List Nat},t.Nodup->(∀p∈t,p<m)->Qm m (QQ t)=t.length
 | [],_,_=>by
  have:(QQ []:Nat->Int)=λ_=>0:=by funext p;unfold QQ;simp
  rw[this,QK];rfl
 | p::l,nd,h=>by
  obtain⟨h1,h2⟩:=ZS.mp nd
  have e:(QQ (p::l))=λq=>QQ l q+(if q=p then 1 else 0)*1:=by
   funext q
   rw[Qkn h1]
   by_cases z:q=p
   ·subst z;rw[if_pos rfl,if_pos rfl];unfold QQ;rw[if_neg h1];omega
   ·rw[if_neg z,if_neg z];omega
  rw[e,Qaf,QY (h p Zf),QmB h2 λq hq=>h q (Zb _ hq)]
  simp
theorem QkX{m:Nat}{T:Nat->Nat->Int}{f c:Nat->Int}(tp:TP m T)(h:Leg m T f c):∀t:List Nat,t.Nodup->(∀p∈t,p<m/\0-T p p<=Qg m T f c p)->Leg m T f (λp=>c p+QQ t p)
 | [],_,_=>h.cast λp=>by unfold QQ;simp
 | p::l,nd,hp=>by
  obtain⟨h1,h2⟩:=ZS.mp nd
  have ih:=QkX tp h l h2 λq hq=>hp q (Zb _ hq)
  obtain⟨pm,pl⟩:=hp p Zf
  have ge:Qg m T f c p<=Qg m T f (λq=>c q+QQ l q) p:=by
   rw[Qkc]
   have:Qm m (λ_=>(0:Int))<=Qm m (λi=>QQ l i*T i p):=Qa1 λi hi=>by
    by_cases e:i=p
    ·subst e;unfold QQ;rw[if_neg h1,ZaD];exact Zay _
    ·refine ZaP ?_ (tp.pos i p hi pm e)
     unfold QQ;split<;>omega
   rw[QK]at this
   omega
  refine(Leg.step (p:=p) (t:=1) ih pm (by omega) (by rw[Zbh];omega)).cast λq=>?_
  unfold up
  rw[Qkn h1]
  by_cases e:q=p
  ·subst e
   rw[if_pos rfl,if_pos rfl]
   unfold QQ
   rw[if_neg h1];omega
  ·rw[if_neg e,if_neg e]
section
variable {k:Wk}{u m:Nat}{T:Nat->Nat->Int}{s f:Nat->Int}{ts:List (List Nat)}
theorem Qbt.nil:Qbt k u m T s f []:=⟨λi t e=>by simp at e⟩
theorem Qbt.snoc(w:Qbt k u m T s f ts)(h:QH m s (hpA m T f ts)≠[]):Qbt k u m T s f (ts++[sel k (u+ts.length) (QH m s (hpA m T f ts))]):=⟨λi t e=>by
 by_cases hi:i<ts.length
 ·rw[ZT hi]at e
  rw[List.take_append_of_le_length (by omega)]
  exact w.st i t e
 ·by_cases h2:i=ts.length
  ·subst h2
   rw[Zaw (Zm _),Nat.sub_self]at e
   cases e
   rw[List.take_left']
   ·exact⟨h,rfl⟩
   ·rfl
  ·rw[Zy (by simp;omega)]at e
   cases e⟩
theorem Qbt.mem(w:Qbt k u m T s f ts){i:Nat}{t:List Nat}(e:ts[i]? =some t):t.Nodup/\t≠[]/\∀p∈t,p<m/\s p<=hpA m T f (ts.take i) p:=by
 obtain⟨h1,h2⟩:=w.st i t e
 subst h2
 exact⟨QoJ QlT,λz=>h1 (Qiz.mp z),λp hp=>QfJ.mp (Qto p hp)⟩
theorem Qbt.leg(tp:TP m T)(hs:∀p,p<m->s p=0-T p p)(w:Qbt k u m T s f ts):∀i,i<=ts.length->Leg m T f (QA (ts.take i))
 | 0,_=>Leg.nil.cast λp=>by simp[QA]
 | i+1,h=>by
  have e:ts[i]? =some (ts[i]'(by omega)):=Zs (by omega)
  obtain⟨n1,n2,n3⟩:=w.mem e
  refine(QkX tp (w.leg tp hs i (by omega)) _ n1 λp hp=>⟨(n3 p hp).1,?_⟩).cast λp=>(Qee e p).symm
  rw[← hs p (n3 p hp).1]
  exact(n3 p hp).2
theorem Qf2{i:Nat}{t:List Nat}(w:Qbt k u m T s f ts)(e:ts[i]? =some t):Qm m (QA (ts.take (i+1)))=Qm m (QA (ts.take i))+t.length:=by
 obtain⟨n1,n2,n3⟩:=w.mem e
 rw[QW λp _=>Qee e p,Qaf,QmB n1 λp hp=>(n3 p hp).1]
theorem Qpk{h:Nat->Int}(hs:∀p,p<m->s p=0-T p p)(e:QH m s h=[]):Stb m T h:=λp hp=>by
 rw[← hs p hp]
 have:p∉QH m s h:=by rw[e];simp
 rw[QfJ]at this
 omega
theorem Qsu(tp:TP m T)(hs:∀p,p<m->s p=0-T p p){c:Nat->Int}(c0:∀p,p<m->0<=c p)(st:Stb m T (Qg m T f c)):∀(n:Nat) (ts:List (List Nat)),Qbt k u m T s f ts->(Qm m c-Qm m (QA ts)).toNat=n->∃ts',Qbt k u m T s f ts'/\QH m s (hpA m T f ts')=[]:=by
 intro n
 induction n using Nat.strongRecOn with
 | _ n ih=>
  intro ts w hn
  by_cases h:QH m s (hpA m T f ts)=[]
  ·exact⟨ts,w,h⟩
  ·have w':=w.snoc h
   obtain⟨t,ht⟩:∃t,t=sel k (u+ts.length) (QH m s (hpA m T f ts)):=⟨_,rfl⟩
   rw[← ht]at w'
   have e:(ts++[t])[ts.length]? =some t:=by rw[Zaw (Zm _),Nat.sub_self];rfl
   have l1:=w'.leg tp hs (ts++[t]).length (Zm _)
   rw[Zak]at l1
   have le:=Qa1 (l1.least tp c0 st)
   have sm:=Qf2 w' e
   rw[List.take_left' rfl,Zai (by simp)]at sm
   obtain⟨n1,n2,n3⟩:=w'.mem e
   have:=ZaL.mpr n2
   exact ih _ (by omega) (ts++[t]) w' rfl
theorem QrY(tp:TP m T)(hs:∀p,p<m->s p=0-T p p){c:Nat->Int}(c0:∀p,p<m->0<=c p)(st:Stb m T (Qg m T f c)):∃ts,Qbt k u m T s f ts/\QH m s (hpA m T f ts)=[]:=Qsu tp hs c0 st _ [] .nil rfl
theorem Qbt.QxP(tp:TP m T)(hs:∀p,p<m->s p=0-T p p)(w:Qbt k u m T s f ts)(e:QH m s (hpA m T f ts)=[]){c:Nat->Int}(lc:Leg m T f c)(st:Stb m T (Qg m T f c)):∀p,p<m->QA ts p=c p:=by
 have l1:=w.leg tp hs ts.length (Zm _)
 rw[Zak]at l1
 exact l1.unique tp lc (Qpk hs e) st
end
noncomputable def QrE(Q2:Den)(QdL:Den)(me:MeT):DS:=(Qd (Qdr (QG 2 Q2 [] (Qc (Qa 0) (Qc (Q4 (Qc (Qa 1) Qf)) Qf)))) (Qd (Qv 3 (dList (Qc (Qa 1) Qf))) (Qd (Qv 4 (Qas (Q4 (Qc (dC (.int 0)) Qf)) (Qr (Qa 0) (dC (.int 0))))) (Qd (Qv 5 (Q4 Qf)) (Qd (QgC me 6 2 "chosen" (Qc (Qa 0) (Qc (Qa 3) Qf))) (Qd (Qck (QC (Qa 6)) (Qd (sIf (QC (dOp gGt (QD (dBf Qgs (Qc (Qa 4) Qf)) (dBf QaI (Qc (Qa 6) Qf))) (dC (.int 2000)))) (Qd QR Qo) Qo) (Qd (Qv 7 (Q6 (QaO (Qr (Qa 0) (dC (.int 0)))) (.nm 1) [none,none,some 6] Qa6 (dIf (QC (dOp (gIn false) (Qa 1) (Qa 2))) (dC (.int 1)) (dC (.int 0))))) (Qd (Qv 3 (QG 3 QdL [] (Qc (Qa 0) (Qc (Qa 3) (Qc (Qa 7) Qf))))) (Qd (Qv 4 (Q6 (QbT (Qa 4) (Qa 7)) (.tp [1,2]) [none,none,none] Qa6 (QD (Qa 1) (Qa 2)))) (Qd (QdA 5 Q1 (dList (Qc (Qa 6) Qf))) (Qd (QgC me 6 2 "chosen" (Qc (Qa 0) (Qc (Qa 3) Qf))) Qo))))))) (Qd (QdJ 2 (QbR (Qc (Qa 3) (Qc (Qa 4) (Qc (Qa 5) Qf))))) Qo)))))))
noncomputable def Qp2(m:Nat)(T:Nat->Nat->Int)(f:Nat->Int)(ts:List (List Nat)):D:= .tup [Qb m (hpA m T f ts),Qb m (QA ts),Qav ts]
def QnD(e:Qcb):Prop:=∀(k:Wk) (u m:Nat) (R L:List (Int×Int)) (f c:Nat->Int),Qns k->0<m->m<=1000->Qbf m R L->(∀j,j<m->0<=f j)->Told m (Qs m (Qk R L)) f c->Qm m c<=2000→
 ∃ts,Qbt k u m (Qs m (Qk R L)) (Qq R L) f ts/\QH m (Qq R L) (hpA m (Qs m (Qk R L)) f ts)=[]/\(∀p,p<m->QA ts p=c p)/\ts.length<=2000∧
  e [Qp m R L,Qb m f,wkD k u]=some (Qp2 m (Qs m (Qk R L)) f ts,wkD k (u+ts.length))
theorem QvJ{m:Nat}{t:List Nat}{ρ:En}{R L:List (Int×Int)}(h0:ρ[0]? =some (some (Qp m R L,false)))(h6:Qc6 [none,none,some 6] ρ=[none,none,some (Qu t,false)])(hm:m<=1000):
  Q6 (QaO (Qr (Qa 0) (dC (.int 0)))) (.nm 1) [none,none,some 6] Qa6 (dIf (QC (dOp (gIn false) (Qa 1) (Qa 2))) (dC (.int 1)) (dC (.int 0))) ρ=some ⟨Qb m (QQ t),true,[]⟩:=by
 have hi:Qr (Qa 0) (dC (.int 0)) ρ=some ⟨.int m,true,[]⟩:=by
  unfold Qr
  rw[Qbd h0]
  rfl
 refine(QaJ (toD:=λ(p:Nat)=>D.int p) (out:=λ(p:Nat)=>D.int (QQ t p)) (List.range m) (QbS (n:=m) hi rfl (by omega)) rfl λp hp=>?_).trans rfl
 rw[h6]
 refine⟨[none,some (.int p,true),some (Qu t,false)],rfl,⟨.int (QQ t p),true,[]⟩,?_,rfl,rfl⟩
 unfold dIf
 rw[QJ (b:=t.contains p) (QtV (neg:=false) (o:=p) (l:=t) (ra:=⟨.int p,true,[]⟩) (rb:=⟨Qu t,false,[]⟩) rfl rfl rfl rfl) rfl,Za]
 unfold QQ
 by_cases e:p∈t
 ·rw[if_pos (ZK.mpr e),if_pos e];rfl
 ·rw[if_neg (λz=>e (ZK.mp z)),if_neg e];rfl
theorem Leg.ge0{m:Nat}{T:Nat->Nat->Int}{f c:Nat->Int}(tp:TP m T)(hf:∀j,j<m->0<=f j)(h:Leg m T f c):∀j,j<m->0<=Qg m T f c j:=by
 induction h with
 | nil=>
  intro j hj
  unfold Qg
  have z:(λi=>(0:Int)*T i j)=λ_=>0:=by funext i;rw[ZaD]
  rw[z,QK]
  have:=hf j hj
  omega
 | @step c p t _ hp ht hle ih=>
  intro j hj
  rw[Qgw hp]
  by_cases e:j=p
  ·subst e
   rw[Int.mul_sub,Int.mul_zero]at hle
   omega
  ·have h1:=ih j hj
   have h2:=ZaP ht (tp.pos p j hp hj (Ne.symm e))
   omega
theorem QoA{ρ:En}{A:List Nat}{fs:DA}{rs:RA}(h:fs ρ=some rs)(e:rs.ds=[Qu A]):dList fs ρ=some ⟨Qu A,true,[]⟩:=by
 unfold dList
 rw[h,Za,e]
 simp only[Qu,Qax,QhC,if_true]
theorem QvQ{dn da:Den}{T:MeT}(hn:Qe5 dn)(ha:QiQ da)(hM:Qpu T):QnD (QdV 8 2 (QrE dn da T)):=λk u m R L f c hk m0 hm hw hf td hc=>by
 have tp:=hw.tp
 have hs:∀p,p<m->Qq R L p=0-Qs m (Qk R L) p p:=λp hp=>(hw.neg hp).symm
 obtain⟨g1,g2,g3,g4,_⟩:=hw.good
 obtain⟨ts,w,fin⟩:=QrY (k:=k) (u:=u) tp hs (λp _=>td.leg.nonneg p) td.stb
 have eq:=w.QxP tp hs fin td.leg td.stb
 obtain⟨T0,rT⟩:∃T0,T0=Qs m (Qk R L):=⟨_,rfl⟩
 rw[← rT]at w fin tp hs td ⊢
 have sums:∀i,i<=ts.length->Qm m (QA (ts.take i))<=2000:=λi hi=>by
  have:=Qa1 ((w.leg tp hs i hi).least tp (λp _=>td.leg.nonneg p) td.stb)
  omega
 have lens:∀i,i<=ts.length->(i:Int)<=Qm m (QA (ts.take i)):=λi=>by
  induction i with
  | zero=>
   intro _
   have:(QA []:Nat->Int)=λ_=>0:=by funext p;simp[QA]
   rw[ZbZ,this,QK]
   exact Zay _
  | succ i ih=>
   intro hi
   have e:ts[i]? =some (ts[i]'(by omega)):=Zs (by omega)
   have h1:=ih (by omega)
   have h2:=Qf2 w e
   obtain⟨n1,n2,n3⟩:=w.mem e
   have:=ZaL.mpr n2
   omega
 have tl:ts.length<=2000:=by
  have h1:=lens ts.length (Zm _)
  have h2:=sums ts.length (Zm _)
  omega
 have pos:∀i,i<=ts.length->∀j,j<m->0<=hpA m T0 f (ts.take i) j:=λi hi=>(w.leg tp hs i hi).ge0 tp hf
 refine⟨ts,w,fin,eq,tl,Qe0 λa=>?_⟩
 let E:Nat->Option (D×Bool)->En:=λi j7=>[some (Qp m R L,false),some (Qb m f,false),some (Qap a (wkD k (nxt (u+i) (QH m (Qq R L) (hpA m T0 f (ts.take i))))),true),some (Qb m (hpA m T0 f (ts.take i)),true),some (Qb m (QA (ts.take i)),true),some (Qav (ts.take i),true),some (Qu (sel k (u+i) (QH m (Qq R L) (hpA m T0 f (ts.take i)))),true),j7]
 refine run_seq (Qek (QL (r:=⟨[Qp m R L,.lst [Qb m f]],false,[]⟩) rfl (hn m R L [f] m0 λg hg=>by rw[Zl.mp hg];exact hf) rfl) ?_)
 refine run_seq (Qj (Qdm (m:=m) (f:=f) (rs:=⟨[Qb m f],false,[]⟩) rfl rfl) ?_)
 refine run_seq (Qj (Qc7 (z:=0) (n:=m) (r:=⟨.int m,true,[]⟩) rfl rfl (by omega)) ?_)
 refine run_seq (Qj (r:=⟨.lst [],true,[]⟩) rfl ?_)
 change Nx _ (.nx [some (Qp m R L,false),some (Qb m f,false),some (Qap a (wkD k u),true),some (Qb m f,true),some (Qb m (λ_=>0),true),some (.lst [],true),none,none])
 have h0:hpA m T0 f (ts.take 0)=f:=by
  funext j
  unfold hpA
  rw[ZbZ]
  have:(QA []:Nat->Int)=λ_=>0:=by funext p;simp[QA]
  rw[this]
  unfold Qg
  have z:(λi=>(0:Int)*T0 i j)=λ_=>0:=by funext i;rw[ZaD]
  rw[z,QK];omega
 have c0:QA (ts.take 0)=λ_=>0:=by funext p;simp[QA]
 refine run_seq (QkB (r:=⟨[Qp m R L,Qb m f],false,[3]⟩) (d:=Qap a (wkD k u)) (q:=(Qu (sel k u (QH m (Qq R L) f)),Qap a (wkD k (nxt u (QH m (Qq R L) f))))) rfl rfl rfl ?_ ?_)
 ·show((ioM T "chosen" [Qp m R L,Qb m f] (wkD k u)).map λq=>(q.1,D.obj (.pin a) [q.2]))=_
  rw[hM k u m R L f hk m0 hm hw hf];rfl
 have start:[some (Qp m R L,false),some (Qb m f,false),some (Qap a (wkD k (nxt u (QH m (Qq R L) f))),true),some (Qb m f,true),some (Qb m (λ_=>0),true),some (.lst [],true),some (Qu (sel k u (QH m (Qq R L) f)),true),none]=E 0 none:=by
  show _=[some (Qp m R L,false),some (Qb m f,false),some (Qap a (wkD k (nxt (u+0) (QH m (Qq R L) (hpA m T0 f (ts.take 0))))),true),some (Qb m (hpA m T0 f (ts.take 0)),true),some (Qb m (QA (ts.take 0)),true),some (Qav (ts.take 0),true),some (Qu (sel k (u+0) (QH m (Qq R L) (hpA m T0 f (ts.take 0)))),true),none]
  rw[h0,c0];rfl
 change Nx _ (.nx [some (Qp m R L,false),some (Qb m f,false),some (Qap a (wkD k (nxt u (QH m (Qq R L) f))),true),some (Qb m f,true),some (Qb m (λ_=>0),true),some (.lst [],true),some (Qu (sel k u (QH m (Qq R L) f)),true),none])
 rw[start]
 refine run_seq (Qjl (λn ρ=>∃i j7,i<=ts.length/\n=ts.length-i/\ρ=E i j7) ?_ ts.length (E 0 none) ⟨0,none,Zaf _,rfl,rfl⟩)
 rintro n ρ ⟨i,j7,hi,rfl,rfl⟩
 obtain⟨l,rl⟩:∃l,l=QH m (Qq R L) (hpA m T0 f (ts.take i)):=⟨_,rfl⟩
 have hE:E i j7=[some (Qp m R L,false),some (Qb m f,false),some (Qap a (wkD k (nxt (u+i) l)),true),some (Qb m (hpA m T0 f (ts.take i)),true),some (Qb m (QA (ts.take i)),true),some (Qav (ts.take i),true),some (Qu (sel k (u+i) l),true),j7]:=by rw[rl]
 rw[hE]
 refine⟨!(sel k (u+i) l).isEmpty,?_,λhb=>?_,λhb=>?_⟩
 ·show(D.lst ((sel k (u+i) l).map λ(p:Nat)=>D.int (p:Int))).tru=_
  cases sel k (u+i) l<;>rfl
 ·have hl:l=[]:=Qiz.mp (Zbl.mp (by simpa using hb))
  have hi':i=ts.length:=by
   by_cases z:i<ts.length
   ·have:=(w.st i _ (Zs z)).1
    rw[← rl]at this
    exact absurd hl this
   ·omega
  subst hi'
  rw[Zak,hl]
  refine QE (Qei (r:=⟨Qp2 m T0 f ts,true,[3,4,5]⟩) rfl (dp:=Qap a (wkD k (u+ts.length))) rfl rfl ⟨rfl,rfl⟩)
 ·have hl:l≠[]:=λz=>by rw[z,Qiz.mpr rfl]at hb;cases hb
  have hlt:i<ts.length:=by
   by_cases z:i<ts.length
   ·exact z
   ·exfalso
    have:i=ts.length:=by omega
    rw[this,Zak,fin]at rl
    exact hl rl
  have et:ts[i]? =some ts[i]:=Zs hlt
  obtain⟨t,ht⟩:∃t,t=ts[i]:=⟨_,rfl⟩
  rw[← ht]at et
  have es:sel k (u+i) l=t:=by rw[rl];exact(w.st i t et).2.symm
  have en:nxt (u+i) l=u+(i+1):=by unfold nxt;rw[if_neg hl];omega
  rw[es,en]
  have st:=Qf2 w et
  have s2:=sums (i+1) (by omega)
  have hp1:Qb m (Qg m T0 (hpA m T0 f (ts.take i)) (QQ t))=Qb m (hpA m T0 f (ts.take (i+1))):=Qa0 λj _=>by
   show Qg m T0 (Qg m T0 f (QA (ts.take i))) (QQ t) j=_
   rw[QsO]
   exact QbM j rfl λp _=>(Qee et p).symm
  refine QE (Qae (b:=false) (QJ (b:=false) (Qal (d:= .bl false) (ra:=⟨.int (Qm m (QA (ts.take i))+t.length),true,[]⟩) (rb:=⟨.int 2000,true,[]⟩) (QX (Qsv (m:=m) (f:=QA (ts.take i)) (r:=⟨Qb m (QA (ts.take i)),true,[4]⟩) rfl rfl) rfl (QiU (l:=t) (r:=⟨Qu t,true,[6]⟩) rfl rfl) rfl) rfl ?_) rfl) (λz=>by cases z) (λ_=>Qn ?_))
  ·show some (D.bl (decide ((2000:Int)<Qm m (QA (ts.take i))+t.length)))=_
   rw[decide_eq_false (by omega)]
  refine run_seq (Qj (QvJ (m:=m) (t:=t) (R:=R) (L:=L) rfl rfl hm) ?_)
  change Nx _ (.nx [some (Qp m R L,false),some (Qb m f,false),some (Qap a (wkD k (u+(i+1))),true),some (Qb m (hpA m T0 f (ts.take i)),true),some (Qb m (QA (ts.take i)),true),some (Qav (ts.take i),true),some (Qu t,true),some (Qb m (QQ t),true)])
  have eaf:=ha m R L (hpA m T0 f (ts.take i)) (QQ t) hm (by omega) g1 g2
  rw[← rT,hp1]at eaf
  refine run_seq (Qj (QL (r:=⟨[Qp m R L,Qb m (hpA m T0 f (ts.take i)),Qb m (QQ t)],false,[3,7]⟩) rfl eaf rfl) ?_)
  change Nx _ (.nx [some (Qp m R L,false),some (Qb m f,false),some (Qap a (wkD k (u+(i+1))),true),some (Qb m (hpA m T0 f (ts.take (i+1))),true),some (Qb m (QA (ts.take i)),true),some (Qav (ts.take i),true),some (Qu t,true),some (Qb m (QQ t),true)])
  refine run_seq (Qj (r:=⟨Qb m (QA (ts.take (i+1))),true,[]⟩) ?_ ?_)
  ·refine(QaJ (toD:=λ(p:Nat)=>D.tup [.int (QA (ts.take i) p),.int (QQ t p)]) (out:=λ(p:Nat)=>D.int (QA (ts.take (i+1)) p)) (List.range m) (QdS (m:=m) (f:=λp=>D.int (QA (ts.take i) p)) (g:=λp=>D.int (QQ t p)) rfl rfl rfl rfl) rfl λp hp=>⟨[none,some (.int (QA (ts.take i) p),true),some (.int (QQ t p),true)],rfl,⟨.int (QA (ts.take (i+1)) p),true,[]⟩,?_,rfl,rfl⟩).trans rfl
   rw[Qee et]
   exact QX rfl rfl rfl rfl
  change Nx _ (.nx [some (Qp m R L,false),some (Qb m f,false),some (Qap a (wkD k (u+(i+1))),true),some (Qb m (hpA m T0 f (ts.take (i+1))),true),some (Qb m (QA (ts.take (i+1))),true),some (Qav (ts.take i),true),some (Qu t,true),some (Qb m (QQ t),true)])
  refine run_seq (Qqo (xs:=(ts.take i).map Qu) (d:=Qu t) rfl (QoA (A:=t) (rs:=⟨[Qu t],true,[6]⟩) rfl rfl) (by rw[Zj,ZW];omega) ?_)
  have etu:D.lst ((ts.take i).map Qu++[Qu t])=Qav (ts.take (i+1)):=by
   unfold Qav
   rw[List.take_succ,et,ZJ];rfl
  rw[etu]
  change Nx _ (.nx [some (Qp m R L,false),some (Qb m f,false),some (Qap a (wkD k (u+(i+1))),true),some (Qb m (hpA m T0 f (ts.take (i+1))),true),some (Qb m (QA (ts.take (i+1))),true),some (Qav (ts.take (i+1)),true),some (Qu t,true),some (Qb m (QQ t),true)])
  obtain⟨l',rl'⟩:∃l',l'=QH m (Qq R L) (hpA m T0 f (ts.take (i+1))):=⟨_,rfl⟩
  refine QE (QkB (r:=⟨[Qp m R L,Qb m (hpA m T0 f (ts.take (i+1)))],false,[3]⟩) (d:=Qap a (wkD k (u+(i+1)))) (q:=(Qu (sel k (u+(i+1)) l'),Qap a (wkD k (nxt (u+(i+1)) l')))) rfl rfl rfl ?_ (Qn ?_))
  ·show((ioM T "chosen" [Qp m R L,Qb m (hpA m T0 f (ts.take (i+1)))] (wkD k (u+(i+1)))).map λq=>(q.1,D.obj (.pin a) [q.2]))=_
   rw[hM k (u+(i+1)) m R L _ hk m0 hm hw (pos (i+1) (by omega)),rl'];rfl
  ·refine⟨ts.length-(i+1),by omega,i+1,some (Qb m (QQ t),true),by omega,rfl,?_⟩
   rw[rl'];rfl
end HS
namespace HS
open PySem PySem.Spec L2 PyProof.Rows PySem.NumText
noncomputable def cp(x:Str):List Nat:=x.cps.toList
noncomputable def tx(l:List Nat):Str:=⟨l.toArray⟩
theorem QwX(l:List Nat):cp (tx l)=l:=rfl
theorem Qrp(x:Str):tx (cp x)=x:=by cases x;rfl
theorem Qoa{x y:Str}(h:cp x=cp y):x=y:=by rw[← Qrp x,← Qrp y,h]
theorem Qog(x:Str):x.length=(cp x).length:=by unfold cp Str.length;exact ZL.symm
noncomputable def dig(n:Nat):List Nat:=(Nat.toDigits 10 n).map Char.toNat
theorem Qmh:∀d:Nat,d<10->(Nat.digitChar d).toNat=48+d:=by decide
theorem QuZ{n:Nat}(h:n<10):dig n=[48+n]:=by
 unfold dig
 rw[Nat.toDigits_of_lt_base h,Zq,Qmh n h];rfl
theorem QsM{n:Nat}(h:10<=n):dig n=dig (n / 10)++[48+n % 10]:=by
 have e:n=10*(n / 10)+n % 10:=by omega
 have:=Nat.toDigits_append_toDigits (b:=10) (n:=n / 10) (d:=n % 10) (by decide) (by omega) (by omega)
 rw[← e]at this
 unfold dig
 rw[← this,ZJ,Nat.toDigits_of_lt_base (show n % 10<10 by omega),Zq,Qmh _ (by omega)];rfl
theorem QsB{P:Nat->Prop}(h1:∀n,n<10->P n)(h2:∀n,10<=n->P (n / 10)->P n)(n:Nat):P n:=by
 induction n using Nat.strongRecOn with
 | ind n ih=>
  by_cases h:n<10
  ·exact h1 n h
  ·exact h2 n (by omega) (ih _ (by omega))
theorem Qtv(n:Nat):AllDigits (dig n):=by
 refine QsB (P:=λn=>AllDigits (dig n)) (λn h=>?_) (λn h ih=>?_) n
 ·rw[QuZ h];intro c hc;rw[Zl]at hc;omega
 ·rw[QsM h];intro c hc
  rcases Zr.mp hc with hc | hc
  ·exact ih c hc
  ·rw[Zl]at hc;omega
theorem Qsz{n k:Nat}(hk:0<k)(h:n<10^k):(dig n).length<=k:=by
 unfold dig
 rw[Zj,← Nat.toList_repr,String.length_toList]
 exact(Nat.length_repr_le_iff hk).mpr h
section
variable {fa fb:DE}{ρ:En}{ra rb r:R}
end
def Small(k:Nat)(ns:List Int):Prop:=ns.length<=63/\∀n∈ns,n.natAbs<10^k
theorem Small.up{ns:List Int}{k l:Nat}(h:Small k ns)(hk:k<=l):Small l ns:=⟨h.1,λn hn=>Zz (h.2 n hn) (ZaJ (by decide) hk)⟩
theorem Small.take{ns:List Int}{k i:Nat}(h:Small k ns):Small k (ns.take i):=⟨by have:=h.1;rw[ZW];omega,λn hn=>h.2 n (ZaY hn)⟩
end HS
namespace HS
open PySem PySem.Spec L2 PyProof.Rows
section
variable {P:Program}{w:World}{H H':Hp}{h0 h h' B:Heap}{fs:List Addr}
def Cov(H:Hp)(B:Heap):Prop:=∀b u,H b=some u->∃o,B.get? b=some o
end
noncomputable def CXR(P:Program)(w:World):CXT:=λouter H s E e s'=>∃ea C H' B a0,e=Value.ref ea/\s'.os=s.os/\AllBare s'.gens/\Un (frs outer) [] H H' s.heap s'.heap/\HOk P w H' s'.heap/\Heap.FlyingW B outer ea C a0 s'.heap∧
 Cov H' B/\(∀b o,s.heap.get? b=some o->b∉frs outer->∃o',B.get? b=some o')/\E C none H'
def Qif(X:Cx)(H0:Hp)(A0:List Addr)(hs:List (V×D×List Addr))(ρ:En)(C:Value)(ea:Addr)(s':Shared):Prop:=∃pins σ H F,Rel X.K H0 A0 hs ρ F σ H∧
 ((∃sg args,Inv X pins σ H sg/\Heap.MadeExcOf sg.heap s'.heap ea C args/\s'.os=sg.os/\s'.gens=sg.gens)∨
  ∃B a0,Inv X pins σ H s'/\Heap.FlyingW B X.stack ea C a0 s'.heap/\Cov H B/\(∀b o,X.s₀.heap.get? b=some o->b∉X.fs->∃o',B.get? b=some o')/\∀p∈X.pn++pins,∃o,B.get? p.1=some o)
end HS
namespace HS
open PySem PySem.Spec L2 PyProof.Rows
noncomputable abbrev DX:=En->Option (Str×En)
def ClsAt(K:PySem.W.Frag)(x:Str)(C:Addr):Prop:=PySem.W.nsIn K mainGlobals x=some (some (.ref C))
def cRz(X:Cx)(H0:Hp)(A0:List Addr)(fx:DX)(σ:L2.St)(H:Hp):Prop:=∃ρ hs F x ρ',Rel X.K H0 A0 hs ρ F σ H/\fx ρ=some (x,ρ')/\∀C ea s',ClsAt X.K x C->Qif X H0 A0 hs ρ' (.ref C) ea s'->X.xe (.ref ea) s'
noncomputable def tRz(X:Cx)(H0:Hp)(A0:List Addr)(fx:DX):TS:=λ_ σ H=>cRz X H0 A0 fx σ H
def Rz(X:Cx)(st:Stmt)(fx:DX):Prop:=∀H0 A0,PS X st (tRz X H0 A0 fx)
def RzS(X:Cx)(sts:List Stmt)(fx:DX):Prop:=∀H0 A0,PSs X sts (tRz X H0 A0 fx)
noncomputable def xNo:DX:=λ_=>none
noncomputable def QvO(x:Str)(fs:DA):DX:=λρ=>(fs ρ).bind λr=>if r.ds.length<=1 then some (x,ρ)else none
noncomputable def Qwh(n:Nat)(xd:List D->Option Str)(fs:DA):DX:=λρ=>(fs ρ).bind λr=>if r.ds.length=n then(xd r.ds).map λc=>(c,ρ)else none
noncomputable def xIf(g:DT)(fa fb:DX):DX:=λρ=>(g ρ).bind λb=>if b=true then fa ρ else fb ρ
noncomputable def Qxw(f:DS)(fx fr:DX):DX:=λρ=>match f ρ with
 | some (.nx ρ')=>fr ρ'
 | some _=>none
 | none=>fx ρ
noncomputable def Qm5(t:Tg)(fb:DS)(fx:DX):List D->DX
 | [],_=>none
 | d::ds,ρ=>(Qbm t d ρ).bind λρ1=>match fb ρ1 with
  | some (.nx ρ2)=>Qm5 t fb fx ds ρ2
  | some (.ct ρ2)=>Qm5 t fb fx ds ρ2
  | some _=>none
  | none=>fx ρ1
noncomputable def Qx2(fi:DI)(t:Tg)(fb:DS)(fx:DX):DX:=λρ=>(fi ρ).bind λir=>Qm5 t fb fx ir.items (QbH ir.M ρ)
noncomputable def spX(K:PySem.W.Frag)(n:Nat)(xd:List D->Option Str):Sp:=λvs H _ E=>∃ds L x,Rps K H ds vs L/\ds.length=n/\xd ds=some x/\∀C H',ClsAt K x C->Qw H H'->E (.ref C) none H'
section
variable {X:Cx}{st:Stmt}{sts:List Stmt}{e:Expr}{es:List Expr}{fs:DA}{f:DS}{fx fr fy:DX}{g:DT}{pos p np cpos:Pos}{x:Str}{k n:Nat}{fa:Addr}{fd:FuncData}{ps:List Str}{xd:List D->Option Str}
theorem Qif.hold(h:Qif X H0 A0 (ts++hs) ρ C ea s'):Qif X H0 A0 hs ρ C ea s':=by
 obtain⟨pins,σ,H,F,rel,q⟩:=h
 exact⟨pins,σ,H,F,rel.Qlu,q⟩
end
noncomputable abbrev Qx9:List Value:=[.type "ValueError",.type "Exception",.type "BaseException",.type "object"]
structure QxF (K:PySem.W.Frag) (x:Str):Prop where
 ex:∃C,ClsAt K x C/\PySem.W.excIn K C Qx9 "ValueError.__new__" =true
section
variable {X:Cx}{e:Expr}{fs:DA}{x:Str}{np cpos pos:Pos}
end
end HS
namespace HS
open PySem PySem.Spec L2 PyProof.Rows
structure ThX where
 Γx:List (Str×(Nat×(List D->Option Str)))
 cls:List Str
structure XOk (X:Cx) (ΘX:ThX):Prop where
 ex:X.ex=[]
 stk:X.stack=X.env::X.outer
 fr:X.env.frame=some X.env.locals
 fx:∀x r,look x ΘX.Γx=some r->∃k f fd ps,Qab X.prog X.w X.K X.mg X.base (CXR X.prog X.w) k f fd ps (spX X.K r.1 r.2)/\QZ k X.A/\X.mg x=some (.ref f)/\PySem.W.keepIn X.K (.ref f)=true/\Binds X.K fd ps []/\ps.length=r.1
 cl:∀x∈ΘX.cls,QxF X.K x
noncomputable def xc0(n:Nat)(Θ:Th)(ΘX:ThX)(e:Expr):DX:=match e with
 | .Call (.Name x _) (a::as) [] _=>if Θ.gl x then(match look x ΘX.Γx with
  | some r=>(match QaY n Θ (a::as)with | some fs=>Qwh r.1 r.2 fs | none=>xNo)
  | none=>xNo)else xNo
 | _=>xNo
noncomputable abbrev xcE:=xc0
noncomputable def xbE(n:Nat)(Θ:Th)(ΘX:ThX)(e:Expr):DX:=
 xcE n Θ ΘX e
noncomputable def QxZ:List Expr->Option Str
 | [e]=>Qaz e
 | _=>none
noncomputable def Qwg:Expr->Option (Str×Expr)
 | .Call f as kw _=>match kw with
  | _::_=>none
  | []=>match as with
   | []=>none
   | a::as=>match as with
    | _::_=>none
    | []=>(Qaz f).map λx=>(x,a)
 | _=>none
mutual
noncomputable def Qry(n:Nat)(Θ:Th)(ΘX:ThX)(st:Stmt):Option DX:=match n with
 | 0=>none
 | n+1=>match st with
  | .Raise v c _=>match c with
   | some _=>none
   | none=>v.bind λe=>(Qwg e).bind λq=>if Θ.gl q.1 && ΘX.cls.contains q.1 then(QaY n Θ [q.2]).map λfs=>QvO q.1 fs else none
  | .Expr e _=>some (xcE n Θ ΘX e)
  | .Return v _=>match v with
   | none=>some xNo
   | some e=>some (xbE n Θ ΘX e)
  | .Assign ts e _=>match QxZ ts with
   | none=>some xNo
   | some x=>(Θ.QcL x).map λ_=>xcE n Θ ΘX e
  | .If c a b _=>(QaS n Θ c).bind λg=>(QfG n Θ ΘX a).bind λfa=>(QfG n Θ ΘX b).map λfb=>xIf g fa fb
  | .For tg iter body els _=>match els with
   | _::_=>some xNo
   | []=>(QfZ Θ tg).bind λt=>(Qfa n Θ tg iter).bind λfi=>(Qaa n Θ body).bind λfb=>(QfG n Θ ΘX body).map λfx=>Qx2 fi t fb fx
  | _=>some xNo
noncomputable def QfG(n:Nat)(Θ:Th)(ΘX:ThX)(sts:List Stmt):Option DX:=match n with
  | 0=>none
  | n+1=>match sts with
    | []=>some xNo
    | st::r=>
     (Qvy n Θ st).bind λf=>(Qry n Θ ΘX st).bind λfx=>(QfG n Θ ΘX r).map λfr=>Qxw f fx fr
end
section
variable {X:Cx}{Θ:Th}{ΘX:ThX}
structure Qyp (n:Nat):Prop where
 X:∀X Θ ΘX st f,QI X Θ->XOk X ΘX->Qry n Θ ΘX st=some f->Rz X st f
 Xs:∀X Θ ΘX sts f,QI X Θ->XOk X ΘX->QfG n Θ ΘX sts=some f->RzS X sts f
end
section
variable (P:Program) (w:World) (K:PySem.W.Frag) (mg:Str->Option Value) (base:Heap)
def QfW(k:Nat)(x:Str)(r:Nat×(List D->Option Str)):Prop:=∃f fd ps,Qab P w K mg base (CXR P w) k f fd ps (spX K r.1 r.2)/\mg x=some (.ref f)/\PySem.W.keepIn K (.ref f)=true/\Binds K fd ps []/\ps.length=r.1
def QfO(k:Nat)(Γx:List (Str×(Nat×(List D->Option Str)))):Prop:=∀x r,look x Γx=some r->QfW P w K mg base k x r
end
section
variable {P:Program}{w:World}{K:PySem.W.Frag}{mg:Str->Option Value}{base:Heap}
theorem QfO.nil{k:Nat}:QfO P w K mg base k []:=λx r h=>by cases h
theorem QfW.mono{j k:Nat}{x:Str}{r:Nat×(List D->Option Str)}(h:QfW P w K mg base j x r)(hk:j<=k):QfW P w K mg base k x r:=by
 obtain⟨f,fd,ps,h1,h2⟩:=h
 exact⟨f,fd,ps,h1.mono hk,h2⟩
theorem QfO.mono{j k:Nat}{Γ:List (Str×(Nat×(List D->Option Str)))}(t:QfO P w K mg base j Γ)(hk:j<=k):QfO P w K mg base k Γ:=λx r e=>(t x r e).mono hk
theorem QfO.cons{k:Nat}{Γ:List (Str×(Nat×(List D->Option Str)))}{x:Str}{r:Nat×(List D->Option Str)}(t:QfO P w K mg base k Γ)(h:QfW P w K mg base (k+1) x r):QfO P w K mg base (k+1) ((x,r)::Γ):=λy q e=>by
 unfold look at e
 split at e
 ·rename_i z;cases e;subst z;exact h
 ·exact(t y q e).mono (ZaB _)
theorem QaG.up{j k:Nat}{Γ:List (Str×FnR)}(t:QaG P w K mg base j Γ)(hk:j<=k):QaG P w K mg base k Γ:=λx r e=>(t x r e).mono hk
end
end HS
namespace HS
open PySem PySem.Spec L2 PyProof.Rows
section
variable {X:Cx}{pins:List (Addr×Obj)}{σ:L2.St}{H:Hp}{s s':Shared}{B:Heap}
end
end HS
namespace HS
open PySem PySem.Spec L2 PyProof.Rows
noncomputable abbrev inH(X:Cx)(ea:Addr):Cx:={X with A:=X.A.mark (some (.ref ea)),calm:=false,xe:=λ_ _=>False}
section
variable {X:Cx}{pins:List (Addr×Obj)}{σ:L2.St}{H:Hp}{s s':Shared}{B:Heap}{ea C:Addr}
theorem _root_.L2.Inv.inH(I:Inv X pins σ H s):Inv (HS.inH X ea) pins σ H s:=
 ⟨⟨I.ok.mod,I.ok.kind,I.ok.glob,I.ok.blt,I.ok.above,I.ok.inj,I.ok.has,I.ok.cab,λz=>(by cases z),I.ok.frames,I.ok.stk,I.ok.exf,I.ok.bs,I.ok.bsz,I.ok.noex,I.ok.exfs,I.ok.QcP,I.ok.frf⟩,I.os,I.bare,I.base,I.loc,I.cell,I.free,I.freeC,I.pin,I.hok,I.len⟩
theorem _root_.L2.Inv.Qlz(ok:X.Ok)(I:Inv (HS.inH X ea) pins σ H s):Inv X pins σ H s:=⟨ok,I.os,I.bare,I.base,I.loc,I.cell,I.free,I.freeC,I.pin,I.hok,I.len⟩
def Qwq(K:PySem.W.Frag)(sub:Str->Str->Option Bool):Prop:=∀x y b,sub x y=some b->∃C c,ClsAt K x C/\PySem.W.KtsName K y c/\PySem.W.exmOne K (.ref C) c=some b
noncomputable abbrev Hd:=Str×Option Nat×DS
theorem _root_.L2.SP.Qlz{Dd:Ends}{f:Flow}(ok:X.Ok)(h:SP (HS.inH X ea) pins Dd f s):SP X pins Dd f s:=by
 cases f with
 | next=>obtain⟨σ',H',I,q⟩:=h;exact⟨σ',H',I.Qlz ok,q⟩
 | brk=>obtain⟨σ',H',I,q⟩:=h;exact⟨σ',H',I.Qlz ok,q⟩
 | cont=>obtain⟨σ',H',I,q⟩:=h;exact⟨σ',H',I.Qlz ok,q⟩
 | ret u=>obtain⟨v,σ',H',I,r,q⟩:=h;exact⟨v,σ',H',I.Qlz ok,r,q⟩
noncomputable abbrev Cx.chg(X:Cx)(xe:Value->Shared->Prop)(pn:List (Addr×Obj)):Cx:={X with xe:=xe,pn:=pn}
theorem _root_.L2.Inv.chg{xe:Value->Shared->Prop}(I:Inv X pins σ H s):Inv (Cx.chg X xe (X.pn++pins)) [] σ H s:=
 ⟨⟨I.ok.mod,I.ok.kind,I.ok.glob,I.ok.blt,I.ok.above,I.ok.inj,I.ok.has,I.ok.cab,I.ok.hd,I.ok.frames,I.ok.stk,I.ok.exf,I.ok.bs,I.ok.bsz,I.ok.noex,I.ok.exfs,I.ok.QcP,I.ok.frf⟩,I.os,I.bare,I.base,I.loc,I.cell,I.free,I.freeC,λp hp=>I.pin p (by simpa using hp),I.hok,I.len⟩
theorem _root_.L2.Inv.Qyk{xe:Value->Shared->Prop}{pins':List (Addr×Obj)}(ok:X.Ok)(I:Inv (Cx.chg X xe (X.pn++pins)) pins' σ H s):Inv X pins σ H s:=
 ⟨ok,I.os,I.bare,I.base,I.loc,I.cell,I.free,I.freeC,λp hp=>I.pin p (Zh _ hp),I.hok,I.len⟩
end
end HS
namespace HS
open PySem PySem.Spec L2 PyProof.Rows PySem.W
structure QtS (K:Frag) (C:Addr):Prop where
 cl:(clsIn K C).isSome=true
 ga:findIn K (.ref C) "__getattribute__" =some (some (.builtin "BaseException.__getattribute__"))
 hk:findIn K (.ref C) "__getattr__" =some none
 ca:findIn K (.ref C) "__class__" =some (some (.builtin "object.__class__"))
 mo:mroIn K C (.type "object")=some true
 be:subIn K (.ref C) (.type "BaseException")=some true
section
variable {prog:Program}{w:World}{A:Around}{E:Value->Shared->Prop}{s:Shared}{K:Frag}{a C:Addr}
end
end HS
namespace HS
open PySem PySem.Spec L2 PyProof.Rows
def QtB(K:PySem.W.Frag)(x y:Str)(b:Bool):Prop:=∃C c,ClsAt K x C/\PySem.W.KtsName K y c/\PySem.W.exmOne K (.ref C) c=some b/\PySem.W.kitOne K (.ref C) c=some b/\QtS K C
def Qh1(K:PySem.W.Frag)(sub:Str->Str->Option Bool):Prop:=∀x y b,sub x y=some b->QtB K x y b
theorem Qh1.ok{K:PySem.W.Frag}{sub:Str->Str->Option Bool}(h:Qh1 K sub):Qwq K sub:=λx y b e=>by
 obtain⟨C,c,h1,h2,h3,_⟩:=h x y b e
 exact⟨C,c,h1,h2,h3⟩
noncomputable def anyS(sub:Str->Str->Option Bool)(x:Str):List Str->Option Bool
 | []=>some false
 | y::r=>(sub x y).bind λb=>(anyS sub x r).map λd=>b || d
noncomputable def Qxy(sub:Str->Str->Option Bool)(ys:List Str)(fa:DE):DE:=λρ=>(fa ρ).bind λr=>match r.d with
 | .exc x=>(anyS sub x ys).map λb=>⟨.bl b,true,[]⟩
 | _=>none
section
variable {X:Cx}{a:Expr}{fa:DE}{p p2 pos:Pos}{sub:Str->Str->Option Bool}
end
end HS
namespace HS
open PySem PySem.Spec L2 PyProof.Rows
structure Qcn (k:Nat) (A:Around):Prop where
 dp:A.depth+3*k+5<recursionLimit
 un:A.units+16*k+200<cLine
theorem Qcn.mono{j k:Nat}{A:Around}(r:Qcn k A)(h:j<=k):Qcn j A:=⟨by have:=r.dp;omega,by have:=r.un;omega⟩
theorem Qcn.deeper{k:Nat}{A:Around}(r:Qcn (k+1) A)(env:Env):Qcn k (A.deeper env):=
 ⟨by have:=r.dp;show A.depth+1+3*k+5<_;omega,by have:=r.un;show A.units+3+16*k+200<_;omega⟩
theorem Qcn.units{k:Nat}{A:Around}(r:Qcn k A):A.units+64<cLine:=by have:=r.un;omega
theorem Qcn.mark{k:Nat}{A:Around}{v:Option Value}(r:Qcn k A):Qcn k (A.mark v):=⟨r.dp,r.un⟩
structure FnH (P:Program) (w:World) (K:PySem.W.Frag) (mg:Str->Option Value) (base:Heap) (k:Nat) (f:Addr) (fd:FuncData) (ps:List Str) (sp:Sp):Prop where
 len:∀vs H Q E,sp vs H Q E->vs.length=ps.length
 run:∀(A:Around) (outer:List Env) (s:Shared) (H:Hp) (args:Args) (us:List Value) (vs:List V) (Q:VK) (E:XK),Qcn k A->QdY P w K mg base A outer s H->BindsTo s fd args (ps.zip us)->Qt vs us->sp vs H Q E→
  codeAny (model P w) A (.call (.ref f) args) (CR CX0 outer P w H s Q E) s
section
variable {P:Program}{w:World}{K:PySem.W.Frag}{mg:Str->Option Value}{base:Heap}
theorem FnH.mono{j k:Nat}{f:Addr}{fd:FuncData}{ps:List Str}{sp:Sp}(F:FnH P w K mg base j f fd ps sp)(h:j<=k):FnH P w K mg base k f fd ps sp:=⟨F.len,λA outer s H args us vs Q E hr=>F.run A outer s H args us vs Q E (hr.mono h)⟩
end
section
variable {X:Cx}{e:Expr}{es:List Expr}{fs:DA}{pos p:Pos}{x:Str}{n k:Nat}{f:Addr}{fd:FuncData}{ps:List Str}{den:Den}
end
def Qll(X:Cx)(hΓ:List (Str×FnR)):Prop:=∀x r,look x hΓ=some r->∃k f fd ps,FnH X.prog X.w X.K X.mg X.base k f fd ps (spV X.K r.n r.den)/\Qcn k X.A/\X.mg x=some (.ref f)/\PySem.W.keepIn X.K (.ref f)=true/\Binds X.K fd ps []
theorem Qll.inH{X:Cx}{hΓ:List (Str×FnR)}{ea:Addr}(h:Qll X hΓ):Qll (HS.inH X ea) hΓ:=λx r e=>by
 obtain⟨k,f,fd,ps,h1,h2,h3⟩:=h x r e
 exact⟨k,f,fd,ps,h1,h2.mark,h3⟩
section
variable (P:Program) (w:World) (K:PySem.W.Frag) (mg:Str->Option Value) (base:Heap)
def QfI(k:Nat)(x:Str)(r:FnR):Prop:=∃f fd ps,FnH P w K mg base k f fd ps (spV K r.n r.den)/\mg x=some (.ref f)/\PySem.W.keepIn K (.ref f)=true/\Binds K fd ps []
def QfT(k:Nat)(Γ:List (Str×FnR)):Prop:=∀x r,look x Γ=some r->QfI P w K mg base k x r
end
section
variable {P:Program}{w:World}{K:PySem.W.Frag}{mg:Str->Option Value}{base:Heap}
theorem QfT.nil{k:Nat}:QfT P w K mg base k []:=λx r h=>by cases h
theorem QfI.mono{j k:Nat}{x:Str}{r:FnR}(h:QfI P w K mg base j x r)(hk:j<=k):QfI P w K mg base k x r:=by
 obtain⟨f,fd,ps,h1,h2⟩:=h
 exact⟨f,fd,ps,h1.mono hk,h2⟩
theorem QfT.mono{j k:Nat}{Γ:List (Str×FnR)}(t:QfT P w K mg base j Γ)(hk:j<=k):QfT P w K mg base k Γ:=λx r e=>(t x r e).mono hk
theorem QfT.cons{k:Nat}{Γ:List (Str×FnR)}{x:Str}{r:FnR}(t:QfT P w K mg base k Γ)(h:QfI P w K mg base (k+1) x r):QfT P w K mg base (k+1) ((x,r)::Γ):=λy q e=>by
 unfold look at e
 split at e
 ·rename_i z;cases e;subst z;exact h
 ·exact(t y q e).mono (ZaB _)
end
end HS
namespace HS
open PySem PySem.Spec L2 PyProof.Rows
noncomputable def QxR:Const->Option DE
 | .bool b=>some (dC (.bl b))
 | .str x=>some (dC (.str x))
 | .int i=>some (dC (.int i))
 | _=>none
noncomputable def eqH:CmpOp->Option (D->D->Option D)
 | .Eq=>some gEq
 | .NotEq=>some gNe
 | _=>none
noncomputable def Qx6:List Expr->Option (Expr×Expr)
 | [a,y]=>some (a,y)
 | _=>none
noncomputable def QxJ(Θ:Th):Expr->Option (List Str)
 | .Name y _=>if Θ.gl y=true then some [y]else none
 | .Tuple es _ _=>(es.mapM Qaz).bind λys=>if ys.all Θ.gl=true/\ys≠[]/\ys.length<=60 then some ys else none
 | _=>none
mutual
noncomputable def Qcq(n:Nat)(Θ:Th)(sub:Str->Str->Option Bool)(hΓ:List (Str×FnR))(e:Expr):Option DE:=match n with
 | 0=>none
 | n+1=>match e with
  | .Name x _=>(Θ.slot x).map Qa
  | .Constant v _ _=>QxR v
  | .UnaryOp o a _=>match o with
   | .Not=>(Qcq n Θ sub hΓ a).map Qq5
   | _=>none
  | .BoolOp o es p=>match es with
   | []=>none
   | a::r=>match r with
    | []=>Qcq n Θ sub hΓ a
    | b::r=>match o with
     | .And=>(Qcq n Θ sub hΓ a).bind λfa=>(Qcq n Θ sub hΓ (.BoolOp .And (b::r) p)).map λfb=>Qf1 fa fb
     | .Or=>(Qcq n Θ sub hΓ a).bind λfa=>(Qcq n Θ sub hΓ (.BoolOp .Or (b::r) p)).map λfb=>dOr fa fb
  | .Compare a os bs _=>match os with
   | []=>none
   | o::os=>match os with
    | _::_=>none
    | []=>match bs with
     | []=>none
     | b::bs=>match bs with
      | _::_=>none
      | []=>(eqH o).bind λg=>(Qcq n Θ sub hΓ a).bind λfa=>(Qcq n Θ sub hΓ b).map λfb=>dOp g fa fb
  | .BinOp a o b _=>match o with
   | .Add=>(Qcq n Θ sub hΓ a).bind λfa=>(Qcq n Θ sub hΓ b).map λfb=>QD fa fb
   | _=>none
  | .Call f as kw _=>match kw with
   | _::_=>none
   | []=>(Qaz f).bind λx=>if Θ.gl x=true then if x= "isinstance" then(Qx6 as).bind λp=>(QxJ Θ p.2).bind λys=>(Qcq n Θ sub hΓ p.1).map λfa=>Qxy sub ys fa
    else match as with
     | []=>none
     | a::as=>(look x hΓ).bind λr=>(QhL n Θ sub hΓ (a::as)).map λfs=>QG r.n r.den [] fs
    else none
  | .List es _=>(QhL n Θ sub hΓ es).map Q4
  | _=>none
noncomputable def QhL(n:Nat)(Θ:Th)(sub:Str->Str->Option Bool)(hΓ:List (Str×FnR))(es:List Expr):Option DA:=match n with
 | 0=>none
 | n+1=>match es with
  | []=>some Qf
  | e::es=>(Qcq n Θ sub hΓ e).bind λfa=>(QhL n Θ sub hΓ es).map λfs=>Qc fa fs
end
structure Qyn (n:Nat):Prop where
 E:∀X Θ sub hΓ e f,CtxB X Θ->Qh1 X.K sub->Qll X hΓ->Qcq n Θ sub hΓ e=some f->SE X e f
 A:∀X Θ sub hΓ es f,CtxB X Θ->Qh1 X.K sub->Qll X hΓ->QhL n Θ sub hΓ es=some f->SA X es f
section
variable {P:Program}{w:World}{K:PySem.W.Frag}{mg:Str->Option Value}{base:Heap}
end
end HS
namespace HS
open PySem PySem.Spec L2 PyProof.Rows
section
variable {K:PySem.W.Frag}{x y:Str}{C C':Addr}{v:Bool}
def XK1(K:PySem.W.Frag)(x:Str):Prop:=∃C,ClsAt K x C/\QtS K C
def QrJ(K:PySem.W.Frag)(x y:Str)(b:Bool):Prop:=∃C c,ClsAt K x C/\PySem.W.KtsName K y c/\PySem.W.exmOne K (.ref C) c=some b/\PySem.W.kitOne K (.ref C) c=some b
noncomputable def Qil(K:PySem.W.Frag)(x:Str):List (Str×Bool)->Prop
 | []=>True
 | q::r=>QrJ K x q.1 q.2/\Qil K x r
noncomputable def SubL(K:PySem.W.Frag):List (Str×List (Str×Bool))->Prop
 | []=>True
 | q::r=>(XK1 K q.1/\Qil K q.1 q.2)/\SubL K r
theorem Qil.mem:∀{r:List (Str×Bool)},Qil K x r->∀q∈r,QrJ K x q.1 q.2
 | [],_,q,h=>by simp at h
 | p::r,h,q,hq=>by
  rcases Zo.mp hq with rfl | hq
  ·exact h.1
  ·exact Qil.mem h.2 q hq
theorem SubL.mem:∀{t:List (Str×List (Str×Bool))},SubL K t->∀q∈t,XK1 K q.1/\Qil K q.1 q.2
 | [],_,q,h=>by simp at h
 | p::r,h,q,hq=>by
  rcases Zo.mp hq with rfl | hq
  ·exact h.1
  ·exact SubL.mem h.2 q hq
end
end HS
namespace HS
open PySem PySem.Spec L2
end HS
namespace HS
open PySem L2
theorem any_cons{sub:Str->Str->Option Bool}{x y:Str}{ys:List Str}{b c:Bool}(h:sub x y=some b)(t:anyS sub x ys=some c):anyS sub x (y::ys)=some (b || c):=by
 unfold anyS
 rw[h,Za,t];rfl
theorem QfM{t:Int}{v:Nat}:∀(S:List (Int×Int)) (F:Nat->Option Int),S.foldl (QcM t) F v=if F v=none/\∃s∈S,s.1.toNat=v/\F s.2.toNat=some t then some (t+1)else F v
 | [],F=>by simp
 | s::S,F=>by
  rw[ZbT,QfM S]
  have key:∀w,(QcM t F s w=some t↔F w=some t):=λw=>by
   unfold QcM
   split
   ·rename_i h
    unfold upO
    split
    ·rename_i e;subst e;rw[h.1];simp;omega
    ·exact Iff.rfl
   ·exact Iff.rfl
  by_cases c:F s.1.toNat=none/\F s.2.toNat=some t
  ·by_cases hv:v=s.1.toNat
   ·have e1:QcM t F s v=some (t+1):=by unfold QcM upO;rw[if_pos c,if_pos hv]
    rw[if_neg (by rw[e1];simp),e1,if_pos ⟨by rw[hv];exact c.1,s,Zf,hv.symm,c.2⟩]
   ·have e1:QcM t F s v=F v:=by unfold QcM upO;rw[if_pos c,if_neg hv]
    rw[e1]
    simp only[key]
    by_cases h:F v=none/\∃s'∈S,s'.1.toNat=v/\F s'.2.toNat=some t
    ·obtain⟨h1,s',h2,h3⟩:=h
     rw[if_pos ⟨h1,s',h2,h3⟩,if_pos ⟨h1,s',Zb _ h2,h3⟩]
    ·rw[if_neg h,if_neg]
     rintro⟨h1,s',h2,h3,h4⟩
     rcases Zo.mp h2 with rfl | h2
     ·exact hv h3.symm
     ·exact h ⟨h1,s',h2,h3,h4⟩
  ·have e1:QcM t F s=F:=by unfold QcM;rw[if_neg c]
   rw[e1]
   by_cases h:F v=none/\∃s'∈S,s'.1.toNat=v/\F s'.2.toNat=some t
   ·obtain⟨h1,s',h2,h3⟩:=h
    rw[if_pos ⟨h1,s',h2,h3⟩,if_pos ⟨h1,s',Zb _ h2,h3⟩]
   ·rw[if_neg h,if_neg]
    rintro⟨h1,s',h2,h3,h4⟩
    rcases Zo.mp h2 with rfl | h2
    ·exact c ⟨h3▸h1,h4⟩
    ·exact h ⟨h1,s',h2,h3,h4⟩
structure Qxl (m:Nat) (S:List (Int×Int)) (t:Nat) (F:Nat->Option Int):Prop where
 pit:F m=some 0
 val:∀v d,F v=some d->0<=d/\d<=t/\v<=m/\(v≠m->1<=d)
 pred:∀v d,v≠m->F v=some d->∃s∈S,s.1.toNat=v/\F s.2.toNat=some (d-1)
 low:∀v d,v≠m->F v=some d->∀s∈S,s.1.toNat=v->∀e,F s.2.toNat=some e->d-1<=e
 non:∀v,F v=none->∀s∈S,s.1.toNat=v->∀e,F s.2.toNat=some e->e=t
theorem Qvk{m:Nat}{S:List (Int×Int)}(hS:∀s∈S,Good m s):∀t,Qxl m S t (Qbv S (QbO m) t)
 | 0=>by
  have z:∀v d,QbO m v=some d->v=m/\d=0:=λv d h=>by
   unfold QbO at h
   split at h
   ·cases h;exact⟨by assumption,rfl⟩
   ·cases h
  refine⟨by simp[Qbv,QbO],λv d h=>?_,λv d hv h=>?_,λv d hv h=>?_,λv h s hs e1 e h2=>?_⟩
  ·obtain⟨rfl,rfl⟩:=z v d h;exact⟨by omega,by omega,by omega,λh=>absurd rfl h⟩
  ·exact absurd (z v d h).1 hv
  ·exact absurd (z v d h).1 hv
  ·obtain⟨_,rfl⟩:=z _ _ h2;rfl
 | t+1=>by
  have I:=Qvk hS t
  generalize hF:Qbv S (QbO m) t=F at I
  have nx:∀v,Qbv S (QbO m) (t+1) v=if F v=none/\∃s∈S,s.1.toNat=v/\F s.2.toNat=some (t:Int)then some ((t:Int)+1)else F v:=λv=>by
   show S.foldl (QcM t) (Qbv S (QbO m) t) v=_
   rw[QfM,hF]
  generalize Qbv S (QbO m) (t+1)=F' at nx
  have old:∀v d,F v=some d->F' v=some d:=λv d h=>by rw[nx,if_neg (by rw[h];simp)];exact h
  have new:∀v d,F' v=some d->F v=some d∨(F v=none/\d=t+1/\∃s∈S,s.1.toNat=v/\F s.2.toNat=some (t:Int)):=λv d h=>by
   rw[nx]at h
   split at h
   ·rename_i c;cases h;exact .inr ⟨c.1,rfl,c.2⟩
   ·exact .inl h
  refine⟨old _ _ I.pit,λv d h=>?_,λv d hv h=>?_,λv d hv h s hs e1 e h2=>?_,λv h s hs e1 e h2=>?_⟩
  ·rcases new v d h with h | ⟨h,rfl,s,hs,e1,_⟩
   ·obtain⟨a,b,c,d⟩:=I.val v d h;exact⟨a,by omega,c,d⟩
   ·have g:=hS s hs
    exact⟨by omega,by omega,by have:=g.2.2.1;have:=g.1;omega,λ_=>by omega⟩
  ·rcases new v d h with h | ⟨h,rfl,s,hs,e1,e2⟩
   ·obtain⟨s,hs,e1,e2⟩:=I.pred v d hv h
    exact⟨s,hs,e1,old _ _ e2⟩
   ·exact⟨s,hs,e1,by rw[old _ _ e2];congr 1;omega⟩
  ·rcases new v d h with h | ⟨hq,rfl,_⟩
   ·rcases new _ e h2 with h2 | ⟨_,rfl,_⟩
    ·exact I.low v d hv h s hs e1 e h2
    ·have:=(I.val v d h).2.1;omega
   ·rcases new _ e h2 with h2 | ⟨_,rfl,_⟩
    ·have:=I.non v hq s hs e1 e h2;omega
    ·omega
  ·rw[nx]at h
   split at h
   ·cases h
   ·rename_i c
    rcases new _ e h2 with h2 | ⟨_,rfl,_⟩
    ·exact absurd ⟨h,s,hs,e1,by rw[h2,I.non v h s hs e1 e h2]⟩ c
    ·omega
theorem Qhp:∀(m:Nat) (l:List Nat),l.Nodup->(∀x∈l,x<m)->l.length<=m
 | 0,l,_,h=>by cases l with
  | nil=>simp
  | cons x l=>exact absurd (h x Zf) (by omega)
 | m+1,l,nd,h=>by
  by_cases hm:m∈l
  ·have:=Qhp m (l.erase m) (nd.erase m) λx hx=>by
    have h1:=h x (List.mem_of_mem_erase hx)
    have h2:x≠m:=λz=>by subst z;exact(List.Nodup.not_mem_erase nd) hx
    omega
   rw[List.length_erase_of_mem hm]at this
   omega
  ·have:=Qhp m l nd λx hx=>by
    have h1:=h x hx
    have h2:x≠m:=λz=>hm (z▸hx)
    omega
   omega
theorem Qra{m:Nat}{S:List (Int×Int)}(m0:0<m)(hS:∀s∈S,Good m s){v:Nat}(hv:v<m)(hn:Qbv S (QbO m) m v=none):∀s∈S,s.1.toNat=v->Qbv S (QbO m) m s.2.toNat=none:=λs hs e1=>by
 have I:=Qvk hS m
 generalize Qbv S (QbO m) m=F at I hn
 cases h:F s.2.toNat with
 | none=>rfl
 | some e=>
  exfalso
  have he:=I.non v hn s hs e1 e h
  have chain:∀k:Nat,k<=m->∃w,F w=some ((m:Int)-k):=λk=>by
   induction k with
   | zero=>intro _;exact⟨_,by rw[h,he];simp⟩
   | succ k ih=>
    intro hk
    obtain⟨w,hw⟩:=ih (by omega)
    have hwm:w≠m:=λz=>by rw[z,I.pit]at hw;have:=Option.some.inj hw;omega
    obtain⟨s',_,_,h2⟩:=I.pred w _ hwm hw
    exact⟨_,by rw[h2];congr 1;omega⟩
  have pick:∀k:Nat,∃w,k<m->F w=some ((k:Int)+1):=λk=>by
   by_cases hk:k<m
   ·obtain⟨w,hw⟩:=chain (m-(k+1)) (by omega)
    exact⟨w,λ_=>by rw[hw];congr 1;omega⟩
   ·exact⟨0,λz=>absurd z hk⟩
  obtain⟨f,this⟩:=ZbK pick
  have hl:=Qhp m (v::(List.range m).map f) ?_ ?_
  ·simp at hl;omega
  ·refine ZS.mpr ⟨λhm=>?_,?_⟩
   ·obtain⟨k,hk,ek⟩:=ZQ.mp hm
    have:=this k (ZG.mp hk)
    rw[ek,hn]at this;cases this
   ·rw[ZaZ,ZbB]
    refine List.Pairwise.imp_of_mem ?_ Zbm
    intro a b ha hb hab e
    have h1:=this a (ZG.mp ha)
    have h2:=this b (ZG.mp hb)
    rw[e,h2]at h1
    have:=Option.some.inj h1
    omega
  ·intro x hx
   rcases Zo.mp hx with rfl | hx
   ·exact hv
   ·obtain⟨k,hk,rfl⟩:=ZQ.mp hx
    have h1:=this k (ZG.mp hk)
    have h2:=I.val _ _ h1
    have h3:f k≠m:=λz=>by rw[z,I.pit]at h1;have:=Option.some.inj h1;omega
    omega
structure Qyl (m:Nat) (S:List (Int×Int)) (F:Nat->Option Int):Prop where
 pit:F m=some 0
 non:∀v,v<m->F v=none->∀s∈S,s.1.toNat=v->F s.2.toNat=none
 pred:∀v d,v<m->F v=some d->∃s∈S,s.1.toNat=v/\F s.2.toNat=some (d-1)
 low:∀v d,v<m->F v=some d->∀s∈S,s.1.toNat=v->∀e,F s.2.toNat=some e->d-1<=e
noncomputable def QmS(m:Int)(s:Int×Int):Bool:=decide (0<=s.1) && decide (0<=s.2) && decide (s.1<=m) && decide (s.2<=m) && !decide (s.1=s.2)
theorem QqZ{m:Nat}{s:Int×Int}(h:Good m s):QmS m s=true:=by
 unfold QmS
 simp only[Zg,decide_eq_true_eq,ZY,decide_eq_false_iff_not]
 exact⟨⟨⟨⟨h.1,h.2.1⟩,h.2.2.1⟩,h.2.2.2.1⟩,h.2.2.2.2⟩
structure QtL (m:Int) (R L:List (Int×Int)):Prop where
 lo:1<=m
 hi:m<=8
 QxT:∀s∈R++L,QmS m s=true
 pit:∀s∈L,s.1≠m
theorem QoN{m:Nat}{S:List (Int×Int)}(m0:0<m)(hS:∀s∈S,Good m s)(hE:QiF m S):∀p,p<m->Qbv S (QbO m) m p≠none:=λp hp hn=>by
 have pit:Qbv S (QbO m) m m≠none:=λh=>by
  have key:∀t,Qbv S (QbO m) t m=some 0:=λt=>by
   induction t with
   | zero=>show QbO m m=some 0;unfold QbO;rw[if_pos rfl]
   | succ t ih=>
    show S.foldl (QcM t) (Qbv S (QbO m) t) m=some 0
    rw[QfM,if_neg (λ⟨h1,_⟩=>by rw[ih]at h1;cases h1),ih]
  rw[key m]at h;cases h
 obtain⟨s,hs,h1,h2,h3⟩:=hE (λv=>Qbv S (QbO m) m v=none) ⟨p,hp,hn⟩
 have g:=hS s hs
 have e:=Qra m0 hS (v:=s.1.toNat) (by have:=g.1;omega) h2 s hs rfl
 rcases h3 with z | z
 ·rw[z,ZO]at e
  exact pit e
 ·exact z e
structure QtT (m:Nat) (R L:List (Int×Int)):Prop where
 few:R.length+L.length<=40
 lead:∀p,p<m->Qbv (Qk R L) (QbO m) m p≠none
noncomputable def spr(f:Nat->Int):Nat->Int
 | 0=>1
 | k+1=>spr f k*f k
def Qqm(m:Nat)(R L:List (Int×Int)):Prop:=L=[]∨spr (Qq R L) m<=300
structure Qv4 (m:Int) (R L:List (Int×Int)):Prop where
 num:QtL m R L
 way:QtT m.toNat R L
 sml:Qqm m.toNat R L
noncomputable def Qca(i:Nat)(w:Int×Int×Bool):Int:=isI i w.1+if w.2.2=true then 0 else isI i w.2.1
noncomputable def Q5(W:List (Int×Int×Bool))(i:Nat):Int:=(W.map (Qca i)).sum
theorem Qfq(W:List (Int×Int×Bool))(w:Int×Int×Bool)(i:Nat):Q5 (W++[w]) i=Q5 W i+Qca i w:=by
 unfold Q5
 rw[ZJ,Zab]
 simp
theorem Qfi(W:List (Int×Int×Bool))(w:Int×Int×Bool)(i:Nat):Q5 (w::W) i=Qca i w+Q5 W i:=by
 unfold Q5
 rw[Zq,Zae]
theorem Qer(i:Nat):∀W:List (Int×Int×Bool),Qq (Qat W) (Qac W) i=Q5 W i
 | []=>rfl
 | w::W=>by
  have ih:=Qer i W
  rw[Qfi,← ih]
  unfold Qq Qat Qac Qca
  obtain⟨a,b,l⟩:=w
  cases l with
  | true=>
   simp only[ZaM,Bool.not_true,Bool.false_eq_true,if_false,if_true,Zq,Zae,QhE]
   omega
  | false=>
   simp only[ZaM,Bool.not_false,Bool.false_eq_true,if_false,if_true,Zq,Zae,Qc5]
   have e:isI i (if b<a then b else a)+isI i (if b>a then b else a)=isI i a+isI i b:=by
    by_cases h1:b<a
    ·rw[if_pos h1,if_neg (by omega)];omega
    ·rw[if_neg h1]
     by_cases h2:b>a
     ·rw[if_pos h2]
     ·have:a=b:=by omega
      rw[if_neg h2,this]
   omega
theorem Qom(i:Nat)(a:Int):0<=isI i a/\isI i a<=1:=by unfold isI;split<;>omega
theorem QqT(i:Nat)(w:Int×Int×Bool):0<=Qca i w/\Qca i w<=2:=by
 have h1:=Qom i w.1
 have h2:=Qom i w.2.1
 unfold Qca
 split<;>omega
theorem Qji(i:Nat):∀W:List (Int×Int×Bool),0<=Q5 W i/\Q5 W i<=2*(W.length:Int)
 | []=>by unfold Q5;simp
 | w::W=>by
  have ih:=Qji i W
  have h:=QqT i w
  rw[Qfi,Zk]
  omega
theorem QkN{f:Nat->Int}{a:Int}(h:0<=a)(k:Nat):up f a.toNat (f a.toNat+1) k=f k+isI k a:=by
 unfold up isI
 by_cases e:k=a.toNat
 ·rw[if_pos e,if_pos (by omega),e]
 ·rw[if_neg e,if_neg (by omega)];omega
theorem QcY{f g:Nat->Int}:∀{n:Nat},(∀i,i<n->f i=g i)->spr f n=spr g n
 | 0,_=>rfl
 | n+1,h=>by
  unfold spr
  rw[QcY λi hi=>h i (by omega),h n (by omega)]
theorem Qjp(i:Nat):∀W:List (Int×Int×Bool),Q5 W.reverse i=Q5 W i
 | []=>rfl
 | w::W=>by rw[ZaX,Qfq,Qjp i W,Qfi,Int.add_comm]
structure Qgc (m:Nat) (W:List (Int×Int×Bool)):Prop where
 good:∀w∈W,GoodW m w
 few:W.length<=40
 esc:Esc m W
 small:Qac W=[]∨spr (Q5 W) m<=300
theorem Qls{W:List (Int×Int×Bool)}(h:∀w∈W,w.2.2=false):Qac W=[]:=by
 unfold Qac
 rw[List.filter_eq_nil_iff.mpr λw hw=>by rw[h w hw];exact ZZ];rfl
theorem Qgc.rev{m:Nat}{W:List (Int×Int×Bool)}(h:Qgc m W):Qgc m W.reverse where
 good:=λw hw=>h.good w (ZbL.mp hw)
 few:=by rw[List.length_reverse];exact h.few
 esc:=h.esc.mono λw hw=>ZbL.mpr hw
 small:=by
  rcases h.small with z | z
  ·left
   refine Qls λw hw=>?_
   cases e:w.2.2 with
   | false=>rfl
   | true=>
    have:QhE w∈Qac W:=ZQ.mpr ⟨w,Zax.mpr ⟨ZbL.mp hw,e⟩,rfl⟩
    rw[z]at this
    simp at this
  ·right
   rw[QcY λi _=>Qjp i W]
   exact z
theorem Qgc.ok{m:Nat}{W:List (Int×Int×Bool)}(m0:0<m)(m8:m<=8)(h:Qgc m W):Qv4 m (Qat W) (Qac W) where
 num:=⟨by omega,by omega,λs hs=>QqZ (by
  rcases Zr.mp hs with z | z
  ·exact(Qc8 h.good s z).1
  ·exact(Qcz h.good s z).1),λs hs=>by have:=(Qcz h.good s hs).2;omega⟩
 way:=by
  rw[ZO]
  refine⟨?_,QoN m0 (QaT (λs hs=>(Qc8 h.good s hs).1) λs hs=>(Qcz h.good s hs).1) ?_⟩
  ·unfold Qat Qac
   rw[Zj,Zj]
   have:=h.few
   have e:∀W:List (Int×Int×Bool),(W.filter λw=> !w.2.2).length+(W.filter λw=>w.2.2).length=W.length:=λW=>by
    induction W with
    | nil=>rfl
    | cons w W ih=>
     rw[ZaM,ZaM]
     cases w.2.2<;>simp<;>omega
   rw[e W];exact this
  ·exact QfR h.esc
 sml:=by
  rw[ZO]
  rcases h.small with z | z
  ·exact .inl z
  ·exact .inr (by rw[QcY λi _=>Qer i W];exact z)
end HS
namespace HS
open PySem PySem.Spec L2 PyProof.Rows PySem.NumText
theorem QsW{c:Nat}{l:List Nat}(h:c∉l):Txt.partition (tx l) (tx [c])=(tx l,tx [],tx []):=by
 have f:=StrLaws.found_one (tx l) c
 have hm:¬c∈(tx l).cps.toList:=h
 rw[decide_eq_false hm]at f
 unfold Txt.partition
 have e:Builtin.Str.occurrences (tx l) (tx [c]) 0 (tx l).length 1=[]:=by
  have:Builtin.Str.occurrences (tx l) ⟨#[c]⟩ 0 (tx l).length 1=[]:=by
   simpa using f
  exact this
 rw[e];rfl
theorem Qs7{c:Nat}{a b:List Nat}(h:c∉a):Txt.partition (tx (a++c::b)) (tx [c])=(tx a,tx [c],tx b):=by
 have hat:∀i,StrLaws.At (tx (a++c::b)) (tx [c]) (tx (a++c::b)).length i↔(a++c::b)[i]? =some c:=λi=>StrLaws.subAt_one (tx (a++c::b)) c i
 unfold Txt.partition
 rcases StrLaws.occ_head (tx (a++c::b)) (tx [c]) 1 (Zm _)with⟨_,hn⟩ | ⟨i,r,e,hi,hk⟩
 ·exact absurd ((hat a.length).mpr (by simp)) (hn _)
 ·have h1:i=a.length:=by
   rcases Nat.lt_trichotomy i a.length with hl | hl | hl
   ·have:=(hat i).mp hi
    rw[ZT hl]at this
    exact absurd (ZC this) h
   ·exact hl
   ·exact absurd ((hat a.length).mpr (by simp)) (hk _ hl)
  rw[e,h1]
  show(Builtin.Str.strSub _ _ _,_,Builtin.Str.strSub _ _ _)=_
  have hl:(tx (a++c::b)).length=a.length+(b.length+1):=by rw[Qog,QwX];simp
  refine Prod.ext (Qoa ?_) (Prod.ext rfl (Qoa ?_))
  ·show(Builtin.Str.strSub _ _ _).cps.toList=_
   rw[StrLaws.strSub_toList]
   show((a++c::b).drop 0).take (a.length-0)=a
   simp
  ·show(Builtin.Str.strSub _ _ _).cps.toList=_
   rw[StrLaws.strSub_toList,hl]
   show((a++c::b).drop (a.length+1)).take _=b
   have:(a++c::b).drop (a.length+1)=b:=by rw[List.drop_append];simp
   rw[this,Zai]
   have e1:(tx [c]).length=1:=rfl
   omega
structure Wd where
 a:Nat
 b:Nat
 lane:Bool
 k:Nat
 star:Bool
noncomputable def Wd.sign(x:Wd):Nat:=if x.lane=true then 62 else 45
noncomputable def Wd.l(x:Wd):List Nat:=[48+x.a,x.sign,48+x.b]++if x.star=true then 42::dig x.k else []
noncomputable def Wd.t(x:Wd):Str:=tx x.l
structure Wd.Ok (x:Wd):Prop where
 a:x.a<10
 b:x.b<10
 k:if x.star=true then 2<=x.k/\x.k<=40 else x.k=1
noncomputable def Wd.p(x:Wd):Int×Int:=(x.a,x.b)
theorem Wd.low{x:Wd}(h:x.Ok):∀c∈x.l,c<200/\c≠32:=λc hc=>by
 have ha:=h.a
 have hb:=h.b
 unfold Wd.l at hc
 rcases Zr.mp hc with hc | hc
 ·simp only[Zo,ZbI,or_false]at hc
  unfold Wd.sign at hc
  split at hc<;>omega
 ·split at hc
  ·rcases Zo.mp hc with hc | hc
   ·omega
   ·have:=Qtv _ _ hc;omega
  ·simp at hc
theorem Wd.len{x:Wd}(h:x.Ok):x.t.length<=100:=by
 have hk:=h.k
 rw[Qog]
 show x.l.length<=100
 unfold Wd.l
 rw[Zp]
 split
 ·rename_i hs
  rw[if_pos hs]at hk
  have:=Qsz (n:=x.k) (k:=2) (by decide) (by omega)
  simp;omega
 ·simp
theorem Wd.part{x:Wd}(h:x.Ok):Txt.partition x.t (tx [42])=(tx [48+x.a,x.sign,48+x.b],if x.star=true then(tx [42],tx (dig x.k))else(tx [],tx [])):=by
 have ha:=h.a
 have hb:=h.b
 have h0:42∉[48+x.a,x.sign,48+x.b]:=λhc=>by
  simp only[Zo,ZbI,or_false]at hc
  unfold Wd.sign at hc
  split at hc<;>omega
 unfold Wd.t Wd.l
 split
 ·exact Qs7 h0
 ·rw[ZM];exact QsW h0
noncomputable def runs:List (Int×Int)->List ((Int×Int)×Nat)
 | []=>[]
 | p::r=>match runs r with
  | (q,k)::t=>if q=p then(q,k+1)::t else(p,1)::(q,k)::t
  | []=>[(p,1)]
noncomputable def rd(lane:Bool)(q:(Int×Int)×Nat):Wd:=⟨q.1.1.toNat,q.1.2.toNat,lane,q.2,decide (1<q.2)⟩
def Qrg(ps:List (Int×Int)):Prop:=∀p∈ps,(0<=p.1/\p.1<10)/\0<=p.2/\p.2<10
section
variable {fa fb fc:DE}{ρ:En}{ra rb r:R}
end
end HS
namespace HS
open PySem PySem.Spec L2 PyProof.Rows PySem.NumText
theorem Qrg.one{ps:List (Int×Int)}{p:Int×Int}(h:Qrg ps)(hp:p∈ps):Qrg [p]:=λq hq=>by rw[Zl]at hq;rw[hq];exact h p hp
structure Qyh (ps:List (Int×Int)) (l:List ((Int×Int)×Nat)):Prop where
 mem:∀q∈l,q.1∈ps/\1<=q.2/\q.2<=ps.length
 len:l.length<=ps.length
 flat:(l.flatMap λq=>List.replicate q.2 q.1)=ps
noncomputable def Qlk(ws:List ((Int×Int×Bool)×Nat)):List (Int×Int×Bool):=ws.flatMap λx=>List.replicate x.2 x.1
def Qi5(d:Den):Prop:=∀(m:Nat) (W:List (Int×Int×Bool)) (room:Int),m<=1000->W.length<=100000->(∀w∈W,GoodW m w)->d [.int m,QS W,.int room]=some (.bl (decide (spr (Q5 W) m<=room)),true)
theorem QpI:Qi5 (Qx 9 Qfz):=λm W room hm hl hg=>by
 refine QbV ?_
 refine run_seq (Qj (Qc7 (n:=m+1) (QX (a:=(m:Int)) (b:=1) rfl rfl rfl rfl) rfl (by omega)) ?_)
 rw[Qy]
 refine QaM (P:=λρ=>∃f j3 j4 j5,(∀k,f k=Q5 W k)/\ρ=[some (.int m,true),some (QS W,false),some (.int room,true),some (Qb (m+1) f,true),j3,j4,j5,none,none]) ?_ ?_
 ·refine Qad (toD:=QcO) W (λi ρ=>∃f j3 j4 j5,(∀k,f k=Q5 (W.take i) k)/\ρ=[some (.int m,true),some (QS W,false),some (.int room,true),some (Qb (m+1) f,true),j3,j4,j5,none,none]) (ir:=⟨W.map QcO,[]⟩) rfl rfl ⟨λ_=>0,none,none,none,λk=>rfl,rfl⟩ ?_ ?_
  ·rintro i w ρ hi ⟨f,j3,j4,j5,hf,rfl⟩
   obtain⟨⟨h1,h2,h3,h4,h5⟩,h6⟩:=hg w (ZC hi)
   have h1:0<=w.1:=h1
   have h2:0<=w.2.1:=h2
   have et:W.take (i+1)=W.take i++[w]:=by rw[Zbz,hi];rfl
   refine⟨_,rfl,?_⟩
   refine run_seq (Qe9 (i:=w.1) rfl rfl h1 (by omega) ?_)
   refine run_seq (Qae (b:= !w.2.2) (Qbc (QJ (b:=w.2.2) rfl rfl)) (λhb=>run_seq (Qe9 (i:=w.2.1) rfl rfl h2 (by omega) (Qn (Qn ⟨_,_,_,_,λk=>?_,rfl⟩)))) (λhb=>Qn (Qn ⟨_,_,_,_,λk=>?_,rfl⟩)))
   ·have hb:w.2.2=false:=by simpa using hb
    rw[et,Qfq,QkN h2,QkN h1,hf k]
    unfold Qca
    rw[hb,if_neg ZZ];omega
   ·have hb:w.2.2=true:=by simpa using hb
    rw[et,Qfq,QkN h1,hf k]
    unfold Qca
    rw[hb,if_pos rfl];omega
  ·rintro ρ ⟨f,j3,j4,j5,hf,rfl⟩
   rw[Zak]at hf
   exact⟨f,j3,j4,j5,hf,rfl⟩
 rintro ρ ⟨f,j3,j4,j5,hf,rfl⟩
 refine run_seq (Qj (r:=⟨.int 1,true,[]⟩) rfl ?_)
 rw[Qy]
 refine QaM (P:=λρ=>∃j7,ρ=[some (.int m,true),some (QS W,false),some (.int room,true),some (Qb (m+1) f,true),j3,j4,j5,some (.int (spr f m),true),j7]) ?_ ?_
 ·refine Qad (toD:=λ(k:Nat)=> .int (f k)) (List.range m) (λi ρ=>∃j7,ρ=[some (.int m,true),some (QS W,false),some (.int room,true),some (Qb (m+1) f,true),j3,j4,j5,some (.int (spr f i),true),j7]) (Qb4 (Qim (m:=m+1) (n:=m) (f:=f) rfl rfl rfl rfl (by omega)) rfl) rfl ⟨none,rfl⟩ ?_ ?_
  ·rintro i i' ρ hi ⟨j7,rfl⟩
   have hi':i<m/\i=i':=by
    obtain⟨h1,h2⟩:=Zd.mp hi
    simp at h1 h2;exact⟨h1,h2⟩
   obtain⟨him,rfl⟩:=hi'
   have b:=Qji i W
   refine⟨_,rfl,?_⟩
   refine run_seq (Qj (QbI (a:=spr f i) (b:=f i) (ra:=⟨.int (spr f i),true,[]⟩) rfl rfl (rb:=⟨.int (f i),true,[]⟩) rfl rfl (Qdq (by rw[hf i];omega))) (Qn ?_))
   rw[Qy]
   exact⟨_,rfl⟩
  ·rintro ρ ⟨j7,rfl⟩
   rw[ZR]
   exact⟨_,rfl⟩
 rintro ρ ⟨j7,rfl⟩
 refine Q7 (Qal (d:= .bl (decide (spr f m<=room))) (ra:=⟨.int (spr f m),true,[]⟩) (rb:=⟨.int room,true,[]⟩) rfl rfl rfl) ⟨?_,rfl⟩
 rw[QcY λi _=>hf i]
structure Wds (m:Nat) (t kind:Int) (ws:List ((Int×Int×Bool)×Nat)):Prop where
 each:∀x∈ws,GoodW m x.1/\1<=x.2/\x.2<=40
 few:(Qlk ws).length<=40
 base:∀w∈QnF m t kind,w∈Qlk ws
 fits:kind=2∨kind=3->spr (Q5 (Qlk ws)) m<=300
 roads:¬(kind=2∨kind=3)->∀x∈ws,x.1.2.2=false
theorem Qj5{ws:List ((Int×Int×Bool)×Nat)}{w:Int×Int×Bool}(h:w∈Qlk ws):∃x∈ws,x.1=w:=by
 obtain⟨x,hx,hw⟩:=List.mem_flatMap.mp h
 exact⟨x,hx,(List.eq_of_mem_replicate hw).symm⟩
theorem Wds.QxT{m:Nat}{t kind:Int}{ws:List ((Int×Int×Bool)×Nat)}(h:Wds m t kind ws):Qgc m (Qlk ws) where
 good:=λw hw=>by obtain⟨x,hx,rfl⟩:=Qj5 hw;exact(h.each x hx).1
 few:=h.few
 esc:=QqE.mono h.base
 small:=by
  by_cases hk:kind=2∨kind=3
  ·exact .inr (h.fits hk)
  ·exact .inl (Qls λw hw=>by obtain⟨x,hx,rfl⟩:=Qj5 hw;exact h.roads hk x hx)
end HS
namespace HS
open PySem L2
noncomputable def QdC(Qb9:Den):DS:=(Qd (Qa3 (Qay (Qa 1)) (.nm 5) (Qd (Qdt (.tp [6,7]) (dDm (Qc (Qa 5) (Qc (QD (Qa 2) (dC (.int 1))) Qf)))) (Qd (Qdt (.tp [6,8]) (dDm (Qc (Qa 6) (Qc (Qa 2) Qf)))) (Qd (Qv 9 (Qf1 (dOp gLt (Qa 7) (Qa 2)) (dOr (dOp gEq (Qa 3) (dC (.int 2))) (Qf1 (dOp gEq (Qa 3) (dC (.int 3))) (dOp gEq (dOp QaL (Qa 6) (dC (.int 3))) (dC (.int 1))))))) (Qd (Qv 10 (QbR (Qc (Qa 7) (Qc (dOp QaL (QD (QD (Qa 7) (dC (.int 1))) (Qa 8)) (QD (Qa 2) (dC (.int 1)))) (Qc (Qa 9) Qf))))) (Qd (Qv 11 (dOp QaL (dOp Qfe (Qa 6) (dC (.int 3))) (QD (dBf QaI (Qc (Qa 0) Qf)) (dC (.int 1))))) (Qd (sIf (QC (QG 3 Qb9 [] (Qc (Qa 2) (Qc (QD (Qa 0) (Q4 (Qc (Qa 10) Qf))) (Qc (Qa 4) Qf))))) (Qd (Qv 0 (QD (QD (Qbq (Qa 0) QbU (Qam (Qa 11))) (Q4 (Qc (Qa 10) Qf))) (Qbq (Qa 0) (Qam (Qa 11)) QbU))) Qo) Qo) Qo))))))) (Qd (Qai (Qa 0)) Qo))
section
variable {m:Nat}{R L:List (Int×Int)}{f c:Nat->Int}
theorem QoG(hw:Qbf m R L){p q:Nat}(hp:p<m)(hq:q<m){s:Int×Int}(hs:s∈Qk R L)(e1:s.1=p)(e2:s.2=q)(hpq:p≠q):1<=Qs m (Qk R L) p q:=by
 obtain⟨g1,g2,_⟩:=hw.good
 have gs:=QaT g1 g2
 rw[QbQ hp hq λs z=>⟨(gs s z).1,(gs s z).2.1⟩]
 have nn:∀t∈Qk R L,0<=hit p q t:=λt _=>by
  unfold hit
  rw[if_neg (λz:t.1=p/\p=q=>hpq z.2)]
  split<;>omega
 obtain⟨A,B,e⟩:=List.append_of_mem hs
 have h1:=Qcm A λt ht=>nn t (by rw[e];exact Zh _ ht)
 have h2:=Qcm B λt ht=>nn t (by rw[e];exact Ze _ (Zb _ ht))
 have h3:hit p q s=1:=by
  unfold hit
  rw[if_pos ⟨e1,e2⟩,if_neg (λz:s.1=p/\p=q=>hpq z.2)];omega
 rw[e,ZJ,Zab,Zq,Zae,h3]
 omega
theorem QqF(hw:Qbf m R L)(f0:∀j,j<m->0<=f j)(td:Told m (Qs m (Qk R L)) f c){p:Nat}(hp:p<m){s:Int×Int}(hs:s∈Qk R L)(e1:s.1=p)(e2:s.2=m):c p<=Qm m f:=by
 obtain⟨g1,g2,_⟩:=hw.good
 have gs:=QaT g1 g2
 have c0:=td.leg.nonneg
 have row:∀i,i<m->Qm m (λj=>Qs m (Qk R L) i j)=((Qk R L).map λt:Int×Int=> -(if t.1=i/\t.2=m then(1:Int)else 0)).sum:=λi hi=>by
  rw[QW (g:=λj=>((Qk R L).map (hit i j)).sum) λj hj=>QbQ hi hj λs z=>⟨(gs s z).1,(gs s z).2.1⟩,Qdu]
  congr 1
  exact Zac λt ht=>Qp1 hi (gs t ht)
 have neg:∀i,i<m->Qm m (λj=>Qs m (Qk R L) i j)<=0:=λi hi=>by
  rw[row i hi]
  have:=Qdb (g:=λt:Int×Int=> -(if t.1=i/\t.2=m then(1:Int)else 0)) (X:=0) (Qk R L) λt _=>by split<;>omega
  omega
 have one:Qm m (λj=>Qs m (Qk R L) p j)<= -1:=by
  rw[row p hp]
  have:=QdG (g:=λt:Int×Int=> -(if t.1=p/\t.2=m then(1:Int)else 0)) (X:=0) (Y:= -1) (Qk R L) (λt _=>by split<;>omega) ⟨s,hs,by rw[if_pos ⟨e1,e2⟩];omega⟩
  omega
 have tot:Qm m (λj=>Qg m (Qs m (Qk R L)) f c j)=Qm m f+Qm m (λi=>c i*Qm m (λj=>Qs m (Qk R L) i j)):=by
  unfold Qg
  rw[Qaf]
  congr 1
  rw[Qpr]
  exact QW λi _=>by rw[← Qg9]
 have pos:0<=Qm m (λj=>Qg m (Qs m (Qk R L)) f c j):=by
  have:=Qa1 (m:=m) (f:=λ_=>(0:Int)) λj hj=>td.pos j hj
  rw[QK]at this
  exact this
 have up:Qm m (λi=>c i*Qm m (λj=>Qs m (Qk R L) i j))<=Qm m (λi=>(if i=p then-(c p)else 0)*1):=Qa1 λi hi=>by
  by_cases e:i=p
  ·subst e
   rw[if_pos rfl]
   have:=Zah one (c0 i)
   omega
  ·rw[if_neg e]
   have:=Zah (neg i hi) (c0 i)
   omega
 rw[QY hp]at up
 omega
theorem QsH(hw:Qbf m R L)(f0:∀j,j<m->0<=f j)(td:Told m (Qs m (Qk R L)) f c){p q:Nat}(hp:p<m)(hq:q<m)(hpq:p≠q)(h1:1<=Qs m (Qk R L) p q):c p+1<=Qq R L q*(c q+1):=by
 have c0:=td.leg.nonneg
 have st:=td.stb q hq
 have sq:=hw.neg hq
 have low:f q+c q*Qs m (Qk R L) q q+c p<=Qg m (Qs m (Qk R L)) f c q:=by
  unfold Qg
  have e:c q*Qs m (Qk R L) q q+c p=Qm m (λi=>(if i=q then c q*Qs m (Qk R L) q q else 0)*1+(if i=p then c p else 0)*1):=by
   rw[Qaf,QY hq,QY hp];omega
  have le:=Qa1 (m:=m) (f:=λi=>(if i=q then c q*Qs m (Qk R L) q q else 0)*1+(if i=p then c p else 0)*1) (g:=λi=>c i*Qs m (Qk R L) i q) λi hi=>by
   by_cases e1:i=q
   ·subst e1
    rw[if_pos rfl,if_neg (Ne.symm hpq)];omega
   ·rw[if_neg e1]
    by_cases e2:i=p
    ·subst e2
     rw[if_pos rfl]
     have:=Zah h1 (c0 i)
     omega
    ·rw[if_neg e2]
     have:=ZaP (c0 i) (hw.tp.pos i q hi hq e1)
     omega
  omega
 have fq:=f0 q hq
 rw[Zca,ZbW]
 have e:Qq R L q*c q= -(c q*Qs m (Qk R L) q q):=by
  rw[← sq,Int.sub_mul,ZaD,ZaK (c q)];omega
 omega
noncomputable def Qcx(s:Nat->Int):List Nat->Int
 | []=>1
 | p::l=>s p*Qcx s l
theorem Qeo{s:Nat->Int}:∀{l:List Nat},(∀p∈l,1<=s p)->1<=Qcx s l
 | [],_=>Zay _
 | p::l,h=>by
  have h1:=h p Zf
  have h2:=Qeo (l:=l) λq hq=>h q (Zb _ hq)
  have:=ZbY h1 h2 (by omega) (by omega)
  show 1<=s p*Qcx s l
  omega
theorem Qfb{s:Nat->Int}:∀(n:Nat) (l:List Nat),l.Nodup->(∀p∈l,p<n)->(∀p,p<n->1<=s p)->Qcx s l<=spr s n
 | 0,l,_,h,_=>by
  cases l with
  | nil=>exact Zay _
  | cons p l=>exact absurd (h p Zf) (by omega)
 | n+1,l,nd,h,hs=>by
  show Qcx s l<=spr s n*s n
  have s1:=hs n (by omega)
  by_cases hn:n∈l
  ·obtain⟨A,B,e⟩:=List.append_of_mem hn
   have sw:Qcx s l=s n*Qcx s (A++B):=by
    rw[e]
    clear e h nd hn
    induction A with
    | nil=>rfl
    | cons a A ih=>
     show s a*Qcx s (A++n::B)=s n*(s a*Qcx s (A++B))
     rw[ih,← ZaU,← ZaU,ZaK (s a)]
   have nd2:(A++B).Nodup/\n∉A++B:=by
    rw[e]at nd
    obtain⟨x,y,z⟩:=ZP.mp nd
    obtain⟨y1,y2⟩:=ZS.mp y
    refine⟨ZP.mpr ⟨x,y2,λa ha b hb=>z a ha b (Zb _ hb)⟩,λq=>?_⟩
    rcases Zr.mp q with q | q
    ·exact z n q n Zf rfl
    ·exact y1 q
   have ih:=Qfb n (A++B) nd2.1 (λp hp=>by
    have h1:=h p (by rw[e];rcases Zr.mp hp with q | q;exact Zh _ q;exact Ze _ (Zb _ q))
    have:p≠n:=λz=>nd2.2 (z▸hp)
    omega) λp hp=>hs p (by omega)
   rw[sw,ZaK]
   exact ZaO ih (by omega)
  ·have ih:=Qfb n l nd (λp hp=>by
    have h1:=h p hp
    have:p≠n:=λz=>hn (z▸hp)
    omega) λp hp=>hs p (by omega)
   have p1:1<=Qcx s l:=Qeo λp hp=>hs p (h p hp)
   have:=Zah s1 (show 0<=spr s n by omega)
   omega
theorem Qnc(hw:Qbf m R L)(f0:∀j,j<m->0<=f j)(td:Told m (Qs m (Qk R L)) f c):∃r:Nat->Nat,(∀p,p<m->∃A:List Nat,A.Nodup/\(∀q∈A,q<m/\r q<r p)/\c p+1<=(Qm m f+1)*Qcx (Qq R L) A):=by
 obtain⟨g1,g2,_⟩:=hw.good
 have gs:=QaT g1 g2
 have esc:QiF m (Qk R L):=by
  obtain⟨W,h1,_,_,rfl,rfl⟩:=hw.ex
  exact QfR h1
 obtain⟨r,r0,hr⟩:=Qmy gs esc
 have nn:0<=Qm m f:=by
  have:=Qa1 (m:=m) (f:=λ_=>(0:Int)) λj hj=>f0 j hj
  rw[QK]at this
  exact this
 refine⟨r,λp=>?_⟩
 obtain⟨n,hn⟩:∃n,n=r p:=⟨_,rfl⟩
 induction n using Nat.strongRecOn generalizing p with
 | _ n ih=>
  intro hp
  obtain⟨s,hs,e1,e2⟩:=hr p hp
  obtain⟨b1,b2,b3,b4,b5⟩:=gs s hs
  by_cases hm:s.2=m
  ·have:=QqF hw f0 td hp hs e1 hm
   exact⟨[],Zaj,λq hq=>by simp at hq,by show _<=_*1;omega⟩
  ·have hq:s.2.toNat<m:=by omega
   have hpq:p≠s.2.toNat:=λz=>by rw[← z]at e2;omega
   have h1:=QsH hw f0 td hp hq hpq (QoG hw hp hq hs e1 (by omega) hpq)
   obtain⟨A,a1,a2,a3⟩:=ih (r s.2.toNat) (by omega) s.2.toNat rfl hq
   refine⟨s.2.toNat::A,ZS.mpr ⟨λz=>?_,a1⟩,λq hq'=>?_,?_⟩
   ·have:=(a2 _ z).2
    omega
   ·rcases Zo.mp hq' with rfl | z
    ·exact⟨hq,e2⟩
    ·have:=a2 q z
     exact⟨this.1,by omega⟩
   ·show c p+1<=(Qm m f+1)*(Qq R L s.2.toNat *Qcx (Qq R L) A)
    have sp:=hw.Qfh hq
    have h2:=Zah a3 (show 0<=Qq R L s.2.toNat by omega)
    rw[Int.mul_left_comm]
    omega
theorem Qrb(hw:Qbf m R L)(m0:0<m)(f0:∀j,j<m->0<=f j)(td:Told m (Qs m (Qk R L)) f c){P N:Int}(hP:spr (Qq R L) m<=P)(hN:Qm m f<=N)(N0:0<=N):Qm m c+m<=(N+1)*(1+(m-1)*P):=by
 obtain⟨r,hr⟩:=Qnc hw f0 td
 have nn:0<=Qm m f:=by
  have:=Qa1 (m:=m) (f:=λ_=>(0:Int)) λj hj=>f0 j hj
  rw[QK]at this
  exact this
 have sp:∀p,p<m->1<=Qq R L p:=λp hp=>by have:=hw.Qfh hp;omega
 obtain⟨n,⟨p0,hp0,hn⟩,least⟩:=Qhe (P:=λn=>∃p,p<m/\r p=n) ⟨r 0,0,m0,rfl⟩
 obtain⟨A0,a1,a2,a3⟩:=hr p0 hp0
 have eA:A0=[]:=by
  cases A0 with
  | nil=>rfl
  | cons q A=>exact absurd ⟨q,(a2 q Zf).1,rfl⟩ (least (r q) (by rw[← hn];exact(a2 q Zf).2))
 subst eA
 have P1:1<=P:=Int.le_trans (Qeo (s:=Qq R L) (l:=[]) (λp hp=>by simp at hp)) (Int.le_trans (Qfb m [] Zaj (λp hp=>by simp at hp) sp) hP)
 have e0:c p0+1<=N+1:=by
  have:Qcx (Qq R L) []=1:=rfl
  rw[this]at a3
  omega
 have each:∀p,p<m->c p+1<=(N+1)*P:=λp hp=>by
  obtain⟨A,b1,b2,b3⟩:=hr p hp
  have q1:=Qfb m A b1 (λq hq=>(b2 q hq).1) sp
  have q2:=Qeo (s:=Qq R L) (l:=A) λq hq=>sp q (b2 q hq).1
  have:=ZbY (show Qm m f+1<=N+1 by omega) (Int.le_trans q1 hP) (by omega) (by omega)
  omega
 have le:=Qa1 (m:=m) (f:=λp=>c p+1) (g:=λp=>(N+1)*P+(if p=p0 then N+1-(N+1)*P else 0)*1) λp hp=>by
  by_cases e:p=p0
  ·subst e;rw[if_pos rfl];omega
  ·rw[if_neg e];have:=each p hp;omega
 have cst:∀(k:Nat) (v:Int),Qm k (λ_=>v)=k*v:=λk v=>by
  induction k with
  | zero=>simp[Qm]
  | succ k ih=>rw[QN,ih,Int.natCast_succ,ZaE];omega
 rw[Qaf,Qaf,QY hp0,cst,cst]at le
 have ex:(N+1)*(1+((m:Int)-1)*P)=(m:Int)*((N+1)*P)+(N+1-(N+1)*P):=by
  rw[Zca,ZbW,Int.sub_mul,Int.mul_sub,Zbh,← ZaU,← ZaU,ZaK (N+1) (m:Int)]
  omega
 rw[ex]
 omega
end
theorem QsT{W:List (Int×Int×Bool)}{w:Int×Int×Bool}{k m:Nat}:spr (Q5 (W.take k++[w]++W.drop k)) m=spr (Q5 (W++[w])) m:=QcY λi _=>by
 unfold Q5
 rw[ZJ,ZJ,Zab,Zab,ZJ,Zab]
 have:(W.map (Qca i)).sum=((W.take k).map (Qca i)).sum+((W.drop k).map (Qca i)).sum:=by
  rw[← Zab,← ZJ,Zau]
 omega
def Qg3(d:Den):Prop:=∀(m:Nat) (W:List (Int×Int×Bool)) (cs:List Int) (kind room:Int),0<m->m<=1000->W.length+cs.length<=10000->(∀w∈W,GoodW m w)->(∀c∈cs,0<=c/\c<B40)→
 ∃W' fr,d [QS W,Qi cs,.int m,.int kind,.int room]=some (QS W',fr)/\W'.length<=W.length+cs.length/\(∀w∈W',GoodW m w)/\(∀w∈W,w∈W')/\(W'=W∨spr (Q5 W') m<=room)
theorem Qon{df:Den}(hf:Qi5 df):Qg3 (Qx 12 (QdC df)):=λm W cs kind room h0 hm hl hg hcs=>by
 have key:Run (QdC df) (Qao 12 [QS W,Qi cs,.int m,.int kind,.int room]) (Rt λd fr=>∃W',d=QS W'/\W'.length<=W.length+cs.length/\(∀w∈W',GoodW m w)/\(∀w∈W,w∈W')/\(W'=W∨spr (Q5 W') m<=room)):=by
  refine run_seq (Qad (toD:=D.int) cs (λi ρ=>∃W' b j5 j6 j7 j8 j9 j10 j11,W'.length<=W.length+i/\(∀w∈W',GoodW m w)/\(∀w∈W,w∈W')/\(W'=W∨spr (Q5 W') m<=room)/\ρ=[some (QS W',b),some (Qi cs,false),some (.int m,true),some (.int kind,true),some (.int room,true),j5,j6,j7,j8,j9,j10,j11]) (ir:=⟨cs.map .int,[]⟩) rfl rfl ⟨W,false,none,none,none,none,none,none,none,by omega,hg,λw hw=>hw,.inl rfl,rfl⟩ ?_ ?_)
  ·rintro i c ρ hi ⟨W',b,j5,j6,j7,j8,j9,j10,j11,hw1,hw2,hw3,hw4,rfl⟩
   have hil:i<cs.length:=(Zd.mp hi).1
   have hc:=hcs c (ZC hi)
   refine⟨_,rfl,?_⟩
   refine run_seq (QfC (a:=c) (b:=(m:Int)+1) rfl rfl (QX (a:=(m:Int)) (b:=1) rfl rfl rfl rfl) rfl (by omega) (by omega) ?_)
   have a1:=ZE c (by omega:(m:Int)+1≠0)
   have a2:=ZA c (by omega:(0:Int)<(m:Int)+1)
   have a3:0<=c / ((m:Int)+1):=ZaT hc.1 (by omega)
   generalize c % ((m:Int)+1)=st at a1 a2
   generalize c / ((m:Int)+1)=nb at a3
   refine run_seq (QfC (a:=nb) (b:=m) rfl rfl rfl rfl (by omega) (by omega) ?_)
   have b1:=ZE nb (by omega:(m:Int)≠0)
   have b2:=ZA nb (by omega:(0:Int)<(m:Int))
   have b3:0<=nb / (m:Int):=ZaT a3 (by omega)
   generalize nb % (m:Int)=sp at b1 b2
   generalize nb / (m:Int)=nc at b3
   refine run_seq (Qj (QlA (Qal (g:=gLt) (ra:=⟨.int st,true,[]⟩) (rb:=⟨.int m,true,[]⟩) rfl rfl rfl) (Qro (Qd9 (a:=kind) (b:=2) rfl rfl rfl rfl) (QlA (Qd9 (a:=kind) (b:=3) rfl rfl rfl rfl) (Qd9 (a:=nc % 3) (b:=1) (Qaq (a:=nc) (b:=3) rfl rfl rfl rfl (by decide)) rfl rfl rfl)))) ?_)
   rw[Qy]
   generalize eln:(decide (st<m) && (decide (kind=2) || (decide (kind=3) && decide (nc % 3=1))))=ln
   have hln:ln=true->st<m:=λh=>by rw[← eln,Zg,decide_eq_true_eq]at h;exact h.1
   have gw:=QpQ (m:=m) (a:=st) (s:=sp) (ln:=ln) a1 (by omega) b1 b2 hln
   refine run_seq (Qj (r:=⟨QcO (st,(st+1+sp) % (m+1),ln),true,[]⟩) ?_ ?_)
   ·unfold QbR
    refine(congrArg (λz=>Option.bind z _) (QF (r:=⟨.int st,true,[]⟩) rfl (QF (Qaq (a:=st+1+sp) (b:=(m:Int)+1) (QX (QX (a:=st) (b:=1) rfl rfl rfl rfl) rfl rfl rfl) rfl (QX (a:=(m:Int)) (b:=1) rfl rfl rfl rfl) rfl (by omega)) (QF (r:=⟨.bl ln,true,[]⟩) rfl (QaV _))))).trans ?_
    rfl
   rw[Qy]
   generalize ewy:(st,(st+1+sp) % ((m:Int)+1),ln)=wy at gw
   have elen:∀{ρ:En},ρ[0]? =some (some (QS W',b))->dBf QaI (Qc (Qa 0) Qf) ρ=some ⟨.int W'.length,true,[]⟩:=λ{ρ} h=>by
    rw[QcI (xs:=W'.map QcO) (Qbd h) (by cases b<;>rfl),Zj]
   refine run_seq (Qj (Qaq (a:=nc / 3) (b:=(W'.length:Int)+1) (QhG (a:=nc) (b:=3) rfl rfl rfl rfl (by decide) (by decide)) rfl (QX (a:=(W'.length:Int)) (b:=1) (elen rfl) rfl rfl rfl) rfl (by omega)) ?_)
   rw[Qy]
   obtain⟨at',eat⟩:∃n:Nat,nc / 3 % ((W'.length:Int)+1)=n:=⟨(nc / 3 % ((W'.length:Int)+1)).toNat,by have:=ZE (nc / 3) (by omega:(W'.length:Int)+1≠0);omega⟩
   rw[eat]
   have gg:∀w∈W'++[wy],GoodW m w:=λw hw=>(Zr.mp hw).elim (hw2 w) (λh=>by rw[Zl.mp h];exact gw)
   have hbf:=hf m (W'++[wy]) room hm (by simp;omega) gg
   have eadd:=QiE (A:=W') (B:=[wy]) (fa:=Qa 0) (fb:=Q4 (Qc (Qa 10) Qf)) (rb:=⟨QS [wy],true,[]⟩) (ρ:=[some (QS W',b),some (Qi cs,false),some (.int m,true),some (.int kind,true),some (.int room,true),some (.int c,true),some (.int nc,true),some (.int st,true),some (.int sp,true),some (.bl ln,true),some (QcO wy,true),some (.int at',true)]) (Qbd rfl) (by cases b<;>rfl) rfl rfl (by simp;omega)
   have esl:=QsP (fa:=Qa 0) (fb:=Qa 11) (W:=W') (n:=at') (rb:=⟨.int at',true,[]⟩) (ρ:=[some (QS W',b),some (Qi cs,false),some (.int m,true),some (.int kind,true),some (.int room,true),some (.int c,true),some (.int nc,true),some (.int st,true),some (.int sp,true),some (.bl ln,true),some (QcO wy,true),some (.int at',true)]) (Qbd rfl) (by cases b<;>rfl) rfl rfl
   refine run_seq (Qae (QJ (QL (QF (r:=⟨.int m,true,[]⟩) rfl (QF eadd (QF (r:=⟨.int room,true,[]⟩) rfl (QaV _)))) hbf rfl) rfl) (λhfit=>?_) (λ_=>Qn (Qn ⟨W',b,_,_,_,_,_,_,_,by omega,hw2,hw3,hw4,rfl⟩)))
   refine run_seq (Qj (QiE (A:=W'.take at'++[wy]) (B:=W'.drop at') (QiE (A:=W'.take at') (B:=[wy]) (rb:=⟨QS [wy],true,[]⟩) esl.1 rfl rfl rfl (by simp;omega)) rfl esl.2 rfl (by simp;omega)) (Qn ?_))
   rw[Qy]
   have meq:∀w,w∈W'.take at'++[wy]++W'.drop at'↔w=wy∨w∈W':=λw=>by
    rw[ZaH]
    exact Qgl (xs:=W') (k:=at') (y:=wy)
   refine Qn ⟨W'.take at'++[wy]++W'.drop at',true,_,_,_,_,_,_,_,by simp;omega,λw hw=>?_,λw hw=>(meq w).mpr (.inr (hw3 w hw)),.inr ?_,rfl⟩
   ·rcases(meq w).mp hw with rfl | h
    ·exact gw
    ·exact hw2 w h
   ·rw[QsT]
    exact of_decide_eq_true hfit
  ·rintro ρ ⟨W',b,j5,j6,j7,j8,j9,j10,j11,hw1,hw2,hw3,hw4,rfl⟩
   exact Q7 (Qbd rfl) ⟨W',by cases b<;>rfl,hw1,hw2,hw3,hw4⟩
 obtain⟨o,h1,h2⟩:=key
 cases o with
 | rt d fr=>
  obtain⟨W',rfl,h3,h4,h5,h6⟩:=h2
  exact⟨W',fr,by unfold Qx;rw[h1];rfl,h3,h4,h5,h6⟩
 | _=>exact h2.elim
end HS
namespace HS
open PySem L2
theorem Qne{a b c d:Int}(ha:1<=a)(hb:1<=b)(hc:1<=c)(hd:1<=d)(h:a+b+c+d<=7):a*b*c*d<=36:=by
 rcases(by omega:a=1∨a=2∨a=3∨a=4)with rfl | rfl | rfl | rfl<;>rcases(by omega:b=1∨b=2∨b=3∨b=4)with rfl | rfl | rfl | rfl<;>rcases(by omega:c=1∨c=2∨c=3∨c=4)with rfl | rfl | rfl | rfl<;>omega
theorem QkU{m:Nat}(x:Int):Qm m (λi=>isI i x)<=1/\(x=m->Qm m (λi=>isI i x)=0):=by
 have key:∀k:Nat,Qm k (λi=>isI i x)=if 0<=x/\x<k then 1 else 0:=λk=>by
  induction k with
  | zero=>rw[if_neg (by omega)];rfl
  | succ k ih=>
   rw[QN,ih]
   unfold isI
   by_cases e:x=k
   ·subst e;rw[if_neg (by omega),if_pos rfl,if_pos (by omega)];rfl
   ·rw[if_neg e]
    by_cases z:0<=x/\x<k
    ·rw[if_pos z,if_pos (by omega)];rfl
    ·rw[if_neg z,if_neg (by omega)];rfl
 refine⟨by rw[key];split<;>omega,λe=>by rw[key,if_neg (by omega)]⟩
theorem Qnb{m:Nat}{W:List (Int×Int×Bool)}(m0:0<m)(m4:m<=4)(hl:W.length=m)(hg:∀w∈W,GoodW m w)(esc:Esc m W)(pos:∀i,i<m->1<=Q5 W i):spr (Q5 W) m<=36:=by
 have each:∀w:Int×Int×Bool,Qm m (λi=>Qca i w)<=2/\(w.2.1=m->Qm m (λi=>Qca i w)<=1):=λw=>by
  unfold Qca
  rw[Qaf]
  have h1:=QkU (m:=m) w.1
  have h2:=QkU (m:=m) w.2.1
  by_cases e:w.2.2=true
  ·have z:(λi=>if w.2.2=true then(0:Int)else isI i w.2.1)=λ_=>0:=by funext i;rw[if_pos e]
   rw[z,QK]
   exact⟨by omega,λ_=>by omega⟩
  ·have z:(λi=>if w.2.2=true then(0:Int)else isI i w.2.1)=λi=>isI i w.2.1:=by funext i;rw[if_neg e]
   rw[z]
   exact⟨by omega,λq=>by have:=h2.2 q;omega⟩
 obtain⟨w0,hw0,_,_,hp⟩:=esc (λ_=>True) ⟨0,m0,trivial⟩
 have hp:w0.2.1=m:=hp.elim id λz=>absurd trivial z
 have tot:Qm m (Q5 W)<=2*m-1:=by
  have e:Qm m (Q5 W)=(W.map λw=>Qm m λi=>Qca i w).sum:=by
   unfold Q5
   exact Qdu m (λi w=>Qca i w) W
  rw[e]
  have:=QdG (g:=λw=>Qm m λi=>Qca i w) (X:=2) (Y:=1) W (λw _=>(each w).1) ⟨w0,hw0,(each w0).2 hp⟩
  rw[hl]at this
  omega
 obtain⟨s,es⟩:∃s,s=Q5 W:=⟨_,rfl⟩
 rw[← es]at tot pos ⊢
 rcases(by omega:m=1∨m=2∨m=3∨m=4)with rfl | rfl | rfl | rfl
 ·have:=pos 0 (by decide)
  simp only[QN,show Qm 0 s=0 from rfl]at tot
  show 1*s 0<=36
  omega
 ·have h0:=pos 0 (by decide);have h1:=pos 1 (by decide)
  simp only[QN,show Qm 0 s=0 from rfl]at tot
  have:=Qne h0 h1 (Zay 1) (Zay 1) (by omega)
  show 1*s 0*s 1<=36
  rw[Zbh];omega
 ·have h0:=pos 0 (by decide);have h1:=pos 1 (by decide);have h2:=pos 2 (by decide)
  simp only[QN,show Qm 0 s=0 from rfl]at tot
  have:=Qne h0 h1 h2 (Zay 1) (by omega)
  show 1*s 0*s 1*s 2<=36
  rw[Zbh];omega
 ·have h0:=pos 0 (by decide);have h1:=pos 1 (by decide);have h2:=pos 2 (by decide);have h3:=pos 3 (by decide)
  simp only[QN,show Qm 0 s=0 from rfl]at tot
  have:=Qne h0 h1 h2 h3 (by omega)
  show 1*s 0*s 1*s 2*s 3<=36
  rw[Zbh];omega
noncomputable def Qdk(Qb8:Den)(QbY:Den):DS:=(Qd (Qv 1 (QD (dC (.int 1)) (dOp QaL (Qr (Qa 0) (dC (.int 0))) (dC (.int 4))))) (Qd (Qv 2 (dOp QaL (Qr (Qa 0) (dC (.int 1))) (dC (.int 6)))) (Qd (Qv 3 (QG 5 QbY [] (Qc (QG 3 Qb8 [] (Qc (Qbq (Qa 0) (Qam (dC (.int 3))) (Qam (dC (.int 7)))) (Qc (Qa 1) (Qc (Qa 2) Qf)))) (Qc (Qbq (Qa 0) (Qam (dC (.int 7))) (Qam (QD (dC (.int 7)) (dOp QaL (Qr (Qa 0) (dC (.int 2))) (dC (.int 11)))))) (Qc (Qa 1) (Qc (Qa 2) (Qc (dC (.int 36)) Qf))))))) (Qd (Qv 4 (Q6 (Qay (Qa 3)) (.tp [1,2,3]) [none,none,none,none] (Qbp (QC (Qa 3))) (QbR (Qc (dBf QhT (Qc (Qa 1) (Qc (Qa 2) Qf))) (Qc (dBf Qid (Qc (Qa 1) (Qc (Qa 2) Qf))) Qf))))) (Qd (Qv 5 (Q6 (Qay (Qa 3)) (.tp [1,2,3]) [none,none,none,none] (QC (Qa 3)) (QbR (Qc (Qa 1) (Qc (Qa 2) Qf))))) (Qd (Qai (QbR (Qc (Qa 1) (Qc (Qa 4) (Qc (Qa 5) Qf))))) Qo))))))
def Qhf(d:Den):Prop:=∀cs:List Int,cs.length=86->(∀c∈cs,0<=c/\c<B40)->∃(m:Nat) (R L:List (Int×Int)),d [Qi cs]=some (Qp m R L,true)/\0<m/\m<=4/\Qbf m R L/\spr (Qq R L) m<=36
theorem QnO{db dm:Den}(hb:QiH db)(hm:Qg3 dm):Qhf (Qx 6 (Qdk db dm)):=λcs hl hcs=>by
 have cell:∀k:Nat,k<86->∃c,cs[k]? =some c/\0<=c/\c<B40:=λk hk=>⟨cs[k]'(by omega),Zs (by omega),hcs _ (Zba _)⟩
 obtain⟨c0,e0,p0,_⟩:=cell 0 (by decide)
 obtain⟨c1,e1,p1,_⟩:=cell 1 (by decide)
 obtain⟨c2,e2,p2,_⟩:=cell 2 (by decide)
 have b1:=ZE c0 (by decide:(4:Int)≠0)
 have b2:=ZA c0 (by decide:(0:Int)<4)
 obtain⟨m,em⟩:∃m:Nat,(m:Int)=1+c0 % 4:=⟨(1+c0 % 4).toNat,by omega⟩
 have k1:=ZE c1 (by decide:(6:Int)≠0)
 have k2:=ZA c1 (by decide:(0:Int)<6)
 have key:Run (Qdk db dm) (Qao 6 [Qi cs]) (Rt λd fr=>∃R L,d=Qp m R L/\fr=true/\Qbf m R L/\spr (Qq R L) m<=36):=by
  have idx:∀{ρ:En}(k:Nat) (c:Int),ρ[0]? =some (some (Qi cs,false))->cs[k]? =some c->Qr (Qa 0) (dC (.int k)) ρ=some ⟨.int c,true,[]⟩:=λ{ρ} k c h0 hc=>QbJ (ns:=cs) (i:=k) (Qbd h0) rfl (Qnk _ _) rfl (by omega) (by simpa using hc)
  refine run_seq (Qj (QX (a:=1) rfl rfl (Qaq (b:=4) (idx 0 c0 rfl e0) rfl rfl rfl (by decide)) rfl) ?_)
  rw[Qy,← em]
  refine run_seq (Qj (Qaq (b:=6) (idx 1 c1 rfl e1) rfl rfl rfl (by decide)) ?_)
  rw[Qy]
  generalize c1 % 6=kind at k1 k2
  obtain⟨W0,hbase,lW0,gW0,esc0⟩:=hb m ((cs.drop (min 3 cs.length)).take (min 7 cs.length-min 3 cs.length)) kind (by omega) (by omega) (by rw[ZW,Zap];omega) λc hc=>hcs c (Qmf hc)
  have d1:=ZE c2 (by decide:(11:Int)≠0)
  have d2:=ZA c2 (by decide:(0:Int)<11)
  obtain⟨q,eq⟩:∃q:Nat,(q:Int)=7+c2 % 11:=⟨(7+c2 % 11).toNat,by omega⟩
  have eh:QD (dC (.int 7)) (dOp QaL (Qr (Qa 0) (dC (.int 2))) (dC (.int 11))) [some (Qi cs,false),some (.int m,true),some (.int kind,true),none,none,none]=some ⟨.int q,true,[]⟩:=by
   rw[eq]
   exact QX (a:=7) rfl rfl (Qaq (a:=c2) (b:=11) (idx 2 c2 rfl e2) rfl rfl rfl (by decide)) rfl
  have esl:=QgD (cs:=cs) (a:=7) (b:=q) (fa:=Qa 0) (fl:=dC (.int 7)) (ρ:=[some (Qi cs,false),some (.int m,true),some (.int kind,true),none,none,none]) (ra:=⟨Qi cs,false,[]⟩) rfl rfl rfl rfl eh rfl
  generalize efu:(cs.drop (min 7 cs.length)).take (min q cs.length-min 7 cs.length)=fu at esl
  have hfu:∀c∈fu,0<=c/\c<B40:=λc hc=>hcs c (by rw[← efu]at hc;exact Qmf hc)
  have lfu:fu.length<=86:=by rw[← efu,ZW,Zap];omega
  obtain⟨W,fr,hmore,lW,gW,sub,hsp⟩:=hm m W0 fu kind 36 (by omega) (by omega) (by omega) gW0 hfu
  refine run_seq (Qj (QpX (QF (QL (QF (QgD (cs:=cs) (a:=3) (b:=7) (ra:=⟨Qi cs,false,[]⟩) rfl rfl rfl rfl rfl rfl) (QF (r:=⟨.int m,true,[]⟩) rfl (QF (r:=⟨.int kind,true,[]⟩) rfl (QaV _)))) hbase rfl) (QF esl (rs:=⟨[.int m,.int kind,.int 36],true,[]⟩) rfl)) hmore rfl) ?_)
  have easg:=QoV (i:=3) (d:=QS W) (fr:=fr) (ρ:=[some (Qi cs,false),some (.int m,true),some (.int kind,true),none,none,none]) rfl
  refine(congrArg (λρ=>Run _ ρ _) easg).mpr ?_
  refine run_seq (Qj (Qpv (W:=W) (Qbd (b:=fr) rfl) (by cases fr<;>rfl)) ?_)
  rw[Qy]
  refine run_seq (Qj (Qq6 (W:=W) (Qbd (b:=fr) rfl) (by cases fr<;>rfl)) ?_)
  rw[Qy]
  have nw:Qbf m (Qat W) (Qac W):=⟨W,esc0.mono sub,gW,by omega,rfl,rfl⟩
  have es:spr (Qq (Qat W) (Qac W)) m=spr (Q5 W) m:=QcY λi _=>Qer i W
  refine Q7 (r:=⟨Qp m (Qat W) (Qac W),true,[4,5]⟩) rfl ⟨Qat W,Qac W,rfl,rfl,nw,?_⟩
  rw[es]
  rcases hsp with e | h
  ·subst e
   exact Qnb (by omega) (by omega) lW0 gW0 esc0 λi hi=>by rw[← Qer];have:=nw.Qfh hi;omega
  ·exact h
 obtain⟨o,h1,h2⟩:=key
 cases o with
 | rt d fr=>
  obtain⟨R,L,rfl,rfl,h3,h4⟩:=h2
  exact⟨m,R,L,by unfold Qx;rw[h1];rfl,by omega,by omega,h3,h4⟩
 | _=>exact h2.elim
theorem Qq9{m:Nat}{h s:Nat->Int}{ρ:En}{R L:List (Int×Int)}{x y:Nat}(h0:∃b,ρ[0]? =some (some (Qp m R L,b)))(hc:Qc6 [none,none,some x,some y] ρ=[none,none,some (Qb m h,false),some (Qb m s,false)])(hm:m<=1000):
  Q6 (QaO (Qr (Qa 0) (dC (.int 0)))) (.nm 1) [none,none,some x,some y] (QC (dOp gGe (Qr (Qa 2) (Qa 1)) (Qr (Qa 3) (Qa 1)))) (Qa 1) ρ=some ⟨Qu (QH m s h),true,[]⟩:=by
 obtain⟨b,h0⟩:=h0
 have hi:Qr (Qa 0) (dC (.int 0)) ρ=some ⟨.int m,true,[]⟩:=(Qcv (m:=m) (R:=R) (L:=L) (Qbd h0) (by cases b<;>rfl)).1
 refine(QeQ (toD:=λ(p:Nat)=>D.int p) (keep:=λp=>decide (s p<=h p)) (out:=λ(p:Nat)=>D.int p) (List.range m) (QbS (n:=m) hi rfl (by omega)) rfl λp hp=>?_).trans rfl
 rw[hc]
 have hp:=ZG.mp hp
 refine⟨[none,some (.int p,true),some (Qb m h,false),some (Qb m s,false)],rfl,?_,λ_=>⟨_,rfl,rfl,rfl⟩⟩
 exact QJ (Qal (d:= .bl (decide (s p<=h p))) (Qcj (m:=m) (f:=h) (i:=p) (ra:=⟨Qb m h,false,[]⟩) (rb:=⟨.int p,true,[]⟩) rfl rfl rfl rfl hp) (Qcj (m:=m) (f:=s) (i:=p) (ra:=⟨Qb m s,false,[]⟩) (rb:=⟨.int p,true,[]⟩) rfl rfl rfl rfl hp) rfl) rfl
theorem QoL{fa:DE}{ρ:En}{ra:HS.R}{l:List Nat}(ha:fa ρ=some ra)(ea:ra.d=Qu l):dOp gEq fa (Q4 Qf) ρ=some ⟨.bl l.isEmpty,true,[]⟩:=by
 refine Qal (rb:=⟨.lst [],true,[]⟩) ha rfl ?_
 rw[ea]
 show gEq (Qu l) (.lst [])=_
 have hs:(Qu l).sim 8=true:=by
  show((l.map λ(p:Nat)=>D.int (p:Int)).all (D.sim 7))=true
  rw[Zar]
  intro d hd
  obtain⟨p,_,rfl⟩:=ZQ.mp hd
  rfl
 unfold gEq
 rw[hs]
 show some (D.bl (deq (Qu l) (.lst [])))=_
 cases l<;>rfl
theorem Qq8{m i:Nat}{f:Nat->Int}{v:Int}(hi:i<m):Qm m (up f i (f i+v))=Qm m f+v:=by
 have:(up f i (f i+v))=λj=>f j+(if j=i then v else 0)*1:=by
  funext j
  unfold up
  by_cases e:j=i
  ·subst e;rw[if_pos rfl,if_pos rfl];omega
  ·rw[if_neg e,if_neg e];omega
 rw[this,Qaf,QY hi];omega
noncomputable def Qem(QbG:Den)(Qbj:Den):DS:=(Qd (Qv 3 (QG 1 QbG [] (Qc (Qa 0) Qf))) (Qd (Qv 4 (dList (Qc (Qa 1) Qf))) (Qd (Qv 5 (Qas (Q4 (Qc (dC (.int 0)) Qf)) (Qr (Qa 0) (dC (.int 0))))) (Qd (Qa3 (QaO (dC (.int 2001))) (.nm 6) (Qd (Qv 8 (Q6 (QaO (Qr (Qa 0) (dC (.int 0)))) (.nm 1) [none,none,some 4,some 3] (QC (dOp gGe (Qr (Qa 2) (Qa 1)) (Qr (Qa 3) (Qa 1)))) (Qa 1))) (Qd (sIf (QC (dOp gEq (Qa 8) (Q4 Qf))) (Qd (Qai (QbR (Qc (Qa 4) (Qc (Qa 5) Qf)))) Qo) Qo) (Qd (Qv 9 (Qbx (Qr (Qa 2) (dOp QaL (Qa 6) (dBf QaI (Qc (Qa 2) Qf)))))) (Qd (Qv 7 (Qbx (Qr (Qa 8) (dOp QaL (Qa 9) (dBf QaI (Qc (Qa 8) Qf)))))) (Qd (Qv 10 (Qas (Q4 (Qc (dC (.int 0)) Qf)) (Qr (Qa 0) (dC (.int 0))))) (Qd (Qce 10 Q1 (Qa 7) (dC (.int 1))) (Qd (sIf (QC (dOp gEq (dOp QaL (dOp Qfe (Qa 9) (dC (.int 64))) (dC (.int 3))) (dC (.int 1)))) (Qd (Qce 10 Q1 (Qa 7) (dOp Qfe (Qr (Qa 4) (Qa 7)) (Qr (Qa 3) (Qa 7)))) Qo) Qo) (Qd (Qv 4 (QG 3 Qbj [] (Qc (Qa 0) (Qc (Qa 4) (Qc (Qa 10) Qf))))) (Qd (Qv 5 (Q6 (QbT (Qa 5) (Qa 10)) (.tp [1,2]) [none,none,none] Qa6 (QD (Qa 1) (Qa 2)))) Qo)))))))))) (Qd (Qai (QbR (Qc (Qa 4) (Qc (Qa 5) Qf)))) Qo)))))
def Qhd(d:Den):Prop:=∀(m:Nat) (R L:List (Int×Int)) (f c:Nat->Int) (cs:List Int),0<m->m<=8->Qbf m R L->(∀j,j<m->0<=f j)->Told m (Qs m (Qk R L)) f c->Qm m c<=2000->0<cs.length->cs.length<=1000->d [Qp m R L,Qb m f,Qi cs]=some (.tup [Qb m (Qg m (Qs m (Qk R L)) f c),Qb m c],true)
theorem QoY{ds db:Den}(hs:QiD ds)(hb:Qnn db):Qhd (Qx 11 (Qem ds db)):=λm R L f c cs m0 hm hw hf td hc cs0 cs1=>by
 obtain⟨g1,g2,g3,g4,_⟩:=hw.good
 have tp:=hw.tp
 have hn:∀p,p<m->Qq R L p=0-Qs m (Qk R L) p p:=λp hp=>(hw.neg hp).symm
 have sp:∀p,p<m->0<Qq R L p:=λp hp=>hw.Qfh hp
 have eb:=λh o=>hb m R L h o (by omega) g1 g2
 have esp:=hs m R L (by omega) g1 g2
 obtain⟨T0,rT⟩:∃T0,T0=Qs m (Qk R L):=⟨_,rfl⟩
 rw[← rT]at tp hn td eb ⊢
 refine QbV ?_
 refine run_seq (Qj (QL (r:=⟨[Qp m R L],false,[]⟩) rfl esp rfl) ?_)
 refine run_seq (Qj (Qdm (m:=m) (f:=f) (rs:=⟨[Qb m f],false,[]⟩) rfl rfl) ?_)
 refine run_seq (Qj (Qc7 (z:=0) (n:=m) (r:=⟨.int m,true,[]⟩) rfl rfl (by omega)) ?_)
 change Nx _ (.nx [some (Qp m R L,false),some (Qb m f,false),some (Qi cs,false),some (Qb m (Qq R L),true),some (Qb m f,true),some (Qb m (λ_=>0),true),none,none,none,none,none])
 refine QE (Qad (toD:=λ(k:Nat)=>D.int (k:Int)) (List.range 2001) (λi ρ=>∃cc j6 j7 j8 j9 j10,Leg m T0 f cc/\(i:Int)<=Qm m cc/\ρ=[some (Qp m R L,false),some (Qb m f,false),some (Qi cs,false),some (Qb m (Qq R L),true),some (Qb m (Qg m T0 f cc),true),some (Qb m cc,true),j6,j7,j8,j9,j10])
  (QbS (n:=2001) (r:=⟨.int 2001,true,[]⟩) rfl rfl (by decide)) rfl ⟨λ_=>0,none,none,none,none,none,.nil,by rw[QK];exact Zay _,?_⟩ ?_ ?_)
 ·show [some (Qp m R L,false),some (Qb m f,false),some (Qi cs,false),some (Qb m (Qq R L),true),some (Qb m f,true),some (Qb m (λ_=>0),true),none,none,none,none,none]=_
  rw[show Qb m (Qg m T0 f λ_=>0)=Qb m f from Qln]
 ·rintro i k ρ hk ⟨cc,j6,j7,j8,j9,j10,leg,hi,rfl⟩
  have hk':k=i/\i<2001:=by
   obtain⟨h1,h2⟩:=Zd.mp hk
   simp at h1 h2;exact⟨h2.symm,h1⟩
  obtain⟨rfl,hk2⟩:=hk'
  refine⟨_,rfl,?_⟩
  obtain⟨l,rl⟩:∃l,l=QH m (Qq R L) (Qg m T0 f cc):=⟨_,rfl⟩
  refine run_seq (Qj (Qq9 (m:=m) (h:=Qg m T0 f cc) (s:=Qq R L) (R:=R) (L:=L) ⟨false,rfl⟩ rfl (by omega)) ?_)
  rw[← rl]
  change Nx _ (.nx [some (Qp m R L,false),some (Qb m f,false),some (Qi cs,false),some (Qb m (Qq R L),true),some (Qb m (Qg m T0 f cc),true),some (Qb m cc,true),some (.int k,true),j7,some (Qu l,true),j9,j10])
  refine QE (Qae (b:=l.isEmpty) ?_ (λhe=>?_) (λhe=>Qn ?_))
  ·exact QJ (QoL (l:=l) (ra:=⟨Qu l,true,[8]⟩) rfl rfl) rfl
  ·
   have he:l=[]:=Zbl.mp he
   have eq:=leg.unique tp td.leg (Qpk hn (by rw[← rl];exact he)) td.stb
   refine QE (Qmk (r:=⟨.tup [Qb m (Qg m T0 f cc),Qb m cc],true,[4,5]⟩) rfl ?_)
   refine⟨?_,rfl⟩
   show D.tup [Qb m (Qg m T0 f cc),Qb m cc]=_
   rw[Qa0 (f:=cc) (g:=c) eq,Qa0 (f:=Qg m T0 f cc) (g:=Qg m T0 f c) λj _=>QbM j rfl eq]
  ·have hne:l≠[]:=λz=>by rw[z]at he;cases he
   have lpos:0<l.length:=ZaL.mpr hne
   have a1:=ZE (k:Int) (by omega:(cs.length:Int)≠0)
   have a2:=ZA (k:Int) (by omega:(0:Int)<(cs.length:Int))
   obtain⟨nb,enb⟩:∃nb,cs[((k:Int) % (cs.length:Int)).toNat]? =some nb:=⟨_,Zs (by omega)⟩
   refine run_seq (Qj (Qd0 (QbJ (ns:=cs) (i:=(k:Int) % (cs.length:Int)) (v:=nb) (ra:=⟨Qi cs,false,[]⟩) rfl rfl (Qaq (a:=k) (b:=cs.length) rfl rfl ((QcI (xs:=cs.map D.int) (r:=⟨Qi cs,false,[]⟩) rfl rfl).trans (by rw[Zj])) rfl (by omega)) rfl a1 enb)) ?_)
   rw[Qdi rfl]
   change Run _ [some (Qp m R L,false),some (Qb m f,false),some (Qi cs,false),some (Qb m (Qq R L),true),some (Qb m (Qg m T0 f cc),true),some (Qb m cc,true),some (.int k,true),j7,some (Qu l,true),some (.int nb,true),j10] _
   have b1:=ZE nb (by omega:(l.length:Int)≠0)
   have b2:=ZA nb (by omega:(0:Int)<(l.length:Int))
   obtain⟨p,ep⟩:∃p,l[(nb % (l.length:Int)).toNat]? =some p:=⟨_,Zs (by omega)⟩
   have pl:p∈l:=ZC ep
   rw[rl]at pl
   obtain⟨pm,pr⟩:=QfJ.mp pl
   refine run_seq (Qj (Qd0 (Qmc (l:=l) (i:=nb % (l.length:Int)) (v:=p) (ra:=⟨Qu l,true,[8]⟩) rfl rfl (Qaq (a:=nb) (b:=l.length) rfl rfl (QiU (l:=l) (r:=⟨Qu l,true,[8]⟩) rfl rfl) rfl (by omega)) rfl b1 ep)) ?_)
   rw[Qdi rfl]
   change Run _ [some (Qp m R L,false),some (Qb m f,false),some (Qi cs,false),some (Qb m (Qq R L),true),some (Qb m (Qg m T0 f cc),true),some (Qb m cc,true),some (.int k,true),some (.int p,true),some (Qu l,true),some (.int nb,true),j10] _
   refine run_seq (Qj (Qc7 (z:=0) (n:=m) (r:=⟨.int m,true,[]⟩) rfl rfl (by omega)) ?_)
   change Nx _ (.nx [some (Qp m R L,false),some (Qb m f,false),some (Qi cs,false),some (Qb m (Qq R L),true),some (Qb m (Qg m T0 f cc),true),some (Qb m cc,true),some (.int k,true),some (.int p,true),some (Qu l,true),some (.int nb,true),some (Qb m (λ_=>0),true)])
   refine run_seq (Qcg (x:=10) (m:=m) (f:=λ_=>0) (i:=p) (v:=1) (ri:=⟨.int p,true,[]⟩) (ra:=⟨.int 1,true,[]⟩) rfl rfl rfl rfl rfl (by omega) (by omega) ?_)
   rw[ZO]
   change Nx _ (.nx [some (Qp m R L,false),some (Qb m f,false),some (Qi cs,false),some (Qb m (Qq R L),true),some (Qb m (Qg m T0 f cc),true),some (Qb m cc,true),some (.int k,true),some (.int p,true),some (Qu l,true),some (.int nb,true),some (Qb m (up (λ_=>0) p 1),true)])
   have s0:=sp p pm
   have s9:=QpE R L p
   have go:∀t:Int,1<=t->t*Qq R L p<=Qg m T0 f cc p->Run (Qd (Qv 4 (QG 3 db [] (Qc (Qa 0) (Qc (Qa 4) (Qc (Qa 10) Qf))))) (Qd (Qv 5 (Q6 (QbT (Qa 5) (Qa 10)) (.tp [1,2]) [none,none,none] Qa6 (QD (Qa 1) (Qa 2)))) Qo))
     [some (Qp m R L,false),some (Qb m f,false),some (Qi cs,false),some (Qb m (Qq R L),true),some (Qb m (Qg m T0 f cc),true),some (Qb m cc,true),some (.int k,true),some (.int p,true),some (Qu l,true),some (.int nb,true),some (Qb m (up (λ_=>0) p t),true)]
     (λo=>match o with | .nx ρ2=>∃cc j6 j7 j8 j9 j10,Leg m T0 f cc/\((k+1:Nat):Int)<=Qm m cc/\ρ2=[some (Qp m R L,false),some (Qb m f,false),some (Qi cs,false),some (Qb m (Qq R L),true),some (Qb m (Qg m T0 f cc),true),some (Qb m cc,true),j6,j7,j8,j9,j10] | .ct ρ2=>False | .bk ρ2=>False | .rt d fr=>False):=λt t1 ht=>by
    have lg:Leg m T0 f (up cc p (cc p+t)):=Leg.step leg pm (by omega) (by rw[← hn p pm];exact ht)
    have e1:=eb (Qg m T0 f cc) (up (λ_=>0) p t)
    rw[QvW pm]at e1
    refine run_seq (Qj (QL (r:=⟨[Qp m R L,Qb m (Qg m T0 f cc),Qb m (up (λ_=>0) p t)],false,[4,10]⟩) rfl e1 rfl) ?_)
    change Nx _ (.nx [some (Qp m R L,false),some (Qb m f,false),some (Qi cs,false),some (Qb m (Qq R L),true),some (Qb m (Qg m T0 f (up cc p (cc p+t))),true),some (Qb m cc,true),some (.int k,true),some (.int p,true),some (Qu l,true),some (.int nb,true),some (Qb m (up (λ_=>0) p t),true)])
    refine run_seq (Qj (r:=⟨Qb m (up cc p (cc p+t)),true,[]⟩) ?_ (Qn ?_))
    ·refine(QaJ (toD:=λ(q:Nat)=>D.tup [.int (cc q),.int (up (λ_=>0) p t q)]) (out:=λ(q:Nat)=>D.int (up cc p (cc p+t) q)) (List.range m) (QdS (m:=m) (f:=λq=>D.int (cc q)) (g:=λq=>D.int (up (λ_=>0) p t q)) rfl rfl rfl rfl) rfl λq hq=>⟨[none,some (.int (cc q),true),some (.int (up (λ_=>0) p t q),true)],rfl,⟨.int (up cc p (cc p+t) q),true,[]⟩,?_,rfl,rfl⟩).trans rfl
     refine(QX (a:=cc q) (b:=up (λ_=>0) p t q) rfl rfl rfl rfl).trans ?_
     congr 3
     unfold up
     by_cases e:q=p
     ·subst e;rw[if_pos rfl,if_pos rfl]
     ·rw[if_neg e,if_neg e];show cc q+0=cc q;omega
    ·refine⟨up cc p (cc p+t),_,_,_,_,_,lg,?_,rfl⟩
     rw[Qq8 pm];omega
   refine QE (Qae (b:=decide (nb / 64 % 3=1)) (QJ (Qd9 (a:=nb / 64 % 3) (b:=1) (Qaq (a:=nb / 64) (b:=3) (QhG (a:=nb) (b:=64) rfl rfl rfl rfl (by decide) (by decide)) rfl rfl rfl (by decide)) rfl rfl rfl) rfl) (λ_=>?_) (λ_=>Qn ?_))
   ·refine run_seq (Qcg (x:=10) (m:=m) (f:=up (λ_=>0) p 1) (i:=p) (v:=Qg m T0 f cc p / Qq R L p) (ri:=⟨.int p,true,[]⟩) rfl rfl rfl (QhG (a:=Qg m T0 f cc p) (b:=Qq R L p) (Qcj (m:=m) (f:=Qg m T0 f cc) (i:=p) (ra:=⟨Qb m (Qg m T0 f cc),true,[4]⟩) (rb:=⟨.int p,true,[]⟩) rfl rfl rfl rfl pm) rfl (Qcj (m:=m) (f:=Qq R L) (i:=p) (ra:=⟨Qb m (Qq R L),true,[3]⟩) (rb:=⟨.int p,true,[]⟩) rfl rfl rfl rfl pm) rfl s0 (by have:=g3;have:=g4;omega)) rfl (by omega) (by omega) (Qn ?_))
    rw[ZO,show up (up (λ_=>0) p 1) p (Qg m T0 f cc p / Qq R L p)=up (λ_=>0) p (Qg m T0 f cc p / Qq R L p) by funext q;unfold up;split<;>rfl]
    refine(go _ ?_ ?_).mono λo ho=>?_
    ·exact(Int.le_ediv_iff_mul_le s0).mpr (by omega)
    ·rw[ZaK]
     exact Int.mul_ediv_self_le (by omega)
    ·cases o with
     | nx ρ=>exact ho
     | _=>exact ho.elim
   ·refine(go 1 (Zay _) (by omega)).mono λo ho=>?_
    cases o with
    | nx ρ=>exact ho
    | _=>exact ho.elim
 ·rintro ρ ⟨cc,j6,j7,j8,j9,j10,leg,hi,rfl⟩
  rw[ZR]at hi
  have:=Qa1 (leg.least tp (λp _=>td.leg.nonneg p) td.stb)
  omega
theorem QpM{t:List Nat}(nd:t.Nodup)(p:Nat):((t.map λ(q:Nat)=>(q:Int)).count (p:Int):Int)=QQ t p:=by
 have e:(t.map λ(q:Nat)=>(q:Int)).count (p:Int)=t.count p:=by
  induction t with
  | nil=>rfl
  | cons a t ih=>
   rw[Zq,Zav,Zav,ih (ZS.mp nd).2]
   by_cases z:a=p
   ·subst z;simp
   ·have h1:((a:Int) == (p:Int))=false:=by rw[beq_eq_false_iff_ne];omega
    have h2:(a == p)=false:=by rw[beq_eq_false_iff_ne];exact z
    rw[h1,h2]
 rw[e]
 unfold QQ
 by_cases h:p∈t
 ·have h1:=ZX.mp nd p
  have h2:=Zao.mpr h
  rw[if_pos h,show t.count p=1 by omega];rfl
 ·rw[if_neg h,ZI.mpr h];rfl
theorem QuQ{fa fb:DE}{ρ:En}{ra:HS.R}{rb:HS.R}{t:List Nat}{p:Nat}(nd:t.Nodup)(ha:fa ρ=some ra)(ea:ra.d=Qu t)(hb:fb ρ=some rb)(eb:rb.d= .int p):dM1 QiI fa (Qc fb Qf) ρ=some ⟨.int (QQ t p),true,[]⟩:=by
 unfold dM1
 rw[ha,Za,QF hb (QaV ρ),Za]
 show(QiI ra.d rb.d).map _=_
 rw[ea,eb]
 show((QbP (t.map λ(q:Nat)=>D.int (q:Int))).map λns=>D.int (ns.count (p:Int):Nat)).map _=_
 have:QbP (t.map λ(q:Nat)=>D.int (q:Int))=some (t.map λ(q:Nat)=>(q:Int)):=by
  clear ha ea nd
  induction t with
  | nil=>rfl
  | cons a t ih=>rw[Zq,QbP,ih];rfl
 rw[this]
 show some (HS.R.mk (D.int ((t.map λ(q:Nat)=>(q:Int)).count (p:Int):Nat)) true [])=_
 rw[QpM nd]
noncomputable def QhB(QaU:Den):DS:=(Qd (sIf (bOr (Qbp (QC (QeD "tuple" (Qa 0)))) (bOr (QC (dOp gNe (dBf QaI (Qc (Qa 0) Qf)) (dC (.int 3)))) (Qbp (QC (QeD "list" (Qr (Qa 0) (dC (.int 2)))))))) (Qd (Qai (dC (.bl false))) Qo) Qo) (Qd (sIf (bOr (Qbp (QC (QG 2 QaU [] (Qc (Qr (Qa 0) (dC (.int 0))) (Qc (Qr (Qa 1) (dC (.int 0))) Qf))))) (Qbp (QC (QG 2 QaU [] (Qc (Qr (Qa 0) (dC (.int 1))) (Qc (Qr (Qa 1) (dC (.int 1))) Qf)))))) (Qd (Qai (dC (.bl false))) Qo) Qo) (Qd (Qv 2 (Qas (Q4 (Qc (dC (.int 0)) Qf)) (dBf QaI (Qc (Qr (Qa 1) (dC (.int 1))) Qf)))) (Qd (Qa3 (Qay (Qr (Qa 0) (dC (.int 2)))) (.nm 3) (Qd (sIf (Qbp (QC (QeD "list" (Qa 3)))) (Qd (Qai (dC (.bl false))) Qo) Qo) (Qd (Qa3 (QaO (dBf QaI (Qc (Qa 2) Qf))) (.nm 4) (Qd (Qce 2 Q1 (Qa 4) (QD (Qr (Qa 2) (Qa 4)) (dM1 QiI (Qa 3) (Qc (Qa 4) Qf)))) Qo)) Qo))) (Qd (Qai (dOp gEq (Qa 2) (Qr (Qa 1) (dC (.int 1))))) Qo)))))
def Qnr(d:Den):Prop:=∀(m:Nat) (h c:Nat->Int) (ts:List (List Nat)),m<=1000->ts.length<=2000->(∀t∈ts,t.Nodup)->(∀p,p<m->QA ts p=c p)->d [.tup [Qb m h,Qb m c,Qav ts],.tup [Qb m h,Qb m c]]=some (.bl true,true)
theorem QvI{di:Den}(hi:Qh6 di):Qnr (Qx 5 (QhB di)):=λm h c ts hm hl nd hc=>by
 have row:∀f:Nat->Int,di [Qb m f,Qb m f]=some (.bl true,true):=λf=>by rw[Qep];exact hi _
 refine QbV ?_
 let ρ0:List (Option (D×Bool)):=[some (.tup [Qb m h,Qb m c,Qav ts],false),some (.tup [Qb m h,Qb m c],false)]
 have i0:∀r,Qr (Qa 0) (dC (.int 0)) (some (.tup [Qb m h,Qb m c,Qav ts],false)::r)=some ⟨Qb m h,false,[]⟩:=λr=>rfl
 refine QE (Qae (b:=false) (Qdd (a:=false) (b:=false) (Qbc (b:=true) (QJ (b:=true) rfl rfl)) (Qdd (a:=false) (b:=false) rfl (Qbc (b:=true) (QJ (b:=true) rfl rfl)))) (λz=>by cases z) (λ_=>Qn ?_))
 refine QE (Qae (b:=false) (Qdd (a:=false) (b:=false) (Qbc (b:=true) (QJ (b:=true) (QL (r:=⟨[Qb m h,Qb m h],false,[]⟩) rfl (row h) rfl) rfl)) (Qbc (b:=true) (QJ (b:=true) (QL (r:=⟨[Qb m c,Qb m c],false,[]⟩) rfl (row c) rfl) rfl))) (λz=>by cases z) (λ_=>Qn ?_))
 refine run_seq (Qj (Qc7 (z:=0) (n:=m) (Qmz (m:=m) (f:=c) (r:=⟨Qb m c,false,[]⟩) rfl rfl) rfl (by omega)) ?_)
 change Nx _ (.nx [some (.tup [Qb m h,Qb m c,Qav ts],false),some (.tup [Qb m h,Qb m c],false),some (Qb m (λ_=>0),true),none,none])
 refine QE (Qad (toD:=Qu) ts (λi ρ=>∃j3 j4,ρ=[some (.tup [Qb m h,Qb m c,Qav ts],false),some (.tup [Qb m h,Qb m c],false),some (Qb m (QA (ts.take i)),true),j3,j4]) (ir:=⟨ts.map Qu,[]⟩) rfl rfl ⟨none,none,?_⟩ ?_ ?_)
 ·have:(QA (ts.take 0):Nat->Int)=λ_=>0:=by funext p;simp[QA]
  rw[this];rfl
 ·rintro i t ρ ht ⟨j3,j4,rfl⟩
  have ndt:=nd t (ZC ht)
  refine⟨_,rfl,?_⟩
  change Run _ [some (.tup [Qb m h,Qb m c,Qav ts],false),some (.tup [Qb m h,Qb m c],false),some (Qb m (QA (ts.take i)),true),some (Qu t,false),j4] _
  refine QE (Qae (b:=false) (Qbc (b:=true) (QJ (b:=true) rfl rfl)) (λz=>by cases z) (λ_=>Qn ?_))
  refine QE (Qad (toD:=λ(k:Nat)=>D.int (k:Int)) (List.range m) (λq ρ=>∃j4,ρ=[some (.tup [Qb m h,Qb m c,Qav ts],false),some (.tup [Qb m h,Qb m c],false),some (Qb m (λp=>QA (ts.take i) p+if p<q then QQ t p else 0),true),some (Qu t,false),j4])
   (QbS (n:=m) (Qmz (m:=m) (f:=QA (ts.take i)) (r:=⟨Qb m (QA (ts.take i)),true,[2]⟩) rfl rfl) rfl (by omega)) rfl ⟨j4,?_⟩ ?_ ?_)
  ·have:Qb m (λp=>QA (ts.take i) p+if p<0 then QQ t p else 0)=Qb m (QA (ts.take i)):=Qa0 λp _=>by rw[if_neg (by omega)];omega
   rw[this];rfl
  ·rintro q k ρ hk ⟨j4,rfl⟩
   have hk':k=q/\q<m:=by
    obtain⟨h1,h2⟩:=Zd.mp hk
    simp at h1 h2;exact⟨h2.symm,h1⟩
   obtain⟨rfl,hk2⟩:=hk'
   refine⟨_,rfl,?_⟩
   change Run _ [some (.tup [Qb m h,Qb m c,Qav ts],false),some (.tup [Qb m h,Qb m c],false),some (Qb m (λp=>QA (ts.take i) p+if p<k then QQ t p else 0),true),some (Qu t,false),some (.int k,true)] _
   refine QE (Qcg (x:=2) (m:=m) (i:=k) (ri:=⟨.int k,true,[]⟩) rfl rfl rfl (QX (Qcj (m:=m) (f:=λp=>QA (ts.take i) p+if p<k then QQ t p else 0) (i:=k) (ra:=⟨Qb m (λp=>QA (ts.take i) p+if p<k then QQ t p else 0),true,[2]⟩) (rb:=⟨.int k,true,[]⟩) rfl rfl rfl rfl hk2) rfl (QuQ (t:=t) (p:=k) ndt (ra:=⟨Qu t,false,[]⟩) (rb:=⟨.int k,true,[]⟩) rfl rfl rfl rfl) rfl) rfl (by omega) (by omega) (Qn ⟨some (.int k,true),?_⟩))
   rw[ZO]
   have:Qb m (up (λp=>QA (ts.take i) p+if p<k then QQ t p else 0) k ((QA (ts.take i) k+if k<k then QQ t k else 0)+QQ t k))=Qb m (λp=>QA (ts.take i) p+if p<k+1 then QQ t p else 0):=Qa0 λp _=>by
    unfold up
    by_cases e:p=k
    ·subst e;rw[if_pos rfl,if_neg (by omega),if_pos (by omega)];omega
    ·rw[if_neg e]
     dsimp only
     by_cases z:p<k
     ·rw[if_pos z,if_pos (by omega)]
     ·rw[if_neg z,if_neg (by omega)]
   rw[this];rfl
  ·rintro ρ ⟨j4,rfl⟩
   rw[ZR]
   refine Qn ⟨some (Qu t,false),j4,?_⟩
   have:Qb m (λp=>QA (ts.take i) p+if p<m then QQ t p else 0)=Qb m (QA (ts.take (i+1))):=Qa0 λp hp=>by rw[if_pos hp,Qee ht]
   rw[this]
 ·rintro ρ ⟨j3,j4,rfl⟩
  rw[Zak,Qa0 hc]
  exact Q7 (Qs8 (d:=Qb m c) (ra:=⟨Qb m c,true,[2]⟩) (rb:=⟨Qb m c,false,[]⟩) rfl rfl rfl rfl (Qyd 7 m c)) ⟨rfl,rfl⟩
noncomputable def Qjb(QbA:Den)(Qco:Den)(QaK:Den)(QdP:Den)(QaU:Den)(Qbn:Den)(Qez:Qcb)(Qaj:Qcb):DS:=(Qd (Qv 1 (QG 2 QbA [] (Qc (Qa 0) (Qc (dC (.int 86)) Qf)))) (Qd (Qv 2 (QG 1 Qco [] (Qc (Qa 1) Qf))) (Qd (Qv 3 (Q6 (QaO (Qr (Qa 2) (dC (.int 0)))) (.nm 1) [none,none,some 1] Qa6 (dOp QaL (Qr (Qa 2) (QD (dC (.int 17)) (Qa 1))) (dC (.int 4))))) (Qd (Qv 4 (QG 3 QaK [] (Qc (Qa 2) (Qc (Qa 3) (Qc (Qbq (Qa 1) (Qam (dC (.int 22))) (Qam (dC (.int 86)))) Qf))))) (Qd (Qv 5 (QG 2 QdP [] (Qc (Qa 2) (Qc (dList (Qc (Qa 3) Qf)) Qf)))) (Qd (sIf (bOr (Qbp (QC (QeD "tuple" (Qa 5)))) (QC (dOp gNe (dBf QaI (Qc (Qa 5) Qf)) (dC (.int 2))))) (Qd (Qai (dC (.bl false))) Qo) Qo) (Qd (sIf (bOr (Qbp (QC (QG 2 QaU [] (Qc (Qr (Qa 5) (dC (.int 0))) (Qc (Qr (Qa 4) (dC (.int 0))) Qf))))) (Qbp (QC (QG 2 QaU [] (Qc (Qr (Qa 5) (dC (.int 1))) (Qc (Qr (Qa 4) (dC (.int 1))) Qf)))))) (Qd (Qai (dC (.bl false))) Qo) Qo) (Qd (Qv 6 (Q6 (Qay (Qbq (Qa 1) (Qam (dC (.int 22))) (Qam (QD (dC (.int 22)) (dOp QaL (Qr (Qa 1) (dC (.int 21))) (dC (.int 65))))))) (.nm 1) [none,none] Qa6 (dOp QaL (Qa 1) (dOp Qgb (dC (.int 10)) (dC (.int 18)))))) (Qd (sIf (bOr (Qbp (QC (QG 2 Qbn [] (Qc (Qf5 ⟨3,2,Qez⟩ [some (Qa 2),some (dList (Qc (Qa 3) Qf)),some (Qe7 "Way")]) (Qc (Qa 4) Qf))))) (Qbp (QC (QG 2 Qbn [] (Qc (Qf5 ⟨3,2,Qez⟩ [some (Qa 2),some (dList (Qc (Qa 3) Qf)),some (Qe7 "Together")]) (Qc (Qa 4) Qf)))))) (Qd (Qai (dC (.bl false))) Qo) Qo) (Qd (Qai (QG 2 Qbn [] (Qc (Qf5 ⟨3,2,Qez⟩ [some (Qa 2),some (dList (Qc (Qa 3) Qf)),some (QhK "Picked" ⟨2,0,Qaj⟩ (Qc (Qa 6) Qf))]) (Qc (Qa 4) Qf)))) Qo))))))))))
def Qn3(e:Qcb):Prop:=∀ps:List Int,e [.obj (.ins "Picked" []) [],Qi ps]=some (.non,wkD (.pick ps) 0)
theorem Qt2{r:IoR}{fs:List (Option DE)}{ρ:En}{a b o:HS.R}{q:D×D}{d:D}(hn:r.n=3)(hp:r.p=2)(e:evs fs ρ=some [some a,some b,some o])(hf:fs.all Option.isSome=true)(hl:fs.length=3)(of:o.fr=true)(om:o.M=[])(oi:isRef o.d=true)(h:r.den [a.d,b.d,o.d]=some q)(hq:q.1=d):Qf5 r fs ρ=some ⟨d,true,[]⟩:=by
 unfold Qf5
 rw[e,Za,hp]
 show(if(o.fr && o.M.isEmpty && isRef o.d && fs.all Option.isSome && decide (fs.length=r.n))=true then _ else _)=_
 rw[of,om,oi,hf,hl,hn]
 show(r.den [a.d,b.d,o.d]).map _=_
 rw[h,← hq];rfl
theorem Qvt{dc dn dow dst di dra:Den}{er ei:Qcb}(hc:CellsOk dc)(hn:Qhf dn)(how:Qhd dow)(hst:Qit dst)(hi:Qh6 di)(hra:Qnr dra)(her:QnD er)(hei:Qn3 ei)(ns:List Int)(hl:ns.length<=63):Qx 7 (Qjb dc dn dow dst di dra er ei) [.lst (ns.map .int)]=some (.bl true,true):=by
 obtain⟨cs,ecs,lcs,hcs⟩:=hc ns 86 hl (by decide)
 obtain⟨m,R,L,en,m0,m4,hw,hP⟩:=hn cs lcs hcs
 have cell:∀k:Nat,k<86->∃c,cs[k]? =some c/\0<=c/\c<B40:=λk hk=>⟨cs[k]'(by omega),Zs (by omega),hcs _ (Zba _)⟩
 obtain⟨f,rf⟩:∃f:Nat->Int,f=λk=>cs.getD (17+k) 0 % 4:=⟨_,rfl⟩
 have fb:∀j,0<=f j/\f j<=3:=λj=>by
  rw[rf]
  have:=ZE (cs.getD (17+j) 0) (by decide:(4:Int)≠0)
  have:=ZA (cs.getD (17+j) 0) (by decide:(0:Int)<4)
  dsimp only
  omega
 obtain⟨c,est,td⟩:=hst m R L f m0 (by omega) hw λj _=>by have:=fb j;omega
 have N12:Qm m f<=12:=by
  have:=Qa1 (m:=m) (f:=f) (g:=λ_=>3) λj _=>(fb j).2
  have cst:∀k:Nat,Qm k (λ_=>(3:Int))=3*k:=λk=>by
   induction k with
   | zero=>rfl
   | succ k ih=>rw[QN,ih];omega
  rw[cst]at this
  omega
 have sum:Qm m c<=2000:=by
  have:=Qrb hw m0 (λj _=>(fb j).1) td hP N12 (by decide)
  rcases(by omega:m=1∨m=2∨m=3∨m=4)with rfl | rfl | rfl | rfl<;>omega
 have eow:=λcs' h1 h2=>how m R L f c cs' m0 (by omega) hw (λj _=>(fb j).1) td sum h1 h2
 unfold Qda at est
 obtain⟨T0,rT⟩:∃T0,T0=Qs m (Qk R L):=⟨_,rfl⟩
 have runs:∀(k:Wk) (u:Nat),Qns k->∃ts,(∀t∈ts,t.Nodup)/\ts.length<=2000/\(∀p,p<m->QA ts p=c p)/\∃o,er [Qp m R L,Qb m f,wkD k u]=some (.tup [Qb m (Qg m T0 f c),Qb m c,Qav ts],o):=λk u hk=>by
  obtain⟨ts,w,fin,eq,tl,e⟩:=her k u m R L f c hk m0 (by omega) hw (λj _=>(fb j).1) td sum
  refine⟨ts,λt ht=>?_,tl,eq,wkD k (u+ts.length),e.trans ?_⟩
  ·obtain⟨i,h1,h2⟩:=List.getElem_of_mem ht
   exact(w.mem (by rw[Zs h1,h2])).1
  ·unfold Qp2 hpA
   rw[Qa0 eq,Qa0 (f:=Qg m (Qs m (Qk R L)) f (QA ts)) (g:=Qg m T0 f c) λj _=>by rw[rT];exact QbM j rfl eq]
 rw[← rT]at est eow
 have row:∀g:Nat->Int,di [Qb m g,Qb m g]=some (.bl true,true):=λg=>by rw[Qep];exact hi _
 refine QbV ?_
 refine run_seq (Qj (QL (r:=⟨[.lst (ns.map .int),.int 86],false,[]⟩) rfl ecs rfl) ?_)
 refine run_seq (Qj (QL (r:=⟨[Qi cs],true,[1]⟩) rfl en rfl) ?_)
 change Nx _ (.nx [some (.lst (ns.map .int),false),some (Qi cs,true),some (Qp m R L,true),none,none,none,none])
 refine run_seq (Qj (r:=⟨Qb m f,true,[]⟩) ?_ ?_)
 ·have him:Qr (Qa 2) (dC (.int 0)) [some (.lst (ns.map .int),false),some (Qi cs,true),some (Qp m R L,true),none,none,none,none]=some ⟨.int m,true,[]⟩:=rfl
  refine(QaJ (toD:=λ(k:Nat)=>D.int (k:Int)) (out:=λ(k:Nat)=>D.int (f k)) (List.range m) (QbS (n:=m) him rfl (by omega)) rfl λk hk=>?_).trans rfl
  have hk:=ZG.mp hk
  obtain⟨ck,eck,_⟩:=cell (17+k) (by omega)
  refine⟨[none,some (.int k,true),some (Qi cs,false)],rfl,⟨.int (f k),true,[]⟩,?_,rfl,rfl⟩
  rw[rf]
  dsimp only
  rw[ZH,eck]
  exact Qaq (a:=ck) (b:=4) (QbJ (ns:=cs) (i:=17+(k:Int)) (v:=ck) (ra:=⟨Qi cs,false,[]⟩) rfl rfl (QX (a:=17) (b:=k) rfl rfl rfl rfl) rfl (by omega) (by rw[show(17+(k:Int)).toNat=17+k by omega];exact eck)) rfl rfl rfl (by decide)
 change Nx _ (.nx [some (.lst (ns.map .int),false),some (Qi cs,true),some (Qp m R L,true),some (Qb m f,true),none,none,none])
 have esl:=QgD (cs:=cs) (a:=22) (b:=86) (fa:=Qa 1) (fl:=dC (.int 22)) (fh:=dC (.int 86)) (ρ:=[some (.lst (ns.map .int),false),some (Qi cs,true),some (Qp m R L,true),some (Qb m f,true),none,none,none]) (ra:=⟨Qi cs,true,[1]⟩) rfl rfl rfl rfl rfl rfl
 have eo:=eow ((cs.drop (min 22 cs.length)).take (min 86 cs.length-min 22 cs.length)) (by rw[ZW,Zap];omega) (by rw[ZW,Zap];omega)
 refine run_seq (Qj (QL (QF (r:=⟨Qp m R L,true,[2]⟩) rfl (QF (r:=⟨Qb m f,true,[3]⟩) rfl (QF esl (QaV _)))) eo rfl) ?_)
 change Nx _ (.nx [some (.lst (ns.map .int),false),some (Qi cs,true),some (Qp m R L,true),some (Qb m f,true),some (.tup [Qb m (Qg m T0 f c),Qb m c],true),none,none])
 have elf:∀ρ:En,ρ[3]? =some (some (Qb m f,true))->dList (Qc (Qa 3) Qf) ρ=some ⟨Qb m f,true,[]⟩:=λρ h=>Qdm (m:=m) (f:=f) (QF (Qbd h) (QaV ρ)) rfl
 refine run_seq (Qj (QL (QF (r:=⟨Qp m R L,true,[2]⟩) rfl (QF (elf _ rfl) (QaV _))) est rfl) ?_)
 change Nx _ (.nx [some (.lst (ns.map .int),false),some (Qi cs,true),some (Qp m R L,true),some (Qb m f,true),some (.tup [Qb m (Qg m T0 f c),Qb m c],true),some (.tup [Qb m (Qg m T0 f c),Qb m c],true),none])
 refine QE (Qae (b:=false) (Qdd (a:=false) (b:=false) (Qbc (b:=true) (QJ (b:=true) rfl rfl)) rfl) (λz=>by cases z) (λ_=>Qn ?_))
 refine QE (Qae (b:=false) (Qdd (a:=false) (b:=false) (Qbc (b:=true) (QJ (b:=true) (QL (r:=⟨[Qb m (Qg m T0 f c),Qb m (Qg m T0 f c)],true,[5,4]⟩) rfl (row _) rfl) rfl)) (Qbc (b:=true) (QJ (b:=true) (QL (r:=⟨[Qb m c,Qb m c],true,[5,4]⟩) rfl (row c) rfl) rfl))) (λz=>by cases z) (λ_=>Qn ?_))
 obtain⟨c21,e21,p21,_⟩:=cell 21 (by decide)
 have d1:=ZE c21 (by decide:(65:Int)≠0)
 have d2:=ZA c21 (by decide:(0:Int)<65)
 obtain⟨q,eq⟩:∃q:Nat,(q:Int)=22+c21 % 65:=⟨(22+c21 % 65).toNat,by omega⟩
 obtain⟨ps,rps⟩:∃ps:List Int,ps=((cs.drop (min 22 cs.length)).take (min q cs.length-min 22 cs.length)).map λv=>v % 10^18:=⟨_,rfl⟩
 have lps:ps.length<=1000:=by rw[rps,Zj,ZW,Zap];omega
 refine run_seq (Qj (r:=⟨Qi ps,true,[]⟩) ?_ ?_)
 ·have eh:QD (dC (.int 22)) (dOp QaL (Qr (Qa 1) (dC (.int 21))) (dC (.int 65))) [some (.lst (ns.map .int),false),some (Qi cs,true),some (Qp m R L,true),some (Qb m f,true),some (.tup [Qb m (Qg m T0 f c),Qb m c],true),some (.tup [Qb m (Qg m T0 f c),Qb m c],true),none]=some ⟨.int q,true,[]⟩:=by
   rw[eq]
   exact QX (a:=22) rfl rfl (Qaq (a:=c21) (b:=65) (QbJ (ns:=cs) (i:=21) (v:=c21) (ra:=⟨Qi cs,true,[1]⟩) rfl rfl rfl rfl (by decide) e21) rfl rfl rfl (by decide)) rfl
  have es2:=QgD (cs:=cs) (a:=22) (b:=q) (fa:=Qa 1) (fl:=dC (.int 22)) (ra:=⟨Qi cs,true,[1]⟩) rfl rfl rfl rfl eh rfl
  refine(QaJ (toD:=D.int) (out:=λv=>D.int (v % 10^18)) ((cs.drop (min 22 cs.length)).take (min q cs.length-min 22 cs.length)) (Qb4 es2 rfl) rfl λv hv=>⟨[none,some (.int v,true)],rfl,⟨.int (v % 10^18),true,[]⟩,Qaq (a:=v) (b:=10^18) rfl rfl (Qsw (a:=10) (k:=18) (by decide) (by decide)) rfl (by decide),rfl,rfl⟩).trans ?_
  rw[rps]
  unfold Qi
  rw[Zaq];rfl
 change Nx _ (.nx [some (.lst (ns.map .int),false),some (Qi cs,true),some (Qp m R L,true),some (Qb m f,true),some (.tup [Qb m (Qg m T0 f c),Qb m c],true),some (.tup [Qb m (Qg m T0 f c),Qb m c],true),some (Qi ps,true)])
 obtain⟨ρ,rρ⟩:∃ρ:En,ρ=[some (.lst (ns.map .int),false),some (Qi cs,true),some (Qp m R L,true),some (Qb m f,true),some (.tup [Qb m (Qg m T0 f c),Qb m c],true),some (.tup [Qb m (Qg m T0 f c),Qb m c],true),some (Qi ps,true)]:=⟨_,rfl⟩
 have one:∀(k:Wk) (fo:DE) (o:D),Qns k->fo ρ=some ⟨wkD k 0,true,[]⟩->QG 2 dra [] (Qc (Qf5 ⟨3,2,er⟩ [some (Qa 2),some (dList (Qc (Qa 3) Qf)),some fo]) (Qc (Qa 4) Qf)) ρ=some ⟨.bl true,true,[]⟩:=λk fo _ hk ho=>by
  obtain⟨ts,nd,tl,ec,o',e⟩:=runs k 0 hk
  have e2:Qa 2 ρ=some ⟨Qp m R L,true,[2]⟩:=by rw[rρ];rfl
  have e4:Qa 4 ρ=some ⟨.tup [Qb m (Qg m T0 f c),Qb m c],true,[4]⟩:=by rw[rρ];rfl
  have e3:=elf ρ (by rw[rρ];rfl)
  have ev:evs [some (Qa 2),some (dList (Qc (Qa 3) Qf)),some fo] ρ=some [some ⟨Qp m R L,true,[2]⟩,some ⟨Qb m f,true,[]⟩,some ⟨wkD k 0,true,[]⟩]:=by
   simp only[evs,e2,e3,ho,Za,ZU]
  refine QL (QF (Qt2 rfl rfl ev rfl rfl rfl rfl (by cases k<;>rfl) e rfl) (QF e4 (QaV _))) (hra m _ c ts (by omega) tl nd ec) rfl
 rw[← rρ]
 refine QE (Qae (b:=false) (Qdd (a:=false) (b:=false) (Qbc (b:=true) (QJ (b:=true) (one .plain (Qe7 "Way") .non trivial rfl) rfl)) (Qbc (b:=true) (QJ (b:=true) (one .both (Qe7 "Together") .non trivial rfl) rfl))) (λz=>by cases z) (λ_=>Qn ?_))
 refine Q7 (one (.pick ps) (QhK "Picked" ⟨2,0,ei⟩ (Qc (Qa 6) Qf)) .non lps ?_) ⟨rfl,rfl⟩
 unfold QhK
 rw[QF (show Qa 6 ρ=some ⟨Qi ps,true,[6]⟩ by rw[rρ];rfl) (QaV _),Za]
 show(if 2=1+1 then(ei [.obj (.ins "Picked" []) [],Qi ps]).bind _ else none)=_
 rw[if_pos rfl,hei ps];rfl
end HS
theorem HS.some_of{α:Type}{x:Option α}{d:α}(h:x.isSome=true):x=some (x.getD d):=by cases x with | none=>cases h | some a=>rfl
namespace Law
open PySem L2 HS
noncomputable section
def top(i:Nat):Stmt:=PySem.Challenge.pw_heapstill_k14_whole_any_order.main.body.getD i (.Pass ⟨0,0,0,0⟩)
abbrev cst:List (Str×Cn):=[("MOST_TOPPLINGS",.inl 2000)]
abbrev Sc(s:Stmt)(P:List Str):Prop:=QaZ (namesOf (Qh s)) P (Qh s)
theorem scM{s:Stmt}{P:List Str}(h1:(Qh s).kind= .function)(h2:(Qh s).isCoroutine=false)(h3:(Qh s).isGenerator=false)(h4:(namesOf (Qh s)).Nodup/\(namesOf (Qh s)).take P.length=P/\(∀x∈P,(Qh s).names.lookup x=some .local ∨(Qh s).names.lookup x=some .cell)/\∀y∈(Qh s).names,y.2≠ .free):Sc s P:=⟨h1,h2,h3,h4.1,h4.2.1,h4.2.2.1,h4.2.2.2⟩
noncomputable abbrev Cp(s:Stmt)(Γ:List (Str×FnR)):Option DS:=Qaa 60 (Qej s Γ cst) (Qah s)
noncomputable abbrev CpO(s:Stmt)(Γ:List (Str×FnR))(T:ObT)(p:Option Nat):Option DS:=Qaa 60 (thO 60 (Qej s Γ cst) T p) (Qah s)
noncomputable abbrev Dn(s:Stmt)(g:DS):Den:=Qx (namesOf (Qh s)).length g
noncomputable abbrev Eu(s:Stmt)(p:Nat)(g:DS):Qcb:=QdV (namesOf (Qh s)).length p g
noncomputable abbrev Gc(x:Str)(n:Nat)(d:Den)(Γ:List (Str×FnR)):List (Str×FnR):=(x,⟨n,[],d⟩)::Γ
noncomputable abbrev T0:ObT:=⟨HS.wCl,[],[],[],["Way","Together"]⟩
abbrev Qb7:=top 6
theorem Qly:Sc Qb7 ["net","rows"]:=scM rfl rfl rfl (by decide+kernel)
theorem QlO:QM "need_rows" Qb7 ["net","rows"]:=λ_ _ _ _ _ _=>lc λ_=>lc λ_=>l0 rfl
def QgU:=(Cp Qb7 []).getD QR
theorem QlY:Cp Qb7 []=some QgU:=some_of (by decide+kernel)
abbrev QaR:=Dn Qb7 QgU
abbrev QeF:=Gc "need_rows" 2 QaR []
abbrev Qbw:=top 7
theorem QjG:Sc Qbw ["net","heaps"]:=scM rfl rfl rfl (by decide+kernel)
theorem Qlr:QM "need_heaps" Qbw ["net","heaps"]:=λ_ _ _ _ _ _=>lc λ_=>lc λ_=>l0 rfl
def QfP:=(Cp Qbw QeF).getD QR
theorem Qlo:Cp Qbw QeF=some QfP:=some_of (by decide+kernel)
abbrev Q2:=Dn Qbw QfP
abbrev Qeg:=Gc "need_heaps" 2 Q2 QeF
abbrev QdU:=top 9
theorem Qq1:Sc QdU ["roads","lanes"]:=scM rfl rfl rfl (by decide+kernel)
theorem QsK:QM "steps" QdU ["roads","lanes"]:=λ_ _ _ _ _ _=>lc λ_=>lc λ_=>l0 rfl
def QmE:=(Cp QdU Qeg).getD QR
theorem QsU:Cp QdU Qeg=some QmE:=some_of (by decide+kernel)
abbrev QcT:=Dn QdU QmE
abbrev Qio:=Gc "steps" 2 QcT Qeg
abbrev QbE:=top 10
theorem QjO:Sc QbE ["net"]:=scM rfl rfl rfl (by decide+kernel)
theorem Qk3:QM "toll_table" QbE ["net"]:=λ_ _ _ _ _ _=>lc λ_=>l0 rfl
def QfV:=(Cp QbE Qio).getD QR
theorem QkF:Cp QbE Qio=some QfV:=some_of (by decide+kernel)
abbrev Q3:=Dn QbE QfV
abbrev Qd1:=Gc "toll_table" 1 Q3 Qio
abbrev QbX:=top 11
theorem Qlg:Sc QbX ["net"]:=scM rfl rfl rfl (by decide+kernel)
theorem QlJ:QM "span_list" QbX ["net"]:=λ_ _ _ _ _ _=>lc λ_=>l0 rfl
def QgO:=(Cp QbX Qd1).getD QR
theorem QlV:Cp QbX Qd1=some QgO:=some_of (by decide+kernel)
abbrev QbZ:=Dn QbX QgO
abbrev QeL:=Gc "span_list" 1 QbZ Qd1
abbrev QdN:=top 12
theorem QpF:Sc QdN ["net","row","counts"]:=scM rfl rfl rfl (by decide+kernel)
theorem Qse:QM "after" QdN ["net","row","counts"]:=λ_ _ _ _ _ _=>lc λ_=>lc λ_=>lc λ_=>l0 rfl
def Ql9:=(Cp QdN QeL).getD QR
theorem QtH:Cp QdN QeL=some Ql9:=some_of (by decide+kernel)
abbrev QdL:=Dn QdN Ql9
abbrev Qi3:=Gc "after" 3 QdL QeL
abbrev QcS:=top 15
theorem QmH:Sc QcS ["tolls","heap","counts"]:=scM rfl rfl rfl (by decide+kernel)
theorem Qo4:QM "settled" QcS ["tolls","heap","counts"]:=λ_ _ _ _ _ _=>lc λ_=>lc λ_=>lc λ_=>l0 rfl
def Qjh:=(Cp QcS Qi3).getD QR
theorem Qo9:Cp QcS Qi3=some Qjh:=some_of (by decide+kernel)
abbrev QcR:=Dn QcS Qjh
abbrev Qf9:=Gc "settled" 3 QcR Qi3
abbrev QdT:=top 14
theorem Qrj:Sc QdT ["net","heap"]:=scM rfl rfl rfl (by decide+kernel)
theorem Qtl:QM "still" QdT ["net","heap"]:=λ_ _ _ _ _ _=>lc λ_=>lc λ_=>l0 rfl
def Qmr:=(Cp QdT Qf9).getD QR
theorem QsI:Cp QdT Qf9=some Qmr:=some_of (by decide+kernel)
abbrev QdP:=Dn QdT Qmr
abbrev Qi2:=Gc "still" 2 QdP Qf9
abbrev Qba:=top 18
theorem Qhv:Sc Qba ["net","heap"]:=scM rfl rfl rfl (by decide+kernel)
theorem QiG:QM "ready_places" Qba ["net","heap"]:=λ_ _ _ _ _ _=>lc λ_=>lc λ_=>l0 rfl
def Qe2:=(Cp Qba Qi2).getD QR
theorem QiT:Cp Qba Qi2=some Qe2:=some_of (by decide+kernel)
abbrev QU:=Dn Qba Qe2
abbrev QP:=Gc "ready_places" 2 QU Qi2
abbrev QbB:=inClass (top 19) 0
theorem QjH:Sc QbB ["self","net","heap"]:=scM rfl rfl rfl (by decide+kernel)
theorem QkO:QfF "chosen" "Way.chosen" QbB ["self","net","heap"]:=λ_ _ _ _ _ _=>lc λ_=>lc λ_=>lc λ_=>l0 rfl
def Qed:=(CpO QbB QP T0 (some 0)).getD QR
theorem Qk2:CpO QbB QP T0 (some 0)=some Qed:=some_of (by decide+kernel)
noncomputable abbrev Qc9:=Eu QbB 0 Qed
abbrev QaB:=inClass (top 20) 0
theorem QfS:Sc QaB ["self","net","heap"]:=scM rfl rfl rfl (by decide+kernel)
theorem QgF:QfF "chosen" "Together.chosen" QaB ["self","net","heap"]:=λ_ _ _ _ _ _=>lc λ_=>lc λ_=>lc λ_=>l0 rfl
def QcF:=(CpO QaB QP T0 (some 0)).getD QR
theorem QgJ:CpO QaB QP T0 (some 0)=some QcF:=some_of (by decide+kernel)
noncomputable abbrev Qbs:=Eu QaB 0 QcF
abbrev QaA:=inClass (top 21) 0
theorem QfK:Sc QaA ["self","picks"]:=scM rfl rfl rfl (by decide+kernel)
theorem QgL:QfF "__init__" "Picked.__init__" QaA ["self","picks"]:=λ_ _ _ _ _ _=>lc λ_=>lc λ_=>l0 rfl
def QcE:=(CpO QaA QP T0 (some 0)).getD QR
theorem QgK:CpO QaA QP T0 (some 0)=some QcE:=some_of (by decide+kernel)
noncomputable abbrev Qaj:=Eu QaA 0 QcE
abbrev Qa2:=inClass (top 21) 1
theorem Qg5:Sc Qa2 ["self","net","heap"]:=scM rfl rfl rfl (by decide+kernel)
theorem Qib:QfF "chosen" "Picked.chosen" Qa2 ["self","net","heap"]:=λ_ _ _ _ _ _=>lc λ_=>lc λ_=>lc λ_=>l0 rfl
def Qdc:=(CpO Qa2 QP T0 (some 0)).getD QR
theorem Qii:CpO Qa2 QP T0 (some 0)=some Qdc:=some_of (by decide+kernel)
noncomputable abbrev Qcf:=Eu Qa2 0 Qdc
noncomputable abbrev T1:ObT:=⟨HS.wCl,(HS.wMe Qc9 Qbs Qcf),[],[("Picked",⟨2,0,Qaj⟩)],["Way","Together"]⟩
abbrev Qgf:=top 22
theorem Qui:Sc Qgf ["net","heap","way"]:=scM rfl rfl rfl (by decide+kernel)
theorem Qwl:QM "run" Qgf ["net","heap","way"]:=λ_ _ _ _ _ _=>lc λ_=>lc λ_=>lc λ_=>l0 rfl
def QnK:=(CpO Qgf QP T1 (some 2)).getD QR
theorem QwR:CpO Qgf QP T1 (some 2)=some QnK:=some_of (by decide+kernel)
noncomputable abbrev Qez:=Eu Qgf 2 QnK
noncomputable abbrev T2:ObT:=⟨HS.wCl,(HS.wMe Qc9 Qbs Qcf),[("run",⟨3,2,Qez⟩)],[("Picked",⟨2,0,Qaj⟩)],["Way","Together"]⟩
abbrev QbC:=top 24
theorem QjM:Sc QbC ["_law_script","_law_many"]:=scM rfl rfl rfl (by decide+kernel)
theorem QkV:QM "_law_cells" QbC ["_law_script","_law_many"]:=λ_ _ _ _ _ _=>lc λ_=>lc λ_=>l0 rfl
def QfL:=(Cp QbC QP).getD QR
theorem QlF:Cp QbC QP=some QfL:=some_of (by decide+kernel)
abbrev QbA:=Dn QbC QfL
abbrev Qd6:=Gc "_law_cells" 2 QbA QP
abbrev Qb6:=top 25
theorem QkI:Sc Qb6 ["_law_cells_here","_law_many","_law_kind"]:=scM rfl rfl rfl (by decide+kernel)
theorem QlU:QM "_law_base" Qb6 ["_law_cells_here","_law_many","_law_kind"]:=λ_ _ _ _ _ _=>lc λ_=>lc λ_=>lc λ_=>l0 rfl
def QgW:=(Cp Qb6 Qd6).getD QR
theorem Ql4:Cp Qb6 Qd6=some QgW:=some_of (by decide+kernel)
abbrev Qb8:=Dn Qb6 QgW
abbrev QeM:=Gc "_law_base" 3 Qb8 Qd6
abbrev Qb5:=top 26
theorem QlB:Sc Qb5 ["_law_many","_law_ways","_law_room"]:=scM rfl rfl rfl (by decide+kernel)
theorem QlP:QM "_law_fits" Qb5 ["_law_many","_law_ways","_law_room"]:=λ_ _ _ _ _ _=>lc λ_=>lc λ_=>lc λ_=>l0 rfl
def QgQ:=(Cp Qb5 QeM).getD QR
theorem Ql5:Cp Qb5 QeM=some QgQ:=some_of (by decide+kernel)
abbrev Qb9:=Dn Qb5 QgQ
abbrev QeK:=Gc "_law_fits" 3 Qb9 QeM
abbrev Qb2:=top 27
theorem QkC:Sc Qb2 ["_law_ways","_law_cells_here","_law_many","_law_kind","_law_room"]:=scM rfl rfl rfl (by decide+kernel)
theorem QlL:QM "_law_more" Qb2 ["_law_ways","_law_cells_here","_law_many","_law_kind","_law_room"]:=λ_ _ _ _ _ _=>lc λ_=>lc λ_=>lc λ_=>lc λ_=>lc λ_=>l0 rfl
def QgV:=(Cp Qb2 QeK).getD QR
theorem QlK:Cp Qb2 QeK=some QgV:=some_of (by decide+kernel)
abbrev QbY:=Dn Qb2 QgV
abbrev QeE:=Gc "_law_more" 5 QbY QeK
abbrev QcA:=top 28
theorem Ql2:Sc QcA ["_law_cells_here"]:=scM rfl rfl rfl (by decide+kernel)
theorem QmO:QM "_law_net" QcA ["_law_cells_here"]:=λ_ _ _ _ _ _=>lc λ_=>l0 rfl
def Qh5:=(Cp QcA QeE).getD QR
theorem Qnu:Cp QcA QeE=some Qh5:=some_of (by decide+kernel)
abbrev Qco:=Dn QcA Qh5
abbrev Qff:=Gc "_law_net" 1 Qco QeE
abbrev QbD:=top 29
theorem QjI:Sc QbD ["_law_net_here"]:=scM rfl rfl rfl (by decide+kernel)
theorem Qkz:QM "_law_spans" QbD ["_law_net_here"]:=λ_ _ _ _ _ _=>lc λ_=>l0 rfl
def QfX:=(Cp QbD Qff).getD QR
theorem Qkb:Cp QbD Qff=some QfX:=some_of (by decide+kernel)
abbrev QbG:=Dn QbD QfX
abbrev Qef:=Gc "_law_spans" 1 QbG Qff
abbrev QcU:=top 30
theorem Qng:Sc QcU ["_law_found","_law_due"]:=scM rfl rfl rfl (by decide+kernel)
theorem QoI:QM "_law_is" QcU ["_law_found","_law_due"]:=λ_ _ _ _ _ _=>lc λ_=>lc λ_=>l0 rfl
def Qjd:=(Cp QcU Qef).getD QR
theorem Qpe:Cp QcU Qef=some Qjd:=some_of (by decide+kernel)
abbrev QaU:=Dn QcU Qjd
abbrev QfN:=Gc "_law_is" 2 QaU Qef
abbrev Qbi:=top 31
theorem Qiw:Sc Qbi ["_law_net_here","_law_heap","_law_counts"]:=scM rfl rfl rfl (by decide+kernel)
theorem QjK:QM "_law_behind" Qbi ["_law_net_here","_law_heap","_law_counts"]:=λ_ _ _ _ _ _=>lc λ_=>lc λ_=>lc λ_=>l0 rfl
def QfA:=(Cp Qbi QfN).getD QR
theorem QjL:Cp Qbi QfN=some QfA:=some_of (by decide+kernel)
abbrev Qbj:=Dn Qbi QfA
abbrev Qdz:=Gc "_law_behind" 3 Qbj QfN
abbrev QaH:=top 32
theorem QgG:Sc QaH ["_law_net_here","_law_heap","_law_cells_here"]:=scM rfl rfl rfl (by decide+kernel)
theorem Qg2:QM "_law_own_order" QaH ["_law_net_here","_law_heap","_law_cells_here"]:=λ_ _ _ _ _ _=>lc λ_=>lc λ_=>lc λ_=>l0 rfl
def Qel:=(Cp QaH Qdz).getD QR
theorem Qhb:Cp QaH Qdz=some Qel:=some_of (by decide+kernel)
abbrev QaK:=Dn QaH Qel
abbrev QcN:=Gc "_law_own_order" 3 QaK Qdz
abbrev Qct:=top 33
theorem QlW:Sc Qct ["_law_found","_law_due"]:=scM rfl rfl rfl (by decide+kernel)
theorem QmZ:QM "_law_ran" Qct ["_law_found","_law_due"]:=λ_ _ _ _ _ _=>lc λ_=>lc λ_=>l0 rfl
def Qhz:=(Cp Qct QcN).getD QR
theorem QmM:Cp Qct QcN=some Qhz:=some_of (by decide+kernel)
abbrev Qbn:=Dn Qct Qhz
abbrev QhF:=Gc "_law_ran" 2 Qbn QcN
abbrev Qgd:=top 34
theorem QvC:Sc Qgd ["_law_script"]:=scM rfl rfl rfl (by decide+kernel)
theorem QwW:QM "law" Qgd ["_law_script"]:=λ_ _ _ _ _ _=>lc λ_=>l0 rfl
def QrH:=(CpO Qgd QhF T2 none).getD QR
theorem QwS:CpO Qgd QhF T2 none=some QrH:=some_of (by decide+kernel)
abbrev Qny:=Dn Qgd QrH
theorem Ql1:QaR=Qx 3 (HS.QeB):=by kernel_rfl
theorem Qk1:Q2=Qx 3 (HS.QdX QaR):=by kernel_rfl
theorem Qsb:QcT=Qx 4 (HS.QiM):=by kernel_rfl
theorem Qj9:Q3=Qx 5 (HS.Qd5 QcT):=by kernel_rfl
theorem QlH:QbZ=Qx 1 (HS.QeG Q3):=by kernel_rfl
theorem Qtp:QdL=Qx 6 (HS.Qmn QaR Q3):=by kernel_rfl
theorem Qo2:QcR=Qx 9 (HS.Qf6):=by kernel_rfl
theorem Qr4:QdP=Qx 8 (HS.QiW Q2 Q3 QcR):=by kernel_rfl
theorem Qip:QU=Qx 2 (HS.QeP Q2 QbZ):=by kernel_rfl
theorem Qko:Qed=HS.Qf0 QU:=by kernel_rfl
theorem QgI:QcF=HS.QdF QU:=by kernel_rfl
theorem QgH:QcE=HS.QdE:=by kernel_rfl
theorem QhA:Qdc=HS.Qeu QU:=by kernel_rfl
theorem QwE:QnK=HS.QrE Q2 QdL T1.me:=by kernel_rfl
theorem Qli:QbA=Qx 9 (HS.Qen):=by kernel_rfl
theorem QlQ:Qb8=Qx 12 (HS.QdD):=by kernel_rfl
theorem QlN:Qb9=Qx 9 (HS.Qfz):=by kernel_rfl
theorem QlZ:QbY=Qx 12 (HS.QdC Qb9):=by kernel_rfl
theorem QmQ:Qco=Qx 6 (HS.Qdk Qb8 QbY):=by kernel_rfl
theorem Qj7:QbG=Qx 4 (HS.Qie):=by kernel_rfl
theorem Qpj:QaU=Qx 4 (HS.QgR):=by kernel_rfl
theorem QjN:Qbj=Qx 7 (HS.Qey):=by kernel_rfl
theorem Qhn:QaK=Qx 11 (HS.Qem QbG Qbj):=by kernel_rfl
theorem Qnt:Qbn=Qx 5 (HS.QhB QaU):=by kernel_rfl
theorem QwN:Qny=Qx 7 (HS.Qjb QbA Qco QaK QdP QaU Qbn Qez Qaj):=by kernel_rfl
end
end Law
namespace HS
open PySem PySem.Spec L2
noncomputable def Qp4(mg:Str->Option Value):List Str->Prop
 | []=>True
 | x::r=>mg x=none/\Qp4 mg r
theorem QkG{mg:Str->Option Value}:∀{l:List Str},Qp4 mg l->∀x∈l,mg x=none
 | [],_,x,h=>by simp at h
 | y::r,h,x,hx=>by
  rcases Zo.mp hx with rfl | hx
  ·exact h.1
  ·exact QkG h.2 x hx
noncomputable def Qqh(mg:Str->Option Value):List (Str×Cn)->Prop
 | []=>True
 | (x,i)::r=>(∃t,mg x=some (cnV i t))/\Qqh mg r
theorem Qks{mg:Str->Option Value}:∀{l:List (Str×Cn)},Qqh mg l->∀x i,look x l=some i->∃t,mg x=some (cnV i t)
 | [],_,x,i,h=>by cases h
 | (y,j)::r,h,x,i,hx=>by
  unfold look at hx
  split at hx
  ·rename_i e;cases hx;subst e;exact h.1
  ·exact Qks h.2 x i hx
theorem QtR{mg:Str->Option Value}{cs:List (Str×Cn)}(b:Qp4 mg QkY)(c:Qqh mg cs):Qc0 mg cs:=⟨QkG b,Qks c⟩
end HS
theorem HS.Qwd{K:PySem.W.Frag}{mg:PySem.Str->Option PySem.Value}{h:PySem.Heap}{x:PySem.Str}{i:Int}{t:PySem.Tok}(X:K.In h)(G:h.Ns PySem.mainGlobals mg)(a:PySem.W.nsIn K PySem.mainGlobals x=some (some (.int i t))):∃t,mg x=some (.int i t):=⟨t,Zbd X G a⟩
namespace Law
open HS
theorem QvL:CellsOk QbA:=by rw[Qli];exact QpH
theorem Qwt:QiH Qb8:=by rw[QlQ];exact QqH
theorem Qwa:Qi5 Qb9:=by rw[QlN];exact QpI
theorem Qv1:Qg3 QbY:=by rw[QlZ];exact Qon Qwa
theorem Qx1:Qhf Qco:=by rw[QmQ];exact QnO Qwt Qv1
theorem QuP:QiD QbG:=by rw[Qj7];exact Qvz
theorem hIs:Qh6 QaU:=by rw[Qpj];exact QwP
theorem Qxt:Qnn Qbj:=by rw[QjN];exact Qu7
theorem QxD:Qhd QaK:=by rw[Qhn];exact QoY QuP Qxt
theorem Qxx:Qnr Qbn:=by rw[Qnt];exact QvI hIs
theorem QmI:Qe1 Q3:=by rw[Qj9,Qsb];exact Qr7
theorem QwU:Qle QbZ:=by rw[QlH];exact Qtj QmI
theorem Qrz:QhW QaR:=by rw[Ql1];exact Qth
theorem Qkk:Qe5 Q2:=by rw[Qk1];exact Qpt Qrz
theorem QtK:QiQ QdL:=by rw[Qtp];exact QqB Qrz QmI
theorem Qqa:Qf4 QcR:=by rw[Qo2];exact Qnl
theorem Qum:Qit QdP:=by rw[Qr4];exact QqJ Qkk QmI Qqa
theorem Qlw:QeZ QU:=by rw[Qip];exact QqV Qkk QwU
theorem QxM:Qfu .plain Qc9:=by unfold Qc9;rw[Qko];exact Qt6 Qlw
theorem Qx4:Qfu .both Qbs:=by unfold Qbs;rw[QgI];exact QlI Qlw
theorem Qwx(ps:List Int)(h:ps.length<=1000):Qfu (.pick ps) Qcf:=by unfold Qcf;rw[QhA];exact Qpn Qlw h
theorem Qw4:Qn3 Qaj:=λps=>by unfold Qaj;rw[QgH];exact QrN ps
theorem hMe:Qpu T1.me:=Qw2 QxM Qx4 Qwx
theorem Qx0:QnD Qez:=by unfold Qez;rw[QwE];exact QvQ Qkk QtK hMe
theorem Qva(ns:List Int)(h:ns.length<=63):∃fr,Qny [.lst (ns.map .int)]=some (.bl true,fr):=by
 rw[QwN]
 exact⟨true,Qvt QvL Qx1 QxD Qum hIs Qxx Qx0 Qw4 ns h⟩
end Law
namespace PySem.W.Fast
def tw818606259194048844:=0
def tw10032436145403604768:=0
def tw12076395210208957454:=0
def tw7633899849796205873:=0
def tw8301596255550279972:=0
def tw7074451609274448223:=0
def tw2611209711138386033:=0
def tw11843755465554000586:=0
def tw5009157390860962392:=0
def tw152371090044793786:=0
def tw16860462574260528981:=0
def tw2222293565150240052:=0
def tw2046003087840914606:=0
def tw6898887925358937057:=0
def tw8403679154527388704:=0
def tw1306866801998041122:=0
def tw15368299124950151902:=0
def tw12347500260286582304:=0
def tw811694749545869914:=0
def tw12211794834908273547:=0
def tw784992094525611466:=0
def tw3052541506283689492:=0
def tw2814143486320497121:=0
def tw11058359340120048244:=0
def tw10773959296048630202:=0
def tw17086591999286762731:=0
def tw10487808095338141198:=0
def tw877840249406584428:=0
def tw12364430553177224931:=0
def tw17372583579385163366:=0
def tw213851434229834772:=0
def tw7879001922932621248:=0
def tw13025094220809136672:=0
def tw8165161172009314970:=0
def tw16259000828019718586:=0
def tw9957158609882939163:=0
def tw8495651801604565340:=0
def tw18207352646670907812:=0
def tw2838165774043316889:=0
def tw7334367741719529351:=0
def tw741911049950886975:=0
def tw10414054794641252423:=0
def tw13349066363223049468:=0
def tw18340712421455364025:=0
def tw15858659417184741678:=0
def tw13982027947279210817:=0
def tw14414790227850736370:=0
def tw10098670391704343399:=0
def tw5378782738790550573:=0
def tw15747884454647630541:=0
def tw5383241526036359801:=0
def tw10456402491287088984:=0
def tw1136134741019299401:=0
def tw1873317803216155508:=0
def tw10333620868647758565:=0
def tw4230510484952486123:=0
def tw10454870178711302093:=0
def tw982694378856981927:=0
def tw14991922964467600969:=0
def tw2211412544130797410:=0
def tw17687943728183494940:=0
def tw4737392260977506371:=0
def tw2423213720923889959:=0
def tw11455235402328433168:=0
def tw14073505682170021276:=0
def tw12617070975379598120:=0
def tw9220176882709147896:=0
def tw1888669761133154570:=0
def tw918610652373137328:=0
def tw1944561095611801023:=0
def tw6200667184211799863:=0
def tw11823724601381802196:=0
def tw10359131042389126620:=0
def tw17743580322290519607:=0
def tw13861313316749483279:=0
def tw3006152415969652167:=0
def tw16543784135701093835:=0
def tw2017478617912728795:=0
def tw11271284924275976897:=0
def tw11213369856914731631:=0
def tw6852219527484020609:=0
def tw7429668418724708150:=0
def tw2994470816157236307:=0
def tw2460051358250797911:=0
def tw16161892071575006969:=0
def tw732385128883364572:=0
def tw493458625925475716:=0
def tw11539175211975734904:=0
def tw8188514204505402474:=0
def tw16179737597517629284:=0
def tw13204655680086953720:=0
def tw4692464236744222416:=0
def tw17384119891573703335:=0
def tw14656062468569430503:=0
end PySem.W.Fast
open PySem PySem.W PyProof.Rows HS
set_option maxRecDepth 100000 in
set_option maxHeartbeats 0 in
theorem PySem.Challenge.cw_heapstill_k14_whole_any_order_holds : PySem.Challenge.rw_heapstill_k14_whole_any_order.Holds := by
 w_on;o_law;k_head;(case hw=>w_witness2)
 k_fill
 refine HS.QqW (l:=PySem.Challenge.rw_heapstill_k14_whole_any_order) (k:=20) (x:= "_law_script") (den:=Law.Qny) rfl rfl ⟨rfl,by decide,by decide⟩ (λw h Y=>PySem.W.kIn_of Y) Law.Qva ?F
 case F=>
  intro w mg fa h KX G hmg
  obtain⟨f_need_rows,f_need_heaps,f_steps,f_toll_table,f_span_list,f_after,f_settled,f_still,f_ready_places,f_run,f__law_cells,f__law_base,f__law_fits,f__law_more,f__law_net,f__law_spans,f__law_is,f__law_behind,f__law_own_order,f__law_ran,f_law⟩:HS.Fact (L2.KOf KX) "need_rows" Law.Qb7/\HS.Fact (L2.KOf KX) "need_heaps" Law.Qbw/\HS.Fact (L2.KOf KX) "steps" Law.QdU/\HS.Fact (L2.KOf KX) "toll_table" Law.QbE/\HS.Fact (L2.KOf KX) "span_list" Law.QbX/\HS.Fact (L2.KOf KX) "after" Law.QdN/\HS.Fact (L2.KOf KX) "settled" Law.QcS/\HS.Fact (L2.KOf KX) "still" Law.QdT/\HS.Fact (L2.KOf KX) "ready_places" Law.Qba/\HS.Fact (L2.KOf KX) "run" Law.Qgf/\HS.Fact (L2.KOf KX) "_law_cells" Law.QbC/\HS.Fact (L2.KOf KX) "_law_base" Law.Qb6/\HS.Fact (L2.KOf KX) "_law_fits" Law.Qb5/\HS.Fact (L2.KOf KX) "_law_more" Law.Qb2/\HS.Fact (L2.KOf KX) "_law_net" Law.QcA/\HS.Fact (L2.KOf KX) "_law_spans" Law.QbD/\HS.Fact (L2.KOf KX) "_law_is" Law.QcU/\HS.Fact (L2.KOf KX) "_law_behind" Law.Qbi/\HS.Fact (L2.KOf KX) "_law_own_order" Law.QaH/\HS.Fact (L2.KOf KX) "_law_ran" Law.Qct/\HS.Fact (L2.KOf KX) "law" Law.Qgd:=by
   refine⟨?_,?_,?_,?_,?_,?_,?_,?_,?_,?_,?_,?_,?_,?_,?_,?_,?_,?_,?_,?_,?_⟩<;>(dsimp only[L2.KOf];refine' HS.fact_mk ?a ?l ?c ?k;(case a=>k_is);(case l=>k_is);(case c=>k_is);(case k=>k_is))
  have fm_Way_chosen:HS.Qgu (L2.KOf KX) "Way" "chosen" "Way.chosen" Law.QbB:=by dsimp only[L2.KOf];refine' HS.Qfn ?a ?c1 ?c2 ?c3 ?c4 ?m1 ?m2 ?k ?l ?cd;(case a=>k_is);(case c1=>k_is);(case c2=>k_is);(case c3=>k_is);(case c4=>k_is);(case m1=>k_is);(case m2=>k_is);(case k=>k_is);(case l=>k_is);(case cd=>k_is)
  have fm_Together_chosen:HS.Qgu (L2.KOf KX) "Together" "chosen" "Together.chosen" Law.QaB:=by dsimp only[L2.KOf];refine' HS.Qfn ?a ?c1 ?c2 ?c3 ?c4 ?m1 ?m2 ?k ?l ?cd;(case a=>k_is);(case c1=>k_is);(case c2=>k_is);(case c3=>k_is);(case c4=>k_is);(case m1=>k_is);(case m2=>k_is);(case k=>k_is);(case l=>k_is);(case cd=>k_is)
  have fm_Picked___init__:HS.Qgu (L2.KOf KX) "Picked" "__init__" "Picked.__init__" Law.QaA:=by dsimp only[L2.KOf];refine' HS.Qfn ?a ?c1 ?c2 ?c3 ?c4 ?m1 ?m2 ?k ?l ?cd;(case a=>k_is);(case c1=>k_is);(case c2=>k_is);(case c3=>k_is);(case c4=>k_is);(case m1=>k_is);(case m2=>k_is);(case k=>k_is);(case l=>k_is);(case cd=>k_is)
  have fm_Picked_chosen:HS.Qgu (L2.KOf KX) "Picked" "chosen" "Picked.chosen" Law.Qa2:=by dsimp only[L2.KOf];refine' HS.Qfn ?a ?c1 ?c2 ?c3 ?c4 ?m1 ?m2 ?k ?l ?cd;(case a=>k_is);(case c1=>k_is);(case c2=>k_is);(case c3=>k_is);(case c4=>k_is);(case m1=>k_is);(case m2=>k_is);(case k=>k_is);(case l=>k_is);(case cd=>k_is)
  have fc_Way:HS.Qh8 (L2.KOf KX) "Way" []:=by dsimp only[L2.KOf];refine' HS.Qha ?a ?b ?c ?d ?e ?f;(case a=>k_is);(case b=>k_is);(case c=>k_is);(case d=>k_is);(case e=>k_is);(case f=>exact trivial)
  have fc_Together:HS.Qh8 (L2.KOf KX) "Together" []:=by dsimp only[L2.KOf];refine' HS.Qha ?a ?b ?c ?d ?e ?f;(case a=>k_is);(case b=>k_is);(case c=>k_is);(case d=>k_is);(case e=>k_is);(case f=>exact trivial)
  have fc_Picked:HS.Qh8 (L2.KOf KX) "Picked" ["picks","used"]:=by dsimp only[L2.KOf];refine' HS.Qha ?a ?b ?c ?d ?e ?f;(case a=>k_is);(case b=>k_is);(case c=>k_is);(case d=>k_is);(case e=>k_is);(case f=>exact⟨(by show PySem.W.findIn _ _ _=some none;k_is),(by show PySem.W.findIn _ _ _=some none;k_is),trivial⟩)
  have fk_Way:HS.QjP (L2.KOf KX) "Way" :=by dsimp only[L2.KOf];refine' HS.Qk0 ?a ?b ?c ?d;(case a=>k_is);(case b=>k_is);(case c=>k_is);(case d=>k_is)
  have fk_Together:HS.QjP (L2.KOf KX) "Together" :=by dsimp only[L2.KOf];refine' HS.Qk0 ?a ?b ?c ?d;(case a=>k_is);(case b=>k_is);(case c=>k_is);(case d=>k_is)
  have fi_Picked:HS.QjY (L2.KOf KX) "Picked" :=by dsimp only[L2.KOf];refine' HS.QqS ?a ?b ?c;(case a=>k_is);(case b=>k_is);(case c=>k_is)
  have M:HS.Qc0 mg Law.cst:=by
   obtain⟨n_range,n_enumerate,n_zip,n_len,n_list,n_min,n_max,n_sum,n_abs,n_isinstance,n_int,n_bool,n_tuple,n_str,n_divmod,n_sorted,n_any,n_all,n_set⟩:PySem.W.nsIn (L2.KOf KX) mainGlobals "range" =some none/\PySem.W.nsIn (L2.KOf KX) mainGlobals "enumerate" =some none/\PySem.W.nsIn (L2.KOf KX) mainGlobals "zip" =some none/\PySem.W.nsIn (L2.KOf KX) mainGlobals "len" =some none/\PySem.W.nsIn (L2.KOf KX) mainGlobals "list" =some none/\PySem.W.nsIn (L2.KOf KX) mainGlobals "min" =some none/\PySem.W.nsIn (L2.KOf KX) mainGlobals "max" =some none/\PySem.W.nsIn (L2.KOf KX) mainGlobals "sum" =some none/\PySem.W.nsIn (L2.KOf KX) mainGlobals "abs" =some none/\PySem.W.nsIn (L2.KOf KX) mainGlobals "isinstance" =some none/\PySem.W.nsIn (L2.KOf KX) mainGlobals "int" =some none/\PySem.W.nsIn (L2.KOf KX) mainGlobals "bool" =some none/\PySem.W.nsIn (L2.KOf KX) mainGlobals "tuple" =some none/\PySem.W.nsIn (L2.KOf KX) mainGlobals "str" =some none/\PySem.W.nsIn (L2.KOf KX) mainGlobals "divmod" =some none/\PySem.W.nsIn (L2.KOf KX) mainGlobals "sorted" =some none/\PySem.W.nsIn (L2.KOf KX) mainGlobals "any" =some none/\PySem.W.nsIn (L2.KOf KX) mainGlobals "all" =some none/\PySem.W.nsIn (L2.KOf KX) mainGlobals "set" =some none:=by refine⟨?_,?_,?_,?_,?_,?_,?_,?_,?_,?_,?_,?_,?_,?_,?_,?_,?_,?_,?_⟩<;>(dsimp only[L2.KOf];k_is)
   have n_MOST_TOPPLINGS:∃t,mg "MOST_TOPPLINGS" =some (.int 2000 t):=by refine' HS.Qwd KX G ?a;(case a=>first | k_is | exact rfl | (dsimp only[L2.KOf];k_is))
   exact HS.QtR ⟨PySem.W.mg_none_of KX G n_range,PySem.W.mg_none_of KX G n_enumerate,PySem.W.mg_none_of KX G n_zip,PySem.W.mg_none_of KX G n_len,PySem.W.mg_none_of KX G n_list,PySem.W.mg_none_of KX G n_min,PySem.W.mg_none_of KX G n_max,PySem.W.mg_none_of KX G n_sum,PySem.W.mg_none_of KX G n_abs,PySem.W.mg_none_of KX G n_isinstance,PySem.W.mg_none_of KX G n_int,PySem.W.mg_none_of KX G n_bool,PySem.W.mg_none_of KX G n_tuple,PySem.W.mg_none_of KX G n_str,PySem.W.mg_none_of KX G n_divmod,PySem.W.mg_none_of KX G n_sorted,PySem.W.mg_none_of KX G n_any,PySem.W.mg_none_of KX G n_all,PySem.W.mg_none_of KX G n_set,True.intro⟩ ⟨n_MOST_TOPPLINGS,True.intro⟩
  have t0:∀base:Heap,HS.QaG (PySem.Challenge.rw_heapstill_k14_whole_any_order).prog w (L2.KOf KX) mg base 0 []:=λ_=>HS.QaG.nil
  have o0:∀base:Heap,HS.QcD (PySem.Challenge.rw_heapstill_k14_whole_any_order).prog w (L2.KOf KX) mg base 0 Law.T0:=λb=>HS.QiA KX G ⟨fc_Way,fc_Together,fc_Picked,trivial⟩ trivial trivial trivial ⟨fk_Way,fk_Together,trivial⟩
  have t_need_rows:=λb=>(t0 b).cons (HS.Q0 KX G f_need_rows Law.Qly Law.QlO M (t0 b) Law.QlY)
  have t_need_heaps:=λb=>(t_need_rows b).cons (HS.Q0 KX G f_need_heaps Law.QjG Law.Qlr M (t_need_rows b) Law.Qlo)
  have t_steps:=λb=>(t_need_heaps b).cons (HS.Q0 KX G f_steps Law.Qq1 Law.QsK M (t_need_heaps b) Law.QsU)
  have t_toll_table:=λb=>(t_steps b).cons (HS.Q0 KX G f_toll_table Law.QjO Law.Qk3 M (t_steps b) Law.QkF)
  have t_span_list:=λb=>(t_toll_table b).cons (HS.Q0 KX G f_span_list Law.Qlg Law.QlJ M (t_toll_table b) Law.QlV)
  have t_after:=λb=>(t_span_list b).cons (HS.Q0 KX G f_after Law.QpF Law.Qse M (t_span_list b) Law.QtH)
  have t_settled:=λb=>(t_after b).cons (HS.Q0 KX G f_settled Law.QmH Law.Qo4 M (t_after b) Law.Qo9)
  have t_still:=λb=>(t_settled b).cons (HS.Q0 KX G f_still Law.Qrj Law.Qtl M (t_settled b) Law.QsI)
  have t_ready_places:=λb=>(t_still b).cons (HS.Q0 KX G f_ready_places Law.Qhv Law.QiG M (t_still b) Law.QiT)
  have m_Way_chosen:=λb=>HS.QjX fm_Way_chosen Law.QjH Law.QkO M ((t_ready_places b).rise (k:=9) (by decide)) ((o0 b).mono (k:=8) (by decide)) Law.Qk2 HS.Qd2
  have m_Together_chosen:=λb=>HS.QjX fm_Together_chosen Law.QfS Law.QgF M ((t_ready_places b).rise (k:=9) (by decide)) ((o0 b).mono (k:=8) (by decide)) Law.QgJ HS.Qd2
  have m_Picked___init__:=λb=>HS.QjX fm_Picked___init__ Law.QfK Law.QgL M ((t_ready_places b).rise (k:=9) (by decide)) ((o0 b).mono (k:=8) (by decide)) Law.QgK HS.Qd2
  have m_Picked_chosen:=λb=>HS.QjX fm_Picked_chosen Law.Qg5 Law.Qib M ((t_ready_places b).rise (k:=9) (by decide)) ((o0 b).mono (k:=8) (by decide)) Law.Qii HS.Qd2
  have o1:∀b:Heap,HS.QcD (PySem.Challenge.rw_heapstill_k14_whole_any_order).prog w (L2.KOf KX) mg b 10 Law.T1:=λb=>HS.QiA KX G ⟨fc_Way,fc_Together,fc_Picked,trivial⟩ ⟨⟨(m_Way_chosen b).mono (k:=10) (by decide),trivial⟩,⟨(m_Together_chosen b).mono (k:=10) (by decide),trivial⟩,⟨(m_Picked_chosen b).mono (k:=10) (by decide),trivial⟩,trivial⟩ trivial ⟨⟨fi_Picked,(m_Picked___init__ b).mono (k:=10) (by decide)⟩,trivial⟩ ⟨fk_Way,fk_Together,trivial⟩
  have i_run:=λb=>HS.Qwe KX G f_run Law.Qui Law.Qwl M ((t_ready_places b).rise (k:=11) (by decide)) ((o1 b).mono (k:=10) (by decide)) Law.QwR HS.Qd2
  have o2:∀b:Heap,HS.QcD (PySem.Challenge.rw_heapstill_k14_whole_any_order).prog w (L2.KOf KX) mg b 12 Law.T2:=λb=>HS.QiA KX G ⟨fc_Way,fc_Together,fc_Picked,trivial⟩ ⟨⟨(m_Way_chosen b).mono (k:=12) (by decide),trivial⟩,⟨(m_Together_chosen b).mono (k:=12) (by decide),trivial⟩,⟨(m_Picked_chosen b).mono (k:=12) (by decide),trivial⟩,trivial⟩ ⟨(i_run b).mono (k:=12) (by decide),trivial⟩ ⟨⟨fi_Picked,(m_Picked___init__ b).mono (k:=12) (by decide)⟩,trivial⟩ ⟨fk_Way,fk_Together,trivial⟩
  have t__law_cells:=λb=>(t_ready_places b).cons (HS.Q0 KX G f__law_cells Law.QjM Law.QkV M (t_ready_places b) Law.QlF)
  have t__law_base:=λb=>(t__law_cells b).cons (HS.Q0 KX G f__law_base Law.QkI Law.QlU M (t__law_cells b) Law.Ql4)
  have t__law_fits:=λb=>(t__law_base b).cons (HS.Q0 KX G f__law_fits Law.QlB Law.QlP M (t__law_base b) Law.Ql5)
  have t__law_more:=λb=>(t__law_fits b).cons (HS.Q0 KX G f__law_more Law.QkC Law.QlL M (t__law_fits b) Law.QlK)
  have t__law_net:=λb=>(t__law_more b).cons (HS.Q0 KX G f__law_net Law.Ql2 Law.QmO M (t__law_more b) Law.Qnu)
  have t__law_spans:=λb=>(t__law_net b).cons (HS.Q0 KX G f__law_spans Law.QjI Law.Qkz M (t__law_net b) Law.Qkb)
  have t__law_is:=λb=>(t__law_spans b).cons (HS.Q0 KX G f__law_is Law.Qng Law.QoI M (t__law_spans b) Law.Qpe)
  have t__law_behind:=λb=>(t__law_is b).cons (HS.Q0 KX G f__law_behind Law.Qiw Law.QjK M (t__law_is b) Law.QjL)
  have t__law_own_order:=λb=>(t__law_behind b).cons (HS.Q0 KX G f__law_own_order Law.QgG Law.Qg2 M (t__law_behind b) Law.Qhb)
  have t__law_ran:=λb=>(t__law_own_order b).cons (HS.Q0 KX G f__law_ran Law.QlW Law.QmZ M (t__law_own_order b) Law.QmM)
  exact HS.Qvq KX G hmg f_law Law.QvC Law.QwW M (λb=>((t__law_ran b).rise (k:=19) (by decide))) (λb=>((o2 b).mono (k:=18) (by decide))) Law.QwS
