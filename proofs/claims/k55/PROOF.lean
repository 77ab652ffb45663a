import PyProof.Rows.All
import Wide.All
import OpenK.AllK
import Wide.FinOn
import Lean
import PyProof.EqAt
import PyProof.EqKinds
import PyProof.TupleCall
import PyProof.ZipIter
import PyProof.EnumMake
import PyProof.Rows.FactsT2
import PyProof.Rows.EnumRows
import PyProof.P3In
import PyProof.NeData
import KE.KUnpack
import PyProof.Rows.SumAny
import PyProof.Rows.MinMaxN
import PyProof.Rows.ListRangeD
import PyProof.Rows.Range3
import PyProof.Rows.RuleM_int
import PyProof.Rows.SortShell
import PyProof.Rows.SetFrom
import PyProof.CollectIter
import PyProof.SetRoads
import KE.KTryOn
import PyProof.ExcBaseAll.ValueError
import PyProof.RulesAs
import PyProof.ExcAttrAll.ValueError
import PyProof.Rows.RegTopCatchBFacts
import KE.RegKTryMore
import KE.RegKIsAll
import PySem.Challenge.RW_heapstill_k55_trees_refused
set_option Elab.async false
set_option linter.all false
set_option maxRecDepth 100000
local macro_rules | `(⋯)=> `(by first | with_reducible assumption | with_reducible exact Int.natCast_nonneg _ | with_reducible exact Int.ofNat_lt.2 (by assumption) | omega | simp)
local macro_rules | `(∅)=> `(by decide) | `(nofun)=> `(by decide+kernel)
def Za:= @Option.bind_some
def Zb:= @List.mem_cons_of_mem
def Zc:= @List.length_map
def Zd:= @List.mem_append_left
def Ze:= @List.getElem?_eq_some_iff
def Zf:= @Option.map_eq_some_iff
def Zg:= @List.mem_append_right
def Zh:= @List.getElem?_map
def Zi:= @List.mem_cons_self
def Zj:= @List.mem_range
def Zk:= @List.mem_cons
def Zl:= @Int.toNat_natCast
def Zm:= @List.getElem?_set_ne
def Zn:= @PySem.Heap.get?_push_of_some
def Zo:= @List.length_append
def Zp:= @Bool.and_eq_true
def Zq:= @List.getElem?_eq_getElem
def Zr:= @PySem.Heap.lt_size
def Zs:= @Nat.le_refl
def Zt:= @List.getElem?_eq_none
def Zu:= @Array.length_toList
def Zv:= @List.map_cons
def Zw:= @List.getElem?_set_self
def Zx:= @List.size_toArray
def Zy:= @List.length_cons
def Zz:= @Nat.lt_of_lt_of_le
def ZA:= @List.mem_filter
def ZC:= @List.mem_of_getElem?
def ZD:= @List.lookup_cons
def ZE:= @List.mem_singleton
def ZF:= @List.length_range
def ZG:= @PySem.Heap.get?_push_size
def ZH:= @Nat.ne_of_lt
def ZI:= @List.mem_map
def ZJ:= @List.mem_append
def ZK:= @List.map_append
def ZL:= @List.getElem?_range
def ZM:= @List.map_congr_left
def ZN:= @Nat.le_trans
def ZO:= @List.map_map
def ZP:= @Int.emod_nonneg
def ZQ:= @List.sum_cons
def ZR:= @Int.emod_lt_of_pos
def ZS:= @List.getD_eq_getElem?_getD
def ZT:= @Option.map_some
def ZU:= @Array.getElem?_eq_getElem
def ZV:= @Nat.lt_irrefl
def ZW:= @Classical.byContradiction
def ZX:= @Array.getElem?_toList
def ZY:= @List.length_take
def ZZ:= @List.all_eq_true
def Zaa:= @Nat.zero_le
def Zab:= @List.replicate_succ
def Zac:= @PyProof.Rows.callWith_type1
def Zad:= @List.append_nil
def Zae:= @List.count_eq_zero
def Zaf:= @List.drop_eq_getElem_cons
def Zag:= @Nat.le_of_ble_eq_true
def Zah:= @PySem.mem_of_lookup
def Zai:= @Nat.lt_succ_of_lt
def Zaj:= @List.ext_getElem?
def Zak:= @Int.le_refl
def Zal:= @List.getElem?_append_left
def Zam:= @Bool.false_ne_true
def Zan:= @List.nodup_cons
def Zao:= @List.flatten_cons
def Zap:= @List.getElem?_of_mem
def Zaq:= @Int.zero_mul
def Zar:= @List.count_append
def Zas:= @List.eq_nil_of_length_eq_zero
def Zat:= @List.nodup_append
def Zau:= @Bool.not_eq_true'
def Zav:= @PySem.Heap.size_push
def Zaw:= @List.map_nil
def Zax:= @List.any_eq_false
def Zay:= @Int.mul_zero
def Zaz:= @List.length_set
def ZaA:= @List.range_succ
def ZaB:= @List.length_drop
def ZaC:= @List.count_pos_iff
def ZaD:= @List.filter_cons
def ZaE:= @Nat.le_succ
def ZaF:= @List.nodup_iff_count
def ZaG:= @Int.toNat_of_nonneg
def ZaH:= @Int.add_zero
def ZaI:= @Int.add_mul
def ZaJ:= @Int.one_mul
def ZaK:= @List.nodup_nil
def ZaL:= @List.pairwise_cons
def ZaM:= @Bool.false_eq_true
def ZaN:= @List.length_filter_le
def ZaO:= @List.set_eq_take_append_cons_drop
def ZaP:= @List.getElem?_zip_eq_some
def ZaQ:= @List.count_cons
def ZaR:= @PySem.W.kia_one
def ZaS:= @List.sum_append
def ZaT:= @List.append_assoc
def ZaU:= @Nat.pow_le_pow_right
def ZaV:= @PySem.W.mg_of
def ZaW:= @List.length_reverse
def ZaX:= @Nat.lt_succ_self
def ZaY:= @List.take_length
def ZaZ:= @Int.mul_add
def Zba:= @List.mem_filterMap
def Zbb:= @PySem.Heap.get?_update_other
def Zbc:= @Nat.lt_of_le_of_lt
def Zbd:= @List.take_of_length_le
def Zbe:= @List.getElem?_drop
def Zbf:= @Nat.add_sub_cancel
def Zbg:= @List.drop_of_length_le
def Zbh:= @Nat.min_eq_left
def Zbi:= @List.map_take
def Zbj:= @List.length_singleton
def Zbk:= @List.take_append_drop
def Zbl:= @List.pairwise_map
def Zbm:= @Int.mul_left_comm
def Zbn:= @List.getElem?_append_right
def Zbo:= @Int.neg_mul
def Zbp:= @List.nodup_range
def Zbq:= @PySem.W.hideAll_get
def Zbr:= @List.filterMap_cons
def Zbs:= @List.map_eq_nil_iff
def Zbt:= @List.sum_append_int
def Zbu:= @List.length_erase_of_mem
def Zbv:= @Bool.or_eq_true
def Zbw:= @Nat.eq_zero_or_pos
def Zbx:= @Nat.le_of_lt
def Zby:= @Nat.ne_of_gt
def Zbz:= @PySem.W.cellsFrom_some
def ZbA:= @List.reverse_cons
def ZbB:= @PyProof.Rows.boot_list
def ZbC:= @List.pairwise_lt_range
def ZbD:= @List.range_succ_eq_map
def ZbE:= @List.foldl_append
def ZbF:= @Nat.sub_zero
def ZbG:= @List.take_succ
def ZbH:= @List.sum_nil
def ZbI:= @PySem.Heap.get?_update_self
def ZbJ:= @List.contains_iff_mem
def ZbK:= @PyProof.Rows.callWith_builtin1
def ZbL:= @List.mem_flatten
def ZbM:= @Nat.min_le_right
def ZbN:= @List.any_eq_true
def ZbO:= @Int.mul_le_mul_of_nonneg_right
def ZbP:= @Int.mul_assoc
def ZbQ:= @Int.mul_one
def ZbR:= @Nat.add_le_add_right
def ZbS:= @List.getElem?_zipIdx
def ZbT:= @List.mem_erase_of_ne
def ZbU:= @List.of_mem_zip
def ZbV:= @List.foldl_cons
def ZbW:= @PyProof.Rows.boot_isinstance
def ZbX:= @PySem.Heap.SameBut.update
def ZbY:= @List.filter_eq_self
def ZbZ:= @Int.le_trans
def Zca:= @List.all_map
def Zcb:= @Int.mul_comm
def Zcc:= @PySem.Calls.spliced_cons
def Zcd:= @PySem.W.callWith_K
def Zce:= @Int.mul_nonneg
def Zcf:= @List.pairwise_iff_getElem
def Zcg:= @PySem.Value.isInt_shape
def Zch:= @PySem.Calls.spliced_nil
def Zci:= @List.getElem?_set
def Zcj:= @List.take_add_one
def Zck:= @Int.emod_eq_of_lt
def Zcl:= @Option.isSome_iff_exists
def Zcm:= @Bool.true_and
def Zcn:= @Prod.fst_swap
def Zco:= @List.map_drop
def Zcp:= @List.Pairwise.imp_of_mem
def Zcq:= @List.getElem?_replicate
def Zcr:= @List.not_mem_nil
def Zcs:= @List.cons_append
def Zct:= @List.foldlM_cons
def Zcu:= @List.drop_length
def Zcv:= @Classical.axiomOfChoice
def Zcw:= @List.filter_cons_of_pos
def Zcx:= @List.map_reverse
def Zcy:= @Nat.zero_add
def Zcz:= @List.filter_eq_nil_iff
def ZcA:= @List.length_pos_of_mem
def ZcB:= @Int.natCast_add
def ZcC:= @Int.mul_le_mul
def ZcD:= @List.drop_zero
def ZcE:= @Nat.mul_le_mul
def ZcF:= @Prod.snd_swap
def ZcG:= @List.any_cons
abbrev Mt2:=Nat->Nat->Int
abbrev Mt1:=Nat->Int
abbrev Lpp:=List (Int×Int)
abbrev LAd:=List PySem.Addr
abbrev Fgg:=PySem.W.Frag
namespace L2
open PySem PySem.Spec PyProof.Rows
noncomputable abbrev Key:=Sum Int Str
noncomputable def QwY:Key->Value->Bool
 | .inl k,v=>Value.isInt k v
 | .inr x,v=>Value.isStrOf x v
noncomputable def QCE(w:World):Key->Int
 | .inl k=>hashInt k
 | .inr x=>hashStr w x
def Qbm:∀{k:Key}{v:Value},QwY k v=true->(∃i t,k=Sum.inl i/\v=Value.int i t)∨(∃x t,k=Sum.inr x/\v=Value.str x t)
 | .inl i,v,h=>by
  obtain⟨t,e⟩:=Zcg (k:=i) (v:=v) h;exact .inl ⟨i,t,rfl,e⟩
 | .inr x,v,h=>by
  obtain⟨t,e⟩:=Value.isStrOf_shape (x:=x) (v:=v) h;exact .inr ⟨x,t,rfl,e⟩
def QzH(a b:Int):decide ((Sum.inl a:Key)=Sum.inl b)=(a == b):=by
 by_cases e:a=b
 .subst e;simp
 .have h:¬(Sum.inl a:Key)=Sum.inl b:=λq=>e (Sum.inl.inj q);rw[decide_eq_false h];exact(beq_eq_false_iff_ne.mpr e).symm
def QAt(a b:Str):decide ((Sum.inr a:Key)=Sum.inr b)=decide (a=b):=by
 by_cases e:a=b
 .subst e;simp
 .have h:¬(Sum.inr a:Key)=Sum.inr b:=λq=>e (Sum.inr.inj q);rw[decide_eq_false h,decide_eq_false e]
def QzL(a:Int)(b:Str):decide ((Sum.inl a:Key)=Sum.inr b)=false:=decide_eq_false (λq=>nomatch q)
def Qz0(a:Str)(b:Int):decide ((Sum.inr a:Key)=Sum.inl b)=false:=decide_eq_false (λq=>nomatch q)
noncomputable def Qmy(prog:Program)(w:World):PySem.KeyKind prog w Key where
 is:=QwY
 hash:=QCE w
 inj:=λv a b ha hb=>by
  rcases Qbm ha with⟨i,t,rfl,rfl⟩ | ⟨x,t,rfl,rfl⟩
  .rcases Qbm hb with⟨j,u,rfl,e⟩ | ⟨y,u,rfl,e⟩
   .injection e with e1 _;rw[e1]
   .exact nomatch e
  .rcases Qbm hb with⟨j,u,rfl,e⟩ | ⟨y,u,rfl,e⟩
   .exact nomatch e
   .injection e with e1 _;rw[e1]
 byValue:=λk v h=>by
  rcases Qbm h with⟨i,t,rfl,rfl⟩ | ⟨x,t,rfl,rfl⟩<;>rfl
 pyHash:=λhv h=>by
  rcases Qbm hv with⟨i,t,rfl,rfl⟩ | ⟨x,t,rfl,rfl⟩
  .exact wpAny_pyHash_int h
  .exact wpAny_pyHash_str h
 eqBool:=λhu hv h=>by
  rcases Qbm hu with⟨i,t,rfl,rfl⟩ | ⟨x,t,rfl,rfl⟩
  .rcases Qbm hv with⟨j,u,rfl,rfl⟩ | ⟨y,u,rfl,rfl⟩
   .rw[QzH]at h;exact wpAny_eqBool_int h
   .rw[QzL]at h;exact SeqAt.EqAt.int_str i t y u _ _ _ _ h
  .rcases Qbm hv with⟨j,u,rfl,rfl⟩ | ⟨y,u,rfl,rfl⟩
   .rw[Qz0]at h;exact SeqAt.EqAt.str_int x t j u _ _ _ _ h
   .rw[QAt]at h;exact wpAny_eqBool_str h
 «strs» :=λk x t v h=>by
  rcases Qbm h with⟨i,u,rfl,e⟩ | ⟨y,u,rfl,e⟩
  .exact nomatch e
  .injection e with e1 _;subst e1;cases v<;>rfl
inductive V where
 | non | bl (b:Bool) | int (i:Int) | str (x:Str) | byt (b:Array UInt8) | flt (b:UInt64) | ref (a:Addr) | ty (n:String)
 deriving DecidableEq
def RelV:V->Value->Prop
 | .non,u=>u=Value.none
 | .bl b,u=>u=Value.bool b
 | .int i,u=>∃t,u=Value.int i t
 | .str x,u=>∃t,u=Value.str x t
 | .byt b,u=>∃t,u=Value.bytes b t
 | .flt b,u=>∃t,u=Value.float b t
 | .ref a,u=>u=Value.ref a
 | .ty n,u=>u=Value.type n
abbrev QB:List V->List Value->Prop:=Paired RelV
def QB.length{xs:List V}{us:List Value}(r:QB xs us):xs.length=us.length:=Paired.length r
def QB.get:∀{xs:List V}{us:List Value}{i:Nat}{x:V},QB xs us->xs[i]? =some x->∃u,us[i]? =some u/\RelV x u
 | _,_,_,_,.nil,e=>by simp at e
 | _,_,0,_,.cons r _,e=>by simp at e;subst e;exact⟨_,rfl,r⟩
 | _,_,i+1,x,.cons _ t,e=>by
  obtain⟨u,h1,h2⟩:=QB.get (i:=i) (x:=x) t (by simpa using e);exact⟨u,by simpa using h1,h2⟩
def QB.set{x:V}{u:Value}(r:RelV x u):∀{xs:List V}{us:List Value}(i:Nat),QB xs us->QB (xs.set i x) (us.set i u)
 | _,_,_,.nil=> .nil
 | _,_,0,.cons _ t=> .cons r t
 | _,_,i+1,.cons q t=> .cons q (QB.set r i t)
def exK{α β γ δ:Type}{P Q R:α->β->γ->δ->Prop}{G:Prop}(k:∀a b c d,P a b c d->Q a b c d->R a b c d->G)(h:∃a b c d,P a b c d/\Q a b c d/\R a b c d):G:=let ⟨a,b,c,d,p,q,r⟩:=h;k a b c d p q r
def exJ{α β:Type}{P Q R:α->β->Prop}{G:Prop}(k:∀a b,P a b->Q a b->R a b->G)(h:∃a b,P a b/\Q a b/\R a b):G:=let ⟨a,b,p,q,r⟩:=h;k a b p q r
def QB.append{xs ys:List V}{us ws:List Value}(h:QB xs us)(s:QB ys ws):QB (xs++ys) (us++ws):=by
 induction h with
 | nil=>exact s
 | cons r t ih=>exact .cons r ih
def QB.take:∀{xs:List V}{us:List Value}(n:Nat),QB xs us->QB (xs.take n) (us.take n)
 | _,_,0,_=> .nil
 | _,_,_+1,.nil=> .nil
 | _,_,n+1,.cons r t=> .cons r (QB.take n t)
def QB.drop:∀{xs:List V}{us:List Value}(n:Nat),QB xs us->QB (xs.drop n) (us.drop n)
 | _,_,0,r=>r
 | _,_,_+1,.nil=> .nil
 | _,_,n+1,.cons _ t=>QB.drop n t
def QA0:Option V->Option Value->Prop
 | some v,some u=>RelV v u
 | none,none=>True
 | _,_=>False
def KV{κ:Type}:List (κ×V)->List (κ×Value)->Prop:=Paired λ(p:κ×V) (q:κ×Value)=>p.1=q.1/\RelV p.2 q.2
noncomputable def kV:Key->V
 | .inl i=> .int i
 | .inr x=> .str x
inductive HO where
 | lst (xs:List V)
 | tup (xs:List V)
 | dK (kvs:List (Key×V)) | dT (kvs:List (List Key×V))
 | set (S:Int->Bool) (n:Nat)
 | ins (C dx:Addr) (fs:List (Str×V))
 | own (x:Addr)
 | xd (fs:List (Str×V))
 | met (f x:Addr)
 | rng (lo hi:Int)
 | frz (o:Obj) (u:HO)
 | tbl (ps:Array Value)
 | ext (φ:Heap->Prop)
noncomputable abbrev Hp:=Addr->Option HO
noncomputable def upd(H:Hp)(a:Addr)(o:HO):Hp:=λb=>if b=a then some o else H b
def QaL{H:Hp}{a:Addr}{o:HO}:upd H a o a=some o:=by unfold upd;rw[if_pos rfl]
def QP{H:Hp}{a b:Addr}{o:HO}(h:b≠a):upd H a o b=H b:=by unfold upd;rw[if_neg h]
def QnR{H:Hp}{a b:Addr}{o u:HO}(h:H a=some o)(h':H b=some u)(d:o≠u):a≠b:=by
 intro e;subst e;rw[h]at h';exact d (Option.some.inj h')
def Qcl{H:Hp}{a b:Addr}{o:HO}(h:H a=some o)(h':H b=none):a≠b:=by
 intro e;subst e;rw[h]at h';cases h'
section
variable (P:Program) (w:World)
def Qca(H:Hp)(h:Heap)(a:Addr):HO->Prop
 | .lst xs=>xs.length<=sizeLine/\∃(its:List Value) (n:Nat),QB xs its/\h.get? a=some {cls:= .type "list",data:= .seq its.toArray n}
 | .tup xs=>xs.length<=sizeLine/\∃its:List Value,QB xs its/\IsTup h a its.toArray
 | .dK kvs=>kvs.length<=sizeLine/\(a == sysModules)=false/\∃vs,KV kvs vs/\h.DictOf (Qmy P w) a vs
 | .dT kvs=>kvs.length<=sizeLine/\(a == sysModules)=false/\∃xs:List (List Key×Addr×Value),
   Paired (λ(p:List Key×V) (q:List Key×Addr×Value)=>p.1=q.1/\H q.2.1=some (.tup (p.1.map kV))/\RelV p.2 q.2.2) kvs xs∧
   ∃o es ep,h.get? a=some o/\o.ExactDict/\o.data= .dict es ep/\es.toList=xs.map (entryOfKey (tupleKind (Qmy P w)))/\(xs.map (·.1)).Nodup
 | .set S n=>h.SetOf (intKind P w) a S n
 | .ins C dx fs=>H dx=some (.own a)/\fs.length<=1000/\dx≠a/\h.get? a=some (PySem.W.instObj C dx)∧
   ∃mA,h.Ns1 dx mA/\(∀f,QA0 (fs.lookup f) (mA f))/\PySem.Within mA (fs.map (·.1))
 | .own _=>∃o,h.get? a=some o
 | .xd fs=>∃mA,h.Ns1 a mA/\∀f,QA0 (fs.lookup f) (mA f)
 | .rng lo hi=>∃t u v,h.get? a=some {cls:= .type "range",data:= .fields #[.int lo t,.int hi u,.int 1 v]}
 | .frz o u=>h.get? a=some o/\Qca H h a u
 | .tbl ps=>h.get? a=some {cls:= .none,data:= .fields ps}
 | .met f x=>h.get? a=some (PySem.W.methodObj (.ref f) (.ref x))
 | .ext φ=>φ h/\(∃o,h.get? a=some o)/\∀h1 h2:Heap,φ h1->(∀o,h1.get? a=some o->h2.get? a=some o)->φ h2
def HOk(H:Hp)(h:Heap):Prop:=∀a o,H a=some o->Qca P w H h a o
end
section
variable {P:Program}{w:World}{H H':Hp}{h h':Heap}{a:Addr}{o:HO}
def Qca.lt(x:Qca P w H h a o):a<h.objs.size:=by
 cases o with
 | lst xs=>obtain⟨_,_,_,_,e⟩:=x;exact Zr e
 | tup xs=>obtain⟨_,_,_,p⟩:=x;exact p.lt
 | dK kvs=>obtain⟨_,_,_,_,o,_,_,e,_⟩:=x;exact Zr e
 | dT kvs=>obtain⟨_,_,_,_,o,_,_,e,_⟩:=x;exact Zr e
 | set S n=>obtain⟨o,_,_,_,e,_⟩:=x;exact Zr e
 | ins C dx fs=>obtain⟨_,_,_,e,_⟩:=x;exact Zr e
 | own y=>obtain⟨_,e⟩:=x;exact Zr e
 | xd fs=>obtain⟨_,⟨_,_,_,e,_⟩,_⟩:=x;exact Zr e
 | rng lo hi=>obtain⟨_,_,_,e⟩:=x;exact Zr e
 | frz ob u=>obtain⟨e,_⟩:=x;exact Zr e
 | tbl ps=>exact Zr (show h.get? a=some _ from x)
 | met f y=>exact Zr (show h.get? a=some _ from x)
 | ext φ=>obtain⟨_,⟨_,e⟩,_⟩:=x;exact Zr e
def Paired.QAe{α β:Type}{F G:α->β->Prop}:∀{l₁:List α}{l₂:List β},Paired F l₁ l₂->(∀a b,F a b->G a b)->Paired G l₁ l₂
 | _,_,.nil,_=> .nil
 | _,_,.cons r t,f=> .cons (f _ _ r) (Paired.QAe t f)
def Qca.QeG(x:Qca P w H h a o)(k:∀b u,(b=a∨H b=some (.own a))->h.get? b=some u->h'.get? b=some u)
  (ho:∀b,H b=some (.own a)->H' b=some (.own a)) (ht:∀b xs,H b=some (.tup xs)->H' b=some (.tup xs)):Qca P w H' h' a o:=by
 induction o with
 | lst xs=>obtain⟨z,its,n,r,e⟩:=x;exact⟨z,its,n,r,k _ _ (.inl rfl) e⟩
 | tup xs=>obtain⟨z,its,r,ob,e,c⟩:=x;exact⟨z,its,r,ob,k _ _ (.inl rfl) e,c⟩
 | dK kvs=>obtain⟨z,y,vs,r,ob,es,ep,e,c⟩:=x;exact⟨z,y,vs,r,ob,es,ep,k _ _ (.inl rfl) e,c⟩
 | dT kvs=>
  obtain⟨z,y,xs,r,ob,es,ep,e,c⟩:=x;exact⟨z,y,xs,Paired.QAe r λp q z=>⟨z.1,ht _ _ z.2.1,z.2.2⟩,ob,es,ep,k _ _ (.inl rfl) e,c⟩
 | set S n=>obtain⟨ob,es,ep,t,e,c⟩:=x;exact⟨ob,es,ep,t,k _ _ (.inl rfl) e,c⟩
 | ins C dx fs=>
  obtain⟨d,z,ne,e,mA,⟨od,es,ep,e2,c⟩,r⟩:=x;exact⟨ho _ d,z,ne,k _ _ (.inl rfl) e,mA,⟨od,es,ep,k _ _ (.inr d) e2,c⟩,r⟩
 | own y=>obtain⟨ob,e⟩:=x;exact⟨ob,k _ _ (.inl rfl) e⟩
 | xd fs=>obtain⟨mA,⟨od,es,ep,e,c⟩,r⟩:=x;exact⟨mA,⟨od,es,ep,k _ _ (.inl rfl) e,c⟩,r⟩
 | rng lo hi=>obtain⟨t,u,v,e⟩:=x;exact⟨t,u,v,k _ _ (.inl rfl) e⟩
 | frz ob u ih=>obtain⟨e,q⟩:=x;exact⟨k _ _ (.inl rfl) e,ih q⟩
 | tbl ps=>
  have e:h.get? a=some {cls:= .none,data:= .fields ps}:=x;show h'.get? a=some {cls:= .none,data:= .fields ps};exact k a _ (.inl rfl) e
 | met f y=>
  have e:h.get? a=some (PySem.W.methodObj (.ref f) (.ref y)):=x;show h'.get? a=some (PySem.W.methodObj (.ref f) (.ref y));exact k a _ (.inl rfl) e
 | ext φ=>obtain⟨p,⟨o,e⟩,st⟩:=x;exact⟨st _ _ p λo q=>k _ _ (.inl rfl) q,⟨o,k _ _ (.inl rfl) e⟩,st⟩
def HOk.lt(x:HOk P w H h)(e:H a=some o):a<h.objs.size:=(x a o e).lt
def HOk.fresh(x:HOk P w H h)(e:h.objs.size<=a):H a=none:=by
 cases q:H a with
 | none=>rfl
 | some u=>exact absurd (Zz (x.lt q) e) (ZV _)
def HOk.kept(x:HOk P w H h)(k:∀b u,h.get? b=some u->h'.get? b=some u):HOk P w H h':=λa o e=>
 (x a o e).QeG (λb u _ q=>k b u q) (λ_ q=>q) λ_ _ q=>q
def HOk.laid(x:HOk P w H h)(k:∀b u,h.get? b=some u->h'.get? b=some u)(hp:h.objs.size<=a)(new:Qca P w (upd H a o) h' a o):HOk P w (upd H a o) h':=λb u e=>by
 have hn:=x.fresh hp;by_cases hb:b=a
 .subst hb;rw[QaL]at e;cases e;exact new
 .rw[QP hb]at e;exact(x b u e).QeG (λc v _ q=>k c v q) (λc q=>by rw[QP (Qcl q hn)];exact q) λc xs q=>by rw[QP (Qcl q hn)];exact q
end
def Rd(H:Hp)(a:Addr)(u:HO):Prop:=H a=some u∨∃o,H a=some (.frz o u)
def Rd.ok{P:Program}{w:World}{H:Hp}{h:Heap}{a:Addr}{u:HO}(r:Rd H a u)(x:HOk P w H h):Qca P w H h a u:=by
 rcases r with r | ⟨o,r⟩
 .exact x a u r
 .obtain⟨_,q⟩:=x a _ r;exact q
def Mut:Option HO->Prop
 | some (.lst _)=>True
 | some (.dK _)=>True
 | some (.dT _)=>True
 | some (.set _ _)=>True
 | some (.ins _ _ _)=>True
 | some (.ext _)=>True
 | _=>False
section
variable {P:Program}{w:World}{H:Hp}{h h':Heap}{x e:Addr}{o':HO}
def HOk.write(ok:HOk P w H h)(mu:Mut (H x))(he:e=x∨H e=some (.own x))(k:∀b u,b≠e->h.get? b=some u->h'.get? b=some u)(heo:∃u,h'.get? e=some u)
  (new:Qca P w (upd H x o') h' x o'):HOk P w (upd H x o') h':=λb u q=>by
 have nown:∀c y,H c=some (.own y)->c≠x:=λc y r z=>by subst z;rw[r]at mu;exact mu
 have ntup:∀c xs,H c=some (.tup xs)->c≠x:=λc xs r z=>by subst z;rw[r]at mu;exact mu
 by_cases hb:b=x
 .subst hb;rw[QaL]at q;cases q;exact new
 .rw[QP hb]at q;by_cases hbe:b=e
  .have q':H b=some (.own x):=by
    rcases he with z | z
    .exact absurd (hbe.trans z) hb
    .rw[hbe];exact z
   rw[q]at q';cases q';obtain⟨v,hv⟩:=heo;exact⟨v,by rw[hbe];exact hv⟩
  .refine(ok b u q).QeG (λc v hc r=>k c v ?_ r) (λc r=>by rw[QP (nown c b r)];exact r) λc xs r=>by rw[QP (ntup c xs r)];exact r
   rcases hc with rfl | hc
   .exact hbe
   .rintro rfl;rcases he with z | z
    .exact nown c b hc z
    .rw[hc]at z;cases z;exact hb rfl
end
structure Un (fs ex:LAd) (H H':Hp) (h h':Heap):Prop where
 keep:∀b o,h.get? b=some o->H b=none->b∉fs->b∉ex->h'.get? b=some o
 slot:∀b o,h.get? b=some o->H b=none->b∈fs->b∉ex->∃sl,h'.get? b=some {o with slots:=sl}
 free:∀b o,h.get? b=some o->H b=none->b∉ex->H' b=none
 there:∀b o,h.get? b=some o->b∉ex->∃o',h'.get? b=some o'
 tups:∀b xs,H b=some (.tup xs)->H' b=some (.tup xs)
 frzs:∀b o u,H b=some (.frz o u)->H' b=some (.frz o u)
 tbls:∀b ps,H b=some (.tbl ps)->∃more,H' b=some (.tbl (ps++more))
section
variable {fs fs' ex ex':LAd}{H H1 H2:Hp}{h h1 h2 h':Heap}{a x e:Addr}{o:HO}
def Un.any(u:Un fs ex H H1 h h1){b:Addr}{ob:Obj}(q:h.get? b=some ob)(n:H b=none)(hx:b∉ex):∃sl,h1.get? b=some {ob with slots:=sl}:=by
 by_cases hb:b∈fs
 .exact u.slot b ob q n hb hx
 .exact⟨ob.slots,u.keep b ob q n hb hx⟩
def Un.kept(k:∀b u,h.get? b=some u->h'.get? b=some u):Un fs ex H H h h':=
 ⟨λb ob q _ _ _=>k b ob q,λb ob q _ _ _=>⟨ob.slots,k b ob q⟩,λ_ _ _ n _=>n,λb ob q _=>⟨ob,k b ob q⟩,λ_ _ q=>q,λ_ _ _ q=>q,λ_ ps q=>⟨#[],by rw[q];simp⟩⟩
def Un.refl:Un fs ex H H h h:=Un.kept λ_ _ q=>q
def Un.laid(k:∀b u,h.get? b=some u->h'.get? b=some u)(hp:h.objs.size<=a)(hn:H a=none):Un fs ex H (upd H a o) h h' where
 keep:=λb u q _ _ _=>k b u q
 slot:=λb u q _ _ _=>⟨u.slots,k b u q⟩
 free:=λb u q n _=>by rw[QP (ZH (Zz (Zr q) hp))];exact n
 there:=λb u q _=>⟨u,k b u q⟩
 tups:=λb xs q=>by rw[QP (Qcl q hn)];exact q
 frzs:=λb u xs q=>by rw[QP (Qcl q hn)];exact q
 tbls:=λb ps q=>⟨#[],by rw[QP (Qcl q hn),q];simp⟩
def Un.write(mu:Mut (H x))(he:e=x∨H e=some (.own x))(k:∀b u,b≠e->h.get? b=some u->h'.get? b=some u)(heo:∃u,h'.get? e=some u):Un fs ex H (upd H x o) h h':=by
 have hx:∀b,H b=none->b≠x:=λb n z=>by subst z;rw[n]at mu;exact mu
 have hb:∀b,H b=none->b≠e:=λb n z=>by
  subst z;rcases he with r | r
  .exact hx b n r
  .rw[n]at r;cases r
 have hm:∀b u,H b=some u->¬Mut (some u)->b≠x:=λb u q nm z=>by subst z;rw[q]at mu;exact nm mu
 refine⟨λb u q n _ _=>k b u (hb b n) q,λb u q n _ _=>⟨u.slots,k b u (hb b n) q⟩,λb u q n _=>by rw[QP (hx b n)];exact n,λb u q _=>?_,
  λb xs q=>by rw[QP (hm b _ q λz=>z)];exact q,λb u xs q=>by rw[QP (hm b _ q λz=>z)];exact q,λb ps q=>⟨#[],by rw[QP (hm b _ q λz=>z),q];simp⟩⟩
 by_cases hbe:b=e
 .subst hbe;exact heo
 .exact⟨u,k b u hbe q⟩
end
noncomputable def trk(h:Heap)(H:Hp):List Addr:=(List.range h.objs.size).filter λa=>(H a).isSome
noncomputable def QhU(h:Heap)(H:Hp):Heap:=PySem.W.hideAll h (trk h H)
def Qts(h:Heap)(H:Hp):(QhU h H).objs.size=h.objs.size:=PySem.W.hideAll_size _ _
def Qwi{h:Heap}{H:Hp}{b:Addr}{o:Obj}(e:h.get? b=some o)(n:H b=none):(QhU h H).get? b=some o:=
 Zbq _ e λhm=>by
  have q:(H b).isSome=true:=(ZA.mp hm).2;rw[n]at q;simp at q
def Qxw{h:Heap}{H:Hp}{b:Addr}{o:Obj}(e:(QhU h H).get? b=some o):h.get? b=some o/\H b=none:=by
 have e':h.get? b=some o:=PySem.W.of_hideAll (trk h H) e;refine⟨e',?_⟩;cases q:H b with
 | none=>rfl
 | some x=>
  have hm:b∈trk h H:=ZA.mpr ⟨Zj.mpr (Zr e'),by simp[q]⟩;have z:(QhU h H).get? b=none:=PySem.W.hideAll_none (trk h H) hm;rw[z]at e;cases e
structure Mod (K:Fgg) (mg:Str->Option Value) (base:Heap):Prop where
 kin:K.In base
 glob:base.Ns mainGlobals mg
 blt:∃mb,base.Ns builtinsNs mb/\∀x:Str,x≠ "__name__" ->mb x=bootBuiltins x
 nolimit:base.NoLimit
structure Cx where
 prog:Program
 w:World
 K:PySem.W.Frag
 mg:Str->Option Value
 base:Heap
 A:Around
 N:List Str
 s₀:Shared
 H₀:Hp
 env:Env
 outer:List Env
 stack:List Env
 ex:List Addr
 fn:Str->Bool
 calm:Bool
 pn:List (Addr×Obj)
 xe:Value->Shared->Prop
noncomputable def frs(l:List Env):List Addr:=l.filterMap (·.frame)
noncomputable abbrev Cx.fs(X:Cx):List Addr:=frs X.outer
def Vis(sc:Scope)(x:Str):Prop:=sc.names.lookup x=some .local ∨sc.names.lookup x=some .cell∨sc.names.lookup x=some .free
def Loc(sc:Scope)(x:Str):Prop:=sc.names.lookup x=some .local ∨sc.names.lookup x=some .cell
def Look(env:Env)(h:Heap)(m:Str->Option Value)(x:Str)(u:Value):Prop:=
 (env.kindOf x=some .local /\m x=some u)∨((env.kindOf x=some .cell∨env.kindOf x=some .free)/\∃c,env.cells.lookup x=some c/\h.IsCell c (some u))
structure Cx.Ok (X:Cx):Prop where
 mod:Mod X.K X.mg X.base
 kind:X.env.scope.kind= .function
 glob:X.env.globals=mainGlobals
 blt:X.env.builtins=builtinsNs
 above:X.s₀.heap.objs.size<=X.env.locals
 inj:∀x y c,X.env.cells.lookup x=some c->X.env.cells.lookup y=some c->x=y
 has:∀x,(X.env.kindOf x=some .cell∨X.env.kindOf x=some .free)->∃c,X.env.cells.lookup x=some c
 cab:∀x c,X.fn x=true->X.env.cells.lookup x=some c->X.s₀.heap.objs.size<=c
 hd:X.calm=true->X.A.handled=none
 frames:X.A.frames=some X.stack
 stk:X.stack=X.outer∨(X.stack=X.env::X.outer/\X.env.frame=some X.env.locals)
 exf:∀b∈X.ex,b≠X.env.locals/\∀x c,X.env.cells.lookup x=some c->c≠b
 bs:∀b o,X.base.get? b=some o->X.s₀.heap.get? b=some o/\X.H₀ b=none
 bsz:X.base.objs.size<=X.s₀.heap.objs.size
 noex:∀b o,X.base.get? b=some o->b∉X.ex
 exfs:∀b∈X.ex,b∉X.fs
 Qd0:X.s₀.heap.FunFrames X.base X.outer
 frf:∀b∈X.fs,X.H₀ b=none
structure Inv (X:Cx) (pins:List (Addr×Obj)) (σ:List (Option V)) (H:Hp) (s:Shared):Prop where
 ok:X.Ok
 os:s.os=X.s₀.os
 bare:AllBare s.gens
 base:Un X.fs X.ex X.H₀ H X.s₀.heap s.heap
 loc:∃m,s.heap.Ns X.env.locals m/\∀(i:Nat) (x:Str) (v:V),X.N[i]? =some x->σ[i]? =some (some v)->Vis X.env.scope x->∃u,RelV v u/\Look X.env s.heap m x u
 cell:∀x c,X.env.cells.lookup x=some c->∃v,s.heap.IsCell c v
 free:H X.env.locals=none
 freeC:∀x c,X.env.cells.lookup x=some c->H c=none
 pin:∀p∈X.pn++pins,s.heap.get? p.1=some p.2/\H p.1=none/\p.1≠X.env.locals/\p.1∉X.fs/\∀v,p.2.data≠ .cell v
 hok:HOk X.prog X.w H s.heap
 len:σ.length=X.N.length
section
variable {X:Cx}{pins:List (Addr×Obj)}{σ:List (Option V)}{H H':Hp}{s:Shared}{h':Heap}
def Cx.Ok.QCA(ok:X.Ok){b:Addr}{o:Obj}(e:X.base.get? b=some o):b∉X.fs:=λhb=>by
 have:=(ok.Qd0.mem hb).1;rw[e]at this;cases this
def Inv.bs(I:Inv X pins σ H s):∀b o,X.base.get? b=some o->s.heap.get? b=some o/\H b=none:=λb o e=>
 ⟨I.base.keep b o (I.ok.bs b o e).1 (I.ok.bs b o e).2 (I.ok.QCA e) (I.ok.noex b o e),I.base.free b o (I.ok.bs b o e).1 (I.ok.bs b o e).2 (I.ok.noex b o e)⟩
def Inv.bk(I:Inv X pins σ H s):∀b o,X.base.get? b=some o->s.heap.get? b=some o:=λb o e=>(I.bs b o e).1
def Inv.mod(I:Inv X pins σ H s):Mod X.K X.mg X.base:=I.ok.mod
def Inv.kIn(I:Inv X pins σ H s):X.K.In s.heap:=I.ok.mod.kin.keeps I.bk
def Inv.lt(I:Inv X pins σ H s):X.env.locals<s.heap.objs.size:=let ⟨_,hn,_⟩:=I.loc;hn.lt
def Inv.sz(I:Inv X pins σ H s):X.s₀.heap.objs.size<=s.heap.objs.size:=ZN I.ok.above (Zbx I.lt)
def Inv.QC0(I:Inv X pins σ H s){a:Addr}(h:s.heap.objs.size<=a):a∉X.fs:=λhb=>by
 obtain⟨_,o,ho,_⟩:=I.ok.Qd0.mem hb;exact absurd (Zz (Zr ho) (ZN I.sz h)) (ZV _)
def Inv.cne(I:Inv X pins σ H s):∀x c,X.env.cells.lookup x=some c->c≠X.env.locals:=λx c e z=>by
 obtain⟨v,o,ho,hd⟩:=I.cell x c e;obtain⟨m,⟨o',es,ep,ho',hd',_⟩,_⟩:=I.loc;rw[z,ho']at ho;cases ho;rw[hd']at hd;cases hd
def Inv.Qd0(I:Inv X pins σ H s):s.heap.FunFrames X.base X.outer:=by
 have all:∀(l:List Env),(∀b∈frs l,b∈X.fs)->X.s₀.heap.FunFrames X.base l->s.heap.FunFrames X.base l:=by
  intro l
  induction l with
  | nil=>intro _ _;trivial
  | cons env r ih=>
   intro hs hl;obtain⟨hk,⟨L,o,hf,hn,ho,hd⟩,hr⟩:=hl;have hL:L∈X.fs:=hs L (by unfold frs;rw[Zbr,hf];exact Zi);obtain⟨sl,e⟩:=I.base.slot L o ho (I.ok.frf L hL) hL λz=>I.ok.exfs L z hL;exact⟨hk,⟨L,_,hf,hn,e,hd⟩,ih (λb hb=>hs b (by unfold frs;rw[Zbr,hf];exact Zb _ hb)) hr⟩
 exact all X.outer (λ_ hb=>hb) I.ok.Qd0
def Inv.stack(I:Inv X pins σ H s):s.heap.FunFrames X.base X.stack:=by
 rcases I.ok.stk with e | ⟨e,hf⟩
 .rw[e];exact I.Qd0
 .rw[e];obtain⟨m,hn,_⟩:=I.loc;refine .cons (by rw[I.ok.kind];decide) hf hn ?_ I.Qd0;exact Heap.get?_none_of_le (ZN I.ok.bsz I.ok.above)
def Inv.Qf4(I:Inv X pins σ H s):∀b∈frs X.stack,b∈X.env.locals::X.fs:=λb hb=>by
 rcases I.ok.stk with e | ⟨e,hf⟩
 .rw[e]at hb;exact Zb _ hb
 .rw[e]at hb;unfold frs at hb;rw[Zbr,hf]at hb;exact hb
def Inv.Qmd(I:Inv X pins σ H s):∀b∈frs X.stack,H b=none:=λb hb=>by
 rcases Zk.mp (I.Qf4 b hb)with e | hb
 .rw[e];exact I.free
 .obtain⟨_,o,ho,_⟩:=I.ok.Qd0.mem hb;exact I.base.free b o ho (I.ok.frf b hb) λz=>I.ok.exfs b z hb
def Inv.step{g':Array GenState}{t':Nat}{d':Drawn}{ch:LAd}(I:Inv X pins σ H s)
  (hch:∀b∈ch,(b∈X.ex∨X.s₀.heap.objs.size<=b)/\b≠X.env.locals/\(∀x c,X.env.cells.lookup x=some c->c≠b)/\∀p∈X.pn++pins,p.1≠b)
  (keep:∀b o,b≠X.env.locals->b∉X.fs->b∉ch->s.heap.get? b=some o->H b=none->h'.get? b=some o)
  (slot:∀b o,b≠X.env.locals->b∈X.fs->b∉ch->s.heap.get? b=some o->H b=none->∃sl,h'.get? b=some {o with slots:=sl}) (free:∀b o,b∉ch->s.heap.get? b=some o->H b=none->H' b=none)
  (there:∀b o,b∉ch->s.heap.get? b=some o->∃o',h'.get? b=some o')
  (tups:∀b xs,H b=some (.tup xs)->H' b=some (.tup xs)) (frzs:∀b o u,H b=some (.frz o u)->H' b=some (.frz o u)) (tbls:∀b ps,H b=some (.tbl ps)->∃more,H' b=some (.tbl (ps++more)))
  (ns:∀m,s.heap.Ns X.env.locals m->h'.Ns X.env.locals m) (hok:HOk X.prog X.w H' h') (hg:AllBare g'):
  Inv X pins σ H' {s with heap:=h',gens:=g',drawn:=d',toks:=t'}:=by
 have neL:∀b o,X.s₀.heap.get? b=some o->b≠X.env.locals:=λb o e=>ZH (Zz (Zr e) I.ok.above);have neC:∀b o,X.s₀.heap.get? b=some o->b∉X.ex->b∉ch:=λb o e hx hb=>by
  rcases(hch b hb).1 with z | z
  .exact hx z
  .exact absurd (Zz (Zr e) z) (ZV _)
 have cellK:∀x c,X.env.cells.lookup x=some c->∀v,s.heap.IsCell c v->h'.IsCell c v:=λx c e v Z=>by
  obtain⟨o,ho,hd⟩:=Z;have nch:c∉ch:=λz=>(hch c z).2.2.1 x c e rfl;by_cases hc:c∈X.fs
  .obtain⟨sl,q⟩:=slot c o (I.cne x c e) hc nch ho (I.freeC x c e);exact⟨_,q,hd⟩
  .exact⟨o,keep c o (I.cne x c e) hc nch ho (I.freeC x c e),hd⟩
 refine⟨I.ok,I.os,hg,⟨λb o e n hb hx=>?_,λb o e n hb hx=>?_,λb o e n hx=>?_,λb o e hx=>?_,λb xs e=>tups b xs (I.base.tups b xs e),λb o xs e=>frzs b o xs (I.base.frzs b o xs e),λb ps e=>?_⟩,?_,λx c e=>?_,?_,λx c e=>?_,λp hp=>?_,hok,I.len⟩
 .exact keep b o (neL b o e) hb (neC b o e hx) (I.base.keep b o e n hb hx) (I.base.free b o e n hx)
 .obtain⟨sl,e1⟩:=I.base.slot b o e n hb hx;obtain⟨sl',e2⟩:=slot b _ (neL b o e) hb (neC b o e hx) e1 (I.base.free b o e n hx);exact⟨sl',e2⟩
 .obtain⟨o',e1⟩:=I.base.there b o e hx;exact free b o' (neC b o e hx) e1 (I.base.free b o e n hx)
 .obtain⟨o',e1⟩:=I.base.there b o e hx;exact there b o' (neC b o e hx) e1
 .obtain⟨m1,e1⟩:=I.base.tbls b ps e;obtain⟨m2,e2⟩:=tbls b _ e1;exact⟨m1++m2,by rw[e2,Array.append_assoc]⟩
 .obtain⟨m,hn,hl⟩:=I.loc;refine⟨m,ns m hn,λi x v e1 e2 e3=>?_⟩;obtain⟨u,r,l⟩:=hl i x v e1 e2 e3;refine⟨u,r,?_⟩;rcases l with l | ⟨k,c,e,z⟩
  .exact .inl l
  .exact .inr ⟨k,c,e,cellK x c e _ z⟩
 .obtain⟨v,z⟩:=I.cell x c e;exact⟨v,cellK x c e v z⟩
 .obtain⟨m,⟨o,_,_,ho,_⟩,_⟩:=I.loc;exact free _ o (λz=>(hch _ z).2.1 rfl) ho I.free
 .obtain⟨v,o,ho,hd⟩:=I.cell x c e;exact free c o (λz=>(hch c z).2.2.1 x c e rfl) ho (I.freeC x c e)
 .obtain⟨e,n,ne,nf,d⟩:=I.pin p hp;have nch:p.1∉ch:=λz=>(hch p.1 z).2.2.2 p hp rfl;exact⟨keep p.1 p.2 ne nf nch e n,free p.1 p.2 nch e n,ne,nf,d⟩
def Inv.un{t':Nat}(I:Inv X pins σ H s)(u:Un X.fs [] H H' s.heap h')(hok:HOk X.prog X.w H' h'):Inv X pins σ H' {s with heap:=h',toks:=t'}:=by
 obtain⟨m,⟨o,es,ep,ho,r⟩,_⟩:=id I.loc;obtain⟨sl,hL⟩:=u.any ho I.free ⋯;exact I.step (g':=s.gens) (d':=s.drawn) (ch:=[]) (λ_ z=>nomatch z) (λb o _ hb _ e n=>u.keep b o e n hb ⋯) (λb o _ hb _ e n=>u.slot b o e n hb ⋯) (λb o _ e n=>u.free b o e n ⋯) (λb o _ e=>u.there b o e ⋯) u.tups u.frzs u.tbls (λm' hm=>by
  obtain⟨o',es',ep',ho',r'⟩:=hm;rw[ho]at ho';cases ho';exact⟨_,es',ep',hL,r'⟩) hok I.bare
def Inv.call{g':Array GenState}{t':Nat}{d':Drawn}{ch:LAd}(I:Inv X pins σ H s)(u:Un (frs X.stack) ch H H' s.heap h')(hok:HOk X.prog X.w H' h')(hg:AllBare g')
  (hch:∀b∈ch,(b∈X.ex∨X.s₀.heap.objs.size<=b)/\b≠X.env.locals/\(∀x c,X.env.cells.lookup x=some c->c≠b)/\∀p∈X.pn++pins,p.1≠b):
  Inv X pins σ H' {s with heap:=h',gens:=g',drawn:=d',toks:=t'}:=by
 obtain⟨m,⟨o,es,ep,ho,r⟩,_⟩:=id I.loc;obtain⟨sl,hL⟩:=u.any ho I.free λz=>(hch _ z).2.1 rfl;exact I.step (ch:=ch) hch (λb o hL hb hc e n=>u.keep b o e n (λz=>(Zk.mp (I.Qf4 b z)).elim hL hb) hc) (λb o _ _ hc e n=>u.any e n hc) (λb o hc e n=>u.free b o e n hc) (λb o hc e=>u.there b o e hc) u.tups u.frzs u.tbls (λm' hm=>by
  obtain⟨o',es',ep',ho',r'⟩:=hm;rw[ho]at ho';cases ho';exact⟨_,es',ep',hL,r'⟩) hok hg
def Inv.turned{t':Nat}{it:Addr}(I:Inv X pins σ H s)(k:∀b o,b≠it->s.heap.get? b=some o->h'.get? b=some o)(hn:H it=none)(hL:it≠X.env.locals)
  (h1:it∈X.ex∨X.s₀.heap.objs.size<=it) (h2:∀x c,X.env.cells.lookup x=some c->c≠it) (h3:∀p∈X.pn++pins,p.1≠it):Inv X pins σ H {s with heap:=h',toks:=t'}:=by
 have nit:∀b u,H b=some u->b≠it:=λb u e z=>by rw[z,hn]at e;cases e
 refine I.step (g':=s.gens) (d':=s.drawn) (ch:=[it]) (λb hb=>?_) (λb o _ _ hc e _=>k b o (λz=>hc (by simp[z])) e) (λb o _ _ hc e _=>⟨o.slots,k b o (λz=>hc (by simp[z])) e⟩) (λ_ _ _ _ n=>n)
  (λb o hc e=>⟨o,k b o (λz=>hc (by simp[z])) e⟩) (λ_ _ e=>e) (λ_ _ _ e=>e) (λb ps e=>⟨#[],by rw[e];simp⟩) (λm hm=>?_) (λb u e=>?_) I.bare
 .have e:b=it:=by simpa using hb
  subst e;exact⟨h1,hL,h2,h3⟩
 .obtain⟨o,es,ep,ho,r⟩:=hm;exact⟨o,es,ep,k _ o (Ne.symm hL) ho,r⟩
 .refine(I.hok b u e).QeG (λc v hc q=>k c v ?_ q) (λ_ q=>q) λ_ _ q=>q;rcases hc with z | z
  .rw[z];exact nit b u e
  .exact nit c _ z
def Inv.tok(I:Inv X pins σ H s)(t:Nat):Inv X pins σ H {s with toks:=t}:=I.un (h':=s.heap) (t':=t) Un.refl I.hok
def Inv.kept{t':Nat}(I:Inv X pins σ H s)(k:∀b u,s.heap.get? b=some u->h'.get? b=some u):Inv X pins σ H {s with heap:=h',toks:=t'}:=I.un (Un.kept k) (I.hok.kept k)
def Inv.laid{a:Addr}{o:HO}{t':Nat}(I:Inv X pins σ H s)(k:∀b u,s.heap.get? b=some u->h'.get? b=some u)(hp:s.heap.objs.size<=a)(new:Qca X.prog X.w (upd H a o) h' a o):
  Inv X pins σ (upd H a o) {s with heap:=h',toks:=t'}:=I.un (Un.laid k hp (I.hok.fresh hp)) (I.hok.laid k hp new)
def Inv.write{x e:Addr}{o:HO}{t':Nat}(I:Inv X pins σ H s)(mu:Mut (H x))(he:e=x∨H e=some (.own x))(k:∀b u,b≠e->s.heap.get? b=some u->h'.get? b=some u)(heo:∃u,h'.get? e=some u)
  (new:Qca X.prog X.w (upd H x o) h' x o):Inv X pins σ (upd H x o) {s with heap:=h',toks:=t'}:=I.un (Un.write mu he k heo) (I.hok.write mu he k heo new)
def Inv.weak{σ':List (Option V)}(I:Inv X pins σ H s)(hl:σ'.length=σ.length)(w:∀(i:Nat) v,σ'[i]? =some (some v)->σ[i]? =some (some v)):Inv X pins σ' H s:=
 ⟨I.ok,I.os,I.bare,I.base,let ⟨m,hn,hl'⟩:=I.loc;⟨m,hn,λi x v e1 e2 e3=>hl' i x v e1 (w i v e2) e3⟩,I.cell,I.free,I.freeC,I.pin,I.hok,hl.trans I.len⟩
def Inv.Qqq{pins':List (Addr×Obj)}(I:Inv X pins σ H s)(h:∀p∈pins',s.heap.get? p.1=some p.2/\H p.1=none/\p.1≠X.env.locals/\p.1∉X.fs/\∀v,p.2.data≠ .cell v):Inv X pins' σ H s:=
 ⟨I.ok,I.os,I.bare,I.base,I.loc,I.cell,I.free,I.freeC,λp hp=>(ZJ.mp hp).elim (λz=>I.pin p (Zd _ z)) (h p),I.hok,I.len⟩
def Qkh{N:List Str}(hN:N.Nodup){i j:Nat}{x:Str}(a:N[i]? =some x)(b:N[j]? =some x):i=j:=by
 obtain⟨h1,e1⟩:=Ze.mp a;obtain⟨h2,e2⟩:=Ze.mp b;exact(List.getElem_inj hN).mp (e1.trans e2.symm)
def Qnm{M:Model}{A:Around}{E:Value->Shared->Prop}{i:Nat}{x:Str}{v:V}{u:Value}{Q:Unit->Shared->Prop}(I:Inv X pins σ H s)(hN:X.N.Nodup)(hi:X.N[i]? =some x)(hx:Loc X.env.scope x)(r:RelV v u)
  (h:∀s',Inv X pins (σ.set i (some v)) H s'->(∃a,Heap.SameBut a s.heap s'.heap/\(a=X.env.locals∨X.env.cells.lookup x=some a))->Q () s') (hf:X.fn x=true∨X.env.scope.names.lookup x=some .local :=by first | exact .inl rfl | exact .inr rfl | assumption):wpAny M A (storeName X.env x u) Q E s:=by
 obtain⟨m,hn,hl⟩:=id I.loc;have hcls:(X.env.scope.kind == .class || (X.env.scope.kind == .module && X.env.locals != X.env.globals))=false:=by rw[I.ok.kind];rfl
 have hiσ:i<σ.length:=by rw[I.len];exact(Ze.mp hi).1
 have cne:=I.cne;have tracked:∀{a:Addr}{h':Heap},(∃o,s.heap.get? a=some o/\H a=none)->Heap.SameBut a s.heap h'->HOk X.prog X.w H h':=λ{a h'} ha hs b ob e=>by
  obtain⟨_,_,hfree⟩:=ha;refine(I.hok b ob e).QeG (λc w' hc q=>(hs.2 c ?_).trans q) (λ_ q=>q) λ_ _ q=>q;rintro rfl;rcases hc with rfl | hc
  .rw[hfree]at e;cases e
  .rw[hfree]at hc;cases hc
 rcases hx with hk | hk
 .refine wpAny_storeName_local hk hn (λh' hn' hs=>?_) hcls;obtain⟨oL,_,_,hoL,_⟩:=id hn;refine h _ ⟨I.ok,I.os,I.bare,⟨λb o e n hb hx=>?_,λb o e n hb hx=>?_,I.base.free,λb o e hx=>?_,I.base.tups,I.base.frzs,I.base.tbls⟩,⟨_,hn',λj y v' e1 e2 e3=>?_⟩,λy c e=>?_,I.free,I.freeC,λp hp=>?_,tracked ⟨oL,hoL,I.free⟩ hs,by simpa using I.len⟩ ⟨_,hs,.inl rfl⟩
  .exact(hs.2 b (ZH (Zz (Zr e) I.ok.above))).trans (I.base.keep b o e n hb hx)
  .obtain⟨sl,e1⟩:=I.base.slot b o e n hb hx;exact⟨sl,(hs.2 b (ZH (Zz (Zr e) I.ok.above))).trans e1⟩
  .obtain⟨o',e1⟩:=I.base.there b o e hx;exact⟨o',(hs.2 b (ZH (Zz (Zr e) I.ok.above))).trans e1⟩
  .by_cases hj:j=i
   .subst hj;rw[hi]at e1;cases e1;rw[Zw hiσ]at e2;cases e2;exact⟨u,r,.inl ⟨hk,⋯⟩⟩
   .rw[Zm (Ne.symm hj)]at e2;obtain⟨u',r',q⟩:=hl j y v' e1 e2 e3;refine⟨u',r',?_⟩;rcases q with⟨k,e⟩ | ⟨k,c,e,z⟩
    .refine .inl ⟨k,?_⟩;have:y≠x:=λe=>hj (Qkh hN e1 (e▸hi));simp[this,e]
    .exact .inr ⟨k,c,e,z.sameBut hs (cne y c e)⟩
  .obtain⟨w',z⟩:=I.cell y c e;exact⟨w',z.sameBut hs (cne y c e)⟩
  .obtain⟨e,n,ne,nf,d⟩:=I.pin p hp;exact⟨(hs.2 p.1 ne).trans e,n,ne,nf,d⟩
 .have hfn:X.fn x=true:=by
   rcases hf with z | z
   .exact z
   .rw[z]at hk;cases hk
  obtain⟨c,hc⟩:=I.ok.has x (.inl hk);obtain⟨w',z⟩:=I.cell x c hc;refine wpAny_storeName_cell I.ok.kind hk hc z (λh' hc' hs=>?_);obtain⟨oc,hoc,hocd⟩:=id z;refine h {s with heap:=h'} ⟨I.ok,I.os,I.bare,⟨λb o e n hb hx=>?_,λb o e n hb hx=>?_,I.base.free,λb o e hx=>?_,I.base.tups,I.base.frzs,I.base.tbls⟩,⟨m,hn.sameBut hs (Ne.symm (cne x c hc)),λj y v' e1 e2 e3=>?_⟩,λy c' e=>?_,I.free,I.freeC,λp hp=>?_,tracked ⟨oc,hoc,I.freeC x c hc⟩ hs,by simpa using I.len⟩ ⟨c,hs,.inr hc⟩
  .exact(hs.2 b (ZH (Zz (Zr e) (I.ok.cab x c hfn hc)))).trans (I.base.keep b o e n hb hx)
  .obtain⟨sl,e1⟩:=I.base.slot b o e n hb hx;exact⟨sl,(hs.2 b (ZH (Zz (Zr e) (I.ok.cab x c hfn hc)))).trans e1⟩
  .obtain⟨o',e1⟩:=I.base.there b o e hx;exact⟨o',(hs.2 b (ZH (Zz (Zr e) (I.ok.cab x c hfn hc)))).trans e1⟩
  .by_cases hj:j=i
   .subst hj;rw[hi]at e1;cases e1;rw[Zw hiσ]at e2;cases e2;exact⟨u,r,.inr ⟨.inl hk,c,hc,hc'⟩⟩
   .rw[Zm (Ne.symm hj)]at e2;obtain⟨u',r',q⟩:=hl j y v' e1 e2 e3;refine⟨u',r',?_⟩;rcases q with q | ⟨k,c',e,z'⟩
    .exact .inl q
    .refine .inr ⟨k,c',e,z'.sameBut hs ?_⟩;rintro rfl;exact hj (Qkh hN e1 (I.ok.inj _ _ _ e hc▸hi))
  .by_cases hcc:c'=c
   .subst hcc;exact⟨_,hc'⟩
   .obtain⟨w2,z2⟩:=I.cell y c' e;exact⟨w2,z2.sameBut hs hcc⟩
  .obtain⟨e,n,ne,nf,d⟩:=I.pin p hp;refine⟨(hs.2 p.1 ?_).trans e,n,ne,nf,d⟩;intro q;rw[q,hoc]at e;have q':oc=p.2:=Option.some.inj e;exact d w' (by rw[← q'];exact hocd)
def QhQ{M:Model}{A:Around}{E:Value->Shared->Prop}{i:Nat}{x:Str}{v:V}{u:Value}{Q:Unit->Shared->Prop}(I:Inv X pins σ H s)(hN:X.N.Nodup)(hi:X.N[i]? =some x)(hx:Loc X.env.scope x)(r:RelV v u)
  (h:∀s',Inv X pins (σ.set i (some v)) H s'->Q () s') (hf:X.fn x=true∨X.env.scope.names.lookup x=some .local :=by first | exact .inl rfl | exact .inr rfl | assumption):wpAny M A (storeName X.env x u) Q E s:=
 Qnm I hN hi hx r (λs' I' _=>h s' I') hf
def Inv.QwL{s':Shared}{ch:LAd}(I:Inv X pins σ H s)(ho:s'.os=s.os)(u:Un (frs X.stack) ch H H' s.heap s'.heap)(hok:HOk X.prog X.w H' s'.heap)(hg:AllBare s'.gens)
  (hch:∀b∈ch,(b∈X.ex∨X.s₀.heap.objs.size<=b)/\b≠X.env.locals/\(∀x c,X.env.cells.lookup x=some c->c≠b)/\∀p∈X.pn++pins,p.1≠b):Inv X pins σ H' s':=by
 obtain⟨h',g',d',t',o'⟩:=s';have e:o'=s.os:=ho;subst e;exact I.call (g':=g') (t':=t') (d':=d') u hok hg hch
end
abbrev XK:=Value->Option Addr->Hp->Prop
noncomputable abbrev St:=List (Option V)
abbrev VK:=V->Hp->Prop
abbrev TE:=St->Hp->VK->Prop
abbrev TT:=St->Hp->(Bool->Hp->Prop)->Prop
abbrev TA:=St->Hp->(List V->Hp->Prop)->Prop
structure Ends where
 nx:St->Hp->Prop
 rt:VK
 bk:St->Hp->Prop:=λ_ _=>False
 ct:St->Hp->Prop:=λ_ _=>False
abbrev TS:=Ends->St->Hp->Prop
def EP(X:Cx)(pins:List (Addr×Obj))(σ:St)(Q:VK)(u:Value)(s':Shared):Prop:=∃v H',Inv X pins σ H' s'/\RelV v u/\Q v H'
def TP(X:Cx)(pins:List (Addr×Obj))(σ:St)(Q:Bool->Hp->Prop)(b:Bool)(s':Shared):Prop:=∃H',Inv X pins σ H' s'/\Q b H'
def AP(X:Cx)(pins:List (Addr×Obj))(σ:St)(Q:List V->Hp->Prop)(us:List Value)(s':Shared):Prop:=∃vs H',Inv X pins σ H' s'/\QB vs us/\Q vs H'
def SP(X:Cx)(pins:List (Addr×Obj))(D:Ends)(f:Flow)(s':Shared):Prop:=
 match f with
 | .next=>∃σ' H',Inv X pins σ' H' s'/\D.nx σ' H'
 | .brk=>∃σ' H',Inv X pins σ' H' s'/\D.bk σ' H'
 | .cont=>∃σ' H',Inv X pins σ' H' s'/\D.ct σ' H'
 | .ret u=>∃v σ' H',Inv X pins σ' H' s'/\RelV v u/\D.rt v H'
def PE(X:Cx)(e:Expr)(t:TE):Prop:=
 ∀(pins:List (Addr×Obj)) (s:Shared) (σ:St) (H:Hp) (Q:VK),Inv X pins σ H s->t σ H Q->wpAny (model X.prog X.w) X.A (eval e X.env) (EP X pins σ Q) X.xe s
def PT(X:Cx)(e:Expr)(t:TT):Prop:=
 ∀(pins:List (Addr×Obj)) (s:Shared) (σ:St) (H:Hp) (Q:Bool->Hp->Prop),Inv X pins σ H s->t σ H Q->wpAny (model X.prog X.w) X.A (isTrue e X.env (eval e X.env)) (TP X pins σ Q) X.xe s
def PW(X:Cx)(e:Expr)(t:TT):Prop:=
 ∀(whole:Sem Value) (pins:List (Addr×Obj)) (s:Shared) (σ:St) (H:Hp) (Q:Bool->Hp->Prop),Inv X pins σ H s->t σ H Q->wpAny (model X.prog X.w) X.A (isTrue e X.env whole) (TP X pins σ Q) X.xe s
def PW.pt{X:Cx}{e:Expr}{t:TT}(h:PW X e t):PT X e t:=h _
def PA(X:Cx)(es:List Expr)(t:TA):Prop:=
 ∀(pos:Pos) (pins:List (Addr×Obj)) (s:Shared) (σ:St) (H:Hp) (Q:List V->Hp->Prop),Inv X pins σ H s->t σ H Q->wpAny (model X.prog X.w) X.A (spliced (backTo pos (starEach es X.env))) (AP X pins σ Q) X.xe s
def PS(X:Cx)(st:Stmt)(t:TS):Prop:=
 ∀(pins:List (Addr×Obj)) (s:Shared) (σ:St) (H:Hp) (D:Ends),Inv X pins σ H s->t D σ H->wpAny (model X.prog X.w) X.A (exec st X.env) (SP X pins D) X.xe s
def PSs(X:Cx)(st:List Stmt)(t:TS):Prop:=
 ∀(pins:List (Addr×Obj)) (s:Shared) (σ:St) (H:Hp) (D:Ends),Inv X pins σ H s->t D σ H->wpAny (model X.prog X.w) X.A (execs st X.env) (SP X pins D) X.xe s
def thn{α:Type}{t:Sem α}{Q Q':α->Shared->Prop}{M:Model}{A:Around}{E:Value->Shared->Prop}{s:Shared}(h:wpAny M A t Q E s)(hQ:∀a s,Q a s->Q' a s):wpAny M A t Q' E s:=wpAny_mono h hQ λ_ _ x=>x
section
variable {X:Cx}
noncomputable def Ql1(i:Nat):TE:=λσ H Q=>∃v,σ[i]? =some (some v)/\Q v H
noncomputable def tC(v:V):TE:=λ_ H Q=>Q v H
def QAo{i:Nat}{x:Str}{pos:Pos}(hN:X.N[i]? =some x)(hv:Vis X.env.scope x)(hd:(x == ("__debug__" :Str))=false:=by decide)(hcd:(x == ("__classdict__" :Str))=false:=by decide):PE X (.Name x pos) (Ql1 i):=by
 intro pins s σ H Q I h;obtain⟨v,e,h⟩:=h;obtain⟨m,hn,hl⟩:=I.loc;obtain⟨u,r,l⟩:=hl i x v hN e hv;have fin:EP X pins σ Q u s:=⟨v,H,I,r,h⟩;rcases l with⟨hk,hm⟩ | ⟨hk,c,hc,hcell⟩
 .exact wpAny_Name (wpAny_loadName_local I.ok.kind hk hn hm fin) hd
 .rcases hk with hk | hk
  .exact wpAny_Name (wpAny_loadName_cell I.ok.kind hk hc hcell fin) hd
  .exact wpAny_Name (wpAny_loadName_free I.ok.kind hk hc hcell fin hcd) hd
def QtC{i j pos}:PE X (.Constant (.int i) j pos) (tC (.int i)):=λ_ _ _ H _ I h=>wpAny_Constant_int ⟨.int i,H,I.tok _,⟨_,rfl⟩,h⟩
def QwH{b j pos}:PE X (.Constant (.bool b) j pos) (tC (.bl b)):=λ_ _ _ H _ I h=>Constant_bool ⟨.bl b,H,I,rfl,h⟩
def QzA{j pos}:PE X (.Constant .none j pos) (tC .non):=λ_ _ _ H _ I h=>Constant_none ⟨.non,H,I,rfl,h⟩
def QzO{x j pos}:PE X (.Constant (.str x) j pos) (tC (.str x)):=λ_ _ _ H _ I h=>Calls.Constant_str ⟨.str x,H,I.tok _,⟨_,rfl⟩,h⟩
def Gl(X:Cx)(x:Str):Prop:=X.env.kindOf x=some .globalImplicit
def QeC{E:Value->Shared->Prop}{pins:List (Addr×Obj)}{s:Shared}{σ:St}{H:Hp}{x:Str}{u:Value}{pos:Pos}{Q:Value->Shared->Prop}(I:Inv X pins σ H s)(hg:Gl X x)(hm:X.mg x=some u)(h:Q u s)
  (hd:(x == ("__debug__" :Str))=false:=by decide):wpAny (model X.prog X.w) X.A (eval (.Name x pos) X.env) Q E s:=
 Calls.Name_function_global I.ok.kind hg (Calls.loadGlobal_global (by rw[I.ok.glob];exact I.mod.glob.keeps I.bk) hm h) hd
def QcS{E:Value->Shared->Prop}{pins:List (Addr×Obj)}{s:Shared}{σ:St}{H:Hp}{x:Str}{u:Value}{pos:Pos}{Q:Value->Shared->Prop}(I:Inv X pins σ H s)(hg:Gl X x)(hm:X.mg x=none)(hv:bootBuiltins x=some u)(h:Q u s)
  (hn:x≠ "__name__" :=by decide) (hd:(x == ("__debug__" :Str))=false:=by decide):wpAny (model X.prog X.w) X.A (eval (.Name x pos) X.env) Q E s:=by
 obtain⟨mb,h1,h2⟩:=I.mod.blt;exact Calls.Name_function_global I.ok.kind hg (Calls.loadGlobal_builtin (by rw[I.ok.glob];exact I.mod.glob.keeps I.bk) hm (by rw[I.ok.blt];exact h1.keeps I.bk) ((h2 x hn).trans hv) h) hd
def QxN{x:Str}{v:V}{u:Value}{pos:Pos}(hg:Gl X x)(hm:X.mg x=some u)(r:RelV v u)(hd:(x == ("__debug__" :Str))=false:=by decide):PE X (.Name x pos) (tC v):=
 λ_ _ _ H _ I h=>QeC I hg hm ⟨v,H,I,r,h⟩ hd
def QgZ{x:Str}{v:V}{u:Value}{pos:Pos}(hg:Gl X x)(hm:X.mg x=none)(hv:bootBuiltins x=some u)(r:RelV v u)(hn:x≠ "__name__" :=by decide)(hd:(x == ("__debug__" :Str))=false:=by decide):PE X (.Name x pos) (tC v):=
 λ_ _ _ H _ I h=>QcS I hg hm hv ⟨v,H,I,r,h⟩ hn hd
variable {a b:Expr}{ta tb:TE}{pos:Pos}
variable {tA tB':TT}{rest:List Expr}
noncomputable def QCO(t u:TT):TT:=λσ H Q=>t σ H λc H1=>if c=true then u σ H1 Q else Q false H1
noncomputable def tOr(t u:TT):TT:=λσ H Q=>t σ H λc H1=>if c=true then Q true H1 else u σ H1 Q
noncomputable def QDd(t:TT):TT:=λσ H Q=>t σ H λc H1=>Q (!c) H1
def Qx4(ha:PT X a tA):PW X (.BoolOp .And [a] pos) tA:=by
 intro wh pins s σ H Q I h;refine isTrue_and (thn (ha pins s σ H Q I h) λc s1 e=>?_);cases c with
 | true=>exact isTrue_and_nil e
 | false=>exact e
def QA4(ha:PT X a tA):PW X (.BoolOp .Or [a] pos) tA:=by
 intro wh pins s σ H Q I h;refine isTrue_or (thn (ha pins s σ H Q I h) λc s1 e=>?_);cases c with
 | false=>exact isTrue_or_nil e
 | true=>exact e
def Qzq(ha:PT X a tA)(hb:PW X (.BoolOp .And (b::rest) pos) tB'):PW X (.BoolOp .And (a::b::rest) pos) (QCO tA tB'):=by
 intro wh pins s σ H Q I h;refine isTrue_and (thn (ha pins s σ H _ I h) λc s1 Z=>?_);obtain⟨H1,I1,q1⟩:=Z;cases c with
 | true=>exact hb wh pins s1 σ H1 Q I1 q1
 | false=>exact⟨H1,I1,q1⟩
def QB4(ha:PT X a tA)(hb:PW X (.BoolOp .Or (b::rest) pos) tB'):PW X (.BoolOp .Or (a::b::rest) pos) (tOr tA tB'):=by
 intro wh pins s σ H Q I h;refine isTrue_or (thn (ha pins s σ H _ I h) λc s1 Z=>?_);obtain⟨H1,I1,q1⟩:=Z;cases c with
 | true=>exact⟨H1,I1,q1⟩
 | false=>exact hb wh pins s1 σ H1 Q I1 q1
def Qz7(ha:PT X a tA):PT X (.UnaryOp .Not a pos) (QDd tA):=by
 intro pins s σ H Q I h;exact isTrue_not (ha pins s σ H (λc H1=>Q (!c) H1) I h)
def Qzu{op}{t:TE}(h:PE X a t):PE X (.BoolOp op [a] pos) t:=λpins s σ H Q I hw=>BoolOp_one (h pins s σ H Q I hw)
end
def SqL(K:Fgg)(H:Hp)(a:Addr)(xs:List V):Prop:=
 Rd H a (.lst xs)∨
  ∃(o:Obj) (its:Array Value) (n:Nat),K.lookup a=some o/\o.cls= .type "list" /\o.dict=none/\o.data= .seq its n/\its.size<=sizeLine/\QB xs its.toList
def SqT(K:Fgg)(H:Hp)(a:Addr)(xs:List V):Prop:=
 Rd H a (.tup xs)∨
  ∃(o:Obj) (its:Array Value) (n:Nat),K.lookup a=some o/\o.cls= .type "tuple" /\o.data= .seq its n/\its.size<=sizeLine/\QB xs its.toList
noncomputable def QCP:Value->Option V
 | .none=>some .non
 | .bool b=>some (.bl b)
 | .int i _=>some (.int i)
 | .str x _=>some (.str x)
 | .bytes b _=>some (.byt b)
 | .float b _=>some (.flt b)
 | .ref a=>some (.ref a)
 | .type n=>some (.ty n)
 | _=>none
def RelV.abs{x:V}{u:Value}(r:RelV x u):QCP u=some x:=by
 cases x with
 | non=>cases r;rfl
 | bl _=>cases r;rfl
 | int _=>obtain⟨t,rfl⟩:=r;rfl
 | str _=>obtain⟨t,rfl⟩:=r;rfl
 | byt _=>obtain⟨t,rfl⟩:=r;rfl
 | flt _=>obtain⟨t,rfl⟩:=r;rfl
 | ref _=>cases r;rfl
 | ty _=>cases r;rfl
def RelV.inj{x y:V}{u:Value}(r:RelV x u)(q:RelV y u):x=y:=Option.some.inj (r.abs.symm.trans q.abs)
def QB.inj:∀{xs ys:List V}{us:List Value},QB xs us->QB ys us->xs=ys
 | _,_,_,.nil,.nil=>rfl
 | _,_,_,.cons r t,.cons r' t'=>by rw[r.inj r',QB.inj t t']
section
variable {X:Cx}{pins:List (Addr×Obj)}{σ:St}{H:Hp}{s:Shared}{a:Addr}{xs ys:List V}
def SqL.of{K:Fgg}(h:H a=some (.lst xs)):SqL K H a xs:= .inl (.inl h)
def SqT.of{K:Fgg}(h:H a=some (.tup xs)):SqT K H a xs:= .inl (.inl h)
def Inv.list(I:Inv X pins σ H s)(h:SqL X.K H a xs):∃its:List Value,QB xs its/\PlainL s.heap a its.toArray/\xs.length<=sizeLine:=by
 rcases h with h | ⟨o,its,n,hk,hc,hd,hs,hz,r⟩
 .obtain⟨z,its,n,r,e⟩:=h.ok I.hok;exact⟨its,r,⟨_,n,e,rfl,rfl,rfl⟩,z⟩
 .refine⟨its.toList,r,⟨o,n,I.kIn a o hk,hc,hd,by simpa using hs⟩,?_⟩;have e:=r.length;simp only[Zu]at e;omega
def Inv.tuple(I:Inv X pins σ H s)(h:SqT X.K H a xs):∃its:List Value,QB xs its/\IsTup s.heap a its.toArray/\xs.length<=sizeLine:=by
 rcases h with h | ⟨o,its,n,hk,hc,hs,hz,r⟩
 .obtain⟨z,its,r,p⟩:=h.ok I.hok;exact⟨its,r,p,z⟩
 .refine⟨its.toList,r,⟨o,I.kIn a o hk,hc,n,by simpa using hs⟩,?_⟩;have e:=r.length;simp only[Zu]at e;omega
def Inv.Qhv(I:Inv X pins σ H s)(h:SqL X.K H a xs)(h':SqL X.K H a ys):xs=ys:=by
 obtain⟨its,r,⟨o,n,e,_,_,d⟩,_⟩:=I.list h;obtain⟨its',r',⟨o',n',e',_,_,d'⟩,_⟩:=I.list h';rw[e]at e';cases e';rw[d]at d';injection d' with d1 _;have:its=its':=by simpa using congrArg Array.toList d1
 subst this;exact r.inj r'
def Inv.Qt2(I:Inv X pins σ H s)(h:SqT X.K H a xs)(h':SqT X.K H a ys):xs=ys:=by
 obtain⟨its,r,⟨o,e,_,n,d⟩,_⟩:=I.tuple h;obtain⟨its',r',⟨o',e',_,n',d'⟩,_⟩:=I.tuple h';rw[e]at e';cases e';rw[d]at d';injection d' with d1 _;have:its=its':=by simpa using congrArg Array.toList d1
 subst this;exact r.inj r'
end
noncomputable abbrev Cx.Qf9(X:Cx)(E:Value->Shared->Prop):Cx:={X with xe:=E}
noncomputable abbrev Cx.nox(X:Cx):Cx:=X.Qf9 λ_ _=>False
def Cx.Ok.Qf9{X:Cx}(ok:X.Ok)(E:Value->Shared->Prop):(X.Qf9 E).Ok:=
 ⟨ok.mod,ok.kind,ok.glob,ok.blt,ok.above,ok.inj,ok.has,ok.cab,ok.hd,ok.frames,ok.stk,ok.exf,ok.bs,ok.bsz,ok.noex,ok.exfs,ok.Qd0,ok.frf⟩
def Cx.Ok.Qfc{X:Cx}{E:Value->Shared->Prop}(ok:(X.Qf9 E).Ok):X.Ok:=
 ⟨ok.mod,ok.kind,ok.glob,ok.blt,ok.above,ok.inj,ok.has,ok.cab,ok.hd,ok.frames,ok.stk,ok.exf,ok.bs,ok.bsz,ok.noex,ok.exfs,ok.Qd0,ok.frf⟩
section
variable {X:Cx}{pins:List (Addr×Obj)}{σ:St}{H:Hp}{s:Shared}{E:Value->Shared->Prop}
def Inv.Qf9(I:Inv X pins σ H s)(E:Value->Shared->Prop):Inv (X.Qf9 E) pins σ H s:=⟨I.ok.Qf9 E,I.os,I.bare,I.base,I.loc,I.cell,I.free,I.freeC,I.pin,I.hok,I.len⟩
def Inv.Qfc(I:Inv (X.Qf9 E) pins σ H s):Inv X pins σ H s:=⟨I.ok.Qfc,I.os,I.bare,I.base,I.loc,I.cell,I.free,I.freeC,I.pin,I.hok,I.len⟩
def SP.Qfc{D:Ends}{f:Flow}{s':Shared}(h:SP (X.Qf9 E) pins D f s'):SP X pins D f s':=by
 cases f with
 | next=>obtain⟨σ',H',I,q⟩:=h;exact⟨σ',H',I.Qfc,q⟩
 | brk=>obtain⟨σ',H',I,q⟩:=h;exact⟨σ',H',I.Qfc,q⟩
 | cont=>obtain⟨σ',H',I,q⟩:=h;exact⟨σ',H',I.Qfc,q⟩
 | ret u=>obtain⟨v,σ',H',I,r,q⟩:=h;exact⟨v,σ',H',I.Qfc,r,q⟩
def PSs.nox{st:List Stmt}{t:TS}(h:PSs X.nox st t):PSs X st t:=λpins s σ H D I hw=>
 wpAny_mono (h pins s σ H D (I.Qf9 _) hw) (λ_ _ q=>q.Qfc) λ_ _ z=>False.elim z
end
section
variable {X:Cx}{st:Stmt}{rest:List Stmt}{t u:TS}{e:Expr}{te:TE}{pos:Pos}
noncomputable def QrN:TS:=λD σ H=>D.nx σ H
noncomputable def QAT(t u:TS):TS:=λD σ H=>t {D with nx:=u D} σ H
def Qxc:PSs X [] QrN:=λ_ _ σ H _ I h=>wpAny_execs_nil ⟨σ,H,I,h⟩
def QfP(h1:PS X st t)(h2:PSs X rest u):PSs X (st::rest) (QAT t u):=by
 intro pins s σ H D I h;refine wpAny_execs_cons (thn (h1 pins s σ H {D with nx:=u D} I h) λf s1 q=>?_);cases f with
 | next=>
  obtain⟨σ',H',I',q⟩:=q;exact h2 pins s1 σ' H' D I' q
 | ret v=>exact q
 | brk=>exact q
 | cont=>exact q
noncomputable def QzM:TS:=λD σ H=>D.bk σ H
noncomputable def QCb:TS:=λD σ H=>D.ct σ H
def Qyh:PS X (.Pass pos) QrN:=λ_ _ σ H _ I h=>wpAny_Pass ⟨σ,H,I,h⟩
def Qwh:PS X (.Break pos) QzM:=λ_ _ σ H _ I h=>wpAny_Break ⟨σ,H,I,h⟩
def QpO:PS X (.Continue pos) QCb:=λ_ _ σ H _ I h=>wpAny_Continue ⟨σ,H,I,h⟩
def Inv.quiet{pins:List (Addr×Obj)}{σ:St}{H:Hp}{s:Shared}(I:Inv X pins σ H s):interactive X.env=false:=by simp[interactive,I.ok.kind]
def QAB{x j pos pos'}:PS X (.Expr (.Constant (.str x) j pos) pos') QrN:=λ_ s σ H _ I h=>wpAny_Expr (Calls.Constant_str (show SP X _ _ .next {s with toks:=s.toks+1}from⟨σ,H,I.tok _,h⟩)) I.quiet
noncomputable def Qsq(te:TE):TS:=λD σ H=>te σ H λ_ H1=>D.nx σ H1
def QmC(he:PE X e te)(hs:swapsWith e none pos.line X.env=pure false:=by rfl):PS X (.Expr e pos) (Qsq te):=by
 intro pins s σ H D I h;exact wpAny_Expr_any (thn (he pins s σ H _ I h) λv s1 ⟨x,H1,I1,r1,q1⟩=>⟨σ,H1,I1,q1⟩) I.quiet hs
noncomputable def QC3(te:TE):TS:=λD σ H=>te σ H D.rt
def Qus(he:PE X e te):PS X (.Return (some e) pos) (QC3 te):=by
 intro pins s σ H D I h;exact wpAny_Return_some (thn (he pins s σ H _ I h) λv s1 ⟨x,H1,I1,r1,q1⟩=>⟨x,σ,H1,I1,r1,q1⟩)
noncomputable def QCL(c:TT)(t u:TS):TS:=λD σ H=>c σ H λb H1=>if b=true then t D σ H1 else u D σ H1
def QwV{c:Expr}{a b:List Stmt}{tc:TT}(hc:PT X c tc)(ha:PSs X a t)(hb:PSs X b u):PS X (.If c a b pos) (QCL tc t u):=by
 intro pins s σ H D I h;refine wpAny_If (thn (hc pins s σ H _ I h) λd s1 Z=>?_);obtain⟨H1,I1,q1⟩:=Z;cases d with
 | true=>exact ha pins s1 σ H1 D I1 q1
 | false=>exact hb pins s1 σ H1 D I1 q1
noncomputable def QAs:TS:=λ_ _ _=>False
def QuS:PS X st QAs:=λ_ _ _ _ _ _ h=>h.elim
end
abbrev TG:=V->St->Hp->(St->Hp->Prop)->Prop
abbrev TGs:=List V->St->Hp->(St->Hp->Prop)->Prop
def PG(X:Cx)(target:Expr)(t:TG):Prop:=
 ∀(pins:List (Addr×Obj)) (s:Shared) (σ:St) (H:Hp) (v:V) (u:Value) (Q:St->Hp->Prop),Inv X pins σ H s->RelV v u->t v σ H Q→
  wpAny (model X.prog X.w) X.A (assign target X.env u) (λ_ s'=>∃σ' H',Inv X pins σ' H' s'/\Q σ' H') X.xe s
def PGs(X:Cx)(ts:List Expr)(t:TGs):Prop:=
 ∀(pins:List (Addr×Obj)) (s:Shared) (σ:St) (H:Hp) (vs:List V) (us:List Value) (Q:St->Hp->Prop),Inv X pins σ H s->QB vs us->t vs σ H Q→
  wpAny (model X.prog X.w) X.A (assignInOrder ((assignEach ts X.env).map (·.2)) us) (λ_ s'=>∃σ' H',Inv X pins σ' H' s'/\Q σ' H') X.xe s
abbrev Qpk:=V->V->V->Hp->(Hp->Prop)->Prop
def QuD(X:Cx)(t:Qpk):Prop:=
 ∀(pins:List (Addr×Obj)) (s:Shared) (σ:St) (H:Hp) (o i v:V) (ov iv u:Value) (Q:Hp->Prop),Inv X pins σ H s->RelV o ov->RelV i iv->RelV v u->t o i v H Q→
  wpAny (model X.prog X.w) X.A (setItem ov iv u) (λ_ s'=>∃H',Inv X pins σ H' s'/\Q H') X.xe s
abbrev TIp:=V->V->Hp->VK->Prop
def PIp(X:Cx)(op:Operator)(t:TIp):Prop:=
 ∀(pins:List (Addr×Obj)) (s:Shared) (σ:St) (H:Hp) (x y:V) (v u:Value) (Q:VK),Inv X pins σ H s->RelV x v->RelV y u->t x y H Q→
  wpAny (model X.prog X.w) X.A (inplaceOp op v u) (EP X pins σ Q) X.xe s
section
variable {X:Cx}{pos:Pos}
noncomputable def QhS(i:Nat):TG:=λv σ H Q=>Q (σ.set i (some v)) H
def Qqu{i:Nat}{x:Str}(hN:X.N.Nodup)(hi:X.N[i]? =some x)(hx:Loc X.env.scope x)(hf:X.fn x=true∨X.env.scope.names.lookup x=some .local :=by first | exact .inl rfl | exact .inr rfl | assumption):PG X (.Name x pos) (QhS i):=by
 intro pins s σ H v u Q I r h;exact wpAny_assign_Name (QhQ I hN hi hx r (λs' I'=>⟨_,H,I',h⟩) hf)
noncomputable def QzT:TGs:=λvs σ H Q=>vs=[]/\Q σ H
noncomputable def QwR(t:TG)(u:TGs):TGs:=λvs σ H Q=>∃v r,vs=v::r/\t v σ H λσ' H'=>u r σ' H' Q
def QyK:PGs X [] QzT:=by
 intro pins s σ H vs us Q I r h;obtain⟨e,h⟩:=h;subst e;cases r;exact assignInOrder_nil ⟨σ,H,I,h⟩
def Qvi{e:Expr}{es:List Expr}{t:TG}{u:TGs}(h1:PG X e t)(h2:PGs X es u)
  (hs:(assignEach (e::es) X.env).map (·.2)=assign e X.env::(assignEach es X.env).map (·.2):=by rfl):PGs X (e::es) (QwR t u):=by
 intro pins s σ H vs us Q I r h;obtain⟨v,vr,e1,h⟩:=h;subst e1;cases r with
 | cons r rr=>
  rw[hs];refine assignInOrder_cons (thn (h1 pins s σ H _ _ _ I r h) λ_ s1 Z=>?_);obtain⟨σ1,H1,I1,q1⟩:=Z;exact h2 pins s1 σ1 H1 _ _ Q I1 rr q1
noncomputable def QDh(K:Fgg)(n:Nat)(t:TGs):TG:=λv σ H Q=>∃a xs,v= .ref a/\SqT K H a xs/\xs.length=n/\t xs σ H Q
def QAA{es:List Expr}{k:Nat}{t:TGs}{n:Nat}(hc:X.calm=true)(h:PGs X es t)
  (hn:(assignEach es X.env).length=n:=by rfl) (hst:(assignEach es X.env).findIdx? (·.1)=none:=by rfl):PG X (.Tuple es k pos) (QDh X.K n t):=by
 intro pins s σ H v u Q I r hw;obtain⟨a,xs,e1,hq,hl,hw⟩:=hw;subst e1;cases r;obtain⟨its,rv,ht,hz⟩:=I.tuple hq;refine assign_Tuple_tuple (I.ok.hd hc) ht (by simp[hn,← hl,rv.length]) hst λh' hx=>?_;have I1:Inv X pins σ H {s with heap:=h'}:=I.kept (t':=s.toks) λb o e=>hx b o (ZH (Zr e)) e;exact h pins _ σ H xs _ Q I1 (by simpa using rv) hw
noncomputable def Qa6(to ti:TE)(t:Qpk):TG:=λv σ H Q=>to σ H λo H1=>ti σ H1 λi H2=>t o i v H2 λH3=>Q σ H3
def QoI{o i:Expr}{to ti:TE}{t:Qpk}(ho:PE X o to)(hi:PE X i ti)(hs:QuD X t)
  (ha:∀v,assign (.Subscript o i pos) X.env v=(do
   let ov ← holding [v] (eval o X.env)
   let iv ← holding [v,ov] (eval i X.env)
   standAt pos
   holding [v,ov,iv] (setItem ov iv v)
   release [v,ov,iv] []):=by intro _;rfl):PG X (.Subscript o i pos) (Qa6 to ti t):=by
 intro pins s σ H v u Q I r h;rw[ha];refine wpAny_bind (wpAny_holding (thn (ho pins s σ H _ I h) λov s1=>exJ λx H1 I1 r1 q1=>?_));refine wpAny_bind (wpAny_holding (thn (hi pins s1 σ H1 _ I1 q1) λiv s2=>exJ λy H2 I2 r2 q2=>?_));refine wpAny_bind (wpAny_standAt (wpAny_bind (wpAny_holding (thn (hs pins s2 σ H2 x y v ov iv u _ I2 r1 r2 r q2) λ_ s3 Z=>?_))));obtain⟨H3,I3,q3⟩:=Z;exact wpAny_release ⟨σ,H3,I3,q3⟩
noncomputable def Qiq(te:TE)(g:TG):TS:=λD σ H=>te σ H λx H1=>g x σ H1 D.nx
def QlB{tg e:Expr}{te:TE}{g:TG}(he:PE X e te)(hg:PG X tg g)(hs:swapsWithSole [tg] e pos.line X.env=pure false:=by rfl)(hw:swappedStores [tg] e X.env=pure none:=by rfl)
  (h1:(assignEach [tg] X.env).map (·.2)=[assign tg X.env]:=by rfl):PS X (.Assign [tg] e pos) (Qiq te g):=by
 intro pins s σ H D I h;refine wpAny_Assign_stores (thn (he pins s σ H _ I h) λv s1 ⟨x,H1,I1,r1,q1⟩=>?_) hs hw;rw[h1];exact thn (hg pins s1 σ H1 x v _ I1 r1 q1) λ_ s2 q=>q
def Qhl{i:Nat}{x:Str}{e:Expr}{te:TE}{pos':Pos}(hN:X.N.Nodup)(hi:X.N[i]? =some x)(hx:Loc X.env.scope x)(he:PE X e te)(hs:swapsWith e (some (.Name x pos')) pos.line X.env=pure false:=by rfl)(hf:X.fn x=true∨X.env.scope.names.lookup x=some .local :=by first | exact .inl rfl | exact .inr rfl | assumption):
  PS X (.Assign [.Name x pos'] e pos) (Qiq te (QhS i)):=by
 intro pins s σ H D I h;refine wpAny_Assign_Name (thn (he pins s σ H _ I h) λv s1 ⟨y,H1,I1,r1,q1⟩=>?_) hs;exact QhQ I1 hN hi hx r1 (λs2 I2=>⟨_,H1,I2,q1⟩) hf
noncomputable def QCd(to ti te:TE)(tget:V->V->Hp->VK->Prop)(tip:TIp)(tset:Qpk):TS:=λD σ H=>to σ H λo H1=>ti σ H1 λi H2=>tget o i H2 λx H3=>te σ H3 λy H4=>tip x y H4 λz H5=>tset o i z H5 λH6=>D.nx σ H6
def Qz6(X:Cx)(t:V->V->Hp->VK->Prop):Prop:=
 ∀(pins:List (Addr×Obj)) (s:Shared) (σ:St) (H:Hp) (o i:V) (ov iv:Value) (Q:VK),Inv X pins σ H s->RelV o ov->RelV i iv->t o i H Q→
  wpAny (model X.prog X.w) X.A (getItem ov iv) (EP X pins σ Q) X.xe s
def Qxq{o i e:Expr}{to ti te:TE}{tget:V->V->Hp->VK->Prop}{tip:TIp}{tset:Qpk}{op:Operator}{tpos:Pos}(ho:PE X o to)(hi:PE X i ti)(hg:Qz6 X tget)(he:PE X e te)(hp:PIp X op tip)(hs:QuD X tset)
  (ha:∀ov iv new,augStore i ov iv new=(do holding [new,ov,iv] (setItem ov iv new);release [new,ov,iv] [];pure .next):=by intros;rfl):PS X (.AugAssign (.Subscript o i tpos) op e pos) (QCd to ti te tget tip tset):=by
 intro pins s σ H D I h;refine wpAny_AugAssign_SubscriptAny (thn (ho pins s σ H _ I h) λov s1 ⟨x1,H1,I1,r1,q1⟩=>?_) ha;refine thn (hi pins s1 σ H1 _ I1 q1) λiv s2=>exJ λx2 H2 I2 r2 q2=>?_;refine thn (hg pins s2 σ H2 x1 x2 ov iv _ I2 r1 r2 q2) λold s3=>exJ λx3 H3 I3 r3 q3=>?_;refine thn (he pins s3 σ H3 _ I3 q3) λv s4=>exJ λx4 H4 I4 r4 q4=>?_;refine thn (hp pins s4 σ H4 x3 x4 old v _ I4 r3 r4 q4) λnew s5=>exJ λx5 H5 I5 r5 q5=>?_;exact thn (hs pins s5 σ H5 x1 x2 x5 ov iv new _ I5 r1 r2 r5 q5) λ_ s6 ⟨H6,I6,q6⟩=>⟨σ,H6,I6,q6⟩
end
section
variable {X:Cx}{pos:Pos}
noncomputable def Qzs(c:TT)(tb:TS):TS:=λD σ H=>∃W:Nat->St->Hp->Prop,(∃m,W m σ H)/\∀m σ H,W m σ H→
 c σ H λb H1=>if b=true then ∃N:St->Hp->Prop,(∀σ' H',N σ' H'->∃m',m'<m/\W m' σ' H')/\tb {D with nx:=N,ct:=N,bk:=D.nx} σ H1 else D.nx σ H1
def QvO{c:Expr}{body:List Stmt}{tc:TT}{tb:TS}(hp:PassesOwn (model X.prog X.w) X.A X.env X.xe)(hc:PT X c tc)(hb:PSs X body tb):PS X (.While c body [] pos) (Qzs tc tb):=by
 intro pins s σ H D I h;obtain⟨W,⟨m0,w0⟩,turn⟩:=h;refine wpAny_While (codeAny_whileLoop (λn s'=>∃σ' H',Inv X pins σ' H' s'/\W n σ' H') ?_ m0 ⟨σ,H,I,w0⟩);rintro n s1 ⟨σ1,H1,I1,w1⟩;refine wpAny_passesOwn hp (thn (hc pins s1 σ1 H1 _ I1 (turn n σ1 H1 w1)) λb s2 Z=>?_);obtain⟨H2,I2,q2⟩:=Z;cases b with
 | true=>
  obtain⟨N,hN,q2⟩:=q2;rw[if_pos rfl];refine wpAny_passesOwn hp (thn (hb pins s2 σ1 H2 _ I2 q2) λf s3 q3=>?_);cases f with
  | next=>
   obtain⟨σ3,H3,I3,n3⟩:=q3;obtain⟨m',hm,w3⟩:=hN σ3 H3 n3;exact⟨m',hm,σ3,H3,I3,w3⟩
  | cont=>
   obtain⟨σ3,H3,I3,n3⟩:=q3;obtain⟨m',hm,w3⟩:=hN σ3 H3 n3;exact⟨m',hm,σ3,H3,I3,w3⟩
  | brk=>exact q3
  | ret v=>exact q3
 | false=>
  rw[if_neg Zam];exact wpAny_execs_nil ⟨σ1,H2,I2,q2⟩
end
structure It where
 go:Nat->Hp->Prop
 yld:Nat->Hp->V->Hp->Prop
 stop:Nat->Hp->Prop
def Qd1(X:Cx)(pins:List (Addr×Obj))(H:Hp)(b:Addr):Prop:=
 H b=none/\b≠X.env.locals/\b∉X.fs/\(b∈X.ex∨X.s₀.heap.objs.size<=b)/\(∀x c,X.env.cells.lookup x=some c->c≠b)/\∀p∈X.pn++pins,p.1≠b
def Inv.Qon{X:Cx}{pins:List (Addr×Obj)}{σ:St}{H H':Hp}{s:Shared}{b:Addr}(I:Inv X pins σ H s)(hb:s.heap.objs.size<=b)(hn:H' b=none):Qd1 X pins H' b:=by
 refine⟨hn,Zby (Zz I.lt hb),I.QC0 hb,.inr (ZN I.sz hb),λx c e z=>?_,λp hp z=>?_⟩
 .obtain⟨v,q⟩:=I.cell x c e;exact absurd (Zz q.lt (by rw[z];exact hb)) (ZV _)
 .exact absurd (Zz (Zr (I.pin p hp).1) (by rw[z];exact hb)) (ZV _)
structure Turn (P:Program) (w:World) (K:Fgg) (tg:Expr) (J:It) (fp:LAd) (it:Addr) (tn:Nat->Heap->Prop):Prop where
 mem:it∈fp
 obj:∀i h,tn i h->∀b∈fp,∃o,h.get? b=some o/\∀v,o.data≠ .cell v
 keep:∀i h h',tn i h->(∀b∈fp,∀o,h.get? b=some o->h'.get? b=some o)->tn i h'
 item:∀(X:Cx),X.prog=P->X.w=w->X.K=K->X.calm=true->∀(i:Nat) (pins:List (Addr×Obj)) (s:Shared) (σ:St) (H:Hp) (E:Value->Shared->Prop),Inv X pins σ H s->(∀b∈fp,Qd1 X pins H b)->tn i s.heap->J.go i H→
  wpAny (model P w) X.A (pyNext (.ref it)) (λr s1=>∃u,r=some u∧
   wpAny (model P w) X.A (letOwnedTupleGo tg (.ref it) u) (λ_ s2=>∃x H',Inv X pins σ H' s2/\RelV x u/\J.yld i H x H'/\tn (i+1) s2.heap/\∀b∈fp,H' b=none) E s1) E s
 done:∀(X:Cx),X.prog=P->X.w=w->X.K=K->X.calm=true->∀(i:Nat) (pins:List (Addr×Obj)) (s:Shared) (σ:St) (H:Hp) (E:Value->Shared->Prop),Inv X pins σ H s->(∀b∈fp,Qd1 X pins H b)->tn i s.heap->J.stop i H→
  wpAny (model P w) X.A (pyNext (.ref it)) (λr s1=>r=none/\Inv X pins σ H s1) E s
 self:∀(A:Around) (i:Nat) (s:Shared) (Q:Value->Shared->Prop) (E:Value->Shared->Prop),tn i s.heap->Q (.ref it) s->wpAny (model P w) A (pyIter (.ref it)) Q E s
abbrev TI:=St->Hp->(It->Hp->Prop)->Prop
def PIE(X:Cx)(pins:List (Addr×Obj))(σ:St)(tg:Expr)(R:It->Hp->Prop)(itv:Value)(s2:Shared):Prop:=
 ∃(it:Addr) (fp:LAd) (tn:Nat->Heap->Prop) (J:It) (H':Hp),itv= .ref it/\Inv X pins σ H' s2/\Turn X.prog X.w X.K tg J fp it tn/\tn 0 s2.heap/\(∀b∈fp,Qd1 X pins H' b)/\R J H'
def PI(X:Cx)(tg iter:Expr)(wi:TI):Prop:=
 ∀(pins:List (Addr×Obj)) (s:Shared) (σ:St) (H:Hp) (R:It->Hp->Prop),Inv X pins σ H s->wi σ H R→
  wpAny (model X.prog X.w) X.A (eval iter X.env) (λv s1=>wpAny (model X.prog X.w) X.A (pyIter v) (PIE X pins σ tg R) X.xe s1) X.xe s
def Qse{M:Model}{A:Around}{E:Value->Shared->Prop}{s:Shared}{tg:Expr}{it:Addr}{u:Value}{o:Obj}{n:String}{vs:Array Value}{Q:Unit->Shared->Prop}(ho:s.heap.get? it=some o)(hc:o.cls= .type n)(hd:o.data= .fields vs)
    (hn:["enumerate","zip","dict_itemiterator","dict_reverseitemiterator","odict_iterator","itertools.zip_longest","itertools.pairwise"].contains n=false) (hQ:Q () s):wpAny M A (letOwnedTupleGo tg (.ref it) u) Q E s:=by
  unfold letOwnedTupleGo
  cases tg<;>first
    | exact wpAny_pure hQ
    | (cases u<;>first
        | exact wpAny_pure hQ
        | (refine wpAny_bind (wpAny_load ho ?_)
           rw[hc,hd];show wpAny M A (if(["enumerate","zip","dict_itemiterator","dict_reverseitemiterator","odict_iterator","itertools.zip_longest","itertools.pairwise"].contains n && vs[0]? == some (rawInt _))=true then _ else _) Q E s;rw[if_neg (by intro h;rw[hn,Bool.false_and]at h;cases h)];exact wpAny_pure hQ))
noncomputable def Itl(K:Fgg)(a:Addr):It:=
 ⟨λi H=>∃xs x,SqL K H a xs/\xs[i]? =some x,λi H x H'=>H'=H/\∀xs,SqL K H a xs->xs[i]? =some x,λi H=>∃xs,SqL K H a xs/\xs.length<=i⟩
noncomputable def Itt(K:Fgg)(a:Addr):It:=
 ⟨λi H=>∃xs x,SqT K H a xs/\xs[i]? =some x,λi H x H'=>H'=H/\∀xs,SqT K H a xs->xs[i]? =some x,λi H=>∃xs,SqT K H a xs/\xs.length<=i⟩
noncomputable def Itr(lo:Int)(n:Nat):It:=⟨λi _=>i<n,λi H x H'=>H'=H/\x= .int (lo+i),λi _=>n<=i⟩
def QsH{P:Program}{w:World}{K:Fgg}{tg:Expr}(a it:Addr):Turn P w K tg (Itl K a) [it] it (λi h=>h.IsListIter it a i) where
 mem:= ⋯
 obj:=λi h st b hb=>by
  have e:b=it:=by simpa using hb
  subst e;obtain⟨o,e,c,d⟩:=st;exact⟨o,e,λv z=>by rw[d]at z;cases z⟩
 keep:=λi h h' st k=>st.at λo e=>k it ⋯ o e
 item:=by
  intro X hP hw hK hc i pins s σ H E I hf st hg;subst hP hw hK;obtain⟨xs,x,hq,hx⟩:=hg;obtain⟨its,rv,p,hz⟩:=I.list hq;obtain⟨u,hu,ru⟩:=rv.get hx;obtain⟨f0,f1,f2,f3,f4,f5⟩:=hf it ⋯;refine wpAny_pyNext_list_item st p.isList (x:=u) (by simpa using hu) λh' st' sb=>?_;have I1:Inv X pins σ H {s with heap:=h'}:=I.turned (t':=s.toks) (λb o hb e=>(sb.2 b hb).trans e) f0 f1 f3 f4 f5;obtain⟨o,e,c,d⟩:=id st';exact⟨u,rfl,Qse (s:={s with heap:=h'}) e c d ∅ ⟨x,H,I1,ru,⟨rfl,λys hy=>by rw[I.Qhv hy hq];exact hx⟩,st',λb hb=>(hf b hb).1⟩⟩
 done:=by
  intro X hP hw hK hc i pins s σ H E I hf st hg;subst hP hw hK;obtain⟨xs,hq,hx⟩:=hg;obtain⟨its,rv,p,hz⟩:=I.list hq;obtain⟨f0,f1,f2,f3,f4,f5⟩:=hf it ⋯;have hl:=rv.length;exact wpAny_pyNext_list_end (I.ok.hd hc) st p.isList (by simp;omega) λh' eb=>⟨rfl,I.turned (t':=s.toks) (λb o hb e=>eb b o hb e) f0 f1 f3 f4 f5⟩
 self:=λ_ _ _ _ _ st h=>wpAny_pyIter_listiter st h
def Qsf{P:Program}{w:World}{K:Fgg}{tg:Expr}(a it:Addr):Turn P w K tg (Itt K a) [it] it (λi h=>h.IsTupleIter it a i) where
 mem:= ⋯
 obj:=λi h st b hb=>by
  have e:b=it:=by simpa using hb
  subst e;obtain⟨o,e,c,d⟩:=st;exact⟨o,e,λv z=>by rw[d]at z;cases z⟩
 keep:=λi h h' st k=>st.at λo e=>k it ⋯ o e
 item:=by
  intro X hP hw hK hc i pins s σ H E I hf st hg;subst hP hw hK;obtain⟨xs,x,hq,hx⟩:=hg;obtain⟨its,rv,p,hz⟩:=I.tuple hq;obtain⟨u,hu,ru⟩:=rv.get hx;obtain⟨f0,f1,f2,f3,f4,f5⟩:=hf it ⋯;refine wpAny_pyNext_tuple_item st (show s.heap.IsTuple a its.toArray from p) (x:=u) (by simpa using hu) λh' st' sb=>?_;have I1:Inv X pins σ H {s with heap:=h'}:=I.turned (t':=s.toks) (λb o hb e=>(sb.2 b hb).trans e) f0 f1 f3 f4 f5;obtain⟨o,e,c,d⟩:=id st';exact⟨u,rfl,Qse (s:={s with heap:=h'}) e c d ∅ ⟨x,H,I1,ru,⟨rfl,λys hy=>by rw[I.Qt2 hy hq];exact hx⟩,st',λb hb=>(hf b hb).1⟩⟩
 done:=by
  intro X hP hw hK hc i pins s σ H E I hf st hg;subst hP hw hK;obtain⟨xs,hq,hx⟩:=hg;obtain⟨its,rv,p,hz⟩:=I.tuple hq;obtain⟨f0,f1,f2,f3,f4,f5⟩:=hf it ⋯;have hl:=rv.length;exact wpAny_pyNext_tuple_end (I.ok.hd hc) st (show s.heap.IsTuple a its.toArray from p) (by simp;omega) λh' eb=>⟨rfl,I.turned (t':=s.toks) (λb o hb e=>eb b o hb e) f0 f1 f3 f4 f5⟩
 self:=λ_ _ _ _ _ st h=>wpAny_pyIter_tupleiter st h
def QrP{P:Program}{w:World}{K:Fgg}{tg:Expr}(it:Addr)(lo:Int)(n:Nat):Turn P w K tg (Itr lo n) [it] it (λi h=>IsRangeIter h it (lo+(i:Nat)*1) ((n:Int)-(i:Nat)) 1) where
 mem:= ⋯
 obj:=λi h st b hb=>by
  have e:b=it:=by simpa using hb
  subst e;exact⟨_,st,λv z=>by
   have z':Data.fields _=Data.cell v:=z;cases z'⟩
 keep:=λi h h' st k=>k it ⋯ _ st
 item:=by
  intro X hP hw hK hc i pins s σ H E I hf st hg;subst hP hw hK;obtain⟨f0,f1,f2,f3,f4,f5⟩:=hf it ⋯;have W:=Walks.range (prog:=X.prog) (w:=X.w) (I.ok.hd hc) it lo 1 n;refine W.item i s _ _ hg st λv h' tk hv st' kk=>?_;obtain⟨t,rfl⟩:=hv;have I1:Inv X pins σ H {s with heap:=h',toks:=tk}:=I.turned (λb o hb e=>kk b o (by simpa using hb) e) f0 f1 f3 f4 f5;refine⟨_,rfl,Qse (s:={s with heap:=h',toks:=tk}) (n:= "range_iterator") st' rfl rfl ∅ ⟨.int (lo+i),H,I1,⟨t,?_⟩,⟨rfl,rfl⟩,st',λb hb=>(hf b hb).1⟩⟩;rw[ZbQ]
 done:=by
  intro X hP hw hK hc i pins s σ H E I hf st hg;subst hP hw hK;obtain⟨f0,f1,f2,f3,f4,f5⟩:=hf it ⋯;exact wpAny_pyNext_range_end (I.ok.hd hc) st (by have:n<=i:=hg;omega) λh' eb=>⟨rfl,I.turned (t':=s.toks) (λb o hb e=>eb b o hb e) f0 f1 f3 f4 f5⟩
 self:=λ_ _ _ _ _ st h=>wpAny_pyIter_rangeiter st h
section
variable {X:Cx}{tg:Expr}
def QoU{pins:List (Addr×Obj)}{σ:St}{H:Hp}{s:Shared}{R:It->Hp->Prop}{E:Value->Shared->Prop}{lo hi:Int}{t u v:Tok}{tk:Nat}(I:Inv X pins σ H s)(h1: -(2^62)<=lo)(h2:lo<2^62)(h3: -(2^62)<=hi)(h4:hi<2^62)
  (q:R (Itr lo (hi-lo).toNat) H):wpAny (model X.prog X.w) X.A (pyIter (.ref s.heap.objs.size)) (PIE X pins σ tg R) E {s with heap:=s.heap.push {cls:= .type "range",data:= .fields #[.int lo t,.int hi u,.int 1 v]},toks:=tk}:=by
 refine wpAny_pyIter_range (IsRange.new ..) (small_one h1 h2 h3 h4) ?_;have I1:Inv X pins σ H {s with heap:=s.heap.push {cls:= .type "range",data:= .fields #[.int lo t,.int hi u,.int 1 v]},toks:=tk}:=I.kept λb o e=>Zn _ e
 refine⟨(s.heap.push {cls:= .type "range",data:= .fields #[.int lo t,.int hi u,.int 1 v]}).objs.size,[(s.heap.push {cls:= .type "range",data:= .fields #[.int lo t,.int hi u,.int 1 v]}).objs.size],_,_,H,rfl,
  I1.kept (t':=tk) λb o e=>Zn _ e,QrP _ lo (hi-lo).toNat,?_,λb hb=>?_,q⟩
 .have e1:lo+((0:Nat):Int)*1=lo:= ⋯
  have e2:(((hi-lo).toNat:Nat):Int)-((0:Nat):Int)=Builtin.Range.rangeSize lo hi 1:=by rw[rangeSize_one];split<;>omega
  show IsRangeIter _ _ (lo+((0:Nat):Int)*1) ((((hi-lo).toNat:Nat):Int)-((0:Nat):Int)) 1;rw[e1,e2];exact ZG _ rfl
 .have e:b=(s.heap.push {cls:= .type "range",data:= .fields #[.int lo t,.int hi u,.int 1 v]}).objs.size:=by simpa using hb
  subst e;exact I1.Qon (Zs _) (I1.hok.fresh (Zs _))
noncomputable def QBN(ta:TA):TI:=λσ H R=>ta σ H λvs H1=>∃j:Int,vs=[.int j]/\ -(2^62)<=j/\j<2^62/\R (Itr 0 j.toNat) H1
noncomputable def QBO(ta:TA):TI:=λσ H R=>ta σ H λvs H1=>∃i j:Int,vs=[.int i,.int j]/\(-(2^62)<=i/\i<2^62/\ -(2^62)<=j/\j<2^62)/\R (Itr i (j-i).toNat) H1
def QtK{a:Expr}{ta:TA}{p pos:Pos}(hg:Gl X "range")(hm:X.mg "range" =none)(ha:PA X [a] ta)(hs:starEach [a] X.env=[(false,eval a X.env)]:=by rfl):PI X tg (.Call (.Name "range" p) [a] [] pos) (QBN ta):=by
 intro pins s σ H R I h;refine Call_ (QcS I hg hm boot_range (Zac (thn (ha pos pins s σ H _ I h) λus s1 ⟨vs,H1,I1,r1,q1⟩=>?_) hs rfl));obtain⟨j,e,q1,q2,q⟩:=q1;subst e;cases r1 with
 | cons r rr=>
  cases rr;obtain⟨t,rfl⟩:=r;exact call_range_1 (QoU I1 ⋯ ⋯ q1 q2 (by simpa using q))
def QsW{a b:Expr}{ta:TA}{p pos:Pos}(hg:Gl X "range")(hm:X.mg "range" =none)(ha:PA X [a,b] ta)(hs:starEach [a,b] X.env=[(false,eval a X.env),(false,eval b X.env)]:=by rfl)(hs2:starEach [b] X.env=[(false,eval b X.env)]:=by rfl):
  PI X tg (.Call (.Name "range" p) [a,b] [] pos) (QBO ta):=by
 intro pins s σ H R I h;refine Call_ (QcS I hg hm boot_range (Zac (thn (ha pos pins s σ H _ I h) λus s1 ⟨vs,H1,I1,r1,q1⟩=>?_) (by rw[hs,hs2]) (by rw[hs2];rfl)));obtain⟨i,j,e,⟨q1,q2,q3,q4⟩,q⟩:=q1;subst e;cases r1 with
 | cons r rr=>
  cases rr with
  | cons r' rr=>
   cases rr;obtain⟨t,rfl⟩:=r;obtain⟨t',rfl⟩:=r';exact call_range_2 (QoU I1 q1 q2 q3 q4 q)
noncomputable def QCQ(wi:TI)(g:TG)(tb:TS):TS:=λD σ H=>wi σ H λJ H1=>∃W:Nat->Nat->St->Hp->Prop,(∃m,W 0 m σ H1)/\∀i m σ H,W i m σ H→
 (J.stop i H/\D.nx σ H)∨(J.go i H/\∃N:St->Hp->Prop,(∀σ' H',N σ' H'->∃m',m'<m/\W (i+1) m' σ' H')/\∀x H',J.yld i H x H'->g x σ H' λσ2 H2=>tb {D with nx:=N,ct:=N,bk:=D.nx} σ2 H2)
noncomputable def Qif(fp:LAd)(h:Heap):List (Addr×Obj):=fp.filterMap λb=>(h.get? b).map λo=>(b,o)
def QhT{fp:LAd}{h:Heap}{b:Addr}{o:Obj}(hb:b∈fp)(e:h.get? b=some o):(b,o)∈Qif fp h:=Zba.mpr ⟨b,hb,by rw[e];rfl⟩
def QtV{fp:LAd}{h:Heap}{p:Addr×Obj}(hp:p∈Qif fp h):p.1∈fp/\h.get? p.1=some p.2:=by
 obtain⟨b,hb,e⟩:=Zba.mp hp;cases q:h.get? b with
 | none=>rw[q]at e;cases e
 | some o=>
  rw[q]at e;have e':(b,o)=p:=Option.some.inj e;subst e';exact⟨hb,q⟩
def Inv.pinned{pins:List (Addr×Obj)}{σ:St}{H:Hp}{s:Shared}{fp:LAd}(I:Inv X pins σ H s)(hf:∀b∈fp,Qd1 X pins H b)(ho:∀b∈fp,∃o,s.heap.get? b=some o/\∀v,o.data≠ .cell v):Inv X (pins++Qif fp s.heap) σ H s:=
 I.Qqq λp hp=>(ZJ.mp hp).elim (λz=>I.pin p (Zg _ z)) λz=>by
  obtain⟨hb,e⟩:=QtV z;obtain⟨f0,f1,f2,_⟩:=hf p.1 hb;obtain⟨o,e',d⟩:=ho p.1 hb;rw[e]at e';cases e';exact⟨e,f0,f1,f2,d⟩
def Inv.QhL{pins pl:List (Addr×Obj)}{σ:St}{H:Hp}{s:Shared}(I:Inv X (pins++pl) σ H s):Inv X pins σ H s:=I.Qqq λp hp=>I.pin p (Zg _ (Zd _ hp))
def Qul{iter:Expr}{body:List Stmt}{wi:TI}{g:TG}{tb:TS}{pos:Pos}(hp:PassesOwn (model X.prog X.w) X.A X.env X.xe)(hc:X.calm=true)(hi:PI X tg iter wi)(hg:PG X tg g)(hb:PSs X body tb)
  (hs:∀x,foldedSetIterable iter X.env x=pure x:=by intro _;rfl):PS X (.For tg iter body [] pos) (QCQ wi g tb):=by
 intro pins s σ H D I h;refine wpAny_For (thn (hi pins s σ H _ I h) λv s1 h1=>thn h1 λitv s2 h2=>?_) hs;obtain⟨it,fp,tn,J,H2,e,I2,T,st2,f2,W,⟨m0,w0⟩,turn⟩:=h2;subst e;have stat:∀{H':Hp},(∀b∈fp,H' b=none)->∀b∈fp,Qd1 X pins H' b:=λhn b hb=>⟨hn b hb,(f2 b hb).2⟩;refine codeAny_forLoop_any (λn s'=>∃i σ' H',Inv X pins σ' H' s'/\tn i s'.heap/\(∀b∈fp,H' b=none)/\W i n σ' H') ?_ m0 ⟨0,σ,H2,I2,st2,λb hb=>(f2 b hb).1,w0⟩;rintro n s3 ⟨i,σ3,H3,I3,st3,fr3,w3⟩;rcases turn i n σ3 H3 w3 with⟨stop,qn⟩ | ⟨go,N,hN,step⟩
 .refine wpAny_passesOwn hp (thn (T.done X rfl rfl rfl hc i pins s3 σ3 H3 X.xe I3 (stat fr3) st3 stop) λr s4 Z=>?_);obtain⟨hr,I4⟩:=Z;subst hr;exact wpAny_execs_nil ⟨σ3,H3,I4,qn⟩
 .refine wpAny_passesOwn hp (thn (T.item X rfl rfl rfl hc i pins s3 σ3 H3 X.xe I3 (stat fr3) st3 go) λr s4 Z=>?_);obtain⟨u,hr,h4⟩:=Z;subst hr;refine wpAny_passesOwn hp (thn h4 λ_ s5 Z=>?_);obtain⟨x,H5,I5,r5,y5,st5,fr5⟩:=Z;have I5':=I5.pinned (stat fr5) (T.obj _ _ st5);refine wpAny_passesOwn hp (thn (hg _ s5 σ3 H5 x u _ I5' r5 (step x H5 y5)) λ_ s6 Z=>?_);obtain⟨σ6,H6,I6,q6⟩:=Z;refine wpAny_passesOwn hp (thn (hb _ s6 σ6 H6 _ I6 q6) λf s7 q7=>?_);have again:∀{σ7:St}{H7:Hp},Inv X (pins++Qif fp s5.heap) σ7 H7 s7->N σ7 H7->∃m,m<n/\∃i σ' H',Inv X pins σ' H' s7/\tn i s7.heap/\(∀b∈fp,H' b=none)/\W i m σ' H':=λ{σ7 H7} I7 n7=>by
   obtain⟨m',hm,w7⟩:=hN σ7 H7 n7;refine⟨m',hm,i+1,σ7,H7,I7.QhL,T.keep _ _ _ st5 λb hb o e=>(I7.pin (b,o) (Zg _ (Zg _ (QhT hb e)))).1,λb hb=>?_,w7⟩;obtain⟨o,e,d⟩:=T.obj _ _ st5 b hb;exact(I7.pin (b,o) (Zg _ (Zg _ (QhT hb e)))).2.1
  cases f with
  | next=>obtain⟨σ7,H7,I7,n7⟩:=q7;exact again I7 n7
  | cont=>obtain⟨σ7,H7,I7,n7⟩:=q7;exact again I7 n7
  | brk=>obtain⟨σ7,H7,I7,q7⟩:=q7;exact⟨σ7,H7,I7.QhL,q7⟩
  | ret v=>obtain⟨x7,σ7,H7,I7,r7,q7⟩:=q7;exact⟨x7,σ7,H7,I7.QhL,r7,q7⟩
end
abbrev R2:=V->V->Hp->VK->Prop
def OpR(X:Cx)(f:Value->Value->Sem Value)(r:R2):Prop:=
 ∀(pins:List (Addr×Obj)) (s:Shared) (σ:St) (H:Hp) (x y:V) (v u:Value) (Q:VK),Inv X pins σ H s->RelV x v->RelV y u->r x y H Q→
  wpAny (model X.prog X.w) X.A (f v u) (EP X pins σ Q) X.xe s
def UnR(X:Cx)(f:Value->Sem Value)(r:V->Hp->VK->Prop):Prop:=
 ∀(pins:List (Addr×Obj)) (s:Shared) (σ:St) (H:Hp) (x:V) (v:Value) (Q:VK),Inv X pins σ H s->RelV x v->r x H Q→
  wpAny (model X.prog X.w) X.A (f v) (EP X pins σ Q) X.xe s
def Qb7(X:Cx)(f:Value)(r:List V->Hp->VK->Prop):Prop:=
 ∀(pins:List (Addr×Obj)) (s:Shared) (σ:St) (H:Hp) (xs:List V) (us:List Value) (Q:VK),Inv X pins σ H s->QB xs us->r xs H Q→
  wpAny (model X.prog X.w) X.A (call f us) (EP X pins σ Q) X.xe s
def QCT(X:Cx)(r:V->Hp->(Bool->Hp->Prop)->Prop):Prop:=
 ∀(pins:List (Addr×Obj)) (s:Shared) (σ:St) (H:Hp) (x:V) (v:Value) (Q:Bool->Hp->Prop),Inv X pins σ H s->RelV x v->r x H Q→
  wpAny (model X.prog X.w) X.A (truthy v) (TP X pins σ Q) X.xe s
noncomputable def tOp(r:R2)(ta tb:TE):TE:=λσ H Q=>ta σ H λx H1=>tb σ H1 λy H2=>r x y H2 Q
noncomputable def tUn(r:V->Hp->VK->Prop)(ta:TE):TE:=λσ H Q=>ta σ H λx H1=>r x H1 Q
noncomputable def rI(C:Int->Int->Prop)(g:Int->Int->V):R2:=λx y H Q=>∃i j,x= .int i/\y= .int j/\C i j/\Q (g i j) H
noncomputable def rI0(g:Int->Int->V):R2:=λx y H Q=>∃i j,x= .int i/\y= .int j/\Q (g i j) H
def rU(g:Int->V):V->Hp->VK->Prop:=λx H Q=>∃i,x= .int i/\Q (g i) H
section
variable {X:Cx}{a b c:Expr}{ta tb tc:TE}{pos:Pos}
def Qwq(ha:PE X a ta)(hb:PE X b tb){pins:List (Addr×Obj)}{s:Shared}{σ:St}{H:Hp}{R:V->V->Hp->Prop}(I:Inv X pins σ H s)
  (h:ta σ H λx H1=>tb σ H1 λy H2=>R x y H2) {Q:Value->Shared->Prop}{f:Value->Value->Sem Value}
  (hf:∀v u s2 x y H2,Inv X pins σ H2 s2->RelV x v->RelV y u->R x y H2->wpAny (model X.prog X.w) X.A (f v u) Q X.xe s2):
  wpAny (model X.prog X.w) X.A (eval a X.env) (λv s₁=>wpAny (model X.prog X.w) X.A (eval b X.env) (λu s₂=>wpAny (model X.prog X.w) X.A (f v u) Q X.xe s₂) X.xe s₁) X.xe s:=by
 refine thn (ha pins s σ H _ I h) λv s1=>exJ λx H1 I1 r1 q1=>?_;refine thn (hb pins s1 σ H1 _ I1 q1) λu s2=>exJ λy H2 I2 r2 q2=>?_;exact hf v u s2 x y H2 I2 r1 r2 q2
def Qrv{op:Operator}{r:R2}(ho:OpR X (binaryOp op) r)(ha:PE X a ta)(hb:PE X b tb):PE X (.BinOp a op b pos) (tOp r ta tb):=by
 intro pins s σ H Q I h;exact wpAny_BinOp (Qwq ha hb I h λv u s2 x y H2 I2 rx ry q=>ho pins s2 σ H2 x y v u Q I2 rx ry q)
def QCh{op:UnaryOp}{r:V->Hp->VK->Prop}(ho:UnR X (unaryOp op) r)(ha:PE X a ta):PE X (.UnaryOp op a pos) (tUn r ta):=by
 intro pins s σ H Q I h;exact UnaryOp_ (thn (ha pins s σ H _ I h) λv s1 ⟨x,H1,I1,r1,q1⟩=>ho pins s1 σ H1 x v Q I1 r1 q1)
def QDk{op:Operator}{r:R2}(ho:OpR X (inplaceOp op) r){pins:List (Addr×Obj)}{s:Shared}{σ:St}{H:Hp}{x y:V}{v u:Value}{Q:VK}(I:Inv X pins σ H s)
  (rx:RelV x v) (ry:RelV y u) (q:r x y H Q):wpAny (model X.prog X.w) X.A (inplaceOp op v u) (EP X pins σ Q) X.xe s:=ho pins s σ H x y v u Q I rx ry q
def opI{f:Value->Value->Sem Value}{C:Int->Int->Prop}{g:Int->Int->Int}
  (rule:∀(i j:Int) (t u:Tok) (s:Shared) (Q:Value->Shared->Prop) (E:Value->Shared->Prop),C i j->Q (.int (g i j) s.toks) {s with toks:=s.toks+1}->wpAny (model X.prog X.w) X.A (f (.int i t) (.int j u)) Q E s):
  OpR X f (rI C λi j=> .int (g i j)):=by
 intro pins s σ H x y v u Q I rx ry h;obtain⟨i,j,rfl,rfl,hc,q⟩:=h;obtain⟨t,rfl⟩:=rx;obtain⟨t',rfl⟩:=ry;exact rule i j t t' s _ _ hc ⟨.int (g i j),H,I.tok _,⟨_,rfl⟩,q⟩
def Qrq{f:Value->Value->Sem Value}{g:Int->Int->Int}
  (rule:∀(i j:Int) (t u:Tok) (s:Shared) (Q:Value->Shared->Prop) (E:Value->Shared->Prop),Q (.int (g i j) s.toks) {s with toks:=s.toks+1}->wpAny (model X.prog X.w) X.A (f (.int i t) (.int j u)) Q E s):
  OpR X f (rI0 λi j=> .int (g i j)):=by
 intro pins s σ H x y v u Q I rx ry h;obtain⟨i,j,rfl,rfl,q⟩:=h;obtain⟨t,rfl⟩:=rx;obtain⟨t',rfl⟩:=ry;exact rule i j t t' s _ _ ⟨.int (g i j),H,I.tok _,⟨_,rfl⟩,q⟩
def Qru{f:Value->Value->Sem Value}{g:Int->Int->Bool}
  (rule:∀(i j:Int) (t u:Tok) (s:Shared) (Q:Value->Shared->Prop) (E:Value->Shared->Prop),Q (.bool (g i j)) s->wpAny (model X.prog X.w) X.A (f (.int i t) (.int j u)) Q E s):
  OpR X f (rI0 λi j=> .bl (g i j)):=by
 intro pins s σ H x y v u Q I rx ry h;obtain⟨i,j,rfl,rfl,q⟩:=h;obtain⟨t,rfl⟩:=rx;obtain⟨t',rfl⟩:=ry;exact rule i j t t' s _ _ ⟨.bl (g i j),H,I,rfl,q⟩
def QAE:OpR X (binaryOp .Add) (rI0 λi j=> .int (i+j)):=Qrq λ_ _ _ _ _ _ _ q=>add_int q
def QBn:OpR X (binaryOp .Sub) (rI0 λi j=> .int (i-j)):=Qrq λ_ _ _ _ _ _ _ q=>sub_int q
def Qx6:OpR X (inplaceOp .Add) (rI0 λi j=> .int (i+j)):=Qrq λ_ _ _ _ _ _ _ q=>iadd_int q
def QxF:OpR X (inplaceOp .Sub) (rI0 λi j=> .int (i-j)):=Qrq λ_ _ _ _ _ _ _ q=>isub_int q
def unI{f:Value->Sem Value}{g:Int->Int}
  (rule:∀(i:Int) (t:Tok) (s:Shared) (Q:Value->Shared->Prop) (E:Value->Shared->Prop),Q (.int (g i) s.toks) {s with toks:=s.toks+1}->wpAny (model X.prog X.w) X.A (f (.int i t)) Q E s):
  UnR X f (rU λi=> .int (g i)):=by
 intro pins s σ H x v Q I rx h;obtain⟨i,rfl,q⟩:=h;obtain⟨t,rfl⟩:=rx;exact rule i t s _ _ ⟨.int (g i),H,I.tok _,⟨_,rfl⟩,q⟩
def QA1:UnR X (unaryOp .USub) (rU λi=> .int (-i)):=unI λ_ _ _ _ _ q=>neg_int q
end
section
variable {X:Cx}{a b c:Expr}{ta tb tc:TE}{pos:Pos}
def QlK{pins:List (Addr×Obj)}{σ:St}{H:Hp}{s:Shared}{Q:VK}{k k':Bool}(I:Inv X pins σ H s)(q:Q (.bl k) H)(e:k=k'):EP X pins σ Q (.bool k') s:=by
 subst e;exact⟨.bl k,H,I,rfl,q⟩
def QCu:OpR X (compareOp .Lt) (rI0 λi j=> .bl (decide (i<j))):=Qru λ_ _ _ _ _ _ _ q=>lt_int q
def QBR:OpR X (compareOp .LtE) (rI0 λi j=> .bl (decide (i<=j))):=Qru λ_ _ _ _ _ _ _ q=>le_int q
def QCi:OpR X (compareOp .Gt) (rI0 λi j=> .bl (decide (j<i))):=Qru λ_ _ _ _ _ _ _ q=>gt_int q
def QCp:OpR X (compareOp .GtE) (rI0 λi j=> .bl (decide (j<=i))):=Qru λ_ _ _ _ _ _ _ q=>ge_int q
def QAP:OpR X (compareOp .Is) (λx y H Q=>y= .non/\Q (.bl (decide (x= .non))) H):=by
 intro pins s σ H x y v u Q I rx ry h;obtain⟨rfl,q⟩:=h;cases ry;refine is_none_gen (QlK I q ?_)
 cases x<;>first
  | (cases rx;rfl)
  | (obtain⟨t,rfl⟩:=rx;rfl)
def QyA:OpR X (compareOp .IsNot) (λx y H Q=>y= .non/\Q (.bl (!decide (x= .non))) H):=by
 intro pins s σ H x y v u Q I rx ry h;obtain⟨rfl,q⟩:=h;cases ry;refine isnot_none_gen (QlK I q ?_)
 cases x<;>first
  | (cases rx;rfl)
  | (obtain⟨t,rfl⟩:=rx;rfl)
def OpR.or{f:Value->Value->Sem Value}{r r':R2}(h:OpR X f r)(h':OpR X f r'):OpR X f (λx y H Q=>r x y H Q∨r' x y H Q):=by
 intro pins s σ H x y v u Q I rx ry q;rcases q with q | q
 .exact h pins s σ H x y v u Q I rx ry q
 .exact h' pins s σ H x y v u Q I rx ry q
def Qw8{op:CmpOp}{r:R2}(ho:OpR X (compareOp op) r)(ha:PE X a ta)(hb:PE X b tb)(hm:behindInMarks op b=false):PE X (.Compare a [op] [b] pos) (tOp r ta tb):=by
 intro pins s σ H Q I h;exact wpAny_Compare1 (Qwq ha hb I h λv u s2 x y H2 I2 rx ry q=>ho pins s2 σ H2 x y v u Q I2 rx ry q) hm
noncomputable def QBx(t:TE):TT:=λσ H Q=>t σ H λx H'=>∃k,x= .bl k/\Q k H'
def Qx9{op:CmpOp}{r:R2}(ho:OpR X (compareOp op) r)(ha:PE X a ta)(hb:PE X b tb)(hm:behindInMarks op b=false):PT X (.Compare a [op] [b] pos) (QBx (tOp r ta tb)):=by
 intro pins s σ H Q I h;refine wpAny_isTrue_Compare1 (thn (ha pins s σ H _ I h) λv s1 ⟨x,H1,I1,r1,q1⟩=>thn (hb pins s1 σ H1 _ I1 q1) λu s2 ⟨y,H2,I2,r2,q2⟩=>
  thn (ho pins s2 σ H2 x y v u _ I2 r1 r2 q2) λc s3 ⟨z,H3,I3,r3,k,e,q3⟩=>?_) hm
 subst e;cases r3;exact wpAny_truthy_bool ⟨H3,I3,q3⟩
def Qv7(K:Fgg)(x:V)(H:Hp)(k:Bool):Prop:=
 match x with
 | .non=>k=false
 | .bl b=>k=b
 | .int i=>k=(i != 0)
 | .str y=>y.length<=sizeLine/\k=((y.length:Int) != 0)
 | .byt y=>y.size<=sizeLine/\k=((y.size:Int) != 0)
 | .ref p=>(∃xs,SqL K H p xs/\k= !xs.isEmpty)∨(∃xs,SqT K H p xs/\k= !xs.isEmpty)∨∃kvs,H p=some (.dK kvs)/\k= !kvs.isEmpty
 | _=>False
def QrR{κ:Type}{kvs:List (κ×V)}{vs:List (κ×Value)}(r:KV kvs vs):(!vs.isEmpty)= !kvs.isEmpty:=by
 cases r<;>rfl
def QlE{xs:List V}{its:List Value}(r:QB xs its):(!its.toArray.isEmpty)= !xs.isEmpty:=by
 cases r<;>simp
def Qho:(sizeLine:Nat)<2^63:=by rw[sizeLine_eq];decide
def Qld:QCT X (λx H Q=>∃k,Qv7 X.K x H k/\Q k H):=by
 intro pins s σ H x v Q I rx h;obtain⟨k,e,q⟩:=h;have hl:=Qho;have hs:sizeLine=16777216:=sizeLine_eq;cases x with
 | non=>
  cases rx;have e':k=false:=e;subst e';exact truthy_none ⟨H,I,q⟩
 | bl b=>
  cases rx;have e':k=b:=e;subst e';exact wpAny_truthy_bool ⟨H,I,q⟩
 | int i=>
  obtain⟨t,rfl⟩:=rx;have e':k=(i != 0):=e;subst e';exact PySem.P.truthy_int ⟨H,I,q⟩
 | str y=>
  obtain⟨t,rfl⟩:=rx;obtain⟨hy,e'⟩:y.length<=sizeLine/\k=((y.length:Int) != 0):=e;subst e';exact PySem.P.truthy_str ⋯ ⟨H,I.tok _,q⟩
 | byt y=>
  obtain⟨t,rfl⟩:=rx;obtain⟨hy,e'⟩:y.size<=sizeLine/\k=((y.size:Int) != 0):=e;subst e';exact PySem.W.truthy_bytes ⋯ ⟨H,I.tok _,q⟩
 | ref p=>
  cases rx;have e':(∃xs,SqL X.K H p xs/\k= !xs.isEmpty)∨(∃xs,SqT X.K H p xs/\k= !xs.isEmpty)∨∃kvs,H p=some (.dK kvs)/\k= !kvs.isEmpty:=e;rcases e' with⟨xs,hx,e'⟩ | ⟨xs,hx,e'⟩ | ⟨kvs,hx,e'⟩
  .subst e';obtain⟨its,r,pl,hz⟩:=I.list hx;have hlen:=r.length;exact wpAny_truthy_list pl.isList (by simp only[Zx];omega) ⟨H,I.tok _,by rw[QlE r];exact q⟩
  .subst e';obtain⟨its,r,pl,hz⟩:=I.tuple hx;have hlen:=r.length;exact truthy_tuple pl (by simp only[Zx];omega) ⟨H,I.tok _,by rw[QlE r];exact q⟩
  .subst e';obtain⟨hz,hS,vs,r,m⟩:kvs.length<=sizeLine/\(p == sysModules)=false/\∃vs,KV kvs vs/\s.heap.DictOf (Qmy X.prog X.w) p vs:=I.hok p _ hx;have hlen:kvs.length=vs.length:=Paired.length r;exact wpAny_truthy_dict hS m ⋯ ⟨H,I.tok _,by rw[QrR r];exact q⟩
 | _=>exact(show False from e).elim
def Qwm(ha:PE X a ta)(he:∀whole,isTrue a X.env whole=(do let v ← whole;standAt a.pos;holding [v] (truthy v))):
  PT X a (λσ H Q=>ta σ H λx H'=>∃k,Qv7 X.K x H' k/\Q k H'):=by
 intro pins s σ H Q I h;exact isTrue_plain (thn (ha pins s σ H _ I h) λv s1 ⟨x,H1,I1,r1,q1⟩=>Qld pins s1 σ H1 x v Q I1 r1 q1) (he _)
def vals1{x:V}{us:List Value}(r:QB [x] us):∃u,us=[u]/\RelV x u:=by
 cases r with
 | cons r1 r2=>cases r2;exact⟨_,rfl,r1⟩
def vals2{x y:V}{us:List Value}(r:QB [x,y] us):∃u w',us=[u,w']/\RelV x u/\RelV y w':=by
 cases r with
 | cons r1 r2=>
  cases r2 with
  | cons r3 r4=>cases r4;exact⟨_,_,rfl,r1,r3⟩
def Qto(hc:X.calm=true):Qb7 X (.builtin "max") (λxs H Q=>∃i j,xs=[.int i,.int j]/\Q (.int (if j>i then j else i)) H):=by
 intro pins s σ H xs us Q I r h;obtain⟨i,j,rfl,q⟩:=h;obtain⟨u,w',rfl,⟨t,rfl⟩,⟨t',rfl⟩⟩:=vals2 r;refine max_two_ints (I.ok.hd hc) λh' tk k=>⟨_,H,I.kept k,?_,q⟩;by_cases hj:j>i
 .rw[if_pos hj,if_pos hj];exact⟨_,rfl⟩
 .rw[if_neg hj,if_neg hj];exact⟨_,rfl⟩
def Quj(hc:X.calm=true):Qb7 X (.builtin "min") (λxs H Q=>∃i j,xs=[.int i,.int j]/\Q (.int (if j<i then j else i)) H):=by
 intro pins s σ H xs us Q I r h;obtain⟨i,j,rfl,q⟩:=h;obtain⟨u,w',rfl,⟨t,rfl⟩,⟨t',rfl⟩⟩:=vals2 r;refine min_two_ints (I.ok.hd hc) λh' tk k=>⟨_,H,I.kept k,?_,q⟩;by_cases hj:j<i
 .rw[if_pos hj,if_pos hj];exact⟨_,rfl⟩
 .rw[if_neg hj,if_neg hj];exact⟨_,rfl⟩
def Qs2:Qb7 X (.type "int") (λxs H Q=>(∃i,xs=[.int i]/\Q (.int i) H)∨∃k,xs=[.bl k]/\Q (.int (if k then 1 else 0)) H):=by
 intro pins s σ H xs us Q I r h;rcases h with⟨i,rfl,q⟩ | ⟨k,rfl,q⟩
 .obtain⟨u,rfl,t,rfl⟩:=vals1 r;exact call_int_int ⟨.int i,H,I,⟨_,rfl⟩,q⟩
 .obtain⟨u,rfl,r1⟩:=vals1 r;cases r1;exact call_int_bool ⟨.int (if k then 1 else 0),H,I.tok _,⟨_,rfl⟩,q⟩
end
structure QDy (h:Heap) (x dx C:Addr) (mA:Str->Option Value):Prop where
 obj:h.get? x=some (PySem.W.instObj C dx)
 ns:h.Ns1 dx mA
 ne:dx≠x
section
variable {prog:Program}{w:World}{A:Around}{E:Value->Shared->Prop}{s:Shared}{K:Fgg}{x dx C f:Addr}{mA:Str->Option Value}{name:Str}{v:Value}
end
section
variable {P:Program}{w:World}{H H':Hp}{h h':Heap}{a C dx:Addr}{fs fs':List (Str×V)}
end
structure Cls (K:Fgg) (C:Addr):Prop where
 pg:PySem.W.plainGet K C Str.empty=true
 hd:PySem.W.hasDictIn K C=true
 po:PySem.W.plainOver K C=true
 sa:PySem.W.findIn K (.ref C) "__setattr__" =some (some (.builtin "object.__setattr__"))
structure Con (K:Fgg) (C:Addr) (f:Str) (v:V) (u:Value):Prop where
 at_:PySem.W.findIn K (.ref C) f=some (some u)
 rel:RelV v u
 get:PySem.W.specialIn K u "__get__" =some none
 cp:PySem.W.copiedNames.contains f=false
structure QDw (K:Fgg) (C:Addr) (m:Str) (f:Addr):Prop where
 at_:PySem.W.findIn K (.ref C) m=some (some (.ref f))
 fn:PySem.W.isFn K (.ref f)=true
 kp:PySem.W.keepIn K (.ref f)=true
section
variable {X:Cx}{pins:List (Addr×Obj)}{σ:St}{H:Hp}{s:Shared}{a C dx:Addr}{fs:List (Str×V)}{f:Str}{v:V}{A:Around}{E:Value->Shared->Prop}
end
section
variable {X:Cx}{o e value:Expr}{f:Str}{pos pos' tpos:Pos}{ta tv:TE}
end
section
variable {X:Cx}{pins:List (Addr×Obj)}{σ:St}{H:Hp}{s:Shared}{A:Around}{E:Value->Shared->Prop}{Q:Value->Shared->Prop}{c:Value}{b:Bool}
end
structure Qbg (k:Nat) (A:Around):Prop where
 hd:A.handled=none
 dp:A.depth+3*k+5<recursionLimit
 un:A.units+16*k+200<cLine
def Qbg.mono{j k:Nat}{A:Around}(r:Qbg k A)(h:j<=k):Qbg j A:=⟨r.hd,by have:=r.dp;omega,by have:=r.un;omega⟩
def Qbg.deeper{k:Nat}{A:Around}(r:Qbg (k+1) A)(env:Env):Qbg k (A.deeper env):=
 ⟨r.hd,by have:=r.dp;show A.depth+1+3*k+5<_;omega,by have:=r.un;show A.units+3+16*k+200<_;omega⟩
def Qbg.depth{k:Nat}{A:Around}(r:Qbg k A):A.depth<recursionLimit:=by have:=r.dp;omega
def Qbg.units{k:Nat}{A:Around}(r:Qbg k A):A.units+64<cLine:=by have:=r.un;omega
noncomputable def QrA:TA:=λ_ H Q=>Q [] H
noncomputable def Qr9(ta:TE)(tr:TA):TA:=λσ H Q=>ta σ H λx H1=>tr σ H1 λxs H2=>Q (x::xs) H2
section
variable {X:Cx}{e:Expr}{es:List Expr}{te:TE}{t:TA}{pos:Pos}
def Qde:PA X [] QrA:=λ_ _ _ _ H Q I h=>Zch ⟨[],H,I,.nil,h⟩
def Qbh(ha:PE X e te)(hr:PA X es t)(hs:starEach (e::es) X.env=(false,eval e X.env)::starEach es X.env:=by rfl):PA X (e::es) (Qr9 te t):=by
 intro pos pins s σ H Q I h;rw[hs];show wpAny _ _ (spliced ((false,eval e X.env)::backTo pos (starEach es X.env))) _ _ s;refine Zcc (thn (ha pins s σ H _ I h) λu s1=>exJ λx H1 I1 r1 q1=>?_);exact thn (hr pos pins s1 σ H1 _ I1 q1) λus s2 ⟨xs,H2,I2,r2,q2⟩=>⟨x::xs,H2,I2,.cons r1 r2,q2⟩
noncomputable def QCS(t:TA):TE:=λσ H Q=>t σ H λxs H1=>xs.length<=sizeLine/\∀p,H1 p=none->Q (.ref p) (upd H1 p (.tup xs))
noncomputable def QDl(t:TA):TE:=λσ H Q=>t σ H λxs H1=>xs.length<=sizeLine/\∀p,H1 p=none->Q (.ref p) (upd H1 p (.lst xs))
def QAg{x1}(h:PA X es t):PE X (.Tuple es x1 pos) (QCS t):=by
 intro pins s σ H Q I hq;refine wpAny_Tuple_spliced (thn (h pos pins s σ H _ I hq) λus s1 ⟨xs,H1,I1,r,z,q⟩=>⟨by rw[← r.length];exact z,?_⟩);have hf:H1 s1.heap.objs.size=none:=I1.hok.fresh (Zs _);refine⟨.ref s1.heap.objs.size,upd H1 s1.heap.objs.size (.tup xs),I1.laid (t':=s1.toks) (λb u e=>Zn _ e) (Zs _) ?_,rfl,q _ hf⟩;exact⟨z,us,r,⟨_,ZG _ rfl,rfl,_,rfl⟩⟩
def QAd(h:PA X es t):PE X (.List es pos) (QDl t):=by
 intro pins s σ H Q I hq;refine wpAny_List_spliced (thn (h pos pins s σ H _ I hq) λus s1 ⟨xs,H1,I1,r,z,q⟩=>⟨by rw[← r.length];exact z,?_⟩);have hf:H1 s1.heap.objs.size=none:=I1.hok.fresh (Zs _);refine⟨.ref s1.heap.objs.size,upd H1 s1.heap.objs.size (.lst xs),I1.laid (t':=s1.toks) (λb u e=>Zn _ e) (Zs _) ?_,rfl,q _ hf⟩;exact⟨z,us,0,r,ZG _ rfl⟩
end
abbrev Sp:=List V->Hp->VK->XK->Prop
abbrev CXT:=List Env->Hp->Shared->XK->Value->Shared->Prop
structure Qot (P:Program) (w:World) (K:Fgg) (mg:Str->Option Value) (base:Heap) (A:Around) (outer:List Env) (s:Shared) (H:Hp):Prop where
 frames:A.frames=some outer
 mod:Mod K mg base
 bs:∀b o,base.get? b=some o->s.heap.get? b=some o/\H b=none
 bsz:base.objs.size<=s.heap.objs.size
 Qd0:s.heap.FunFrames base outer
 frf:∀b∈frs outer,H b=none
 hok:HOk P w H s.heap
 bare:AllBare s.gens
def CE(outer:List Env)(P:Program)(w:World)(H:Hp)(s:Shared)(Q:VK)(u:Value)(s':Shared):Prop:=
 ∃v H',s'.os=s.os/\AllBare s'.gens/\Un (frs outer) [] H H' s.heap s'.heap/\HOk P w H' s'.heap/\RelV v u/\Q v H'
def CR(CX:CXT)(outer:List Env)(P:Program)(w:World)(H:Hp)(s:Shared)(Q:VK)(E:XK)(r:Result)(s':Shared):Prop:=
 match r with
 | .ok (.ret u)=>CE outer P w H s Q u s'
 | .ok _=>False
 | .error e=>CX outer H s E e s'
structure QcJ (P:Program) (w:World) (K:Fgg) (mg:Str->Option Value) (base:Heap) (CX:CXT) (k:Nat) (f:Addr) (fd:FuncData) (ps:List Str) (sp:Sp):Prop where
 len:∀vs H Q E,sp vs H Q E->vs.length=ps.length
 run:∀(A:Around) (outer:List Env) (s:Shared) (H:Hp) (args:Args) (us:List Value) (vs:List V) (Q:VK) (E:XK),Qbg k A->Qot P w K mg base A outer s H->BindsTo s fd args (ps.zip us)->QB vs us->sp vs H Q E→
  codeAny (model P w) A (.call (.ref f) args) (CR CX outer P w H s Q E) s
def QcJ.mono{P:Program}{w:World}{K:Fgg}{mg:Str->Option Value}{base:Heap}{CX:CXT}{j k:Nat}{f:Addr}{fd:FuncData}{ps:List Str}{sp:Sp}(F:QcJ P w K mg base CX j f fd ps sp)(h:j<=k):
  QcJ P w K mg base CX k f fd ps sp:=⟨F.len,λA outer s H args us vs Q E hr=>F.run A outer s H args us vs Q E (hr.mono h)⟩
section
variable {X:Cx}{pins:List (Addr×Obj)}{σ:St}{H:Hp}{s s':Shared}
def Inv.QvR(I:Inv X pins σ H s):Qot X.prog X.w X.K X.mg X.base X.A X.stack s H:=
 ⟨I.ok.frames,I.ok.mod,I.bs,ZN I.ok.bsz I.sz,I.stack,I.Qmd,I.hok,I.bare⟩
def Inv.after{Q:VK}{u:Value}(I:Inv X pins σ H s)(h:CE X.stack X.prog X.w H s Q u s'):EP X pins σ Q u s':=by
 obtain⟨v,H',os,bare,un,hok,r,q⟩:=h;obtain⟨hh,g,d,t,os'⟩:=s';obtain rfl:os'=s.os:=os;exact⟨v,H',I.call (h':=hh) (g':=g) (d':=d) (t':=t) (ch:=[]) un hok bare (λb z=>absurd z ⋯),r,q⟩
end
noncomputable def QrB(sp:Sp)(dvs:List V)(E:XK)(t:TA):TE:=λσ H Q=>t σ H λvs H1=>sp (vs++dvs) H1 Q E
def Binds(K:Fgg)(fd:FuncData)(ps:List Str)(ds:List Value):Prop:=
 ∀(s:Shared) (us:List Value),K.In s.heap->(us++ds).length=ps.length->BindsTo s fd ⟨us,[]⟩ (ps.zip (us++ds))
def Binds.all{K:Fgg}{fd:FuncData}{ps:List Str}(h:∀us:List Value,us.length=ps.length->bindArgs fd ⟨us,[]⟩=pure (ps.zip us)):Binds K fd ps []:=λs us _ hl=>by
 rw[Zad]at hl ⊢;exact .of_eq (h us hl)
def Qls(CX:CXT)(X:Cx)(E:XK):Prop:=∀(pins:List (Addr×Obj)) (σ:St) (H:Hp) (s:Shared) (e:Value) (s':Shared),Inv X pins σ H s->CX X.stack H s E e s'->X.xe e s'
section
variable {X:Cx}{CX:CXT}{k:Nat}{f C:Addr}{fd:FuncData}{ps:List Str}{sp:Sp}{dvs:List V}{ds:List Value}{E:XK}{x m:Str}{p pos apos:Pos}{e o:Expr}{es:List Expr}{ta:TE}{t:TA}
def QsA{pins:List (Addr×Obj)}{σ:St}{H:Hp}{s:Shared}{Q:VK}{us:List Value}{vs:List V}(F:QcJ X.prog X.w X.K X.mg X.base CX k f fd ps sp)(hr:Qbg k X.A)(hb:Binds X.K fd ps ds)(hd:QB dvs ds)(hx:Qls CX X E)
  (I:Inv X pins σ H s) (r:QB vs us) (h:sp (vs++dvs) H Q E):wpAny (model X.prog X.w) X.A (call (.ref f) us) (EP X pins σ Q) X.xe s:=by
 have r2:QB (vs++dvs) (us++ds):=r.append hd;have hl:(us++ds).length=ps.length:=by rw[← r2.length];exact F.len _ _ _ _ h
 refine wpAny_call (codeAny_mono (F.run X.A X.stack s H ⟨us,[]⟩ (us++ds) (vs++dvs) Q E hr I.QvR (hb s us I.kIn hl) r2 h) λr s' hq=>?_);cases r with
 | error e=>exact hx pins σ H s e s' I hq
 | ok fl=>
  cases fl with
  | ret u=>exact I.after hq
  | next=>exact False.elim hq
  | brk=>exact False.elim hq
  | cont=>exact False.elim hq
def Qw2(F:QcJ X.prog X.w X.K X.mg X.base CX k f fd ps sp)(hr:Qbg k X.A)(hg:Gl X x)(hm:X.mg x=some (.ref f))(hk:PySem.W.keepIn X.K (.ref f)=true)(hb:Binds X.K fd ps ds)(hd:QB dvs ds)(hx:Qls CX X E)
  (ha:PA X (e::es) t) (hdb:(x == ("__debug__" :Str))=false:=by decide) (he:starEach (e::es) X.env=(false,eval e X.env)::starEach es X.env:=by rfl) (hpl:(backTo pos (starEach es X.env)).any (·.1)=false:=by rfl):
  PE X (.Call (.Name x p) (e::es) [] pos) (QrB sp dvs E t):=by
 intro pins s σ H Q I h;refine wpAny_Call_Name_kw (QeC I hg hm ?_ hdb);refine Zcd (h₀:=X.base) I.ok.mod.kin hk (thn (ha pos pins s σ H _ I h) λus s1 ⟨vs,H1,I1,r,q⟩=>⟨I1.kIn,?_⟩) he hpl;exact QsA F hr hb hd hx I1 r q
def Qwn(F:QcJ X.prog X.w X.K X.mg X.base CX k f fd ps sp)(hr:Qbg k X.A)(hg:Gl X x)(hm:X.mg x=some (.ref f))(hk:PySem.W.keepIn X.K (.ref f)=true)(hb:Binds X.K fd ps ds)(hd:QB dvs ds)(hx:Qls CX X E)
  (hdb:(x == ("__debug__" :Str))=false:=by decide):PE X (.Call (.Name x p) [] [] pos) (QrB sp dvs E QrA):=by
 intro pins s σ H Q I h;refine wpAny_Call_Name_kw (QeC I hg hm ?_ hdb);exact PySem.W.callWith_K0 I.kIn hk (QsA (us:=[]) F hr hb hd hx I .nil h)
structure Mk (K:Fgg) (C f:Addr):Prop where
 makes:PySem.W.makesIn K C=true
 init:PySem.W.findIn K (.ref C) "__init__" =some (some (.ref f))
 fn:PySem.W.isFn K (.ref f)=true
 kp:PySem.W.keepIn K (.ref C)=true
end
section
variable {X:Cx}{CX:CXT}{k:Nat}{f C:Addr}{fd:FuncData}{ps ks:List Str}{sp:Sp}{E:XK}{x m:Str}{p pos apos kpos:Pos}{e o:Expr}{es:List Expr}{kws:List Keyword}{te ta:TE}{t tk:TA}{nm:Option Str}
structure QDu (K:Fgg) (fd:FuncData) (ps ks:List Str) (g:List Value->List Value->List Value) (gV:List V->List V->List V):Prop where
 to:∀(s:Shared) (us ws:List Value),K.In s.heap->(g us ws).length=ps.length->BindsTo s fd ⟨us,ks.zip ws⟩ (ps.zip (g us ws))
 rel:∀{vs:List V}{us:List Value}{zs:List V}{ws:List Value},QB vs us->QB zs ws->QB (gV vs zs) (g us ws)
variable {g:List Value->List Value->List Value}{gV:List V->List V->List V}
end
structure QbR (N P:List Str) (sc:Scope):Prop where
 kind:sc.kind= .function
 co:sc.isCoroutine=false
 gen:sc.isGenerator=false
 nd:N.Nodup
 pre:N.take P.length=P
 par:∀x∈P,sc.names.lookup x=some .local ∨sc.names.lookup x=some .cell
 nofree:∀y∈sc.names,y.2≠ .free
def QmT{kindOf:Str->Option NameKind}{x:Str}:∀{binds:List (Str×Value)}{m:Str->Option Value},(∀v,(x,v)∉binds)->bindL kindOf binds m x=m x
 | [],_,_=>rfl
 | (n,v)::r,m,h=>by
  unfold bindL;rw[QmT λw hw=>h w (Zb _ hw)];split
  .have:x≠n:=by rintro rfl;exact h v Zi
   simp[this]
  .rfl
def Qnc{kindOf:Str->Option NameKind}{x:Str}:∀{binds:List (Str×Value)}{m:Str->Option Value},(∀v,(x,v)∉binds)->bindC kindOf binds m x=m x
 | [],_,_=>rfl
 | (n,v)::r,m,h=>by
  unfold bindC;rw[Qnc λw hw=>h w (Zb _ hw)];split
  .rfl
  .have:x≠n:=by rintro rfl;exact h v Zi
   simp[this]
def Qnn{kindOf:Str->Option NameKind}{x:Str}{v:Value}:∀{P:List Str}{vs:List Value}{i:Nat}{m:Str->Option Value},P.Nodup->P[i]? =some x->vs[i]? =some v->kindOf x=some .local →
  bindL kindOf (P.zip vs) m x=some v
 | [],_,_,_,_,h,_,_=>by simp at h
 | _::_,[],_,_,_,_,h,_=>by simp at h
 | p::P,w::vs,0,m,nd,h1,h2,hk=>by
  simp at h1 h2;subst h1;subst h2;show bindL kindOf ((p,w)::P.zip vs) m p=_;unfold bindL;rw[QmT λv hv=>(Zan.mp nd).1 (ZbU hv).1,if_pos hk];simp
 | p::P,w::vs,i+1,m,nd,h1,h2,hk=>by
  show bindL kindOf ((p,w)::P.zip vs) m x=_;unfold bindL;exact Qnn (i:=i) (Zan.mp nd).2 (by simpa using h1) (by simpa using h2) hk
def Qnf{kindOf:Str->Option NameKind}{x:Str}{v:Value}:∀{P:List Str}{vs:List Value}{i:Nat}{m:Str->Option Value},P.Nodup->P[i]? =some x->vs[i]? =some v->kindOf x≠some .local →
  bindC kindOf (P.zip vs) m x=some v
 | [],_,_,_,_,h,_,_=>by simp at h
 | _::_,[],_,_,_,_,h,_=>by simp at h
 | p::P,w::vs,0,m,nd,h1,h2,hk=>by
  simp at h1 h2;subst h1;subst h2;show bindC kindOf ((p,w)::P.zip vs) m p=_;unfold bindC;rw[Qnc λv hv=>(Zan.mp nd).1 (ZbU hv).1,if_neg hk];simp
 | p::P,w::vs,i+1,m,nd,h1,h2,hk=>by
  show bindC kindOf ((p,w)::P.zip vs) m x=_;unfold bindC;exact Qnf (i:=i) (Zan.mp nd).2 (by simpa using h1) (by simpa using h2) hk
noncomputable def start(N:List Str)(vs:List V):St:=vs.map some++List.replicate (N.length-vs.length) none
noncomputable def QdC(CX:CXT)(P:Program)(w:World)(K:Fgg)(mg:Str->Option Value)(base:Heap)(N:List Str)(qual:Str)(scope:Scope)(f:Addr)(cd:Value)(A:Around)(outer:List Env)(s:Shared)(H:Hp)(E:XK):Cx where
 prog:=P
 w:=w
 K:=K
 mg:=mg
 base:=base
 A:=A.deeper (envOfC qual scope s.heap.objs.size f cd)
 N:=N
 s₀:=s
 H₀:=H
 env:=envOfC qual scope s.heap.objs.size f cd
 outer:=outer
 stack:=envOfC qual scope s.heap.objs.size f cd::outer
 ex:=[]
 calm:=decide (A.handled=none)
 fn:=λ_=>true
 pn:=[]
 xe:=λe s'=>wpAny (model P w) (A.deeper (envOfC qual scope s.heap.objs.size f cd)) (leaving (envOfC qual scope s.heap.objs.size f cd) e) (λ_ s''=>CX outer H s E e s'') (λe' s''=>CX outer H s E e' s'') s'
def Qok{sc:Scope}{n:Nat}{x:Str}(h:sc.names.lookup x=some .cell):∃c,(cellsFrom n sc.names []).lookup x=some c:=by
 have q:=Zbz sc.names n [] (.inl h);exact Zcl.mp q
def Qm7{CX:CXT}{P:Program}{w:World}{K:Fgg}{mg:Str->Option Value}{base:Heap}{N ps:List Str}{qual:Str}{scope:Scope}{f:Addr}{cd:Value}{A:Around}{outer:List Env}{s s1:Shared}{H:Hp}{E:XK}{us:List Value}{vs:List V}
  (S:QbR N ps scope) (e0:Qot P w K mg base A outer s H) (hl:vs.length=ps.length) (r:QB vs us)
  (x:InCallC s s.heap.objs.size (bindL (envOfC qual scope s.heap.objs.size f cd).kindOf (ps.zip us) λ_=>none) (cellsFrom (s.heap.objs.size+1) scope.names []) (bindC (envOfC qual scope s.heap.objs.size f cd).kindOf (ps.zip us) λ_=>none) s1):
  Inv (QdC CX P w K mg base N qual scope f cd A outer s H E) [] (start N vs) H s1:=by
 have hpl:ps.length<=N.length:=by have:=congrArg List.length S.pre;rw[ZY]at this;omega
 obtain⟨h1,tk,rfl,hk⟩:=x.done;have noA:∀b:Addr,b∉(QdC CX P w K mg base N qual scope f cd A outer s H E).ex:=λb z=>absurd (show b∈([]:LAd)from z) ⋯
 refine⟨⟨e0.mod,S.kind,rfl,rfl,Zs _,λy z c h1 h2=>?_,λy hy=>?_,λy c _ h=>?_,λh=>of_decide_eq_true h,Around.frames_deeper e0.frames,.inr ⟨rfl,rfl⟩,λb z=>absurd z (noA b),e0.bs,e0.bsz,λb _ _=>noA b,λb z=>absurd z (noA b),e0.Qd0,e0.frf⟩,
  rfl,e0.bare,Un.kept hk,⟨_,x.toInCall.ns,λi y v h1 h2 h3=>?_⟩,λy c h=>⟨_,x.cell y c h⟩,e0.hok.fresh (Zs _),λy c h=>?_,λp hp=>absurd (show p∈([]:List (Addr×Obj))from hp) ⋯,e0.hok.kept hk,?_⟩
 .exact name_of_addr x.apart (Zah h1) (Zah h2)
 .have hy:scope.names.lookup y=some .cell∨scope.names.lookup y=some .free:=hy;rcases hy with hy | hy
  .exact Qok hy
  .exact absurd rfl (S.nofree _ (Zah hy))
 .exact Zbx (x.above y c (Zah h))
 .have hi:i<vs.length:=by
   unfold start at h2;by_cases hi:i<vs.length
   .exact hi
   .rw[Zbn (by simpa using hi),Zcq]at h2;split at h2<;>cases h2
  have ha:vs[i]? =some v:=by
   unfold start at h2;rw[Zal (by simpa using hi),Zh]at h2;cases e:vs[i]? with
   | none=>rw[e]at h2;cases h2
   | some a=>rw[e]at h2;cases h2;rfl
  obtain⟨u,hu,rv⟩:=r.get ha;have hp:ps[i]? =some y:=by
   rw[← S.pre,List.getElem?_take_of_lt ⋯];exact h1
  have ndP:ps.Nodup:=by rw[← S.pre];exact S.nd.sublist (List.take_sublist _ _)
  refine⟨u,rv,?_⟩;rcases S.par y (ZC hp)with k | k
  .exact .inl ⟨k,Qnn ndP hp hu k⟩
  .obtain⟨c,e⟩:=Qok (n:=s.heap.objs.size+1) k;refine .inr ⟨.inl k,c,e,?_⟩;have q:=x.cell y c e;rw[Qnf ndP hp hu (by show scope.names.lookup y≠_;rw[k];decide)]at q;exact q
 .exact e0.hok.fresh (Zbx (x.above y c (Zah h)))
 .unfold start;show _=N.length;rw[Zo,Zc,List.length_replicate];omega
def QwS{CX:CXT}{P:Program}{w:World}{K:Fgg}{mg:Str->Option Value}{base:Heap}{k:Nat}{f:Addr}{name qual:Str}{params:Arguments}{body:List Stmt}{scope:Scope}{dV kV doc pm cdv ct oc:Value}{an od:Option Addr}
  {osl:Array (Option Value)}{N ps:List Str}{sp:Sp}(lk:K.lookup f=some ⟨oc,od,.func (PySem.W.fnOf name qual params body scope dV kV doc pm an cdv ct),osl⟩) (hcd:PySem.W.codeIn K cdv qual=true) (S:QbR N ps scope)
  (len:∀vs H Q E,sp vs H Q E->vs.length=ps.length)
  (hbody:∀(A:Around) (outer:List Env) (s:Shared) (H:Hp) (vs:List V) (Q:VK) (E:XK),Qbg k (A.deeper (envOfC qual scope s.heap.objs.size f cdv))->sp vs H Q E→
   ∃t,PSs (QdC CX P w K mg base N qual scope f cdv A outer s H E) body t/\t {nx:=λ_ H'=>Q .non H',rt:=Q} (start N vs) H):
  QcJ P w K mg base CX (k+1) f (PySem.W.fnOf name qual params body scope dV kV doc pm an cdv ct) ps sp:=by
 refine⟨len,λA outer s H args us vs Q E hr e0 hb r hsp=>?_⟩;have hl:=len _ _ _ _ hsp;have KX:K.In s.heap:=e0.mod.kin.keeps λb o e=>(e0.bs b o e).1;have lim:s.heap.NoLimit:=e0.mod.nolimit.keeps λb o e=>(e0.bs b o e).1;have hkind:∀y∈ps.zip us,scope.names.lookup y.1=some .local ∨(scope.names.lookup y.1=some .cell/\((cellsFrom (s.heap.objs.size+1) scope.names []).lookup y.1).isSome=true):=λZ hy=>by
  obtain⟨n,v⟩:=Z;rcases S.par n (ZbU hy).1 with q | q
  .exact .inl q
  .exact .inr ⟨q,Zbz _ _ _ (.inl q)⟩
 refine codeAny_call_function hr.depth (KX _ _ lk) rfl S.co S.gen rfl (PySem.W.codeRec_of KX hcd) (hb _ _ _ _ ?_);refine wpAny_newFunctionEnv_cells S.kind hkind λenv he s1 x=>?_;subst he;refine⟨lim.keeps x.toInCall.keep,codeAny_func ?_⟩;obtain⟨t,ht,hq⟩:=hbody A outer s H vs Q E (hr.deeper _) hsp;have I:Inv (QdC CX P w K mg base N qual scope f cdv A outer s H E) [] (start N vs) H s1:=Qm7 S e0 hl r x;refine wpAny_mono (ht [] s1 (start N vs) H _ I hq) (λfl s' hs=>?_) λe s' hs=>hs
 have fin:∀{σ':St}{H':Hp}{v:V}{u:Value},Inv (QdC CX P w K mg base N qual scope f cdv A outer s H E) [] σ' H' s'->RelV v u->Q v H'->CE outer P w H s Q u s':=
  λ{σ' H' v u} J rv q=>⟨v,H',J.os,J.bare,J.base,J.hok,rv,q⟩
 cases fl with
 | ret u=>
  obtain⟨v,σ',H',J,rv,q⟩:=hs;exact fin J rv q
 | next=>
  obtain⟨σ',H',J,q⟩:=hs;exact fin (v:=V.non) (u:=Value.none) J rfl q
 | brk=>
  obtain⟨_,_,_,q⟩:=hs;exact False.elim q
 | cont=>
  obtain⟨_,_,_,q⟩:=hs;exact False.elim q
section
variable {X:Cx}{x:Str}{p pos:Pos}{e:Expr}{es:List Expr}{t:TA}{id T:String}{r:List V->Hp->VK->Prop}
noncomputable def tCB(r:List V->Hp->VK->Prop)(t:TA):TE:=λσ H Q=>t σ H λvs H1=>r vs H1 Q
def Qf5(hc:Qb7 X (.builtin id) r)(hg:Gl X x)(hm:X.mg x=none)(hv:bootBuiltins x=some (.builtin id))(ha:PA X (e::es) t)(hn:x≠ "__name__" :=by decide)(hdb:(x == ("__debug__" :Str))=false:=by decide)
  (he:starEach (e::es) X.env=(false,eval e X.env)::starEach es X.env:=by rfl) (hpl:(backTo pos (starEach es X.env)).any (·.1)=false:=by rfl):PE X (.Call (.Name x p) (e::es) [] pos) (tCB r t):=by
 intro pins s σ H Q I h;refine wpAny_Call_Name_kw (QcS I hg hm hv ?_ hn hdb);exact ZbK (thn (ha pos pins s σ H _ I h) λus s1 ⟨vs,H1,I1,r1,q1⟩=>hc pins s1 σ H1 vs us Q I1 r1 q1) he hpl
def Qjb(hc:Qb7 X (.type T) r)(hg:Gl X x)(hm:X.mg x=none)(hv:bootBuiltins x=some (.type T))(ha:PA X (e::es) t)(hn:x≠ "__name__" :=by decide)(hdb:(x == ("__debug__" :Str))=false:=by decide)
  (he:starEach (e::es) X.env=(false,eval e X.env)::starEach es X.env:=by rfl) (hpl:(backTo pos (starEach es X.env)).any (·.1)=false:=by rfl):PE X (.Call (.Name x p) (e::es) [] pos) (tCB r t):=by
 intro pins s σ H Q I h;refine wpAny_Call_Name_kw (QcS I hg hm hv ?_ hn hdb);exact Zac (thn (ha pos pins s σ H _ I h) λus s1 ⟨vs,H1,I1,r1,q1⟩=>hc pins s1 σ H1 vs us Q I1 r1 q1) he hpl
end
end L2
namespace HT
open PySem PyProof.Rows
section
open PySem.SeqAt
open PySem.AutoSeq1 (wpAny_loadPart')
open PySem.MeetsSeq PySem.MeetsSeq2 PySem.MeetsSeq3
end
section
variable {prog:Program}{w:World}{A:Around}{E:Value->Shared->Prop}{s:Shared}
noncomputable def sIx(n d:Nat):Option Int->Nat
 | none=>d
 | some v=>if v<0 then(v+(n:Int)).toNat else min v.toNat n
def Qf8(n d:Nat):sIx n d none=d:=rfl
def Qju(n d k:Nat):sIx n d (some (k:Int))=min k n:=by
 show(if(k:Int)<0 then((k:Int)+(n:Int)).toNat else min (k:Int).toNat n)=min k n;rw[if_neg ⋯,Zl]
end
end HT
namespace L2
open PySem PySem.Spec PyProof.Rows
abbrev TO:=St->Hp->(Option Int->Hp->Prop)->Prop
def PO(X:Cx)(e:Option Expr)(t:TO):Prop:=
 ∀(pins:List (Addr×Obj)) (s:Shared) (σ:St) (H:Hp) (Q:Option Int->Hp->Prop),Inv X pins σ H s->t σ H Q→
  wpAny (model X.prog X.w) X.A (evalPart e X.env) (λu s'=>∃o H',Inv X pins σ H' s'/\IsPart u o/\Q o H') X.xe s
noncomputable def QxL:TO:=λ_ H Q=>Q none H
noncomputable def QBz(t:TE):TO:=λσ H Q=>t σ H λx H1=>∃i,x= .int i/\Q (some i) H1
def intsAre_of{ns:List Int}:∀{us:List Value},QB (ns.map V.int) us->IntsAre us ns:=by
 induction ns with
 | nil=>intro us r;rw[Zaw]at r;cases r;exact .nil
 | cons n ns ih=>
  intro us r;rw[Zv]at r;cases r with
  | cons r1 r2=>
   obtain⟨t,e⟩:=r1;subst e;exact .cons n t (ih r2)
section
variable {X:Cx}{e:Expr}{te:TE}{lo hi:Option Expr}{tl th:TO}{pos p2:Pos}
def Qxk:PO X none QxL:=by
 intro pins s σ H Q I h;rw[evalPart_none];exact wpAny_pure ⟨none,H,I,.none,h⟩
def Qyr(h:PE X e te):PO X (some e) (QBz te):=by
 intro pins s σ H Q I hw;rw[evalPart_some];refine thn (h pins s σ H _ I hw) λu s1=>exJ λx H1 I1 r1 q1=>?_;obtain⟨i,rfl,q⟩:=q1;obtain⟨t,rfl⟩:=r1;exact⟨some i,H1,I1,.int i t,q⟩
def SlR(X:Cx)(r:V->Option Int->Option Int->Hp->VK->Prop):Prop:=
 ∀(pins:List (Addr×Obj)) (s:Shared) (σ:St) (H:Hp) (x:V) (v vl vu:Value) (lo hi:Option Int) (sl:Addr) (Q:VK),Inv X pins σ H s->RelV x v->s.heap.IsSliceOf sl vl vu .none->IsPart vl lo->IsPart vu hi->r x lo hi H Q→
  ∃T id,typeLookup (.type T) "__getitem__" =pure (some (.builtin id))/\s.TypeIs v T/\wpAny (model X.prog X.w) X.A (getItem v (.ref sl)) (EP X pins σ Q) X.xe s
noncomputable def tSl(r:V->Option Int->Option Int->Hp->VK->Prop)(te:TE)(tl th:TO):TE:=λσ H Q=>te σ H λx H1=>tl σ H1 λl H2=>th σ H2 λu H3=>r x l u H3 Q
def Qwo{r:V->Option Int->Option Int->Hp->VK->Prop}(hr:SlR X r)(he:PE X e te)(hl:PO X lo tl)(hu:PO X hi th):PE X (.Subscript e (.Slice lo hi none p2) pos) (tSl r te tl th):=by
 intro pins s σ H Q I h;refine Subscript_ (thn (he pins s σ H _ I h) λv s1=>exJ λx H1 I1 r1 q1=>?_);refine wpAny_Slice (thn (hl pins s1 σ H1 _ I1 q1) λvl s2 ⟨l,H2,I2,pl,q2⟩=>thn (hu pins s2 σ H2 _ I2 q2) λvu s3=>exJ λu H3 I3 pu q3=>?_);rw[evalPart_none];refine wpAny_pure ?_;have I4:Inv X pins σ H3 {s3 with heap:=s3.heap.push {cls:= .type "slice",data:= .fields #[vl,vu,.none]}}:=I3.kept (t':=s3.toks) λb ob q=>Zn _ q;obtain⟨T,id,hT,ht,hg⟩:=hr pins {s3 with heap:=s3.heap.push {cls:= .type "slice",data:= .fields #[vl,vu,.none]}} σ H3 x v vl vu l u s3.heap.objs.size Q I4 r1 (Heap.IsSliceOf.new ..) pl pu q3;show wpAny (model X.prog X.w) X.A (subscriptTail e (.Slice lo hi none p2) v (.ref s3.heap.objs.size)) (EP X pins σ Q) X.xe {s3 with heap:=s3.heap.push {cls:= .type "slice",data:= .fields #[vl,vu,.none]}};exact tail_any (ops:=[.ref s3.heap.objs.size,v]) ht hT hg (by with_unfolding_all rfl)
noncomputable def QlV(xs:List V)(lo hi:Option Int):List V:=(xs.drop (HT.sIx xs.length 0 lo)).take (HT.sIx xs.length xs.length hi-HT.sIx xs.length 0 lo)
def Qp3(xs:List V)(lo hi:Option Int):(QlV xs lo hi).length<=xs.length:=by
 unfold QlV;rw[ZY,ZaB];omega
end
noncomputable def ixN(n:Nat)(i:Int):Option Nat:=if 0<=i then(if i<n then some i.toNat else none)else if-(n:Int)<=i then some (i+n).toNat else none
noncomputable def atI{α:Type}(xs:List α)(i:Int):Option α:=(ixN xs.length i).bind λj=>xs[j]?
def QeF{n:Nat}{i:Int}{j:Nat}(h:ixN n i=some j):seqIndex? i n=some j/\j<n/\ -(n:Int)<=i/\i<n:=by
 unfold ixN at h;by_cases h0:0<=i
 .rw[if_pos h0]at h;by_cases h1:i<n
  .rw[if_pos h1]at h;have e:i.toNat=j:=Option.some.inj h;exact⟨by rw[seqIndex_of h0 h1,e],⋯,⋯,h1⟩
  .rw[if_neg h1]at h;cases h
 .rw[if_neg h0]at h;by_cases h1: -(n:Int)<=i
  .rw[if_pos h1]at h;have e:(i+n).toNat=j:=Option.some.inj h;exact⟨by rw[seqIndex_neg ⋯ h1,e],⋯,h1,⋯⟩
  .rw[if_neg h1]at h;cases h
def QlY{α:Type}{xs:List α}{i:Int}{v:α}(h:atI xs i=some v):∃j,seqIndex? i xs.length=some j/\xs[j]? =some v/\j<xs.length/\ -(xs.length:Int)<=i/\i<xs.length:=by
 unfold atI at h;cases e:ixN xs.length i with
 | none=>rw[e]at h;cases h
 | some j=>
  rw[e]at h;obtain⟨h1,h2,h3,h4⟩:=QeF e;exact⟨j,h1,h,h2,h3,h4⟩
def Qjq(b:Expr):Prop:=∀o i,subscripted b false o i=operate [o,i] (getItem o i)
def IxR(X:Cx)(r:R2):Prop:=
 ∀(value slice:Expr) (pins:List (Addr×Obj)) (s:Shared) (σ:St) (H:Hp) (x y:V) (v u:Value) (Q:VK),Inv X pins σ H s->RelV x v->RelV y u->r x y H Q→
  subscripted slice false v u=operate [v,u] (getItem v u)->wpAny (model X.prog X.w) X.A (subscriptTail value slice v u) (EP X pins σ Q) X.xe s
def MtR(X:Cx)(id:String)(r:V->List V->Hp->VK->Prop):Prop:=
 ∀(pins:List (Addr×Obj)) (s:Shared) (σ:St) (H:Hp) (x:V) (xs:List V) (v:Value) (us:List Value) (Q:VK),Inv X pins σ H s->RelV x v->QB xs us->r x xs H Q→
  wpAny (model X.prog X.w) X.A (call (.builtin id) (v::us)) (EP X pins σ Q) X.xe s
section
variable {X:Cx}{a b:Expr}{ta tb:TE}{pos:Pos}
def IxR.or{r r':R2}(h:IxR X r)(h':IxR X r'):IxR X (λx y H Q=>r x y H Q∨r' x y H Q):=by
 intro value slice pins s σ H x y v u Q I rx ry q hs;rcases q with q | q
 .exact h value slice pins s σ H x y v u Q I rx ry q hs
 .exact h' value slice pins s σ H x y v u Q I rx ry q hs
def QwU{r:R2}(hr:IxR X r)(ha:PE X a ta)(hb:PE X b tb)(hs:Qjq b):PE X (.Subscript a b pos) (tOp r ta tb):=by
 intro pins s σ H Q I h;exact Subscript_ (Qwq ha hb I h λv u s2 x y H2 I2 rx ry q=>hr a b pins s2 σ H2 x y v u Q I2 rx ry q (hs _ _))
noncomputable def QAC(K:Fgg):R2:=λx y H Q=>∃p xs i v,x= .ref p/\y= .int i/\SqL K H p xs/\atI xs i=some v/\Q v H
noncomputable def QC4(K:Fgg):R2:=λx y H Q=>∃p xs i v,x= .ref p/\y= .int i/\SqT K H p xs/\atI xs i=some v/\Q v H
def Qq3:IxR X (QAC X.K):=by
 intro value slice pins s σ H x y v u Q I rx ry h hs;obtain⟨p,xs,i,z,rfl,rfl,hq,he,q⟩:=h;cases rx;obtain⟨t,rfl⟩:=ry;obtain⟨its,r,pl,hz⟩:=I.list hq;obtain⟨j,h1,h2,h3,h4,h5⟩:=QlY he;obtain⟨w,ew,rw'⟩:=r.get h2;have hl:=r.length;have hn:=Qho;have fin:EP X pins σ Q w s:=⟨z,H,I,rw',q⟩;by_cases h0:0<=i
 .have hj:i.toNat=j:=by
   rw[seqIndex_of h0 h5]at h1;exact Option.some.inj h1
  exact item_listR pl.isList h0 ⋯ (by rw[hj];simpa using ew) fin hs
 .have hj:(i+(its.toArray.size:Int)).toNat=j:=by
   rw[seqIndex_neg ⋯ h4]at h1;rw[Zx,← hl];exact Option.some.inj h1
  exact subscriptTail_builtinR (x:=w) pl.isList.typeIs slot_list_getitem.lookup
   (wpAny_getItem_list_neg (Q:=λr s'=>r=w/\EP X pins σ Q r s') pl.isList ⋯ (by rw[Zx]<;>omega) ⋯ (by rw[hj];simpa using ew) ⟨rfl,fin⟩) hs
def QuA:IxR X (QC4 X.K):=by
 intro value slice pins s σ H x y v u Q I rx ry h hs;obtain⟨p,xs,i,z,rfl,rfl,hq,he,q⟩:=h;cases rx;obtain⟨t,rfl⟩:=ry;obtain⟨its,r,pl,hz⟩:=I.tuple hq;obtain⟨j,h1,h2,h3,h4,h5⟩:=QlY he;obtain⟨w,ew,rw'⟩:=r.get h2;have hl:=r.length;have hn:=Qho;have fin:EP X pins σ Q w s:=⟨z,H,I,rw',q⟩
 exact subscriptTail_builtinR (x:=w) pl.typeIs slot_tuple_getitem.lookup
  (getItem_tuple (j:=j) (Q:=λr s'=>r=w/\EP X pins σ Q r s') pl ⋯ ⋯ (by rw[Zx,← hl];exact h1) (by simpa using ew) ⟨rfl,fin⟩) hs
def QrF(its:List Value)(n j:Nat)(u:Value):Obj.mapSeq (·.setIfInBounds j u) {cls:= .type "list",data:= .seq its.toArray n}={cls:= .type "list",data:= .seq (its.set j u).toArray n}:=by
 simp[Obj.mapSeq]
def Inv.lst{pins:List (Addr×Obj)}{σ:St}{H:Hp}{s:Shared}{p:Addr}{xs:List V}(I:Inv X pins σ H s)(h:H p=some (.lst xs)):
  ∃(its:List Value) (n:Nat),QB xs its/\s.heap.get? p=some {cls:= .type "list",data:= .seq its.toArray n}/\xs.length<=sizeLine:=by
 obtain⟨z,its,n,r,e⟩:=I.hok p _ h;exact⟨its,n,r,e,z⟩
def Inv.QAx{pins:List (Addr×Obj)}{σ:St}{H:Hp}{s:Shared}{p:Addr}{xs ys:List V}{its its':List Value}{n n':Nat}{f:Obj->Obj}(I:Inv X pins σ H s)(h:H p=some (.lst xs))
  (ho:s.heap.get? p=some {cls:= .type "list",data:= .seq its.toArray n}) (hf:f {cls:= .type "list",data:= .seq its.toArray n}={cls:= .type "list",data:= .seq its'.toArray n'}) (r:QB ys its') (hz:ys.length<=sizeLine) (t:Nat):
  Inv X pins σ (upd H p (.lst ys)) {s with heap:=s.heap.update p f,toks:=t}:=by
 have e:(s.heap.update p f).get? p=some {cls:= .type "list",data:= .seq its'.toArray n'}:=by
  rw[ZbI f ho (by rw[hf]<;>rfl),hf]
 refine I.write (x:=p) (e:=p) (by rw[h];trivial) (.inl rfl) (λb u hb q=>(Zbb _ _ (Ne.symm hb)).trans q) ⟨_,e⟩ ?_;exact⟨hz,its',n',r,e⟩
def QnQ:V->V->V->Hp->(Hp->Prop)->Prop:=λo i v H Q=>∃p xs k j,o= .ref p/\i= .int k/\H p=some (.lst xs)/\ixN xs.length k=some j/\Q (upd H p (.lst (xs.set j v)))
def set_list:QuD X QnQ:=by
 intro pins s σ H o i v ov iv u Q I ro ri rv h;obtain⟨p,xs,k,j,rfl,rfl,hp,hj,q⟩:=h;cases ro;obtain⟨t,rfl⟩:=ri;obtain⟨its,n,r,ho,hz⟩:=I.lst hp;obtain⟨h1,h2,h3,h4⟩:=QeF hj;have hl:=r.length;have hn:=Qho
 have I':Inv X pins σ (upd H p (.lst (xs.set j v))) {s with heap:=s.heap.update p (Obj.mapSeq (·.setIfInBounds j u))}:=
  I.QAx hp ho (QrF its n j u) (r.set rv j) (by rw[Zaz];exact hz) s.toks
 by_cases h0:0<=k
 .have hk:k.toNat=j:=by
   rw[seqIndex_of h0 h4]at h1;exact Option.some.inj h1
  exact PySem.W.ki_setAt ho h0 ⋯ (by rw[Zx,← hl];exact h4) (by rw[hk];exact⟨_,I',q⟩)
 .have hk:(k+(its.toArray.size:Int)).toNat=j:=by
   rw[seqIndex_neg ⋯ h3]at h1;rw[Zx,← hl];exact Option.some.inj h1
  exact PySem.W.ki_setBack ho ⋯ (by rw[Zx,← hl];exact h3) ⋯ (by rw[hk];exact⟨_,I',q⟩)
def Qpw(lo hi:Option Int)(n:Nat):(sliceBounds lo hi none n).1=((HT.sIx n 0 lo:Nat):Int)/\(sliceBounds lo hi none n).2.1=((HT.sIx n n hi:Nat):Int)/\(sliceBounds lo hi none n).2.2=1:=by
 refine⟨?_,?_,rfl⟩
 .cases lo with
  | none=>simp[sliceBounds,HT.sIx]
  | some i=>
   simp only[sliceBounds,HT.sIx,Option.getD_none,show(1:Int)>0 by decide,if_true];by_cases h:i<0
   .simp only[h,if_true]<;>omega
   .simp only[h,if_false]<;>omega
 .cases hi with
  | none=>simp[sliceBounds,HT.sIx]
  | some i=>
   simp only[sliceBounds,HT.sIx,Option.getD_none,show(1:Int)>0 by decide,if_true];by_cases h:i<0
   .simp only[h,if_true]<;>omega
   .simp only[h,if_false]<;>omega
def QnF(its:List Value)(lo hi:Option Int):slicePick its.toArray lo hi none=((its.drop (HT.sIx its.length 0 lo)).take (HT.sIx its.length its.length hi-HT.sIx its.length 0 lo)).toArray:=by
 obtain⟨h1,h2,h3⟩:=Qpw lo hi its.toArray.size;unfold slicePick;rw[h1,h2,h3];simp only[sliceRange_one,pick_run,Zx]<;>rfl
def QC1(K:Fgg):V->Option Int->Option Int->Hp->VK->Prop:=λx lo hi H Q=>∃a xs,x= .ref a/\SqL K H a xs/\∀p,H p=none->Q (.ref p) (upd H p (.lst (QlV xs lo hi)))
def Qxs:SlR X (QC1 X.K):=by
 intro pins s σ H x v vl vu lo hi sl Q I rx hs pl pu h;obtain⟨a,xs,rfl,hx,q⟩:=h;cases rx;obtain⟨its,r,ht,hz⟩:=I.list hx;have hlen:=r.length;refine⟨"list",_,slot_list_getitem.lookup,ht.isList.typeIs,?_⟩;refine wpAny_getItem_list_slice ht.isList hs pl pu .none ⋯ ?_ (by rw[Zx]<;>omega);rw[QnF,← hlen];refine⟨.ref s.heap.objs.size,_,I.laid (t':=s.toks) (o:= .lst (QlV xs lo hi)) (λb ob q=>Zn _ q) (Zs _) ?_,rfl,q _ (I.hok.fresh (Zs _))⟩;exact⟨ZN (Qp3 xs lo hi) hz,_,0,(r.drop (HT.sIx xs.length 0 lo)).take (HT.sIx xs.length xs.length hi-HT.sIx xs.length 0 lo),ZG _ rfl⟩
def QoF:Qb7 X (.builtin "len") (λxs H Q=>∃p ys,xs=[.ref p]/\(SqL X.K H p ys∨SqT X.K H p ys)/\Q (.int ys.length) H):=by
 intro pins s σ H xs us Q I r h;obtain⟨p,ys,rfl,hq,q⟩:=h;obtain⟨u,rfl,rx⟩:=vals1 r;cases rx;have hn:=Qho;rcases hq with hq | hq
 .obtain⟨its,r',pl,hz⟩:=I.list hq;have hlen:=r'.length;exact Calls.call_len_list pl.isList (by simp only[Zx]<;>omega) ⟨.int ys.length,H,I.tok _,⟨s.toks+1,by rw[Zx,hlen]⟩,q⟩
 .obtain⟨its,r',pl,hz⟩:=I.tuple hq;have hlen:=r'.length;exact len_tuple pl (by simp only[Zx]<;>omega) ⟨.int ys.length,H,I.tok _,⟨s.toks+1,by rw[Zx,hlen]⟩,q⟩
def Qi3:Qb7 X (.type "list") (λxs H Q=>∃p ys,xs=[.ref p]/\(SqL X.K H p ys∨SqT X.K H p ys)/\∀l,H l=none->Q (.ref l) (upd H l (.lst ys))):=by
 intro pins s σ H xs us Q I r h;obtain⟨p,ys,rfl,hq,q⟩:=h;obtain⟨u,rfl,rx⟩:=vals1 r;cases rx
 have fin:∀(its:List Value),QB ys its->ys.length<=sizeLine->∀(h':Heap) (c':Nat),(∀b o',s.heap.get? b=some o'->h'.get? b=some o')→
   h'.get? s.heap.objs.size=some {cls:= .type "list",dict:=none,data:= .seq its.toArray c',slots:= #[]}->EP X pins σ Q (.ref s.heap.objs.size) {s with heap:=h'}:=λits r' hz h' c' kp e=>
  ⟨.ref s.heap.objs.size,_,I.laid (t':=s.toks) kp (Zs _) (show Qca X.prog X.w _ h' _ (.lst ys)from⟨hz,its,c',r',e⟩),rfl,q _ (I.hok.fresh (Zs _))⟩
 rcases hq with hq | hq
 .obtain⟨its,r',pl,hz⟩:=I.list hq;have hlen:=r'.length;obtain⟨o,ho,hc,n,hd⟩:=pl.isList;exact call_list_seq p (.inl rfl) ho hc hd (λh' c' kp e=>fin its r' hz h' c' kp e) (by simp only[Zx]<;>omega)
 .obtain⟨its,r',pl,hz⟩:=I.tuple hq;have hlen:=r'.length;obtain⟨o,ho,hc,n,hd⟩:=pl;exact call_list_seq p (.inr rfl) ho hc hd (λh' c' kp e=>fin its r' hz h' c' kp e) (by simp only[Zx]<;>omega)
def tyV(K:Fgg)(T:String)(x:V)(H:Hp):Prop:=match x with
 | .str _=>T= "str"
 | .int _=>T= "int"
 | .ref p=>(T= "list" /\∃xs,SqL K H p xs)∨(T= "tuple" /\∃o,K.lookup p=some o/\o.cls= .type "tuple" /\o.dict=none)∨
   (T= "dict" /\((∃kvs,H p=some (.dK kvs))∨∃kvs,H p=some (.dT kvs)))∨(T= "set" /\∃S n,H p=some (.set S n))
 | _=>False
def QzQ{pins:List (Addr×Obj)}{σ:St}{H:Hp}{s:Shared}{T:String}{x:V}{v:Value}(I:Inv X pins σ H s)(r:RelV x v)(ty:tyV X.K T x H):
  s.TypeIs v T/\∀a,v= .ref a->∃ob,s.heap.get? a=some ob/\ob.dict=none:=by
 cases x with
 | str z=>
  obtain⟨t,rfl⟩:=r;cases(show T= "str" from ty);exact⟨typeIs_str s z t,λ_ e=>nomatch e⟩
 | int i=>
  obtain⟨t,rfl⟩:=r;cases(show T= "int" from ty);exact⟨typeIs_int s i t,λ_ e=>nomatch e⟩
 | ref p=>
  cases r;rcases ty with⟨rfl,xs,hq⟩ | ⟨rfl,o,hk,hc,hd⟩ | ⟨rfl,hk⟩ | ⟨rfl,S,n,hk⟩
  .obtain⟨its,_,pl,_⟩:=I.list hq;refine⟨pl.isList.typeIs,λa e=>?_⟩;cases e;obtain⟨o,n,e,c,hd,_⟩:=pl;exact⟨o,e,hd⟩
  .refine⟨⟨o,I.kIn p o hk,hc⟩,λa e=>?_⟩;cases e;exact⟨o,I.kIn _ o hk,hd⟩
  .have z:∃o,s.heap.get? p=some o/\o.ExactDict:=by
    rcases hk with⟨kvs,hk⟩ | ⟨kvs,hk⟩
    .obtain⟨_,_,_,_,o,_,_,e,ex,_⟩:=I.hok p _ hk;exact⟨o,e,ex⟩
    .obtain⟨_,_,_,_,o,_,_,e,ex,_⟩:=I.hok p _ hk;exact⟨o,e,ex⟩
   obtain⟨o,e,ex⟩:=z;refine⟨⟨o,e,ex.1⟩,λa e2=>?_⟩;cases e2;exact⟨o,e,ex.2.1⟩
  .obtain⟨o,_,_,_,e,ex,_⟩:=I.hok p _ hk;refine⟨⟨o,e,ex.1⟩,λa e2=>?_⟩;cases e2;exact⟨o,e,ex.2.1⟩
 | _=>exact False.elim ty
noncomputable def tBM(K:Fgg)(T:String)(r:V->List V->Hp->VK->Prop)(to:TE)(t:TA):TE:=λσ H Q=>to σ H λx H1=>tyV K T x H1/\t σ H1 λxs H2=>r x xs H2 Q
variable {o e:Expr}{es:List Expr}{to:TE}{t:TA}{name:Str}{apos cpos:Pos}{T id:String}{r:V->List V->Hp->VK->Prop}
def QBK(pa:PlainAttrs T)(slot:Slot T name id)(hty:typeOf (.builtin id)=pure (.type "method_descriptor"))(hm:MtR X id r)(ho:PE X o to)(ha:PA X (e::es) t)
  (hbase:attributeBase o name X.env (eval o X.env)=eval o X.env:=by rfl)
  (hfew:((backTo cpos (starEach (e::es) X.env)).all (λx=> !x.1) && (backToKw cpos (keywordEach [] X.env)).all (λx=>x.1.isSome)
   && decide ((e::es).length+([]:List Keyword).length+(if([]:List Keyword).isEmpty then 0 else 1)<30))=true:=by rfl)
  (hline:(apos.endLine == cpos.line)=true:=by rfl) (hs:starEach (e::es) X.env=(false,eval e X.env)::starEach es X.env:=by rfl) (hplain:(backTo cpos (starEach es X.env)).any (·.1)=false:=by rfl):
  PE X (.Call (.Attribute o name apos) (e::es) [] cpos) (tBM X.K T r to t):=by
 intro pins s σ H Q I h;refine wpAny_Call_method_late hbase hfew hline rfl (thn (ho pins s σ H _ I h) λv s1 Z=>?_);obtain⟨x,H1,I1,r1,ty,q1⟩:=Z;obtain⟨h1,h2⟩:=QzQ I1 r1 ty;refine⟨T,id,pa,slot,hty,h1,h2,?_⟩;have hA:=ha cpos pins s1 σ H1 _ I1 q1;rw[hs]at hA ⊢;refine Calls.callWith_builtin (by show(false || (backTo cpos (starEach es X.env)).any (·.1))=false;rw[hplain]<;>rfl) (Calls.evalArgs_plain ?_);exact thn hA λus s2 ⟨vs,H2,I2,r2,q2⟩=>hm pins s2 σ H2 x vs v us Q I2 r1 r2 q2
end
def MtM(X:Cx)(id:String)(r:V->List V->Hp->VK->Prop):Prop:=
 ∀(pins:List (Addr×Obj)) (s:Shared) (σ:St) (H:Hp) (x:V) (xs:List V) (v:Value) (us:List Value) (Q:VK),Inv X pins σ H s->RelV x v->QB xs us->r x xs H Q→
  wpAny (model X.prog X.w) X.A (call (.builtin id) (v::us)) (EP X pins σ Q) X.xe s
def QB.one{x:V}{us:List Value}(r:QB [x] us):∃u,us=[u]/\RelV x u:=vals1 r
def QB.reverse{xs:List V}{us:List Value}(h:QB xs us):QB xs.reverse us.reverse:=by
 induction h with
 | nil=>exact .nil
 | cons r t ih=>rw[ZbA,ZbA];exact QB.append ih (.cons r .nil)
def QB.rep{xs:List V}{us:List Value}(h:QB xs us):∀k:Nat,QB (List.replicate k xs).flatten (List.replicate k us).flatten
 | 0=> .nil
 | k+1=>by
  rw[Zab,Zab,Zao,Zao];exact QB.append h (QB.rep h k)
def foldl_rep(its:List Value):∀(k:Nat) (acc:List Value),
  List.foldl (λx1 x2=>x1++x2) acc.toArray (List.replicate k its.toArray)=(acc++(List.replicate k its).flatten).toArray
 | 0,acc=>by simp
 | k+1,acc=>by
  have e:acc.toArray++its.toArray=(acc++its).toArray:= ⋯
  have e2:(acc++its)++(List.replicate k its).flatten=acc++(List.replicate (k+1) its).flatten:=by
   rw[Zab,Zao,ZaT]
  rw[← e2,← foldl_rep its k (acc++its),← e,Zab,ZbV]
section
variable {X:Cx}{pins:List (Addr×Obj)}{σ:St}{H:Hp}{s:Shared}{l b:Addr}{xs ys zs:List V}
def Inv.QC5{its its':List Value}{n:Nat}{f:Array Value->Array Value}{t':Nat}(I:Inv X pins σ H s)(hH:H l=some (.lst xs))
  (e:s.heap.get? l=some {cls:= .type "list",data:= .seq its.toArray n}) (hf:f its.toArray=its'.toArray) (hv:QB ys its') (hz:ys.length<=sizeLine):
  Inv X pins σ (upd H l (.lst ys)) {s with heap:=s.heap.update l (Obj.mapSeq f),toks:=t'}:=by
 have q:=PySem.IsL.update e f;rw[hf]at q;refine I.write (x:=l) (e:=l) (by rw[hH];exact trivial) (.inl rfl) (λb' u hb hu=>(Zbb s.heap (Obj.mapSeq f) (Ne.symm hb)).trans hu) ⟨_,q⟩ ?_;exact⟨hz,its',_,hv,q⟩
def Inv.QAk{its:List Value}{t':Nat}(I:Inv X pins σ H s)(hv:QB ys its)(hz:ys.length<=sizeLine):
  Inv X pins σ (upd H s.heap.objs.size (.lst ys)) {s with heap:=s.heap.push {cls:= .type "list",data:= .seq its.toArray},toks:=t'}:=
 I.laid (λ_ _ q=>Zn _ q) (Zs _) ⟨hz,its,0,hv,ZG _ rfl⟩
def Inv.fresh(I:Inv X pins σ H s):H s.heap.objs.size=none:=I.hok.fresh (Zs _)
def Inv.QzS(I:Inv X pins σ H s)(hH:H l=some (.lst xs)):xs.length<=sizeLine/\∃(its:List Value) (n:Nat),QB xs its/\xs.length=its.length/\s.heap.get? l=some {cls:= .type "list",data:= .seq its.toArray n}:=by
 obtain⟨z,its,n,r,e⟩:=I.hok l _ hH;exact⟨z,its,n,r,r.length,e⟩
def Qwl{n:Nat}(h:n<=sizeLine):Builtin.List.listTooLong n=false:=by
 unfold Builtin.List.listTooLong;exact decide_eq_false ⋯
end
section
variable {X:Cx}
def Qqn:V->List V->Hp->VK->Prop:=λx vs H Q=>∃l xs y,x= .ref l/\vs=[y]/\H l=some (.lst xs)/\xs.length<sizeLine/\Q .non (upd H l (.lst (xs++[y])))
def Qm5:MtM X "list.append" Qqn:=by
 intro pins s σ H x vs v us Q I rx rv h;obtain⟨l,xs,y,rfl,rfl,hH,hz,q⟩:=h;cases rx;obtain⟨u,rfl,ru⟩:=rv.one;obtain⟨z,its,n,r,hl,e⟩:=I.QzS hH;refine call_meets F.slot_list_append ⟨_,e,rfl⟩ F.entry_list_append (F.args_list_append_2 _ _) (PySem.list_append l its.toArray n u (by rw[Zx];omega)) ⟨e,?_⟩;refine⟨.non,_,I.QC5 (its':=its++[u]) hH e ⋯ (r.append (.cons ru .nil)) ?_,rfl,q⟩;rw[Zo,Zbj];omega
def len_rep{α:Type}(xs:List α)(k:Nat):(List.replicate k xs).flatten.length=k*xs.length:=by
 induction k with
 | zero=>simp
 | succ k ih=>rw[Zab,Zao,Zo,ih,Nat.succ_mul,Nat.add_comm]
end
section
variable {prog:Program}{w:World}{A:Around}{E:Value->Shared->Prop}{s:Shared}
end
section
variable {X:Cx}
end
end L2
namespace Att
open PySem PySem.W PySem.Calls PyProof.Rows
def Qln{P:Params}{h:Heap}:∀(ns:List Int) (vs:List Value),WellAll P h vs (ns.map WData.int)->IntsAre vs ns:=by
 intro ns
 induction ns with
 | nil=>
  intro vs w;rw[Zaw]at w;cases w;exact .nil
 | cons n ns ih=>
  intro vs w;rw[Zv]at w;cases w with
  | cons a b=>
   cases a;exact .cons _ _ (ih _ b)
def QsS{l:OpenLaw}{n:Nat}(hn:l.most=some n){P:Params}{h:Heap}{args:List WData}{vals:List Value}
  (hpre:l.row.toRowW.claim.pre args=true) (hwl:WellAll P h vals args):
  ∃a vs ns,vals=[Value.ref a]/\args=[WData.list (ns.map WData.int)]/\h.get? a=some {cls:= .type "list",data:= .seq vs.toArray}/\IntsAre vs ns/\ns.length<=n:=by
 have hsh:WShape.hasAll [] args [.list .int]=true:=(pre_splitW hpre).1;have hc:l.pre.holds [] {args:=args}=true:=(pre_splitW hpre).2;obtain⟨d,r,rfl,h1,h2⟩:=hasAllW_cons hsh;obtain rfl:=hasAllW_nil h2;obtain⟨xs,rfl,h3⟩:=hasW_list h1;obtain⟨ns,rfl⟩:=items_int h3;have hlen:ns.length<=n:=by
  unfold OpenLaw.pre at hc;have h4:(WTm.not (.lt (.lit (.int (n:Int))) (.len (.arg 0)))).holds [] {args:=[.list (ns.map .int)]}=true:=by
   have h4:=(holds_andW hc).1;rw[hn]at h4;exact h4
  have h5:=condW_of h4 (w_not (w_lt w_lit (w_len_list (w_arg rfl))));rw[Zc]at h5;refine Nat.le_of_not_lt λq=>?_;have q':(n:Int)<((ns.length:Nat):Int):= ⋯
  first
   | (rw[decide_eq_true q']at h5;exact absurd h5 ∅)
   | (simp at h5;omega)
 cases hwl with
 | cons w1 w2=>
  cases w2;cases w1 with
  | list ho hall=>exact⟨_,_,ns,rfl,rfl,ho,Qln ns _ hall,hlen⟩
def Qs3(l:OpenLaw)(args:List WData):l.row.toRowW.claim.post args (.bool true) args=true:=
 postW_of (r:=l.row.toRowW) (X:=(true == true))
  (show WShape.has [] (.bool true) .bool=true by first | rfl | decide | simp[WShape.has,WShape.arms,WShape.armsAll])
  (show(WTm.eq .res (.lit (.bool true))).value [] {args:=args,res:=some (.bool true),after:=args}=some (.bool (true == true))from w_eq_bool (w_res rfl) w_lit) rfl
def Qqa{l:OpenLaw}{n:Nat}{q:Program}{loose:List Str}{XP:(Str->Option Value)->Heap->Prop}{YP:World->Heap->Prop}{d:DefRec}
  (hn:l.most=some n) (hdf:d.params.defaults=[])
  (call:∀(w:World) (s₀ s₁:Shared) (mg mb:Str->Option Value) (fa:Addr) (o:Obj) (pm cd doc:Value) (a:Addr) (vs:List Value) (ns:List Int),
   Ground q loose [] XP w s₀ mg mb s₁.heap->YP w s₁.heap→
   s₁.heap.get? fa=some o->o.data= .func (docDef d.name d.params d.body d.scope pm cd doc)->s₁.heap.CodeRec cd d.name->mg d.name=some (.ref fa)→
   s₁.heap.get? a=some {cls:= .type "list",data:= .seq vs.toArray}->IntsAre vs ns->ns.length<=n->s₁.gens= #[]→
   codeAny (model l.prog w) callerA (.call (.ref fa) ⟨[.ref a],[]⟩) (λr s'=>r= .ok (.ret (.bool true))/\OldK s₁.heap s'.heap/\s'.os=s₁.os/\AllBare s'.gens) s₁):
  WalkO q loose XP YP l.row.toRowW d [] (λf vs=>PySem.call f vs):=by
 intro w s₀ s₁ mg mb G Y fa o pm cd doc dV kV ho hd hcd hD hmg hg args vals as hpre hlay hrd hwl hlo;obtain rfl:dV= .none:=Dflts.none hD hdf;obtain rfl:kV= .none:=Dflts.noKw hD;obtain⟨a,vs,ns,rfl,rfl,hobj,hints,hlen⟩:=QsS hn hpre hwl;refine enter_call (codeAny_mono (call w s₀ s₁ mg mb fa o pm cd doc a vs ns G Y ho (fd_plain hd) hcd hmg hobj hints hlen hg) λr s' hq=>?_);obtain⟨rfl,h2,h3,h4⟩:=hq;exact⟨.inl ⟨.bool true,.bool true,[],rfl,λ_=>rfl,.bool true,Qs3 l _,λ_=>⟨List.Pairwise.nil,λ_ hm=>(nomatch hm)⟩⟩,h2,h3,h4⟩
section
variable {prog:Program}{w:World}{A:Around}{E:Value->Shared->Prop}{s:Shared}{K:Frag}
end
end Att
namespace L2
open PySem PySem.Spec PyProof.Rows
def Qa5:∀{vs:List Value}{ns:List Int},IntsAre vs ns->QB (ns.map V.int) vs
 | _,_,.nil=> .nil
 | _,_,.cons n t h=> .cons ⟨t,rfl⟩ (Qa5 h)
def QzR(H:Hp):Prop:=∀b,H b=none∨∃o xs,H b=some (.frz o (.lst xs))
def QvU{P:Program}{w:World}{K:Fgg}{mg mb:Str->Option Value}{CX:CXT}{k:Nat}{fa a:Addr}{fd:FuncData}{x:Str}{sp:Sp}{s₁:Shared}{vs:List Value}{ns:List Int}
  (KX:K.In s₁.heap) (hns:s₁.heap.Ns mainGlobals mg) (hb:s₁.heap.Ns builtinsNs mb) (hbb:∀x:Str,x≠ "__name__" ->mb x=bootBuiltins x) (hlim:s₁.heap.NoLimit) (hg:s₁.gens= #[])
  (ha:s₁.heap.get? a=some {cls:= .type "list",data:= .seq vs.toArray}) (hi:IntsAre vs ns) (hl:ns.length<=sizeLine) (hr:Qbg k callerA)
  (F:∀base:Heap,K.In base->base.Ns mainGlobals mg->QcJ P w K mg base CX k fa fd [x] sp) (hbind:∀(s:Shared) (u:Value),BindsTo s fd ⟨[u],[]⟩ [(x,u)])
  (hsp:∀H:Hp,QzR H->SqL K H a (ns.map V.int)->sp [.ref a] H (λv _=>v= .bl true) λ_ _ _=>False)
  (hCX:∀H e s',CX [] H s₁ (λ_ _ _=>False) e s'->False):
  codeAny (model P w) callerA (.call (.ref fa) ⟨[.ref a],[]⟩) (λr s'=>r= .ok (.ret (.bool true))/\OldK s₁.heap s'.heap/\s'.os=s₁.os/\AllBare s'.gens) s₁:=by
 have rv:=Qa5 hi;have lenV:=hi.length
 have core:∀H:Hp,QzR H->SqL K H a (ns.map V.int)->HOk P w H s₁.heap->(∀b,H b≠none->b=a)->(H a≠none->K.lookup a=none)→
   codeAny (model P w) callerA (.call (.ref fa) ⟨[.ref a],[]⟩) (λr s'=>r= .ok (.ret (.bool true))/\OldK s₁.heap s'.heap/\s'.os=s₁.os/\AllBare s'.gens) s₁:=by
  intro H hO hS hok hA hK;have base_of:∀{b:Addr}{o:Obj},s₁.heap.get? b=some o->H b=none->(QhU s₁.heap H).get? b=some o:=λe n=>Qwi e n;have noA:∀{b:Addr}{o:Obj}{es:Array DictEntry}{ep:Nat},s₁.heap.get? b=some o->o.data= .dict es ep->H b=none:=λ{b o es ep} e d=>by
   cases q:H b with
   | none=>rfl
   | some u=>
    have e':b=a:=hA b (by rw[q];simp);subst e';rw[ha]at e;cases e;have d':Data.seq vs.toArray _=Data.dict es ep:=d;cases d'
  have nsK:∀{b:Addr}{m:Str->Option Value},s₁.heap.Ns b m->(QhU s₁.heap H).Ns b m:=λ{b m} ⟨o,es,ep,e,d,r⟩=>⟨o,es,ep,base_of e (noA e d),d,r⟩;have hKb:K.In (QhU s₁.heap H):=λb o e=>base_of (KX b o e) (by
   cases q:H b with
   | none=>rfl
   | some u=>
    have e':b=a:=hA b (by rw[q];simp);subst e';rw[hK (by rw[q];simp)]at e;cases e)
  have hM:Mod K mg (QhU s₁.heap H):=⟨hKb,nsK hns,⟨mb,nsK hb,hbb⟩,let ⟨mc,h1,h2⟩:=hlim;⟨mc,nsK h1,h2⟩⟩;have e0:Qot P w K mg (QhU s₁.heap H) callerA [] s₁ H:=⟨rfl,hM,λb o e=>Qxw e,Nat.le_of_eq (Qts _ _),trivial,λb hb=>absurd (show b∈([]:LAd)from hb) ⋯,hok,.of_eq hg⟩;refine codeAny_mono ((F _ hKb (nsK hns)).run callerA [] s₁ H ⟨[.ref a],[]⟩ [.ref a] [.ref a] _ _ hr e0 (hbind s₁ (.ref a)) (.cons rfl .nil) (hsp H hO hS)) λr s' h=>?_;cases r with
  | error e=>exact(hCX H e s' h).elim
  | ok fl=>
   cases fl with
   | next=>exact False.elim h
   | brk=>exact False.elim h
   | cont=>exact False.elim h
   | ret u=>
    obtain⟨v,H',os,bare,un,hok',r',q⟩:=h;have q':v= .bl true:=q;subst q';obtain rfl:u=Value.bool true:=r';refine⟨rfl,OldK.of_keep λb o e=>?_,os,bare⟩;cases q:H b with
    | none=>exact un.keep b o e q (by intro z;exact absurd (show b∈([]:LAd)from z) ⋯) ⋯
    | some u=>
     rcases hO b with z | ⟨ob,xs,z⟩
     .rw[q]at z;cases z
     .have z2:=un.frzs b ob _ z;obtain⟨e1,_⟩:=hok b _ z;obtain⟨e2,_⟩:=hok' b _ z2;rw[e]at e1;cases e1;exact e2
 cases hk:K.lookup a with
 | some o=>
  have e:=KX a o hk;rw[ha]at e;cases e;refine core (λ_=>none) (λ_=> .inl rfl) (.inr ⟨_,vs.toArray,_,hk,rfl,rfl,rfl,by rw[Zx,lenV];exact hl,by simpa using rv⟩) (λb u z=>by have z':(none:Option HO)=some u:=z;cases z') (λb z=>absurd rfl z) λz=>absurd rfl z
 | none=>
  refine core (λb=>if b=a then some (.frz {cls:= .type "list",data:= .seq vs.toArray} (.lst (ns.map V.int)))else none) (λb=>?_) (.inl (.inr ⟨{cls:= .type "list",data:= .seq vs.toArray},if_pos rfl⟩)) (λb u z=>?_) (λb z=>?_) λ_=>hk
  .by_cases hb:b=a
   .exact .inr ⟨_,_,if_pos hb⟩
   .exact .inl (if_neg hb)
  .by_cases hb:b=a
   .have z':=(if_pos hb).symm.trans z;cases z';subst hb;exact⟨ha,by rw[Zc];exact hl,vs,_,rv,ha⟩
   .have z':=(if_neg hb).symm.trans z;cases z'
  .by_cases hb:b=a
   .exact hb
   .exact absurd (if_neg hb) z
noncomputable abbrev KOf{K:Fgg}{h:Heap}(_:K.In h):PySem.W.Frag:=K
noncomputable def QfB(s:Stmt):Arguments:=match s with
 | .FunctionDef _ a _ _ _ _ _ _ _ _=>a
 | _=>{posonlyargs:=[],args:=[],vararg:=none,kwonlyargs:=[],kw_defaults:=[],kwarg:=none,defaults:=[]}
noncomputable def QaT(s:Stmt):List Stmt:=match s with
 | .FunctionDef _ _ b _ _ _ _ _ _ _=>b
 | _=>[]
noncomputable def Qn(s:Stmt):Scope:=match s with
 | .FunctionDef _ _ _ _ _ _ sc _ _ _=>sc
 | _=>{kind:= .function,names:=[],isGenerator:=false,isCoroutine:=false}
noncomputable abbrev CX0:CXT:=λ_ _ _ _ _ _=>False
noncomputable abbrev E0:XK:=λ_ _ _=>False
def Qr1{X:Cx}:Qls CX0 X E0:=λ_ _ _ _ _ _ _ h=>h.elim
structure Fun (K:Fgg) (x qual:Str) (st:Stmt) (f:Addr) (fd:FuncData):Prop where
 ex:∃(oc:Value) (od:Option Addr) (kV doc pm:Value) (an:Option Addr) (cdv ct:Value) (osl:Array (Option Value)),
  fd=PySem.W.fnOf x qual (QfB st) (QaT st) (Qn st) .none kV doc pm an cdv ct/\K.lookup f=some ⟨oc,od,.func fd,osl⟩/\PySem.W.codeIn K cdv qual=true
 kp:PySem.W.keepIn K (.ref f)=true
section
variable {P:Program}{w:World}{K:Fgg}{mg:Str->Option Value}{base:Heap}
def Fun.ok{x qual:Str}{st:Stmt}{f:Addr}{fd:FuncData}{N ps:List Str}{k:Nat}{sp:Sp}(F:Fun K x qual st f fd)(S:QbR N ps (Qn st))(len:∀vs H Q E,sp vs H Q E->vs.length=ps.length)
  (hbody:∀(cdv:Value) (A:Around) (outer:List Env) (s:Shared) (H:Hp) (vs:List V) (Q:VK) (E:XK),Qbg k (A.deeper (envOfC qual (Qn st) s.heap.objs.size f cdv))->sp vs H Q E→
   ∃t,PSs (QdC CX0 P w K mg base N qual (Qn st) f cdv A outer s H E).nox (QaT st) t/\t {nx:=λ_ H'=>Q .non H',rt:=Q} (start N vs) H):QcJ P w K mg base CX0 (k+1) f fd ps sp:=by
 obtain⟨oc,od,kV,doc,pm,an,cdv,ct,osl,rfl,lk,hcd⟩:=F.ex;refine QwS lk hcd S len λA outer s H vs Q E hr hsp=>?_;obtain⟨t,h,q⟩:=hbody cdv A outer s H vs Q E hr hsp;exact⟨t,h.nox,q⟩
def Fun.binds{x qual:Str}{st:Stmt}{f:Addr}{fd:FuncData}{ps:List Str}(F:Fun K x qual st f fd)
  (h:∀(kV doc pm:Value) (an:Option Addr) (cdv ct:Value) (us:List Value),us.length=ps.length->bindArgs (PySem.W.fnOf x qual (QfB st) (QaT st) (Qn st) .none kV doc pm an cdv ct) ⟨us,[]⟩=pure (ps.zip us)):Binds K fd ps []:=by
 obtain⟨oc,od,kV,doc,pm,an,cdv,ct,osl,rfl,lk,hcd⟩:=F.ex;exact .all (h kV doc pm an cdv ct)
def QAp{x qual:Str}{st:Stmt}{f:Addr}{oc:Value}{od an:Option Addr}{osl:Array (Option Value)}{kV doc pm cdv ct:Value}(l:K.lookup f=some ⟨oc,od,.func (PySem.W.fnOf x qual (QfB st) (QaT st) (Qn st) .none kV doc pm an cdv ct),osl⟩)
  (c:PySem.W.codeIn K cdv qual=true) (k:PySem.W.keepIn K (.ref f)=true):Fun K x qual st f (PySem.W.fnOf x qual (QfB st) (QaT st) (Qn st) .none kV doc pm an cdv ct):=⟨⟨oc,od,kV,doc,pm,an,cdv,ct,osl,rfl,l,c⟩,k⟩
end
section
variable {X:Cx}
end
def Qsk{A B:Prop}(h:B):if false=true then A else B:=by
 rw[if_neg Zam];exact h
def Qsg{A B:Prop}(h:A):if true=true then A else B:=by
 rw[if_pos rfl];exact h
def QU(H H':Hp):Prop:=∀b o,H b=some o->H' b=some o
def QU.refl(H:Hp):QU H H:=λ_ _ h=>h
def QU.trans{H H1 H2:Hp}(a:QU H H1)(b:QU H1 H2):QU H H2:=λc o h=>b c o (a c o h)
def QU.free{H H':Hp}(e:QU H H'){l:Addr}(h:H' l=Option.none):H l=Option.none:=by
 cases q:H l with
 | none=>rfl
 | some o=>
  rw[e l o q]at h;cases h
def Qmo(env:Env)(body:Str×NameKind->List (Str×Addr)->Sem (ForInStep (List (Str×Addr))))
  (hb:∀n k cs,body (n,k) cs=if(k == NameKind.free)=true then(do let c ← cellOf env n;pure (ForInStep.yield ((n,c)::cs)))else pure (ForInStep.yield cs)):
  ∀(names:List (Str×NameKind)) (acc:List (Str×Addr)),(∀y∈names,y.2= .free->∃c,env.cells.lookup y.1=some c)->(∀x c,acc.lookup x=some c->env.cells.lookup x=some c)→
   ∃cl,forIn names acc body=(pure cl:Sem _)/\(∀x c,cl.lookup x=some c->env.cells.lookup x=some c)/\(∀x,acc.lookup x≠none->cl.lookup x≠none)/\∀y∈names,y.2= .free->cl.lookup y.1≠none
 | [],acc,_,ha=>⟨acc,rfl,ha,λ_ h=>h,λy hy=>by simp at hy⟩
 | (n,k)::r,acc,hn,ha=>by
  rw[List.forIn_cons,hb];have hr:∀y∈r,y.2= .free->∃c,env.cells.lookup y.1=some c:=λy hy=>hn y (Zb _ hy);by_cases hk:k= .free
  .subst hk;obtain⟨c,hc⟩:=hn (n,.free) Zi rfl;have hce:cellOf env n=pure c:=by unfold cellOf;rw[show env.cells.lookup n=some c from hc]
   rw[if_pos (by rfl),hce];obtain⟨cl,e,h1,h2,h3⟩:=Qmo env body hb r ((n,c)::acc) hr (λx c' e=>by
    rw[ZD]at e;cases q:x == n with
    | true=>rw[q]at e;cases e;rw[beq_iff_eq]at q;rw[q];exact hc
    | false=>rw[q]at e;exact ha x c' e)
   have hcons:∀x,((n,c)::acc).lookup x≠none->cl.lookup x≠none:=h2;refine⟨cl,by simpa using e,h1,λx hx=>hcons x ?_,λy hy hf=>?_⟩
   .rw[ZD];cases x == n with
    | true=>simp
    | false=>exact hx
   .rcases Zk.mp hy with rfl | hy
    .exact hcons _ (by simp[ZD])
    .exact h3 y hy hf
  .rw[if_neg (by simpa using hk)];obtain⟨cl,e,h1,h2,h3⟩:=Qmo env body hb r acc hr ha;refine⟨cl,by simpa using e,h1,h2,λy hy hf=>?_⟩;rcases Zk.mp hy with rfl | hy
   .exact absurd hf hk
   .exact h3 y hy hf
def Qxl(h:∀y∈scope.names,y.2= .free->∃c,env.cells.lookup y.1=some c):
  ∃cl,closureFor scope env=pure cl/\(∀x c,cl.lookup x=some c->env.cells.lookup x=some c)/\∀y∈scope.names,y.2= .free->∃c,cl.lookup y.1=some c:=by
 unfold closureFor;obtain⟨cl,e,h1,_,h3⟩:=Qmo env (λx cs=>match x with | (name,kind)=>if(kind == NameKind.free)=true then(do let c ← cellOf env name;pure (ForInStep.yield ((name,c)::cs)))else pure (ForInStep.yield cs)) (λ_ _ _=>rfl) scope.names [] h (λx c e=>by simp at e);refine⟨cl,?_,h1,λy hy hf=>Option.ne_none_iff_exists'.mp (h3 y hy hf)⟩;show(forIn scope.names [] _ >>= λr=>pure r)=_;rw[e];rfl
noncomputable def cxc(X:Cx)(N':List Str)(scope:Scope)(cl:List (Str×Addr))(C:Addr)(fp:LAd)(s3:Shared)(H3:Hp):Cx:=
 {X with N:=N',s₀:=s3,H₀:=H3,env:=compEnvC scope cl C X.env,outer:=X.stack,ex:=fp,fn:=λx=>decide (scope.names.lookup x=some .cell),pn:=[],xe:=λ_ _=>False}
def PTs(X:Cx)(ifs:List Expr)(t:TT):Prop:=
 ∀(pins:List (Addr×Obj)) (s:Shared) (σ:St) (H:Hp) (Q:Bool->Hp->Prop),Inv X pins σ H s->t σ H Q→
  wpAny (model X.prog X.w) X.A (forIn ifs true λc r=>if r=true then do let ok ← isTrue c X.env (eval c X.env);pure (ForInStep.yield ok)else pure (ForInStep.yield r)) (TP X pins σ Q) X.xe s
noncomputable def QCY:TT:=λ_ H Q=>Q true H
def Qyx:PTs X [] QCY:=λ_ _ _ H _ I h=>wpAny_tests_nil ⟨H,I,h⟩
def QyN(h:PT X c t):PTs X [c] t:=λpins s σ H Q I q=>wpAny_tests_one (h pins s σ H Q I q)
def QlF(X:Cx)(N':List Str)(scope:Scope)(σ σ':St):Prop:=
 σ'.length=N'.length/\∀(j:Nat) (x:Str) (v:V),N'[j]? =some x->σ'[j]? =some (some v)->scope.names.lookup x=some .free/\∃i:Nat,X.N[i]? =some x/\σ[i]? =some (some v)/\(X.env.kindOf x=some .cell∨X.env.kindOf x=some .free)
noncomputable def QnK(wi:TI)(cap:St->St->Prop)(g:TG)(tc:TT)(te:TE):TE:=λσ H Q=>wi σ H λJ H1=>∃σc,cap σ σc/\∀D,H1 D=none->∃W:Nat->Nat->List V->Hp->Prop,
 (∃m,W 0 m [] (upd H1 D (.lst [])))/\∀i m acc H2,W i m acc H2->(J.stop i H2/\Q (.ref D) H2)∨
  (J.go i H2/\∀x H3,J.yld i H2 x H3->g x σc H3 λσ2 H4=>(∀(j:Nat) v,σc[j]? =some (some v)->σ2[j]? =some (some v))/\tc σ2 H4 λb H5=>if b=true then
   te σ2 H5 λy H6=>H6 D=some (.lst acc)/\acc.length<sizeLine/\∃m',m'<m/\W (i+1) m' (acc++[y]) (upd H6 D (.lst (acc++[y])))
   else ∃m',m'<m/\W (i+1) m' acc H5)
def Qc3{env:Env}:∀{names:List (Str×NameKind)}{x:Str},names.lookup x=some .free→
  (names.map λ(n,k)=>if(k == NameKind.free && env.scope.kind == .function && env.kindOf n == some .cell)then(n,NameKind.cell)else(n,k)).lookup x=some .cell∨
  (names.map λ(n,k)=>if(k == NameKind.free && env.scope.kind == .function && env.kindOf n == some .cell)then(n,NameKind.cell)else(n,k)).lookup x=some .free
 | [],_,h=>by simp at h
 | (n,k)::r,x,h=>by
  have ih:= @Qc3 env r x;rw[Zv];cases hx:x == n with
  | true=>
   simp only[ZD,hx]at h;cases h;dsimp only;split
   .left;simp[ZD,hx]
   .right;simp[ZD,hx]
  | false=>
   simp only[ZD,hx]at h;dsimp only;split
   .simp only[ZD,hx];exact ih h
   .simp only[ZD,hx];exact ih h
def Qfd{env:Env}:∀{names:List (Str×NameKind)}{x:Str},
  ((names.map λ(n,k)=>if(k == NameKind.free && env.scope.kind == .function && env.kindOf n == some .cell)then(n,NameKind.cell)else(n,k)).lookup x=some .cell∨
  (names.map λ(n,k)=>if(k == NameKind.free && env.scope.kind == .function && env.kindOf n == some .cell)then(n,NameKind.cell)else(n,k)).lookup x=some .free)→
  ∃k,(x,k)∈names/\(k= .free∨k= .cell)
 | [],_,h=>by simp at h
 | (n,k)::r,x,h=>by
  have ih:= @Qfd env r x;rw[Zv]at h;cases hx:x == n with
  | true=>
   have hn:x=n:=by simpa using hx
   subst hn;dsimp only at h;split at h
   .rename_i hc;simp only[Zp]at hc;refine⟨k,Zi,.inl (by simpa using hc.1.1)⟩
   .simp only[ZD,hx]at h;refine⟨k,Zi,?_⟩;rcases h with h | h
    .exact .inr (Option.some.inj h)
    .exact .inl (Option.some.inj h)
  | false=>
   dsimp only at h;have:∃k,(x,k)∈r/\(k= .free∨k= .cell):=by
    apply ih;split at h
    .simpa only[ZD,hx]using h
    .simpa only[ZD,hx]using h
   obtain⟨k',h1,h2⟩:=this;exact⟨k',Zb _ h1,h2⟩
def QgX:∀(names:List (Str×NameKind)) (n:Nat) (acc:List (Str×Addr)) (x:Str) (c:Addr),(cellsFrom n names acc).lookup x=some c->acc.lookup x=some c∨(n<=c/\(x,NameKind.cell)∈names)
 | [],_,_,_,_,h=> .inl h
 | (nm,k)::r,n,acc,x,c,h=>by
  unfold cellsFrom at h;split at h
  .rename_i hk;have hk:k= .cell:=by simpa using hk
   rcases QgX r (n+1) ((nm,n)::acc) x c h with h | ⟨h1,h2⟩
   .rw[ZD]at h;cases q:x == nm with
    | true=>
     rw[q]at h;cases h;have:x=nm:=by simpa using q
     exact .inr ⟨Zs _,by rw[this,hk];exact Zi⟩
    | false=>rw[q]at h;exact .inl h
   .exact .inr ⟨⋯,Zb _ h2⟩
  .rcases QgX r n acc x c h with h | ⟨h1,h2⟩
   .exact .inl h
   .exact .inr ⟨h1,Zb _ h2⟩
def QpI:∀(names:List (Str×NameKind)) (n:Nat) (acc:List (Str×Addr)) (x:Str) (c:Addr),(x,NameKind.cell)∈names->(cellsFrom n names acc).lookup x=some c->n<=c
 | (nm,k)::r,n,acc,x,c,hm,h=>by
  unfold cellsFrom at h;split at h
  .by_cases hr:(x,NameKind.cell)∈r
   .have:=QpI r (n+1) _ x c hr h;omega
   .have hx:x=nm:=by
     rcases Zk.mp hm with e | e
     .exact(Prod.mk.inj e).1
     .exact absurd e hr
    rcases QgX r (n+1) ((nm,n)::acc) x c h with h | ⟨h1,_⟩
    .rw[ZD,show(x == nm)=true by simpa using hx]at h;cases h;exact Zs _
    .omega
  .rename_i hk;rcases Zk.mp hm with e | e
   .exact absurd (by rw[← (Prod.mk.inj e).2];rfl) hk
   .exact QpI r n acc x c e h
def Qpg:∀(names:List (Str×NameKind)) (n:Nat) (acc:List (Str×Addr)),(∀x y c,acc.lookup x=some c->acc.lookup y=some c->x=y)->(∀x c,acc.lookup x=some c->c<n)→
  ∀x y c,(cellsFrom n names acc).lookup x=some c->(cellsFrom n names acc).lookup y=some c->x=y
 | [],_,_,hi,_,x,y,c,h1,h2=>hi x y c h1 h2
 | (nm,k)::r,n,acc,hi,hb,x,y,c,h1,h2=>by
  unfold cellsFrom at h1 h2;split at h1
  .rename_i hk;rw[if_pos hk]at h2;refine Qpg r (n+1) ((nm,n)::acc) (λx y c h1 h2=>?_) (λx c h=>?_) x y c h1 h2
   .rw[ZD]at h1 h2;cases qx:x == nm with
    | true=>
     rw[qx]at h1;cases h1;cases qy:y == nm with
     | true=>rw[show x=nm by simpa using qx,show y=nm by simpa using qy]
     | false=>rw[qy]at h2;exact absurd (hb y _ h2) (ZV _)
    | false=>
     rw[qx]at h1;cases qy:y == nm with
     | true=>rw[qy]at h2;cases h2;exact absurd (hb x _ h1) (ZV _)
     | false=>rw[qy]at h2;exact hi x y c h1 h2
   .rw[ZD]at h;cases qx:x == nm with
    | true=>rw[qx]at h;cases h;exact ZaX _
    | false=>rw[qx]at h;exact Zai (hb x c h)
  .rename_i hk;rw[if_neg hk]at h2;exact Qpg r n acc hi hb x y c h1 h2
def Qg1:∀(names:List (Str×NameKind)) (n:Nat) (acc:List (Str×Addr)) (x:Str),(∃c,acc.lookup x=some c)->∃c,(cellsFrom n names acc).lookup x=some c
 | [],_,_,_,h=>h
 | (nm,k)::r,n,acc,x,h=>by
  unfold cellsFrom;split
  .refine Qg1 r (n+1) _ x ?_;rw[ZD];cases x == nm with
   | true=>exact⟨n,rfl⟩
   | false=>exact h
  .exact Qg1 r n acc x h
def Qn7:∀(names:List (Str×NameKind)) (n:Nat) (acc:List (Str×Addr)) (x:Str),(x,NameKind.cell)∈names->∃c,(cellsFrom n names acc).lookup x=some c
 | (nm,k)::r,n,acc,x,hm=>by
  unfold cellsFrom;rcases Zk.mp hm with e | e
  .obtain⟨e1,e2⟩:=Prod.mk.inj e;subst e1;rw[← e2,if_pos (by rfl)];exact Qg1 r (n+1) _ x ⟨n,by simp[ZD]⟩
  .split
   .exact Qn7 r (n+1) _ x e
   .exact Qn7 r n acc x e
def Qmm(lo:Nat):∀(names:List (Str×NameKind)) (h:Heap) (acc:List (Str×Addr)),(∀x c,acc.lookup x=some c->lo<=c->h.IsCell c none)->lo<=h.objs.size→
  ∀x c,(cellsFrom h.objs.size names acc).lookup x=some c->lo<=c->(pushCells h names).IsCell c none
 | [],_,_,ha,_,x,c,e,hl=>ha x c e hl
 | (nm,k)::r,h,acc,ha,hlo,x,c,e,hl=>by
  unfold cellsFrom at e;unfold pushCells;split at e
  .rename_i hk;rw[if_pos hk];have hs:=Zav h {cls:= .type "cell",data:= .cell none};refine Qmm lo r (h.push {cls:= .type "cell",data:= .cell none}) ((nm,h.objs.size)::acc) (λx c e hl=>?_) (by rw[hs];omega) x c (by rw[hs];exact e) hl;rw[ZD]at e;cases q:x == nm with
   | true=>rw[q]at e;cases e;exact⟨_,ZG _ rfl,rfl⟩
   | false=>rw[q]at e;exact(ha x c e hl).keeps λb o e=>Zn _ e
  .rename_i hk;rw[if_neg hk];exact Qmm lo r h acc ha hlo x c e hl
def QrV
  (hQ:∀h':Heap,h'.Ns s.heap.objs.size (λ_=>none)->(∀b o,s.heap.get? b=some o->h'.get? b=some o)->((∀x c,cl.lookup x=some c->c<s.heap.objs.size)->∀x c,(cellsFrom (s.heap.objs.size+1) scope.names cl).lookup x=some c->s.heap.objs.size+1<=c->h'.IsCell c none)→
   Q (newEnv scope s.heap.objs.size globals (cellsFrom (s.heap.objs.size+1) scope.names cl) qual none .none (some env) builtins) {s with heap:=h'}):
  wpAny M A (newFunctionEnv scope globals cl [] qual none .none (some env) builtins) Q E s:=by
 simp only[newFunctionEnv,Option.isSome_some,if_true];refine wpAny_bind (wpAny_alloc ?_);refine wpAny_bind (wpAny_layCells _ (λname kind cells=>by cases hkc:kind == NameKind.cell<;>simp[hkc]) _ _ _ _ ?_);have hs:=Zav s.heap {cls:= .type "dict",data:= .dict #[]};rw[show({s with heap:=s.heap.push {cls:= .type "dict",data:= .dict #[]}}:Shared).heap.objs.size=s.heap.objs.size+1 from hs];refine wpAny_bind (wpAny_pure (wpAny_pure ?_));refine hQ _ ((Heap.Ns.new s.heap (.type "dict")).keeps (pushCells_keeps _ _)) (λb o e=>pushCells_keeps _ _ b o (Zn _ e)) λhb x c e hl=>?_;refine Qmm (s.heap.objs.size+1) scope.names (s.heap.push {cls:= .type "dict",data:= .dict #[]}) cl (λx c e hl=>?_) (by rw[hs];exact Zs _) x c (by rw[hs];exact e) hl;exact absurd (Zz (hb x c e) (ZN (ZaE _) hl)) (ZV _)
section
variable {X:Cx}{tg iter elt:Expr}{ifs:List Expr}{scope:Scope}{N':List Str}{pos:Pos}
structure Qe9 (X:Cx) (N':List Str) (scope:Scope):Prop where
 kind:scope.kind= .function
 own:∀y∈scope.names,y.2= .cell->scope.names.lookup y.1=some .cell
 loc:∀y∈scope.names,y.2= .local ->scope.names.lookup y.1=some .local
 free:∀y∈scope.names,y.2= .free->X.env.kindOf y.1=some .cell∨X.env.kindOf y.1=some .free
def QvV{pins:List (Addr×Obj)}{σ σc:St}{H3:Hp}{s3:Shared}{fp:LAd}{cl:List (Str×Addr)}{h':Heap}{tk:Nat}(S:Qe9 X N' scope)(I:Inv X pins σ H3 s3)
  (hf:∀b∈fp,Qd1 X pins H3 b) (hfl:∀b∈fp,b<s3.heap.objs.size) (hc1:∀x c,cl.lookup x=some c->X.env.cells.lookup x=some c) (hc2:∀y∈scope.names,y.2= .free->∃c,cl.lookup y.1=some c) (cap:QlF X N' scope σ σc)
  (hns:h'.Ns s3.heap.objs.size (λ_=>none)) (hk:∀b o,s3.heap.get? b=some o->h'.get? b=some o)
  (hown:(∀x c,cl.lookup x=some c->c<s3.heap.objs.size)->∀x c,(cellsFrom (s3.heap.objs.size+1) scope.names cl).lookup x=some c->s3.heap.objs.size+1<=c->h'.IsCell c none):
  Inv (cxc X N' scope (cellsFrom (s3.heap.objs.size+1) scope.names cl) s3.heap.objs.size fp s3 H3) [] σc H3 {s3 with heap:=h',toks:=tk}:=by
 have nold:∀b,b∈fp->b≠s3.heap.objs.size:=λb hb e=>absurd (hfl b hb) (by rw[e];exact ZV _);have cellOld:∀x c,cl.lookup x=some c->∃v,s3.heap.IsCell c v:=λx c e=>I.cell x c (hc1 x c e);have cellLt:∀x c,cl.lookup x=some c->c<s3.heap.objs.size:=λx c e=>let ⟨v,q⟩:=cellOld x c e;q.lt;have cellNew:∀c v,s3.heap.IsCell c v->h'.IsCell c v:=λc v ⟨o,ho,hd⟩=>⟨o,hk c o ho,hd⟩;have hown:=hown cellLt;have look:∀x c,(cellsFrom (s3.heap.objs.size+1) scope.names cl).lookup x=some c->cl.lookup x=some c∨(s3.heap.objs.size+1<=c/\(x,NameKind.cell)∈scope.names):=QgX scope.names _ cl
 refine⟨⟨I.ok.mod,S.kind,I.ok.glob,I.ok.blt,Zs _,Qpg scope.names _ cl (λx y c h1 h2=>I.ok.inj x y c (hc1 x c h1) (hc1 y c h2)) (λx c e=>Zai (cellLt x c e)),λx hx=>?_,λx c e1 e2=>?_,I.ok.hd,I.ok.frames,.inl rfl,λb hb=>⟨nold b hb,λx c e=>?_⟩,
  I.bs,ZN I.ok.bsz I.sz,λb o e hb=>?_,λb hb hs=>?_,I.stack,I.Qmd⟩,rfl,I.bare,Un.kept hk,⟨_,hns,λj x v h1 h2 h3=>?_⟩,λx c e=>?_,I.hok.fresh (Zs _),λx c e=>?_,λp hp=>absurd (show p∈([]:List (Addr×Obj))from hp) ⋯,I.hok.kept hk,cap.1⟩
 .obtain⟨k,hm,hk'⟩:=Qfd hx;rcases hk' with rfl | rfl
  .exact Qg1 scope.names _ cl x (hc2 _ hm rfl)
  .exact Qn7 scope.names _ cl x hm
 .have e1:decide (scope.names.lookup x=some .cell)=true:=e1;have:=QpI scope.names _ cl x c (Zah (of_decide_eq_true e1)) e2;exact ZN (ZaE _) this
 .rcases look x c e with e | ⟨e,_⟩
  .exact(hf b hb).2.2.2.2.1 x c (hc1 x c e)
  .intro z;rw[z]at e;exact absurd (Zz (hfl b hb) (ZN (ZaE _) e)) (ZV _)
 .rcases(hf b hb).2.2.2.1 with z | z
  .exact I.ok.noex b o e z
  .exact absurd (Zz (Zr e) (ZN I.ok.bsz z)) (ZV _)
 .rcases Zk.mp (I.Qf4 b hs)with e | z
  .exact(hf b hb).2.1 e
  .exact(hf b hb).2.2.1 z
 .obtain⟨hl,i,e1,e2,e3⟩:=cap.2 j x v h1 h2;obtain⟨m,hn,look'⟩:=I.loc;obtain⟨u,r,l⟩:=look' i x v e1 e2 (e3.elim (λz=> .inr (.inl z)) λz=> .inr (.inr z));refine⟨u,r,.inr ⟨Qc3 hl,?_⟩⟩;rcases l with⟨k,_⟩ | ⟨_,c,ec,hcell⟩
  .rcases e3 with z | z<;>(rw[k]at z;cases z)
  .obtain⟨c',ec'⟩:=Qg1 scope.names (s3.heap.objs.size+1) cl x (hc2 (x,.free) (Zah hl) rfl);rcases look x c' ec' with q | ⟨_,q⟩
   .have:=hc1 x c' q;rw[ec]at this;cases this;exact⟨c,ec',cellNew c _ hcell⟩
   .have:=S.own _ q rfl;rw[hl]at this;cases this
 .rcases look x c e with q | ⟨q,_⟩
  .obtain⟨v,q⟩:=cellOld x c q;exact⟨v,cellNew c v q⟩
  .exact⟨none,hown x c e q⟩
 .rcases look x c e with q | ⟨q,_⟩
  .exact I.freeC x c (hc1 x c q)
  .exact I.hok.fresh ⋯
def Qtv(J:Nat->Shared->Prop)
  (turn:∀n s,J n s->wpAny (model prog w) A (pyNext it) (λr s1=>match r with
   | none=>R (.ok .next) s1
   | some v=>wpAny (model prog w) A (letOwnedTupleGo tg it v) (λ_ s2=>wpAny (model prog w) A (assign tg env v) (λ_ s3=>
     wpAny (model prog w) A (forIn ifs true λc r=>if r=true then do let ok ← isTrue c env (eval c env);pure (ForInStep.yield ok)else pure (ForInStep.yield r)) (λok s4=>
      if ok=true then wpAny (model prog w) A (eval elt env) (λx s5=>wpAny (model prog w) A (call (.builtin "list.append") [acc,x]) (λ_ s6=>∃m,m<n/\J m s6) (λ_ _=>False) s5) (λ_ _=>False) s4
      else ∃m,m<n/\J m s4) (λ_ _=>False) s3) (λ_ _=>False) s2) (λ_ _=>False) s1) (λ_ _=>False) s)
  (n:Nat) (h:J n s0):codeAny (model prog w) A (.compLoop (.ListComp elt [⟨tg,iter,ifs,0⟩] scope pos) 0 it acc env) R s0:=by
 have up:∀{α:Type}{t:Sem α}{Q:α->Shared->Prop}{E:Value->Shared->Prop}{s:Shared},wpAny (model prog w) A t Q (λ_ _=>False) s->wpAny (model prog w) A t Q E s:=λh=>wpAny_mono h (λ_ _ q=>q) λ_ _ f=>f.elim;refine codeAny_loop (by rfl) J (λk sk hk=>?_) n h;show wpAny (model prog w) A ((compTurn (.ListComp elt [⟨tg,iter,ifs,0⟩] scope pos) 0 it acc env).onRaise (λx=>do noteFrame x env;theTreesLotGoes x)) _ _ sk;refine wpAny_noted (up ?_);rw[compTurn_list];refine wpAny_bind (wpAny_standAt (wpAny_bind (thn (turn k sk hk) λr s1 h1=>?_)));cases r with
 | none=>exact wpAny_pure h1
 | some v=>
  refine wpAny_bind (thn h1 λ_ s2 h2=>wpAny_bind (thn h2 λ_ s3 h3=>wpAny_bind (thn h3 λok s4 h4=>?_)));cases ok with
  | false=>exact wpAny_pure ⟨rfl,h4⟩
  | true=>exact wpAny_bind (wpAny_bind (thn h4 λx s5 h5=>wpAny_bind (thn h5 λ_ s6 h6=>wpAny_pure (wpAny_pure ⟨rfl,h6⟩))))
def Qvk{it D C:Addr}{fp:LAd}{tn:Nat->Heap->Prop}{J:It}{cl:List (Str×Addr)}{s3 s4:Shared}{H3:Hp}{σc:St}{g:TG}{tc:TT}{te:TE}{Q:Hp->Prop}(hcalm:X.calm=true)
  (T:Turn X.prog X.w X.K tg J fp it tn)
  (hg:PG (cxc X N' scope cl C fp s3 H3) tg g) (ht:PTs (cxc X N' scope cl C fp s3 H3) ifs tc) (he:PE (cxc X N' scope cl C fp s3 H3) elt te)
  (I:Inv (cxc X N' scope cl C fp s3 H3) [] σc H3 s4) (st:tn 0 s4.heap) (ff:∀b∈fp,Qd1 (cxc X N' scope cl C fp s3 H3) [] H3 b)
  (W:Nat->Nat->List V->Hp->Prop) (hw:∃m,W 0 m [] H3)
  (turn:∀i m acc H2,W i m acc H2->(J.stop i H2/\Q H2)∨
   (J.go i H2/\∀x H5,J.yld i H2 x H5->g x σc H5 λσ2 H6=>(∀(j:Nat) v,σc[j]? =some (some v)->σ2[j]? =some (some v))/\tc σ2 H6 λb H7=>if b=true then
    te σ2 H7 λy H8=>H8 D=some (.lst acc)/\acc.length<sizeLine/\∃m',m'<m/\W (i+1) m' (acc++[y]) (upd H8 D (.lst (acc++[y])))
    else ∃m',m'<m/\W (i+1) m' acc H7))
  {R:Result->Shared->Prop}(hR:∀H' s',Inv (cxc X N' scope cl C fp s3 H3) [] σc H' s'->Q H'->R (.ok .next) s'):
  codeAny (model X.prog X.w) X.A (.compStart (.ListComp elt [⟨tg,iter,ifs,0⟩] scope pos) 0 (.ref it) (.ref D) (compEnvC scope cl C X.env)) R s4:=by
 obtain⟨m0,w0⟩:=hw;have stat:∀{H':Hp},(∀b∈fp,H' b=none)->∀b∈fp,Qd1 (cxc X N' scope cl C fp s3 H3) [] H' b:=λhn b hb=>⟨hn b hb,(ff b hb).2⟩;have loop:codeAny (model X.prog X.w) X.A (.compLoop (.ListComp elt [⟨tg,iter,ifs,0⟩] scope pos) 0 (.ref it) (.ref D) (compEnvC scope cl C X.env)) R s4:=by
  refine Qtv (λn s'=>∃i acc H',Inv (cxc X N' scope cl C fp s3 H3) [] σc H' s'/\tn i s'.heap/\(∀b∈fp,H' b=none)/\W i n acc H') ?_ m0 ⟨0,[],H3,I,st,λb hb=>(ff b hb).1,w0⟩;rintro n s5 ⟨i,acc,H5,I5,st5,fr5,w5⟩;rcases turn i n acc H5 w5 with⟨stop,q⟩ | ⟨go,step⟩
  .refine thn (T.done (cxc X N' scope cl C fp s3 H3) rfl rfl rfl hcalm i [] s5 σc H5 _ I5 (stat fr5) st5 stop) λr s6 Z=>?_;obtain⟨hr,I6⟩:=Z;subst hr;exact hR H5 s6 I6 q
  .refine thn (T.item (cxc X N' scope cl C fp s3 H3) rfl rfl rfl hcalm i [] s5 σc H5 _ I5 (stat fr5) st5 go) λr s6 Z=>?_;obtain⟨u,hr,h6⟩:=Z;subst hr;refine thn h6 λ_ s7 Z=>?_;obtain⟨x,H7,I7,r7,y7,st7,fr7⟩:=Z;have I7':=I7.pinned (stat fr7) (T.obj _ _ st7);refine thn (hg _ s7 σc H7 x u _ I7' r7 (step x H7 y7)) λ_ s8=>exJ λσ8 H8 I8 k8 q8=>?_;refine thn (ht _ s8 σ8 H8 _ I8 q8) λok s9 Z=>?_;obtain⟨H9,I9,q9⟩:=Z
   have again:∀{H':Hp}{s':Shared}{acc':List V},Inv (cxc X N' scope cl C fp s3 H3) ([]++Qif fp s7.heap) σ8 H' s'->(∃m',m'<n/\W (i+1) m' acc' H')→
     ∃m,m<n/\∃i acc H',Inv (cxc X N' scope cl C fp s3 H3) [] σc H' s'/\tn i s'.heap/\(∀b∈fp,H' b=none)/\W i m acc H':=λ{H' s' acc'} I' ⟨m',hm,w'⟩=>by
    have pin:∀b∈fp,∀o,s7.heap.get? b=some o->s'.heap.get? b=some o/\H' b=none:=λb hb o e=>by
     have z:=I'.pin (b,o) (Zg _ (Zg _ (QhT hb e)));exact⟨z.1,z.2.1⟩
    refine⟨m',hm,i+1,acc',H',?_,T.keep _ _ _ st7 λb hb o e=>(pin b hb o e).1,λb hb=>?_,w'⟩
    .exact I'.QhL.weak (I.len.trans I8.len.symm) k8
    .obtain⟨o,e,_⟩:=T.obj _ _ st7 b hb;exact(pin b hb o e).2
   cases ok with
   | false=>
    rw[if_neg Zam]at q9 ⊢;exact again I9 q9
   | true=>
    rw[if_pos rfl]at q9 ⊢;refine thn (he _ s9 σ8 H9 _ I9 q9) λyv s10 Z=>?_;obtain⟨y,H10,I10,r10,e10,l10,q10⟩:=Z;refine thn (Qm5 _ s10 σ8 H10 (.ref D) [y] (.ref D) [yv] (λv H11=>H11=upd H10 D (.lst (acc++[y]))) I10 rfl (.cons r10 .nil) ⟨D,acc,y,rfl,rfl,e10,l10,rfl⟩) λ_ s11 Z=>?_;obtain⟨_,H11,I11,_,e11⟩:=Z;subst e11;exact again I11 q10
 exact codeAny_compStart_list loop (T.self _ 0 _ _ _ st loop)
def Qpq{wi:TI}{g:TG}{tc:TT}{te:TE}{cp:Pos}{use:Option (Value->Sem Unit)}{pins:List (Addr×Obj)}{s:Shared}{σ:St}{H:Hp}{QV:Value->Shared->Prop}{Q:VK}(hcalm:X.calm=true)(S:Qe9 X N' scope)(hi:PI X tg iter wi)
  (hin:∀cl C fp s3 H3,PG (cxc X N' scope cl C fp s3 H3) tg g/\PTs (cxc X N' scope cl C fp s3 H3) ifs tc/\PE (cxc X N' scope cl C fp s3 H3) elt te)
  (hs:∀x,foldedSetIterable iter X.env x=pure x) (I:Inv X pins σ H s) (h:QnK wi (QlF X N' scope) g tc te σ H Q)
  (fin:∀(D C:Addr) (H':Hp) (s':Shared),Inv X pins σ H' s'->H' C=none->C≠X.env.locals->X.s₀.heap.objs.size<=C->(∀x c,X.env.cells.lookup x=some c->c≠C)->(∀p∈X.pn++pins,p.1≠C)->(∃m,s'.heap.Ns C m)->Q (.ref D) H'→
   compPost (model X.prog X.w) X.A X.xe use QV (.ref D) C (.ok .next) s'):
  wpAny (model X.prog X.w) X.A (comprehension (.ListComp elt [⟨tg,iter,ifs,0⟩] scope pos) scope X.env cp (newList []) false (eval iter X.env) use) QV X.xe s:=by
 obtain⟨cl,hcl,hc1,hc2⟩:=Qxl λy hy hf=>I.ok.has y.1 (S.free y hy hf);refine wpAny_comprehension_free rfl hs hcl S.kind S.loc ?_;refine thn (hi pins s σ H _ I h) λv s1 h1=>thn h1 λitv s2 h2=>?_;obtain⟨it,fp,tn,J,H2,e,I2,T,st2,f2,σc,cap,hw⟩:=h2;subst e;have hD0:H2 s2.heap.objs.size=none:=I2.hok.fresh (Zs _);obtain⟨W,hW0,turn⟩:=hw _ hD0;have fpl:∀b∈fp,b<s2.heap.objs.size:=λb hb=>let ⟨o,e,_⟩:=T.obj _ _ st2 b hb;Zr e;have hlist:∀D:Addr,D=s2.heap.objs.size->∃x,x=D:=λD _=>⟨D,rfl⟩;refine wpAny_newObj_type ?_
 have I3:Inv X pins σ (upd H2 s2.heap.objs.size (.lst [])) {s2 with heap:=s2.heap.push {cls:= .type "list",dict:=none,data:= .seq ([]:List Value).toArray}}:=
  I2.laid (t':=s2.toks) (λb o e=>Zn _ e) (Zs _) ⟨Zaa _,[],0,.nil,ZG _ rfl⟩
 generalize hs3:({s2 with heap:=s2.heap.push {cls:= .type "list",dict:=none,data:= .seq ([]:List Value).toArray}}:Shared)=s3 at I3;have hs3':s3.heap=s2.heap.push {cls:= .type "list",dict:=none,data:= .seq ([]:List Value).toArray}:=by rw[← hs3]
 have sz3:s3.heap.objs.size=s2.heap.objs.size+1:=by rw[hs3',Zav]
 have old3:∀b o,s2.heap.get? b=some o->s3.heap.get? b=some o:=λb o e=>by rw[hs3'];exact Zn _ e
 have f3:∀b∈fp,Qd1 X pins (upd H2 s2.heap.objs.size (.lst [])) b:=λb hb=>⟨by rw[QP (ZH (fpl b hb))];exact(f2 b hb).1,(f2 b hb).2⟩;have fpl3:∀b∈fp,b<s3.heap.objs.size:=λb hb=>by rw[sz3];exact Zai (fpl b hb)
 refine QrV (λh4 hns4' keep4 hown4=>?_);have I4:=QvV (tk:=s3.toks) S I3 f3 fpl3 hc1 hc2 cap hns4' keep4 hown4;have hout:∀H' s',Inv (cxc X N' scope (cellsFrom (s3.heap.objs.size+1) scope.names cl) s3.heap.objs.size fp s3 (upd H2 s2.heap.objs.size (.lst []))) [] σc H' s'->Inv X pins σ H' s':=λH' s' J'=>
  I3.QwL J'.os J'.base J'.hok J'.bare λb hb=>⟨(f3 b hb).2.2.2.1,(f3 b hb).2.1,(f3 b hb).2.2.2.2.1,(f3 b hb).2.2.2.2.2⟩
 obtain⟨hg,ht,he⟩:=hin (cellsFrom (s3.heap.objs.size+1) scope.names cl) s3.heap.objs.size fp s3 (upd H2 s2.heap.objs.size (.lst []));have fc:∀b∈fp,Qd1 (cxc X N' scope (cellsFrom (s3.heap.objs.size+1) scope.names cl) s3.heap.objs.size fp s3 (upd H2 s2.heap.objs.size (.lst []))) [] (upd H2 s2.heap.objs.size (.lst [])) b:=λb hb=>
  ⟨(f3 b hb).1,ZH (fpl3 b hb),λhs'=>(Zk.mp (I3.Qf4 b hs')).elim (f3 b hb).2.1 (f3 b hb).2.2.1,.inl hb,λx c e=>(by
   rcases QgX scope.names _ cl x c e with e | ⟨e,_⟩
   .exact(f3 b hb).2.2.2.2.1 x c (hc1 x c e)
   .intro z;rw[z]at e;exact absurd (Zz (fpl3 b hb) (ZN (ZaE _) e)) (ZV _)),λp hp=>absurd (show p∈([]:List (Addr×Obj))from hp) ⋯⟩
 have hC1:s3.heap.objs.size≠X.env.locals:=Ne.symm (ZH I3.lt);refine Qvk (W:=W) hcalm T hg ht he I4 (T.keep _ _ _ st2 λb hb o e=>keep4 b o (old3 b o e)) fc hW0 turn λH' s' J' q=>?_;have O:=hout H' s' J';refine fin _ _ H' s' O J'.free hC1 (ZN I3.sz (Zs _)) (λx c e z=>?_) (λp hp z=>?_) (let ⟨m,hn,_⟩:=J'.loc;⟨m,hn⟩) q
 .obtain⟨v,o,ho,_⟩:=I3.cell x c e;exact absurd (Zr ho) (by rw[z];exact ZV _)
 .exact absurd (Zr (I3.pin p hp).1) (by rw[z];exact ZV _)
def Inv.QwO(I:Inv X pins σ H s)(hs:Heap.SameBut C s.heap h')(hn:H C=none)(hL:C≠X.env.locals)(h1:X.s₀.heap.objs.size<=C)
  (h2:∀x c,X.env.cells.lookup x=some c->c≠C) (h3:∀p∈X.pn++pins,p.1≠C):Inv X pins σ H {s with heap:=h'}:=
 I.turned (t':=s.toks) (λb o hb e=>(hs.2 b hb).trans e) hn hL (.inr h1) h2 h3
def Qmj(hcalm:X.calm=true)(S:Qe9 X N' scope)(hi:PI X tg iter wi)
  (hin:∀cl C fp s3 H3,PG (cxc X N' scope cl C fp s3 H3) tg g/\PTs (cxc X N' scope cl C fp s3 H3) ifs tc/\PE (cxc X N' scope cl C fp s3 H3) elt te)
  (hs:∀x,foldedSetIterable iter X.env x=pure x:=by intro _;rfl):PE X (.ListComp elt [⟨tg,iter,ifs,0⟩] scope pos) (QnK wi (QlF X N' scope) g tc te):=by
 intro pins s σ H Q I h;rw[eval_ListComp];refine Qpq hcalm S hi hin hs I h λD C H' s' O h1 h2 h3 h4 h5 Z q=>?_;obtain⟨m,hm⟩:=Z;exact⟨m,hm,λh' hs'=>⟨.ref D,H',O.QwO hs' h1 h2 h3 h4 h5,rfl,q⟩⟩
def Qxd(hN:X.N.Nodup)(hx1:X.N[i]? =some x)(hx:Loc X.env.scope x)(hf:X.fn x=true∨X.env.scope.names.lookup x=some .local)(hcalm:X.calm=true)(S:Qe9 X N' scope)(hi:PI X tg iter wi)
  (hin:∀cl C fp s3 H3,PG (cxc X N' scope cl C fp s3 H3) tg g/\PTs (cxc X N' scope cl C fp s3 H3) ifs tc/\PE (cxc X N' scope cl C fp s3 H3) elt te)
  (hs:∀x,foldedSetIterable iter X.env x=pure x:=by intro _;rfl):
  PS X (.Assign [.Name x pos'] (.ListComp elt [⟨tg,iter,ifs,0⟩] scope pos) spos) (Qiq (QnK wi (QlF X N' scope) g tc te) (QhS i)):=by
 have hb:∃b,swapsWith (.ListComp elt [⟨tg,iter,ifs,0⟩] scope pos) (some (.Name x pos')) spos.line X.env=pure b:=⟨_,rfl⟩;obtain⟨b,hb⟩:=hb;cases b with
 | false=>exact Qhl hN hx1 hx (Qmj hcalm S hi hin hs) hb hf
 | true=>
  intro pins s σ H D I h;rw[exec_Assign_Name_used _ _ _ _ hb];refine wpAny_bind (wpAny_standAt (wpAny_bind ?_));show wpAny _ X.A (do let _ ← comprehension (.ListComp elt [⟨tg,iter,ifs,0⟩] scope pos) scope X.env _ (newList []) false (eval iter X.env) (some (assign (.Name x pos') X.env))) _ _ s;refine wpAny_bind (thn (Qpq hcalm S hi hin hs I h λDl C H' s' O h1 h2 h3 h4 h5 ⟨m,hm⟩ q=>?_) λ_ s' hq=>wpAny_pure (wpAny_pure hq));refine wpAny_assign_Name (Qnm O hN hx1 hx (v:= .ref Dl) rfl (λs2 I2 hsb=>?_) hf);obtain⟨a,sb,ha⟩:=hsb;have haC:C≠a:=by
   rcases ha with rfl | ha
   .exact h2
   .exact Ne.symm (h4 _ _ ha)
  exact⟨m,hm.sameBut sb haC,λh' hs'=>⟨_,H',I2.QwO hs' h1 h2 h3 h4 h5,q⟩⟩
end
section
def Inv.QwG{t':Nat}{ch:LAd}{T:Addr}{ts:List V}(I:Inv X pins σ H s)(hf:∀b∈ch,Qd1 X pins H b)(k:∀b o,b∉ch->s.heap.get? b=some o->h'.get? b=some o)(hp:∀b∈ch,∃o,h'.get? b=some o)
  (hT:s.heap.objs.size<=T) (hnew:ts.length<=sizeLine/\∃its:List Value,QB ts its/\IsTup h' T its.toArray):Inv X pins σ (upd H T (.tup ts)) {s with heap:=h',toks:=t'}:=by
 have hn:H T=none:=I.hok.fresh hT;have neT:∀b u,H b=some u->b≠T:=λb u e=>Qcl e hn;have nch:∀b u,H b=some u->b∉ch:=λb u e hb=>by rw[(hf b hb).1]at e;cases e
 have ltT:∀b o,s.heap.get? b=some o->b≠T:=λb o e=>ZH (Zz (Zr e) hT)
 refine I.step (g':=s.gens) (d':=s.drawn) (ch:=ch) (λb hb=>?_) (λb o _ _ hc e _=>k b o hc e) (λb o _ _ hc e _=>⟨o.slots,k b o hc e⟩) (λb o _ e n=>by rw[QP (ltT b o e)];exact n)
  (λb o hc e=>⟨o,k b o hc e⟩) (λb xs e=>by rw[QP (neT b _ e)];exact e) (λb o u e=>by rw[QP (neT b _ e)];exact e) (λb ps e=>⟨#[],by rw[QP (neT b _ e),e];simp⟩) (λm hm=>?_) (λb u e=>?_) I.bare
 .obtain⟨f0,f1,f2,f3,f4,f5⟩:=hf b hb;exact⟨f3,f1,f4,f5⟩
 .obtain⟨o,es,ep,ho,r⟩:=hm;exact⟨o,es,ep,k _ o (λz=>(hf _ z).2.1 rfl) ho,r⟩
 .by_cases hb:b=T
  .subst hb;rw[QaL]at e;cases e;exact hnew
  .rw[QP hb]at e;refine(I.hok b u e).QeG (λc v hc q=>k c v ?_ q) (λc q=>by rw[QP (neT c _ q)];exact q) λc xs q=>by rw[QP (neT c _ q)];exact q
   rcases hc with z | z
   .rw[z];exact nch b u e
   .exact nch c _ z
def Inv.turns{t':Nat}{ch:LAd}(I:Inv X pins σ H s)(hf:∀b∈ch,Qd1 X pins H b)(k:∀b o,b∉ch->s.heap.get? b=some o->h'.get? b=some o):Inv X pins σ H {s with heap:=h',toks:=t'}:=by
 have nch:∀b u,H b=some u->b∉ch:=λb u e hb=>by rw[(hf b hb).1]at e;cases e
 refine I.step (g':=s.gens) (d':=s.drawn) (ch:=ch) (λb hb=>?_) (λb o _ _ hc e _=>k b o hc e) (λb o _ _ hc e _=>⟨o.slots,k b o hc e⟩) (λb o _ e n=>n)
  (λb o hc e=>⟨o,k b o hc e⟩) (λb xs e=>e) (λb o u e=>e) (λb ps e=>⟨#[],by rw[e];simp⟩) (λm hm=>?_) (λb u e=>?_) I.bare
 .obtain⟨f0,f1,f2,f3,f4,f5⟩:=hf b hb;exact⟨f3,f1,f4,f5⟩
 .obtain⟨o,es,ep,ho,r⟩:=hm;exact⟨o,es,ep,k _ o (λz=>(hf _ z).2.1 rfl) ho,r⟩
 .refine(I.hok b u e).QeG (λc v hc q=>k c v ?_ q) (λc q=>q) λc xs q=>q;rcases hc with z | z
  .rw[z];exact nch b u e
  .exact nch c _ z
end
noncomputable def Ite(K:Fgg)(a:Addr):It:=
 ⟨λi H=>∃xs x,SqL K H a xs/\xs[i]? =some x,λi H v H'=>∃p x,v= .ref p/\H p=none/\H'=upd H p (.tup [.int i,x])/\∀xs,SqL K H a xs->xs[i]? =some x,λi H=>∃xs,SqL K H a xs/\xs.length<=i⟩
def mm0{a:Addr}{l:LAd}:a∈a::l:= .head _
def mm1{a b:Addr}{l:LAd}:a∈b::a::l:= .tail _ mm0
def mm2{a b c:Addr}{l:LAd}:a∈b::c::a::l:= .tail _ mm1
def mm3{a b c d:Addr}{l:LAd}:a∈b::c::d::a::l:= .tail _ mm2
def mm4{a b c d e:Addr}{l:LAd}:a∈b::c::d::e::a::l:= .tail _ mm3
def nmm{a b:Addr}{l:LAd}(hb:b∉l)(ha:a∈l):b≠a:=λe=>hb (e▸ha)
def fa1{p:Addr->Prop}{a:Addr}{l:LAd}(h:p a)(t:∀x∈l,p x):∀x∈a::l,p x:=List.forall_mem_cons.2 ⟨h,t⟩
def NL(h:Heap)(b:Addr):Prop:=∃o,h.get? b=some o/\o.cls≠ .type "list" /\∀v,o.data≠ .cell v
def NL.it{h:Heap}(q:h.IsListIter b l k):NL h b:=by
 obtain⟨o,ho,hc,hd⟩:=q;exact⟨o,ho,by rw[hc];simp,λv z=>by rw[hd]at z;cases z⟩
def NL.zip(hz:IsZip h z T1 T2 x):NL h z:=⟨_,hz,⋯,λv z=>by cases z⟩
def NL.tup{h:Heap}(q:h.get? b=some {cls:= .type "tuple",data:= .seq a}):NL h b:=⟨_,q,⋯,λv z=>by cases z⟩
def NL.obj(n:NL h b):∃o,h.get? b=some o/\∀v,o.data≠ .cell v:=let ⟨o,e,_,v⟩:=n;⟨o,e,v⟩
def NL.ex(n:NL h b):∃o,h.get? b=some o:=let ⟨o,e,_⟩:=n;⟨o,e⟩
def NL.lt(n:NL h b):b<h.objs.size:=let ⟨_,e⟩:=n.ex;Zr e
def NL.apart{X:Cx}{H:Hp}{s:Shared}(n:NL s.heap b)(I:Inv X pins σ H s)(hn:H b=none)(hq:SqL X.K H l ys):l≠b:=λe=>by
 subst e;rcases hq with(hq | ⟨_,hq⟩) | ⟨o',its,k,hk,hc',_⟩
 .rw[hn]at hq;cases hq
 .rw[hn]at hq;cases hq
 .obtain⟨o,ho,hc,_⟩:=n;rw[I.kIn l o' hk]at ho;exact hc (Option.some.inj ho▸hc')
def Qtj{P:Program}{w:World}{K:Fgg}{es:List Expr}{tk:Nat}{tpos:Pos}(a e it:Addr)(hne:e≠it):Turn P w K (.Tuple es tk tpos) (Ite K a) [e,it] e (λi h=>∃old,IsEnum h e it (i:Int) old/\h.IsListIter it a i) where
 mem:=mm0
 obj:=λi h st b hb=>by
  obtain⟨old,he,hi⟩:=st;exact(fa1 (p:=NL h) ⟨_,he,⋯,λv z=>by cases z⟩ (fa1 (.it hi) (List.forall_mem_nil _)) b hb).obj
 keep:=λi h h' st k=>by
  obtain⟨old,he,hi⟩:=st;exact⟨old,k e mm0 _ he,hi.at (k it mm1)⟩
 item:=by
  intro X hP hw hK hc i pins s σ H E I hf st hg;subst hP hw hK;obtain⟨old,he,hi⟩:=st;obtain⟨xs,x,hq,hx⟩:=hg;obtain⟨its,rv,p,hz⟩:=I.list hq;obtain⟨u,hu,ru⟩:=rv.get hx;refine wpAny_pyNext_enum_item he hi p.isList (x:=u) (by simpa using hu) hne λh1 heo hi1 ht1 hz1 hk1=>?_;refine⟨.ref s.heap.objs.size,rfl,wpAny_letOwnedTupleGo_enum heo λh2 he2 hs2=>?_⟩
  replace hs2:Heap.SameBut e h1 h2:=hs2
  have helt:e<s.heap.objs.size:=Zr he;have hilt:it<s.heap.objs.size:=by obtain⟨o,ho,_⟩:=hi;exact Zr ho
  have ht2:IsTup h2 s.heap.objs.size [Value.int i s.toks,u].toArray:=⟨_,(hs2.2 _ (Zby helt)).trans ht1,rfl,_,rfl⟩;have hi2:h2.IsListIter it a (i+1):=hi1.extBut hs2.extBut (Ne.symm hne);have kk:∀b o,b∉[e,it]->s.heap.get? b=some o->h2.get? b=some o:=λb o hb q=>by
   have h1:b≠e:=λz=>hb (by simp[z]);have h2:b≠it:=λz=>hb (by simp[z]);exact hs2.extBut b o h1 (hk1 b o h1 h2 q)
  refine⟨.ref s.heap.objs.size,upd H s.heap.objs.size (.tup [.int i,x]),I.QwG (t':=s.toks+1) hf kk (λb hb=>?_) (Zs _) ⟨by show 2<=sizeLine;decide,_,.cons ⟨_,rfl⟩ (.cons ru .nil),ht2⟩,rfl,
   ⟨_,x,rfl,I.hok.fresh (Zs _),rfl,λys hy=>by rw[I.Qhv hy hq];exact hx⟩,⟨u,?_,hi2⟩,λb hb=>?_⟩
  .have hb:b=e∨b=it:=by simpa using hb
   rcases hb with rfl | rfl
   .exact⟨_,he2⟩
   .obtain⟨o,ho,_⟩:=hi2;exact⟨o,ho⟩
  .have:((i+1:Nat):Int)=(i:Int)+1:=by push_cast;rfl
   rw[this];exact he2
  .have hb':b=e∨b=it:=by simpa using hb
   have:b≠s.heap.objs.size:=by
    rcases hb' with rfl | rfl
    .exact ZH helt
    .exact ZH hilt
   rw[QP this];exact(hf b hb).1
 done:=by
  intro X hP hw hK hc i pins s σ H E I hf st hg;subst hP hw hK;obtain⟨old,he,hi⟩:=st;obtain⟨xs,hq,hx⟩:=hg;obtain⟨its,rv,p,hz⟩:=I.list hq;have hl:=rv.length;refine wpAny_pyNext_enum_end (I.ok.hd hc) he hi p.isList (by simp;omega) λh1 eb=>⟨rfl,?_⟩;exact I.turns (t':=s.toks) hf λb o hb q=>eb b o (λz=>hb (by simp[z])) q
 self:=λ_ _ _ _ _ st h=>by
  obtain⟨old,he,hi⟩:=st;exact wpAny_pyIter_enum he h
section
noncomputable def QBU(K:Fgg)(ta:TA):TI:=λσ H R=>ta σ H λvs H1=>∃a,vs=[.ref a]/\(∃xs,SqL K H1 a xs)/\R (Ite K a) H1
def Qw4{a:Expr}{ta:TA}{p pos:Pos}{es:List Expr}{tk:Nat}{tpos:Pos}(hg:Gl X "enumerate")(hm:X.mg "enumerate" =none)(ha:PA X [a] ta)(hs:starEach [a] X.env=[(false,eval a X.env)]):
  PI X (.Tuple es tk tpos) (.Call (.Name "enumerate" p) [a] [] pos) (QBU X.K ta):=by
 intro pins s σ H R I h;refine Call_ (QcS I hg hm PyProof.Rows.boot_enumerate (Zac (thn (ha pos pins s σ H _ I h) λus s1 ⟨vs,H1,I1,r1,q1⟩=>?_) hs rfl));obtain⟨l,e,⟨xs,hq⟩,q⟩:=q1;subst e;obtain⟨u,rfl,ru⟩:=vals1 r1;cases ru;obtain⟨its,rv,pl,hz⟩:=I1.list hq;refine call_enumerate_list pl.isList λh2 he2 hi2 hz2 hk2=>?_;have I2:Inv X pins σ H1 {s1 with heap:=h2}:=I1.kept (t':=s1.toks) hk2;refine wpAny_pyIter_enum he2 ⟨_,[s1.heap.objs.size+1,s1.heap.objs.size],_,_,H1,rfl,I2,Qtj l _ _ (Nat.succ_ne_self _),⟨_,he2,hi2⟩,λb hb=>?_,q⟩;have hb:b=s1.heap.objs.size+1∨b=s1.heap.objs.size:=by simpa using hb
 have hle:s1.heap.objs.size<=b:=by rcases hb with rfl | rfl<;>omega
 exact I1.Qon hle (I1.hok.fresh hle)
end
noncomputable def Itz(K:Fgg)(a b:Addr):It:=
 ⟨λi H=>∃xs ys x y,SqL K H a xs/\SqL K H b ys/\xs[i]? =some x/\ys[i]? =some y,λi H v H'=>∃p x y,v= .ref p/\H p=none/\H'=upd H p (.tup [x,y])/\(∀xs,SqL K H a xs->xs[i]? =some x)/\∀ys,SqL K H b ys->ys[i]? =some y,
  λi H=>∃xs ys,SqL K H a xs/\SqL K H b ys/\(xs.length<=i∨ys.length<=i)⟩
structure Qqi (z TI TO i1 i2:Addr):Prop where
 a:TI≠z
 b:TO≠z
 c:i1≠z
 d:i2≠z
 e:TI≠TO
 f:TI≠i1
 g:TI≠i2
 h:TO≠i1
 i:TO≠i2
 j:i1≠i2
def Qlg{h:Heap}(hz:IsZip h z T1 T2 x)(hA:IsPair h T1 a b)(hB:IsPair h T2 c d)(h1:h.IsListIter i1 l1 k)(h2:h.IsListIter i2 l2 k):∀b∈[z,T1,T2,i1,i2],NL h b:=
 fa1 (.zip hz) (fa1 (.tup hA) (fa1 (.tup hB) (fa1 (.it h1) (fa1 (.it h2) λ_ h=>nomatch h))))
def Qsw{X:Cx}{s:Shared}(D:Qqi z T1 T2 i1 i2)(I:Inv X pins σ H s)(hf:∀b∈[z,T1,T2,i1,i2],Qd1 X pins H b)(O:∀b∈[z,T1,T2,i1,i2],NL s.heap b)(hq1:SqL X.K H l1 xs)(hq2:SqL X.K H l2 ys):ZipApart z T1 T2 i1 i2 l1 l2:=by
 have A1:=λb hb=>(O b hb).apart I (hf b hb).1 hq1;have A2:=λb hb=>(O b hb).apart I (hf b hb).1 hq2;exact⟨D.a,D.b,D.c,D.d,D.e,D.f,D.g,D.h,D.i,D.j,A1 z mm0,A1 T2 mm2,A1 i1 mm3,A1 i2 mm4,A2 z mm0,A2 T2 mm2,A2 i1 mm3,A2 i2 mm4⟩
def Qwg{P:Program}{w:World}{K:Fgg}{es:List Expr}{tk:Nat}{tpos:Pos}(l1 l2 z TI TO i1 i2:Addr)(D:Qqi z TI TO i1 i2):
  Turn P w K (.Tuple es tk tpos) (Itz K l1 l2) [z,TI,TO,i1,i2] z (λi h=>IsZip h z TI TO .none/\IsPair h TI (.ref i1) (.ref i2)/\(∃a b,IsPair h TO a b)/\h.IsListIter i1 l1 i/\h.IsListIter i2 l2 i) where
 mem:=mm0
 obj:=λi h st b hb=>by
  obtain⟨hz,hTI,⟨p,q,hTO⟩,h1,h2⟩:=st;exact(Qlg hz hTI hTO h1 h2 b hb).obj
 keep:=λi h h' st k=>by
  obtain⟨hz,hTI,⟨p,q,hTO⟩,h1,h2⟩:=st;exact⟨k z mm0 _ hz,k TI mm1 _ hTI,⟨p,q,k TO mm2 _ hTO⟩,h1.at (k i1 mm3),h2.at (k i2 mm4)⟩
 item:=by
  intro X hP hw hK hc i pins s σ H E I hf st hg;subst hP hw hK;obtain⟨hz,hTI,⟨a0,b0,hTO⟩,h1,h2⟩:=st;obtain⟨xs,ys,x,y,hq1,hq2,hx,hy⟩:=hg;obtain⟨its,rv,p,hzz⟩:=I.list hq1;obtain⟨its2,rv2,p2,hzz2⟩:=I.list hq2;obtain⟨u,hu,ru⟩:=rv.get hx;obtain⟨u2,hu2,ru2⟩:=rv2.get hy;have O:=Qlg hz hTI hTO h1 h2;refine wpAny_pyNext_zip_item (Qsw D I hf O hq1 hq2) hz hTI hTO h1 h2 p.isList p2.isList (x:=u) (y:=u2) (by simpa using hu) (by simpa using hu2) λh3 z3 TO3 a3 b3 T3 sz3 k3=>?_;refine⟨.ref s.heap.objs.size,rfl,wpAny_letOwnedTupleGo_zip z3 λh4 z4 hs4=>?_⟩
  replace hs4:Heap.SameBut z h3 h4:=hs4
  have kk:∀b o,b∉[z,TI,TO,i1,i2]->s.heap.get? b=some o->h4.get? b=some o:=λb o hb q=>
   hs4.extBut b o (nmm hb mm0) (k3 b o (nmm hb mm0) (nmm hb mm2) (nmm hb mm3) (nmm hb mm4) q)
  have TI4:IsPair h4 TI (.ref i1) (.ref i2):=hs4.extBut _ _ D.a (k3 _ _ D.a D.e D.f D.g hTI);have TO4:IsPair h4 TO u u2:=hs4.extBut _ _ D.b TO3;have a4:h4.IsListIter i1 l1 (i+1):=a3.extBut hs4.extBut D.c;have b4:h4.IsListIter i2 l2 (i+1):=b3.extBut hs4.extBut D.d
  exact⟨.ref s.heap.objs.size,upd H s.heap.objs.size (.tup [x,y]),I.QwG (t':=s.toks) hf kk (λb hb=>(Qlg z4 TI4 TO4 a4 b4 b hb).ex) (Zs _) ⟨by show 2<=sizeLine;decide,_,.cons ru (.cons ru2 .nil),_,(hs4.2 _ (Zby (O z mm0).lt)).trans T3,rfl,_,rfl⟩,rfl,
   ⟨_,x,y,rfl,I.hok.fresh (Zs _),rfl,λzs hy'=>by rw[I.Qhv hy' hq1];exact hx,λzs hy'=>by rw[I.Qhv hy' hq2];exact hy⟩,⟨z4,TI4,⟨_,_,TO4⟩,a4,b4⟩,λb hb=>by rw[QP (ZH (O b hb).lt)];exact(hf b hb).1⟩
 done:=by
  intro X hP hw hK hc i pins s σ H E I hf st hg;subst hP hw hK;obtain⟨hz,hTI,⟨a0,b0,hTO⟩,h1,h2⟩:=st;obtain⟨xs,ys,hq1,hq2,hx⟩:=hg;obtain⟨its,rv,p,hzz⟩:=I.list hq1;obtain⟨its2,rv2,p2,hzz2⟩:=I.list hq2;have hl:=rv.length;have hl2:=rv2.length;refine wpAny_pyNext_zip_end (I.ok.hd hc) (Qsw D I hf (Qlg hz hTI hTO h1 h2) hq1 hq2) hz hTI hTO h1 h2 p.isList p2.isList (by rcases hx with hx | hx;(left;simp;omega);(right;simp;omega)) λh3 k3=>⟨rfl,?_⟩;exact I.turns (t':=s.toks) hf λb o hb q=>k3 b o (nmm hb mm0) (nmm hb mm2) (nmm hb mm3) (nmm hb mm4) q
 self:=λ_ _ _ _ _ st h=>wpAny_pyIter_zip st.1 h
section
noncomputable def QDb(K:Fgg)(ta:TA):TI:=λσ H R=>ta σ H λvs H1=>∃a b,vs=[.ref a,.ref b]/\(∃xs,SqL K H1 a xs)/\(∃ys,SqL K H1 b ys)/\R (Itz K a b) H1
def QAy{a b:Expr}{ta:TA}{p pos:Pos}{es:List Expr}{tk:Nat}{tpos:Pos}(hg:Gl X "zip")(hm:X.mg "zip" =none)(ha:PA X [a,b] ta)(hs:starEach [a,b] X.env=[(false,eval a X.env),(false,eval b X.env)])(hs2:starEach [b] X.env=[(false,eval b X.env)]):
  PI X (.Tuple es tk tpos) (.Call (.Name "zip" p) [a,b] [] pos) (QDb X.K ta):=by
 intro pins s σ H R I h;refine Call_ (QcS I hg hm PyProof.Rows.boot_zip (Zac (thn (ha pos pins s σ H _ I h) λus s1 ⟨vs,H1,I1,r1,q1⟩=>?_) (by rw[hs,hs2]) (by rw[hs2];rfl)));obtain⟨l,l2,e,⟨xs,hq⟩,⟨ys,hq2⟩,q⟩:=q1;subst e;obtain⟨u,u2,rfl,ru,ru2⟩:=vals2 r1;cases ru;cases ru2;obtain⟨its,rv,pl,hz⟩:=I1.list hq;obtain⟨its2,rv2,pl2,hz2⟩:=I1.list hq2;refine call_zip_2 pl.isList pl2.isList λh2 hz hTI hTO h1 h2' hsz hk2=>?_;have I2:Inv X pins σ H1 {s1 with heap:=h2}:=I1.kept (t':=s1.toks) hk2;refine wpAny_pyIter_zip hz ⟨_,[s1.heap.objs.size+4,s1.heap.objs.size+2,s1.heap.objs.size+3,s1.heap.objs.size,s1.heap.objs.size+1],_,_,H1,rfl,I2,Qwg l l2 _ _ _ _ _ ⟨?_,?_,?_,?_,?_,?_,?_,?_,?_,?_⟩,⟨hz,hTI,⟨_,_,hTO⟩,h1,h2'⟩,λb hb=>?_,q⟩
 iterate 10 (exact(by intro e;first | (have e':(s1.heap.objs.size:Nat)+_=_:=e;omega) | (have e':(s1.heap.objs.size:Nat)=_:=e;omega)))
 have hle:s1.heap.objs.size<=b:=by
  simp only[Zk,Zcr,or_false]at hb;rcases hb with rfl | rfl | rfl | rfl | rfl<;>first | exact Zs _ | exact Nat.le_add_right _ _
 exact I1.Qon hle (I1.hok.fresh hle)
end
end L2
namespace L2
open PySem PySem.Spec
section
variable {prog:Program}{w:World}{A:Around}{E:Value->Shared->Prop}{s:Shared}
end
section
variable {prog:Program}{w:World}{A:Around}{E:Value->Shared->Prop}{s:Shared}
end
open PyProof.Rows
section
end
end L2
namespace HS
open PySem PySem.Spec PyProof.Rows L2
inductive D where
 | non | bl (b:Bool) | int (i:Int) | str (x:Str) | tup (xs:List D) | lst (xs:List D) | exc (x:Str)
mutual
noncomputable def D.flat:D->Bool
 | .lst _=>false
 | .tup xs=>Qar xs
 | .non=>true
 | .bl _=>true
 | .int _=>true
 | .str _=>true
 | .exc _=>true
noncomputable def Qar:List D->Bool
 | []=>true
 | d::ds=>d.flat && Qar ds
end
mutual
noncomputable def D.nl:D->Nat
 | .lst xs=>nls xs+1
 | .tup xs=>nls xs
 | .non=>0
 | .bl _=>0
 | .int _=>0
 | .str _=>0
 | .exc _=>0
noncomputable def nls:List D->Nat
 | []=>0
 | d::ds=>d.nl+nls ds
end
mutual
def Qey:∀(d:D),d.flat=true->d.nl=0
 | .non,_=>rfl
 | .bl _,_=>rfl
 | .int _,_=>rfl
 | .str _,_=>rfl
 | .exc _,_=>rfl
 | .tup xs,h=>by simp only[D.nl];simp only[D.flat]at h;exact QkK xs h
 | .lst xs,h=>by simp[D.flat]at h
def QkK:∀(ds:List D),Qar ds=true->nls ds=0
 | [],_=>rfl
 | d::ds,h=>by simp only[Qar,Zp]at h;simp only[nls,Qey d h.1,QkK ds h.2]
end
def Fix(K:Fgg)(H:Hp)(a:Addr)(vs:List V):Prop:=
 (∃o,H a=some (.frz o (.lst vs)))∨
  ∃(its:List Value) (n:Nat),K.lookup a=some {cls:= .type "list",data:= .seq its.toArray n}/\vs.length<=sizeLine/\QB vs its
def QdR(a C:Addr)(h:Heap):Prop:=∃o vs,h.get? a=some o/\o.cls= .ref C/\o.data= .fields vs
def ExcAt(K:Fgg)(H:Hp)(a:Addr)(x:Str):Prop:=∃C,PySem.W.nsIn K mainGlobals x=some (some (.ref C))/\H a=some (.ext (QdR a C))
def Qr8{K:Fgg}{H H':Hp}{a:Addr}{x:Str}(s:QU H H')(h:ExcAt K H a x):ExcAt K H' a x:=by
 obtain⟨C,h1,h2⟩:=h;exact⟨C,h1,s _ _ h2⟩
def Quu{K:Fgg}{H:Hp}{a p:Addr}{x:Str}{zs ys:List V}(hp:H p=some (.lst zs))(h:ExcAt K H a x):ExcAt K (upd H p (.lst ys)) a x:=by
 obtain⟨C,h1,h2⟩:=h;exact⟨C,h1,by rw[QP (QnR h2 hp (by intro z;cases z))];exact h2⟩
mutual
def Rp(K:Fgg)(H:Hp):D->V->List Addr->Prop
 | .non,v,F=>v= .non/\F=[]
 | .bl b,v,F=>v= .bl b/\F=[]
 | .int i,v,F=>v= .int i/\F=[]
 | .str x,v,F=>v= .str x/\F=[]
 | .exc x,v,F=>(∃a,v= .ref a/\ExcAt K H a x)/\F=[]
 | .tup ds,v,F=>∃a vs,v= .ref a/\SqT K H a vs/\Rps K H ds vs F
 | .lst ds,v,F=>ds.length<=sizeLine/\∃a vs,v= .ref a/\((∃G,F=a::G/\H a=some (.lst vs)/\Rps K H ds vs G)∨(Fix K H a vs/\Rps K H ds vs F))
def Rps(K:Fgg)(H:Hp):List D->List V->List Addr->Prop
 | [],vs,F=>vs=[]/\F=[]
 | d::ds,vs,F=>∃v ws F1 F2,vs=v::ws/\F=F1++F2/\Rp K H d v F1/\Rps K H ds ws F2
end
def QpF{K:Fgg}{H H':Hp}{a:Addr}{vs:List V}(s:QU H H')(h:SqT K H a vs):SqT K H' a vs:=by
 rcases h with(h | ⟨o,h⟩) | h
 .exact .inl (.inl (s _ _ h))
 .exact .inl (.inr ⟨o,s _ _ h⟩)
 .exact .inr h
def Qn4{K:Fgg}{H H':Hp}{a:Addr}{vs:List V}(s:QU H H')(h:Fix K H a vs):Fix K H' a vs:=by
 rcases h with⟨o,h⟩ | h
 .exact .inl ⟨o,s _ _ h⟩
 .exact .inr h
def Qqc{K:Fgg}{H:Hp}{a p:Addr}{vs zs ys:List V}(hp:H p=some (.lst zs))(h:SqT K H a vs):SqT K (upd H p (.lst ys)) a vs:=by
 rcases h with(h | ⟨o,h⟩) | h
 .exact .inl (.inl (by rw[QP (QnR h hp (by intro z;cases z))];exact h))
 .exact .inl (.inr ⟨o,by rw[QP (QnR h hp (by intro z;cases z))];exact h⟩)
 .exact .inr h
def QxH{K:Fgg}{H:Hp}{a p:Addr}{vs zs ys:List V}(hp:H p=some (.lst zs))(h:Fix K H a vs):Fix K (upd H p (.lst ys)) a vs:=by
 rcases h with⟨o,h⟩ | h
 .exact .inl ⟨o,by rw[QP (QnR h hp (by intro z;cases z))];exact h⟩
 .exact .inr h
section
variable {K:Fgg}{H H':Hp}
mutual
def Rp.same(s:QU H H'):∀{d:D}{v:V}{F:LAd},Rp K H d v F->Rp K H' d v F
 | .exc _,_,_,h=>by
  simp only[Rp]at h ⊢;obtain⟨⟨a,e,q⟩,z⟩:=h;exact⟨⟨a,e,Qr8 s q⟩,z⟩
 | .non,_,_,h=>h
 | .bl _,_,_,h=>h
 | .int _,_,_,h=>h
 | .str _,_,_,h=>h
 | .tup ds,_,_,h=>by
  simp only[Rp]at h ⊢;obtain⟨a,vs,e,q,r⟩:=h;exact⟨a,vs,e,QpF s q,Rps.same s r⟩
 | .lst ds,_,_,h=>by
  simp only[Rp]at h ⊢;obtain⟨hz,a,vs,e,⟨G,eF,q,r⟩ | ⟨q,r⟩⟩:=h
  .exact⟨hz,a,vs,e,.inl ⟨G,eF,s _ _ q,Rps.same s r⟩⟩
  .exact⟨hz,a,vs,e,.inr ⟨Qn4 s q,Rps.same s r⟩⟩
def Rps.same(s:QU H H'):∀{ds:List D}{vs:List V}{F:LAd},Rps K H ds vs F->Rps K H' ds vs F
 | [],_,_,h=>h
 | d::ds,_,_,h=>by
  simp only[Rps]at h ⊢;obtain⟨v,ws,F1,F2,e,eF,r,q⟩:=h;exact⟨v,ws,F1,F2,e,eF,Rp.same s r,Rps.same s q⟩
end
mutual
def Rp.upd{p:Addr}{zs ys:List V}(hp:H p=some (.lst zs)):∀{d:D}{v:V}{F:LAd},Rp K H d v F->p∉F->Rp K (upd H p (.lst ys)) d v F
 | .exc _,_,_,h,_=>by
  simp only[Rp]at h ⊢;obtain⟨⟨a,e,q⟩,z⟩:=h;exact⟨⟨a,e,Quu hp q⟩,z⟩
 | .non,_,_,h,_=>h
 | .bl _,_,_,h,_=>h
 | .int _,_,_,h,_=>h
 | .str _,_,_,h,_=>h
 | .tup ds,_,_,h,hn=>by
  simp only[Rp]at h ⊢;obtain⟨a,vs,e,q,r⟩:=h;exact⟨a,vs,e,Qqc hp q,Rps.upd hp r hn⟩
 | .lst ds,_,_,h,hn=>by
  simp only[Rp]at h ⊢;obtain⟨hz,a,vs,e,⟨G,eF,q,r⟩ | ⟨q,r⟩⟩:=h
  .subst eF;have h1:a≠p:=λz=>hn (by rw[z];exact Zi);exact⟨hz,a,vs,e,.inl ⟨G,rfl,by rw[QP h1];exact q,Rps.upd hp r λz=>hn (Zb _ z)⟩⟩
  .exact⟨hz,a,vs,e,.inr ⟨QxH hp q,Rps.upd hp r hn⟩⟩
def Rps.upd{p:Addr}{zs ys:List V}(hp:H p=some (.lst zs)):∀{ds:List D}{vs:List V}{F:LAd},Rps K H ds vs F->p∉F->Rps K (upd H p (.lst ys)) ds vs F
 | [],_,_,h,_=>h
 | d::ds,_,_,h,hn=>by
  simp only[Rps]at h ⊢;obtain⟨v,ws,F1,F2,e,eF,r,q⟩:=h;subst eF;exact⟨v,ws,F1,F2,e,rfl,Rp.upd hp r λz=>hn (Zd _ z),Rps.upd hp q λz=>hn (Zg _ z)⟩
end
mutual
def Rp.mem:∀{d:D}{v:V}{F:LAd},Rp K H d v F->∀a∈F,∃vs,H a=some (.lst vs)
 | .non,_,_,h,a,ha=>by simp only[Rp]at h;rw[h.2]at ha;simp at ha
 | .bl _,_,_,h,a,ha=>by simp only[Rp]at h;rw[h.2]at ha;simp at ha
 | .int _,_,_,h,a,ha=>by simp only[Rp]at h;rw[h.2]at ha;simp at ha
 | .str _,_,_,h,a,ha=>by simp only[Rp]at h;rw[h.2]at ha;simp at ha
 | .exc _,_,_,h,a,ha=>by simp only[Rp]at h;rw[h.2]at ha;simp at ha
 | .tup ds,_,_,h,a,ha=>by
  simp only[Rp]at h;obtain⟨_,vs,e,q,r⟩:=h;exact Rps.mem r a ha
 | .lst ds,_,_,h,a,ha=>by
  simp only[Rp]at h;obtain⟨_,b,vs,e,⟨G,eF,q,r⟩ | ⟨q,r⟩⟩:=h
  .subst eF;rcases Zk.mp ha with z | z
   .exact⟨vs,by rw[z];exact q⟩
   .exact Rps.mem r a z
  .exact Rps.mem r a ha
def Rps.mem:∀{ds:List D}{vs:List V}{F:LAd},Rps K H ds vs F->∀a∈F,∃vs,H a=some (.lst vs)
 | [],_,_,h,a,ha=>by simp only[Rps]at h;rw[h.2]at ha;simp at ha
 | d::ds,_,_,h,a,ha=>by
  simp only[Rps]at h;obtain⟨v,ws,F1,F2,e,eF,r,q⟩:=h;subst eF;rcases ZJ.mp ha with z | z
  .exact Rp.mem r a z
  .exact Rps.mem q a z
end
mutual
def Rp.Qc6:∀{d:D}{v:V}{F:LAd},Rp K H d v F->d.flat=true->F=[]
 | .non,_,_,h,_=>by simp only[Rp]at h;exact h.2
 | .bl _,_,_,h,_=>by simp only[Rp]at h;exact h.2
 | .int _,_,_,h,_=>by simp only[Rp]at h;exact h.2
 | .str _,_,_,h,_=>by simp only[Rp]at h;exact h.2
 | .exc _,_,_,h,_=>by simp only[Rp]at h;exact h.2
 | .tup ds,_,_,h,hf=>by
  simp only[Rp]at h;simp only[D.flat]at hf;obtain⟨_,vs,e,q,r⟩:=h;exact Rps.Qc6 r hf
 | .lst ds,_,_,h,hf=>by simp[D.flat]at hf
def Rps.Qc6:∀{ds:List D}{vs:List V}{F:LAd},Rps K H ds vs F->Qar ds=true->F=[]
 | [],_,_,h,_=>by simp only[Rps]at h;exact h.2
 | d::ds,_,_,h,hf=>by
  simp only[Rps]at h;simp only[Qar,Zp]at hf;obtain⟨v,ws,F1,F2,e,eF,r,q⟩:=h;rw[eF,Rp.Qc6 r hf.1,Rps.Qc6 q hf.2];rfl
end
mutual
def Rp.Qbf:∀{d:D}{v:V}{F:LAd},Rp K H d v F->F.length<=d.nl
 | .non,_,_,h=>by simp only[Rp]at h;rw[h.2];exact Zaa _
 | .bl _,_,_,h=>by simp only[Rp]at h;rw[h.2];exact Zaa _
 | .int _,_,_,h=>by simp only[Rp]at h;rw[h.2];exact Zaa _
 | .str _,_,_,h=>by simp only[Rp]at h;rw[h.2];exact Zaa _
 | .exc _,_,_,h=>by simp only[Rp]at h;rw[h.2];exact Zaa _
 | .tup ds,_,_,h=>by
  simp only[Rp]at h;obtain⟨_,vs,e,q,r⟩:=h;simp only[D.nl];exact Rps.Qbf r
 | .lst ds,_,_,h=>by
  simp only[Rp]at h;simp only[D.nl];obtain⟨_,b,vs,e,⟨G,eF,q,r⟩ | ⟨q,r⟩⟩:=h
  .rw[eF,Zy];have:=Rps.Qbf r;omega
  .have:=Rps.Qbf r;omega
def Rps.Qbf:∀{ds:List D}{vs:List V}{F:LAd},Rps K H ds vs F->F.length<=nls ds
 | [],_,_,h=>by simp only[Rps]at h;rw[h.2];exact Zaa _
 | d::ds,_,_,h=>by
  simp only[Rps]at h;obtain⟨v,ws,F1,F2,e,eF,r,q⟩:=h;simp only[nls];rw[eF,Zo];have:=Rp.Qbf r;have:=Rps.Qbf q;omega
end
def Rps.length:∀{ds:List D}{vs:List V}{F:LAd},Rps K H ds vs F->ds.length=vs.length
 | [],_,_,h=>by simp only[Rps]at h;rw[h.1];rfl
 | d::ds,_,_,h=>by
  simp only[Rps]at h;obtain⟨v,ws,F1,F2,e,eF,r,q⟩:=h;rw[e,Zy,Zy,Rps.length q]
def Rps.append:∀{ds es:List D}{vs ws:List V}{F G:LAd},Rps K H ds vs F->Rps K H es ws G->Rps K H (ds++es) (vs++ws) (F++G)
 | [],_,_,_,_,_,h,g=>by simp only[Rps]at h;rw[h.1,h.2];exact g
 | d::ds,_,_,_,_,_,h,g=>by
  simp only[Rps,Zcs]at h ⊢;obtain⟨v,ws,F1,F2,e,eF,r,q⟩:=h;subst e eF;exact⟨v,_,F1,_,rfl,by rw[ZaT],r,Rps.append q g⟩
def Rps.get:∀{ds:List D}{vs:List V}{F:LAd}{i:Nat}{d:D},Rps K H ds vs F->ds[i]? =some d->∃v F1 G F2,vs[i]? =some v/\F=F1++(G++F2)/\Rp K H d v G/\(F.length=nls ds->G.length=d.nl)
 | [],_,_,_,_,_,e=>by simp at e
 | d::ds,_,_,0,_,h,e=>by
  simp only[Rps]at h;obtain⟨v,ws,F1,F2,e1,eF,r,q⟩:=h;simp at e;subst e e1 eF;refine⟨v,[],F1,F2,⋯,rfl,r,λhl=>?_⟩;simp only[nls,Zo]at hl;have:=Rp.Qbf r;have:=Rps.Qbf q;omega
 | d::ds,_,_,i+1,_,h,e=>by
  simp only[Rps]at h;obtain⟨v,ws,F1,F2,e1,eF,r,q⟩:=h;obtain⟨v',G1,G,G2,h1,h2,h3,h4⟩:=Rps.get q (by simpa using e);have l1:=Rp.Qbf r;have l2:=Rps.Qbf q;subst e1 eF;refine⟨v',F1++G1,G,G2,by simpa using h1,by rw[h2,ZaT],h3,λhl=>h4 ?_⟩;simp only[nls,Zo]at hl;omega
def Fix.sq{K:Fgg}{H:Hp}{a:Addr}{vs:List V}(h:Fix K H a vs):SqL K H a vs:=by
 rcases h with⟨o,h⟩ | ⟨its,n,h,hz,r⟩
 .exact .inl (.inr ⟨o,h⟩)
 .exact .inr ⟨_,its.toArray,n,h,rfl,rfl,rfl,by rw[Zx,← r.length];exact hz,by simpa using r⟩
def _root_.L2.Inv.Qo5(I:Inv X pins σ H s)(h:H a=some (.lst vs)∨Fix X.K H a vs):
  vs.length<=sizeLine/\∃(its:List Value) (n:Nat),QB vs its/\vs.length=its.length/\s.heap.get? a=some {cls:= .type "list",data:= .seq its.toArray n}:=by
 rcases h with h | ⟨o,h⟩ | ⟨its,n,h,hz,r⟩
 .exact I.QzS h
 .obtain⟨e,hz,its,n,r,e2⟩:=I.hok a _ h;exact⟨hz,its,n,r,r.length,e2⟩
 .exact⟨hz,its,n,r,r.length,I.kIn _ _ h⟩
def Rp.lst_inv{K:Fgg}{H:Hp}{ds:List D}{v:V}{F:LAd}(h:Rp K H (.lst ds) v F):
  ∃a vs G,v= .ref a/\(H a=some (.lst vs)∨Fix K H a vs)/\Rps K H ds vs G/\ds.length<=sizeLine/\(F=a::G∨F=G):=by
 simp only[Rp]at h;obtain⟨hz,a,vs,e,⟨G,eF,q,r⟩ | ⟨q,r⟩⟩:=h
 .exact⟨a,vs,G,e,.inl q,r,hz,.inl eF⟩
 .exact⟨a,vs,F,e,.inr q,r,hz,.inr rfl⟩
def Qab{K:Fgg}{H:Hp}{a:Addr}{vs:List V}(h:H a=some (.lst vs)∨Fix K H a vs):SqL K H a vs:=h.elim (λh=>SqL.of h) Fix.sq
def Rp.Qba{K:Fgg}{H:Hp}{ds:List D}{v:V}{F:LAd}(h:Rp K H (.tup ds) v F):∃a vs,v= .ref a/\SqT K H a vs/\Rps K H ds vs F:=by
 simp only[Rp]at h;exact h
def Rp.Qe3{K:Fgg}{H:Hp}{ds:List D}{a:Addr}{vs:List V}{G:LAd}(h:H a=some (.lst vs))(r:Rps K H ds vs G)(hz:ds.length<=sizeLine):Rp K H (.lst ds) (.ref a) (a::G):=by
 simp only[Rp];exact⟨hz,a,vs,rfl,.inl ⟨G,rfl,h,r⟩⟩
def Rp.QoT{K:Fgg}{H:Hp}{ds:List D}{a:Addr}{vs:List V}{G:LAd}(h:H a=some (.tup vs))(r:Rps K H ds vs G):Rp K H (.tup ds) (.ref a) G:=by
 simp only[Rp];exact⟨a,vs,rfl,SqT.of h,r⟩
def Rp.int_inv{K:Fgg}{H:Hp}{i:Int}{v:V}{F:LAd}(h:Rp K H (.int i) v F):v= .int i:=by simp only[Rp]at h;exact h.1
def Rp.Qdj{K:Fgg}{H:Hp}{i:Bool}{v:V}{F:LAd}(h:Rp K H (.bl i) v F):v= .bl i:=by simp only[Rp]at h;exact h.1
def Rp.QfJ{K:Fgg}{H:Hp}{v:V}{F:LAd}(h:Rp K H .non v F):v= .non:=by simp only[Rp]at h;exact h.1
def Rp.str_inv{K:Fgg}{H:Hp}{i:Str}{v:V}{F:LAd}(h:Rp K H (.str i) v F):v= .str i:=by simp only[Rp]at h;exact h.1
def Rp.int_mk{K:Fgg}{H:Hp}{i:Int}:Rp K H (.int i) (.int i) []:=by simp[Rp]
def Rp.QbD{K:Fgg}{H:Hp}{i:Bool}:Rp K H (.bl i) (.bl i) []:=by simp[Rp]
def Rp.QlI{K:Fgg}{H:Hp}:Rp K H .non .non []:=by simp[Rp]
def Rp.str_mk{K:Fgg}{H:Hp}{i:Str}:Rp K H (.str i) (.str i) []:=by simp[Rp]
def Qdb(h:H p=none):QU H (L2.upd H p o):=λb u e=>by rw[QP (Qcl e h)];exact e
end
end HS
namespace HS
open PySem PySem.Spec L2
noncomputable abbrev En:=List (Option (D×Bool))
noncomputable abbrev slT(d:D):Option (D×Bool):=some (d,true)
noncomputable abbrev slF(d:D):Option (D×Bool):=some (d,false)
noncomputable abbrev slI(i:Int):Option (D×Bool):=some (.int i,true)
def nn{α:Type}{x:α}{C:Prop}(h:(none:Option α)=some x):C:=nomatch h
structure R where
 d:D
 fr:Bool
 M:List Nat
noncomputable abbrev reT(d:D):R:=⟨d,true,[]⟩
noncomputable abbrev reF(d:D):R:=⟨d,false,[]⟩
noncomputable abbrev reI(i:Int):R:=⟨.int i,true,[]⟩
structure RA where
 ds:List D
 fr:Bool
 M:List Nat
noncomputable abbrev DE:=En->Option R
noncomputable abbrev DA:=En->Option RA
noncomputable abbrev DT:=En->Option Bool
structure Rel (K:Fgg) (H0:Hp) (A0:LAd) (hs:List (V×D×List Addr)) (U:En) (F:Nat->List Addr) (σ:St) (H:Hp):Prop where
 len:U.length=σ.length
 val:∀(i:Nat) d b,U[i]? =some (some (d,b))->∃v,σ[i]? =some (some v)/\Rp K H d v (F i)
 own:∀(i:Nat) d,U[i]? =some (some (d,true))->(F i).length=d.nl/\(F i).Nodup/\(∀a∈F i,H0 a=none)/\(∀(j:Nat) d' b',j≠i->U[j]? =some (some (d',b'))->∀a∈F i,a∉F j)/\∀t∈hs,∀a∈F i,a∉t.2.2
 src:∀(i:Nat) d b,U[i]? =some (some (d,b))->∀a∈F i,H0 a=none∨a∈A0
 held:∀t∈hs,Rp K H t.2.1 t.1 t.2.2/\∀a∈t.2.2,H0 a=none∨a∈A0
 same:QU H0 H
def Src(U:En)(F:Nat->List Addr)(H:Hp)(M:List Nat)(G:LAd):Prop:=
 ∀a∈G,H a=none∨∃(i:Nat) (d:D) (b:Bool),U[i]? =some (some (d,b))/\a∈F i/\(b=true->i∈M)
noncomputable def nw(H:Hp)(a:Addr):Nat:=match H a with | none=>1 | some _=>0
def Cnt(F:Nat->List Addr)(H:Hp)(M:List Nat)(G:LAd):Prop:=
 ∀a,G.count a<=nw H a+((M.map F).flatten).count a
def Qby(U:En)(M:List Nat):Prop:=∀i∈M,∃d,U[i]? =some (some (d,true))
structure Qam (K:Fgg) (U:En) (F:Nat->List Addr) (H H':Hp) (r:R) (v:V) (G:LAd):Prop where
 same:QU H H'
 rp:Rp K H' r.d v G
 src:Src U F H r.M G
 cnt:r.fr=true->Cnt F H r.M G/\G.length=r.d.nl
 own:Qby U r.M
structure Qsj (K:Fgg) (U:En) (F:Nat->List Addr) (H H':Hp) (r:RA) (vs:List V) (G:LAd):Prop where
 same:QU H H'
 rp:Rps K H' r.ds vs G
 src:Src U F H r.M G
 cnt:r.fr=true->Cnt F H r.M G/\G.length=nls r.ds
 own:Qby U r.M
noncomputable def tV(K:Fgg)(H0:Hp)(A0:LAd)(f:DE):TE:=λσ H Q=>∃U hs F r,Rel K H0 A0 hs U F σ H/\f U=some r/\∀v H' G,Qam K U F H H' r v G->Q v H'
noncomputable def tVA(K:Fgg)(H0:Hp)(A0:LAd)(f:DA):TA:=λσ H Q=>∃U hs F r,Rel K H0 A0 hs U F σ H/\f U=some r/\∀v H' G,Qsj K U F H H' r v G->Q v H'
noncomputable def tVT(K:Fgg)(H0:Hp)(A0:LAd)(f:DT):TT:=λσ H Q=>∃U hs F b,Rel K H0 A0 hs U F σ H/\f U=some b/\∀H',QU H H'->Q b H'
def SE(X:Cx)(e:Expr)(f:DE):Prop:=∀H0 A0,PE X e (tV X.K H0 A0 f)
def SA(X:Cx)(es:List Expr)(f:DA):Prop:=∀H0 A0,PA X es (tVA X.K H0 A0 f)
def ST(X:Cx)(e:Expr)(f:DT):Prop:=∀H0 A0,PT X e (tVT X.K H0 A0 f)
def _root_.L2.PE.mono(h:PE X e t)(m:∀σ H Q,t' σ H Q->t σ H Q):PE X e t':=λpins s σ H Q I q=>h pins s σ H Q I (m σ H Q q)
def _root_.L2.PT.mono(h:PT X e t)(m:∀σ H Q,t' σ H Q->t σ H Q):PT X e t':=λpins s σ H Q I q=>h pins s σ H Q I (m σ H Q q)
def _root_.L2.PA.mono(h:PA X e t)(m:∀σ H Q,t' σ H Q->t σ H Q):PA X e t':=λpos pins s σ H Q I q=>h pos pins s σ H Q I (m σ H Q q)
section
def Rel.ext(r:Rel K H0 A0 hs U F σ H)(s:QU H H'):Rel K H0 A0 hs U F σ H' where
 len:=r.len
 val:=λi d b e=>let ⟨v,h1,h2⟩:=r.val i d b e;⟨v,h1,h2.same s⟩
 own:=r.own
 src:=r.src
 held:=λt ht=>⟨(r.held t ht).1.same s,(r.held t ht).2⟩
 same:=r.same.trans s
def Rel.mem(r:Rel K H0 A0 hs U F σ H)(e:U[i]? =some (some (d,b)))(h:a∈F i):∃vs,H a=some (.lst vs):=
 let ⟨_,_,h2⟩:=r.val i d b e;h2.mem a h
def Qep(h:H a=some o):nw H a=0:=by simp[nw,h]
def QbQ(h:H a=none):nw H a=1:=by simp[nw,h]
def Rel.fl0(r:Rel K H0 A0 hs U F σ H)(ow:Qby U M)(h:H a=none):((M.map F).flatten).count a=0:=by
 rw[Zae];intro hm;obtain⟨l,hl,ha⟩:=ZbL.mp hm;obtain⟨i,hi,rfl⟩:=ZI.mp hl;obtain⟨d,e⟩:=ow i hi;obtain⟨vs,q⟩:=r.mem e ha;rw[h]at q;cases q
def Cnt.append(r:Rel K H0 A0 hs U F σ H)(c1:Cnt F H M1 G1)(c2:Cnt F H1 M2 G2)(s:QU H H1)(m1:∀a∈G1,∃vs,H1 a=some (.lst vs)):Cnt F H (M1++M2) (G1++G2):=λa=>by
 rw[Zar,ZK,List.flatten_append,Zar];have h1:=c1 a;have h2:=c2 a;cases q:H1 a with
 | some o=>rw[Qep q]at h2;omega
 | none=>
  rw[QbQ q]at h2;have h3:H a=none:=s.free q;rw[QbQ h3]at h1 ⊢;have h4:G1.count a=0:=Zae.mpr λhm=>by obtain⟨vs,z⟩:=m1 a hm;rw[q]at z;cases z
  omega
def Src.append(c1:Src U F H M1 G1)(c2:Src U F H1 M2 G2)(s:QU H H1):Src U F H (M1++M2) (G1++G2):=λa ha=>by
 rcases ZJ.mp ha with h | h
 .rcases c1 a h with z | ⟨i,d,b,e,m,w⟩
  .exact .inl z
  .exact .inr ⟨i,d,b,e,m,λhb=>Zd _ (w hb)⟩
 .rcases c2 a h with z | ⟨i,d,b,e,m,w⟩
  .exact .inl (s.free z)
  .exact .inr ⟨i,d,b,e,m,λhb=>Zg _ (w hb)⟩
def Qby.append(h1:Qby U M1)(h2:Qby U M2):Qby U (M1++M2):=λi hi=>(ZJ.mp hi).elim (h1 i) (h2 i)
def Qby.nil:Qby U []:=λi hi=>by simp at hi
def Src.nil:Src U F H M []:=λa ha=>by simp at ha
def Cnt.nil:Cnt F H M []:=λa=>by simp
def Qam.flat(s:QU H H')(r:Rp K H' d v [])(hf:d.flat=true:=by rfl):Qam K U F H H' ⟨d,true,[]⟩ v []:=⟨s,r,Src.nil,λ_=>⟨Cnt.nil,(Qey d hf).symm⟩,Qby.nil⟩
def Qam.sub(p:Qam K U F H H1 r v G)(rp:Rp K H1 d u G')(hs:∀a,G'.count a<=G.count a)(hn:G.length=r.d.nl->G'.length=d.nl):Qam K U F H H1 ⟨d,r.fr,r.M⟩ u G' where
 same:=p.same
 rp:=rp
 src:=λa ha=>p.src a (by
  have:=hs a;have h1:0<G'.count a:=ZaC.mpr ha;exact ZaC.mp ⋯)
 cnt:=λh=>⟨λa=>ZN (hs a) ((p.cnt h).1 a),hn (p.cnt h).2⟩
 own:=p.own
noncomputable def R.norm(r:R):R:=if r.d.flat then⟨r.d,true,[]⟩else r
def R.Qdc(r:R):r.norm.d=r.d:=by unfold R.norm;split<;>rfl
def Qam.norm(p:Qam K U F H H' r v G):Qam K U F H H' r.norm v G:=by
 unfold R.norm;split
 .rename_i h;have:=p.rp.Qc6 h;subst this;exact .flat p.same p.rp h
 .exact p
end
noncomputable def Qh(i:Nat):DE:=λU=>match U[i]? with
 | some (some (d,b))=>if d.flat then some ⟨d,true,[]⟩else if b then some ⟨d,true,[i]⟩else some ⟨d,false,[]⟩
 | _=>none
noncomputable def dC(d:D):DE:=λ_=>some ⟨d,true,[]⟩
noncomputable abbrev vv0:DE:=Qh 0
noncomputable abbrev vv1:DE:=Qh 1
noncomputable abbrev vv2:DE:=Qh 2
noncomputable abbrev vv3:DE:=Qh 3
noncomputable abbrev vv4:DE:=Qh 4
noncomputable abbrev vv5:DE:=Qh 5
noncomputable abbrev vv6:DE:=Qh 6
noncomputable abbrev vv7:DE:=Qh 7
noncomputable abbrev vv8:DE:=Qh 8
noncomputable abbrev vv9:DE:=Qh 9
noncomputable abbrev kk0:DE:=dC (.int 0)
noncomputable abbrev kk1:DE:=dC (.int 1)
noncomputable abbrev kk2:DE:=dC (.int 2)
noncomputable abbrev kk3:DE:=dC (.int 3)
noncomputable abbrev kk4:DE:=dC (.int 4)
noncomputable abbrev kk5:DE:=dC (.int 5)
noncomputable abbrev kk6:DE:=dC (.int 6)
noncomputable abbrev kk7:DE:=dC (.int 7)
noncomputable abbrev kk8:DE:=dC (.int 8)
noncomputable abbrev kk9:DE:=dC (.int 9)
noncomputable abbrev QDo:DE:=dC (.int 10)
noncomputable abbrev QC2:DE:=dC (.int 11)
noncomputable abbrev QCz:DE:=dC (.int 17)
noncomputable abbrev QAz:DE:=dC (.int 26)
noncomputable abbrev QCM:DE:=dC (.int 34)
noncomputable abbrev QCX:DE:=dC (.int 35)
noncomputable abbrev QDj:DE:=dC (.int 36)
noncomputable abbrev QCI:DE:=dC (.int 37)
noncomputable abbrev QDn:DE:=dC (.int 40)
noncomputable abbrev QnN:DE:=dC (.int 300)
noncomputable abbrev QsB:DE:=dC (.int 1000)
noncomputable abbrev Qya:DE:=dC (.int 48271)
noncomputable abbrev Qqw:DE:=dC (.int 69621)
noncomputable abbrev Qt6:DE:=dC (.int 1000003)
noncomputable abbrev QoN:DE:=dC (.int 2147483629)
noncomputable abbrev Qi8:DE:=dC (.int 2147483647)
section
def QtT(h:PE X (.Name x pos) (Ql1 i)):SE X (.Name x pos) (Qh i):=λH0 A0=>h.mono λσ H Q=>exK λU hs F r rel e q=>by
 unfold Qh at e;split at e
 .rename_i d b q1;obtain⟨v,h1,h2⟩:=rel.val i d b q1;refine⟨v,h1,q v H (F i) ?_⟩;split at e
  .rename_i hf;cases e;have:=h2.Qc6 hf;rw[this]at h2 ⊢;exact .flat (QU.refl _) h2 hf
  .split at e
   .rename_i hb;cases e;subst hb;exact⟨QU.refl _,h2,λa ha=> .inr ⟨i,d,true,q1,ha,λ_=>⋯⟩,λ_=>⟨λa=>⋯,(rel.own i d q1).1⟩,λj hj=>by simp at hj;subst hj;exact⟨d,q1⟩⟩
   .rename_i hb;cases e;simp at hb;subst hb;exact⟨QU.refl _,h2,λa ha=> .inr ⟨i,d,false,q1,ha,λz=>by cases z⟩,λz=>(by cases z),Qby.nil⟩
 .cases e
def QkL(h:PE X e (tC v))(r:∀K H,Rp K H d v [])(hf:d.flat=true):SE X e (dC d):=λH0 A0=>h.mono λσ H Q=>exK λU hs F r' rel e q=>by
 cases e;exact q v H [] (.flat (QU.refl _) (r _ _) hf)
def two{K:Fgg}{H0:Hp}{A0:LAd}{fa fb:DE}{σ:St}{H:Hp}{hs:List (V×D×List Addr)}{U:En}{F:Nat->List Addr}{ra rb:R}{Rr:V->V->Hp->Prop}(rel:Rel K H0 A0 hs U F σ H)(ea:fa U=some ra)(eb:fb U=some rb)
  (k:∀x y H1 H2 G1 G2,Qam K U F H H1 ra x G1->Qam K U F H1 H2 rb y G2->Rr x y H2):tV K H0 A0 fa σ H λx H1=>tV K H0 A0 fb σ H1 λy H2=>Rr x y H2:=
 ⟨U,hs,F,ra,rel,ea,λx H1 G1 p1=>⟨U,hs,F,rb,rel.ext p1.same,eb,λy H2 G2 p2=>k x y H1 H2 G1 G2 p1 p2⟩⟩
noncomputable def dOp(g:D->D->Option D)(fa fb:DE):DE:=λU=>(fa U).bind λra=>(fb U).bind λrb=>(g ra.d rb.d).map λd=>⟨d,true,[]⟩
def QmE(e:dOp g fa fb U=some r):∃ra rb d,fa U=some ra/\fb U=some rb/\g ra.d rb.d=some d/\r=⟨d,true,[]⟩:=by
 unfold dOp at e;cases h1:fa U with
 | none=>rw[h1]at e;cases e
 | some ra=>
  cases h2:fb U with
  | none=>rw[h1,h2]at e;cases e
  | some rb=>
   rw[h1,h2]at e;cases h3:g ra.d rb.d with
   | none=>simp[h3]at e
   | some d=>simp[h3]at e;exact⟨ra,rb,d,rfl,rfl,h3,e.symm⟩
def QcF(K:Fgg)(g:D->D->Option D)(r:R2):Prop:=∀a b d,g a b=some d->d.flat=true/\∀H x y F G (Q:VK),Rp K H a x F->Rp K H b y G->(∀v,(∀H',Rp K H' d v [])->Q v H)->r x y H Q
def QnM(ho:OpR X (binaryOp op) r)(hg:QcF X.K g r)(ha:SE X a fa)(hb:SE X b fb):SE X (.BinOp a op b pos) (dOp g fa fb):=λH0 A0=>
 (Qrv ho (ha H0 A0) (hb H0 A0)).mono λσ H Q=>exK λU hs F r' rel e q=>by
  obtain⟨ra,rb,d,ea,eb,eg,rfl⟩:=QmE e;refine two rel ea eb λx y H1 H2 G1 G2 p1 p2=>(hg _ _ _ eg).2 H2 x y G1 G2 Q (p1.rp.same p2.same) p2.rp λv hv=>?_;exact q v H2 [] (.flat (p1.same.trans p2.same) (hv H2) (hg _ _ _ eg).1)
def Qzm(ho:OpR X (compareOp op) r)(hg:QcF X.K g r)(ha:SE X a fa)(hb:SE X b fb)(hm:behindInMarks op b=false):SE X (.Compare a [op] [b] pos) (dOp g fa fb):=λH0 A0=>
 (Qw8 ho (ha H0 A0) (hb H0 A0) hm).mono λσ H Q=>exK λU hs F r' rel e q=>by
  obtain⟨ra,rb,d,ea,eb,eg,rfl⟩:=QmE e;refine two rel ea eb λx y H1 H2 G1 G2 p1 p2=>(hg _ _ _ eg).2 H2 x y G1 G2 Q (p1.rp.same p2.same) p2.rp λv hv=>?_;exact q v H2 [] (.flat (p1.same.trans p2.same) (hv H2) (hg _ _ _ eg).1)
end
noncomputable def QgE(i j:Int):Int:=if 0<=j then i / j else i.fdiv j
noncomputable def Qim(i j:Int):Int:=if 0<=j then i % j else i.fmod j
def QqM(i j:Int):QgE i j=i.fdiv j:=by
 unfold QgE;split
 .rw[Int.fdiv_eq_ediv_of_nonneg _ (by assumption)]
 .rfl
def Qw5(i j:Int):Qim i j=i.fmod j:=by
 unfold Qim;split
 .rw[Int.fmod_eq_emod_of_nonneg _ (by assumption)]
 .rfl
noncomputable def Qec(i j:Int):Bool:=decide (i.natAbs<2^64) || decide (j.natAbs<2^64) || (decide (Builtin.Int.intBits i<=2^20) && decide (Builtin.Int.intBits j<=2^20))
noncomputable def QeV(j:Int):Bool:=decide (j≠0) && decide (j.natAbs<2^8000)
noncomputable def gI(f:Int->Int->Option D)(a b:D):Option D:=match a,b with
 | .int i,.int j=>f i j
 | _,_=>none
noncomputable def Qa6:=gI λi j=>some (.int (i-j))
noncomputable def QbV:=gI λi j=>if QeV j then some (.int (QgE i j))else none
noncomputable def QaC:=gI λi j=>if j≠0 then some (.int (Qim i j))else none
noncomputable def Qvx:=gI λi j=>if 0<=j/\j<=1000/\i.natAbs<2^200 then some (.int (i^j.toNat))else none
noncomputable def gLt:=gI λi j=>some (.bl (decide (i<j)))
noncomputable def gLe:=gI λi j=>some (.bl (decide (i<=j)))
noncomputable def gGt:=gI λi j=>some (.bl (decide (j<i)))
noncomputable def gGe:=gI λi j=>some (.bl (decide (j<=i)))
def QsO(h:gI f a b=some d):∃i j,a= .int i/\b= .int j/\f i j=some d:=by
 unfold gI at h;split at h
 .exact⟨_,_,rfl,rfl,h⟩
 .cases h
section
def Qhr(hf:∀i j d,f i j=some d->d.flat=true)(h:∀i j d,f i j=some d->∀H (Q:VK),(∀v,(∀H',Rp K H' d v [])->Q v H)->r (.int i) (.int j) H Q):QcF K (gI f) r:=λa b d e=>by
 obtain⟨i,j,rfl,rfl,ef⟩:=QsO e;refine⟨hf i j d ef,λH x y F G Q ha hb q=>?_⟩;rw[ha.int_inv,hb.int_inv];exact h i j d ef H Q q
def Qum:QcF K Qa6 (rI0 λi j=> .int (i-j)):=Qhr (λi j d e=>by cases e;rfl) λi j d e H Q q=>by cases e;exact⟨i,j,rfl,rfl,q _ λ_=> .int_mk⟩
def Qwc(h:Qec i j=true):IntMulOk i j:=by
 have small:∀k:Int,k.natAbs<2^64->Builtin.Int.intBits k<=64:=λk hk=>by
  unfold Builtin.Int.intBits;split
  .omega
  .rename_i h0;have h0':k.natAbs≠0:=λz=>by simp_all
   have:=(Nat.log2_lt h0').mpr hk;omega
 unfold Qec at h;simp only[Zbv,Zp,decide_eq_true_eq]at h;rcases h with(h | h) | ⟨h1,h2⟩
 .exact .of_left (small i h)
 .exact .of_right (small j h)
 .exact .of_bits h1 h2
def QyE:OpR X (binaryOp .Mult) (rI (λi j=>Qec i j=true) λi j=> .int (i*j)):=opI λ_ _ _ _ _ _ _ hc q=>PyProof.Rows.mul_int q (Qwc hc)
def Qxn:OpR X (binaryOp .FloorDiv) (rI (λi j=>QeV j=true) λi j=> .int (QgE i j)):=opI λi j _ _ _ _ _ hc q=>by
 unfold QeV at hc;simp only[Zp,decide_eq_true_eq]at hc;rw[QqM]at q;refine PyProof.Rows.floordiv_int hc.1 q (.inl (PyProof.noPylong_of_log2 ?_));have h0:j.natAbs≠0:= ⋯
 exact Nat.lt_trans ((Nat.log2_lt h0).mpr hc.2) ∅
def QxM:OpR X (binaryOp .Mod) (rI (λi j=>j≠0) λi j=> .int (Qim i j)):=opI λi j _ _ _ _ _ hc q=>by
 rw[Qw5]at q;exact PyProof.Rows.mod_int' hc q
def Qzr:QcF K QbV (rI (λi j=>QeV j=true) λi j=> .int (QgE i j)):=Qhr (λi j d e=>by split at e<;>cases e;rfl) λi j d e H Q q=>by
 split at e
 .cases e;exact⟨i,j,rfl,rfl,by assumption,q _ λ_=> .int_mk⟩
 .cases e
def QAY:QcF K QaC (rI (λi j=>j≠0) λi j=> .int (Qim i j)):=Qhr (λi j d e=>by split at e<;>cases e;rfl) λi j d e H Q q=>by
 split at e
 .cases e;exact⟨i,j,rfl,rfl,by assumption,q _ λ_=> .int_mk⟩
 .cases e
def Qys:OpR X (binaryOp .Pow) (rI (λi j=>0<=j/\j<=1000/\i.natAbs<2^200) λi j=> .int (i^j.toNat)):=opI λi j _ _ _ _ _ hc q=>by
 refine PyProof.Rows.pow_int hc.1 ?_ q;have hb:Builtin.Int.intBits i<=200:=by
  unfold Builtin.Int.intBits;split
  .omega
  .rename_i h0;have h0':i.natAbs≠0:=λz=>by simp_all
   have:=(Nat.log2_lt h0').mpr hc.2.2;omega
 have h1:((Builtin.Int.intBits i:Nat):Int)*j<=200*1000:=ZcC ⋯ hc.2.1 hc.1 ∅;omega
def QBb:QcF K Qvx (rI (λi j=>0<=j/\j<=1000/\i.natAbs<2^200) λi j=> .int (i^j.toNat)):=Qhr (λi j d e=>by split at e<;>cases e;rfl) λi j d e H Q q=>by
 split at e
 .rename_i h;cases e;exact⟨i,j,rfl,rfl,h,q _ λ_=> .int_mk⟩
 .cases e
def QB5:QcF K gLt (rI0 λi j=> .bl (decide (i<j))):=Qhr (λi j d e=>by cases e;rfl) λi j d e H Q q=>by cases e;exact⟨i,j,rfl,rfl,q _ λ_=> .QbD⟩
def QBP:QcF K gLe (rI0 λi j=> .bl (decide (i<=j))):=Qhr (λi j d e=>by cases e;rfl) λi j d e H Q q=>by cases e;exact⟨i,j,rfl,rfl,q _ λ_=> .QbD⟩
def QBA:QcF K gGt (rI0 λi j=> .bl (decide (j<i))):=Qhr (λi j d e=>by cases e;rfl) λi j d e H Q q=>by cases e;exact⟨i,j,rfl,rfl,q _ λ_=> .QbD⟩
def QCg:QcF K gGe (rI0 λi j=> .bl (decide (j<=i))):=Qhr (λi j d e=>by cases e;rfl) λi j d e H Q q=>by cases e;exact⟨i,j,rfl,rfl,q _ λ_=> .QbD⟩
end
def Qga:∀(xs ys:List D),Qar (xs++ys)=(Qar xs && Qar ys)
 | [],ys=>by simp[Qar]
 | x::xs,ys=>by simp[Qar,Qga xs ys,Bool.and_assoc]
noncomputable def Qaq(ds:List D)(M:List Nat):R:=if Qar ds then⟨.lst ds,true,[]⟩else⟨.lst ds,false,M⟩
section
variable {K:Fgg}{H0 H H':Hp}{A0:LAd}{hs:List (V×D×List Addr)}{U:En}{F:Nat->List Addr}{σ:L2.St}
def Qam.Qaq(s:QU H H1)(hp:H1 p=none)(r:Rps K H1 ds vs G)(hz:ds.length<=sizeLine)(src:Src U F H M G)(ow:Qby U M):
  Qam K U F H (upd H1 p (.lst vs)) (Qaq ds M) (.ref p) (p::G):=by
 have s2:QU H1 (upd H1 p (.lst vs)):=Qdb hp;have rp:Rp K (upd H1 p (.lst vs)) (.lst ds) (.ref p) (p::G):=Rp.Qe3 QaL (r.same s2) hz;have hH:H p=none:=s.free hp;unfold HS.Qaq;split
 .rename_i hf;have:=r.Qc6 hf;subst this;refine⟨s.trans s2,rp,λa ha=>?_,λ_=>⟨λa=>?_,by simp only[D.nl,QkK ds hf];rfl⟩,Qby.nil⟩
  .have:a=p:=by simpa using ha
   subst this;exact .inl hH
  .rw[List.count_singleton];split
   .rename_i e;have e':p=a:=by simpa using e
    subst e';rw[QbQ hH];omega
   .omega
 .refine⟨s.trans s2,rp,λa ha=>?_,λz=>(by cases z),ow⟩;rcases Zk.mp ha with rfl | h
  .exact .inl hH
  .exact src a h
end
noncomputable def QA(fa fb:DE):DE:=λU=>(fa U).bind λra=>(fb U).bind λrb=>match ra.d,rb.d with
 | .int i,.int j=>some ⟨.int (i+j),true,[]⟩
 | .lst xs,.lst ys=>if xs.length+ys.length<=sizeLine then some (Qaq (xs++ys) (ra.M++rb.M))else none
 | _,_=>none
noncomputable def QaE(fa fb:DE):DE:=λU=>(fa U).bind λra=>(fb U).bind λrb=>match ra.d,rb.d with
 | .int i,.int j=>if Qec i j then some ⟨.int (i*j),true,[]⟩else none
 | .lst xs,.int j=>if xs.length*j.toNat<=sizeLine/\ -(2^63)<=j/\j<2^63/\Qar xs=true then some ⟨.lst (List.replicate j.toNat xs).flatten,true,[]⟩else none
 | _,_=>none
def QrZ{fa fb:DE}{U:En}{k:R->R->Option R}{r:R}(e:((fa U).bind λra=>(fb U).bind λrb=>k ra rb)=some r):∃ra rb,fa U=some ra/\fb U=some rb/\k ra rb=some r:=by
 cases h1:fa U with
 | none=>rw[h1]at e;cases e
 | some ra=>
  cases h2:fb U with
  | none=>rw[h1,h2]at e;cases e
  | some rb=>rw[h1,h2]at e;exact⟨ra,rb,rfl,rfl,e⟩
def bind1{α β:Type}{x:Option α}{k:α->Option β}{r:β}(e:x.bind k=some r):∃a,x=some a/\k a=some r:=by
 cases x with
 | none=>cases e
 | some a=>exact⟨a,rfl,e⟩
section
noncomputable def QCk(K:Fgg):R2:=λx y H Q=>∃l c xs zs,x= .ref l/\y= .ref c/\(H l=some (.lst xs)∨Fix K H l xs)/\(H c=some (.lst zs)∨Fix K H c zs)/\xs.length+zs.length<=sizeLine/\∀p,H p=none->Q (.ref p) (upd H p (.lst (xs++zs)))
def mapR{α γ:Type}{x:Option α}{f:α->γ}{r:γ}{M:γ->Prop}(e:x.map f=some r)(g:∀a,x=some a->M (f a)):M r:=by
 obtain⟨a,h,rfl⟩:=Zf.mp e;exact g a h
def Ql{α β:Type}{x:Option α}{k:α->Option β}{r:β}{G:Prop}(e:x.bind k=some r)(g:∀a,x=some a->k a=some r->G):G:=let ⟨a,h1,h2⟩:=bind1 e;g a h1 h2
def Qyl:OpR X (binaryOp .Add) (QCk X.K):=by
 intro pins s σ H x y v u Q I rx ry h;obtain⟨l,c,xs,zs,rfl,rfl,hH,hB,hz,q⟩:=h;cases rx;cases ry;obtain⟨z,its,n,r,hl,e⟩:=I.Qo5 hH;obtain⟨z2,its2,n2,r2,hl2,e2⟩:=I.Qo5 hB;refine PySem.P.add_list e e2 ?_ (by rw[Zx,Zx];omega);have ea:its.toArray++its2.toArray=(its++its2).toArray:= ⋯
 rw[ea];exact⟨.ref _,_,I.QAk (t':=s.toks) (r.append r2) (by rw[Zo];omega),rfl,q _ I.fresh⟩
def QsZ(ha:SE X a fa)(hb:SE X b fb):SE X (.BinOp a .Add b pos) (QA fa fb):=λH0 A0=>
 (Qrv (QAE.or Qyl) (ha H0 A0) (hb H0 A0)).mono λσ H Q=>exK λU hs F r' rel e q=>by
  obtain⟨ra,rb,ea,eb,ek⟩:=QrZ e;refine two rel ea eb λx y H1 H2 G1 G2 p1 p2=>?_;have p1':=p1.rp.same p2.same;have p2':=p2.rp;have c1:=p1.src.append p2.src p1.same;have o1:=p1.own.append p2.own;revert ek;revert p1' p2';cases ra.d<;>cases rb.d<;>intro p1' p2' ek<;>first | (cases ek;done) | skip
  .cases ek;rw[p1'.int_inv,p2'.int_inv];exact .inl ⟨_,_,rfl,rfl,q _ H2 [] (.flat (p1.same.trans p2.same) .int_mk)⟩
  .rename_i xs ys;dsimp only at ek;split at ek
   .rename_i hz;cases ek;obtain⟨l,vs,L1,rfl,hl,rl,zl,el⟩:=p1'.lst_inv;obtain⟨c,ws,L2',rfl,hc,rc,zc,ec⟩:=p2'.lst_inv;have n1:=rl.length;have n2:=rc.length;refine .inr ⟨l,c,vs,ws,rfl,rfl,hl,hc,⋯,λp hp=>?_⟩;refine q _ _ (p::(L1++L2')) (Qam.Qaq (p1.same.trans p2.same) hp (rl.append rc) (by rw[Zo];exact hz) (λa ha=>c1 a ?_) o1);rcases ZJ.mp ha with h | h
    .refine Zd _ ?_;rcases el with rfl | rfl
     .exact Zb _ h
     .exact h
    .refine Zg _ ?_;rcases ec with rfl | rfl
     .exact Zb _ h
     .exact h
   .cases ek
noncomputable def QCl(K:Fgg):R2:=λx y H Q=>∃l k xs,x= .ref l/\y= .int k/\(H l=some (.lst xs)∨Fix K H l xs)/\ -(2^63)<=k/\k<2^63/\xs.length*k.toNat<=sizeLine∧
 ∀p,H p=none->Q (.ref p) (upd H p (.lst (List.replicate k.toNat xs).flatten))
def Qze:OpR X (binaryOp .Mult) (QCl X.K):=by
 intro pins s σ H x y v u Q I rx ry h;obtain⟨l,k,xs,rfl,rfl,hH,h1,h2,hz,q⟩:=h;cases rx;obtain⟨t,rfl⟩:=ry;obtain⟨z,its,n,r,hl,e⟩:=I.Qo5 hH;have hlen:its.toArray.size*k.toNat<=sizeLine:=by rw[Zx,← hl];exact hz
 have hcap:¬its.toArray.size*k.toNat>(2^63-1) / 8:=by
  have:(sizeLine:Nat)<=(2^63-1) / 8:= ∅
  omega
 have hfit:¬(!Builtin.List.listFitsIndex k)=true:=by
  rw[fitsIndex_both h1 h2];exact Zam
 have hlong:¬Builtin.List.listTooLong (its.toArray.size*k.toNat)=true:=by
  rw[Qwl hlen];exact Zam
 have hnew:List.foldl (λx1 x2=>x1++x2) #[] (List.replicate (if its.toArray.isEmpty=true then 0 else k.toNat) its.toArray)=(List.replicate k.toNat its).flatten.toArray:=by
  have f0:∀m:Nat,List.foldl (λx1 x2=>x1++x2) #[] (List.replicate m its.toArray)=(List.replicate m its).flatten.toArray:=λm=>by
   have:=foldl_rep its m [];rw[List.nil_append]at this;exact this
  rw[f0];cases its with
  | nil=>simp
  | cons a r'=>rw[if_neg ⋯]
 open PyProof.Rows in
 refine wpAny_binaryOp_repeat_ref ∅ ⟨_,e,rfl⟩ (λs'=>typeIs_int s' k t) noFill_list_mul F.fills_int_mul F.slot_int_rmul repeat_list F.slot_int_index.lookup
  (call_meets F.slot_int_rmul (typeIs_int s k t) F.entry_int_rmul (F.args_int_rmul_2 _ _) (int___rmul___int_list k t l its.toArray n)
   ⟨e,rfl,⟨_,e,rfl⟩,call_meets F.slot_list_mul ⟨_,e,rfl⟩ F.entry_list_mul (F.args_list_mul_2 _ _) (AutoListH.list___mul___list_int_3 l its.toArray n k t hfit hcap hlong) ⟨e,?_⟩⟩)
 rw[hnew];exact⟨.ref _,_,I.QAk (t':=s.toks) (r.rep k.toNat) (by rw[len_rep,Nat.mul_comm];exact hz),rfl,q _ I.fresh⟩
def QmX(h:Qar xs=true):∀n:Nat,Qar (List.replicate n xs).flatten=true
 | 0=>by simp[Qar]
 | n+1=>by rw[Zab,Zao,Qga,h,QmX h n];rfl
def Rps.rep(h:Rps K H ds vs []):∀n:Nat,Rps K H (List.replicate n ds).flatten (List.replicate n vs).flatten []
 | 0=>by simp[Rps]
 | n+1=>by rw[Zab,Zao,Zab,Zao];exact h.append (Rps.rep h n)
def Qz1(ha:SE X a fa)(hb:SE X b fb):SE X (.BinOp a .Mult b pos) (QaE fa fb):=λH0 A0=>
 (Qrv (QyE.or Qze) (ha H0 A0) (hb H0 A0)).mono λσ H Q=>exK λU hs F r' rel e q=>by
  obtain⟨ra,rb,ea,eb,ek⟩:=QrZ e;refine two rel ea eb λx y H1 H2 G1 G2 p1 p2=>?_;have p1':=p1.rp.same p2.same;have p2':=p2.rp;revert ek;revert p1' p2';cases ra.d<;>cases rb.d<;>intro p1' p2' ek<;>first | (cases ek;done) | skip
  .dsimp only at ek;split at ek
   .rename_i hm;cases ek;rw[p1'.int_inv,p2'.int_inv];exact .inl ⟨_,_,rfl,rfl,hm,q _ H2 [] (.flat (p1.same.trans p2.same) .int_mk)⟩
   .cases ek
  .rename_i xs j;dsimp only at ek;split at ek
   .rename_i hz;cases ek;obtain⟨hz1,hz2,hz3,hf⟩:=hz;obtain⟨l,vs,L1,rfl,hl,rl,zl,el⟩:=p1'.lst_inv;have n1:=rl.length;have e0:=rl.Qc6 hf;subst e0;rw[p2'.int_inv];refine .inr ⟨l,j,vs,rfl,rfl,hl,hz2,hz3,by rw[← n1];exact hz1,λp hp=>?_⟩;have w:HS.Qaq (List.replicate j.toNat xs).flatten []=⟨.lst (List.replicate j.toNat xs).flatten,true,[]⟩:=by
     unfold HS.Qaq;rw[if_pos (QmX hf _)]
    rw[← w]at q;exact q _ _ (p::[]) (Qam.Qaq (p1.same.trans p2.same) hp (rl.rep _) (by rw[len_rep,Nat.mul_comm];exact hz1) Src.nil Qby.nil)
   .cases ek
end
noncomputable def Qb:DA:=λ_=>some ⟨[],true,[]⟩
noncomputable def Qa(fa:DE)(fr:DA):DA:=λU=>(fa U).bind λr=>(fr U).bind λrs=>some ⟨r.d::rs.ds,r.fr && rs.fr,r.M++rs.M⟩
noncomputable def Qal(fa:DA):DE:=λU=>(fa U).bind λr=>if r.ds.length<=64 then some ⟨.tup r.ds,r.fr,r.M⟩else none
noncomputable def QE(fa:DA):DE:=λU=>(fa U).bind λr=>if r.ds.length<=64 then some ⟨.lst r.ds,r.fr,r.M⟩else none
section
variable {X:Cx}{a b e:Expr}{es:List Expr}{fa fb:DE}{fs:DA}{pos:Pos}
def Qjf:SA X [] Qb:=λH0 A0=>Qde.mono λσ H Q=>exK λU hs F r' rel e q=>by
 cases e;exact q [] H [] ⟨QU.refl _,by simp[Rps],Src.nil,λ_=>⟨Cnt.nil,rfl⟩,Qby.nil⟩
def QfE(ha:SE X e fa)(hr:SA X es fs)(hs:starEach (e::es) X.env=(false,eval e X.env)::starEach es X.env):SA X (e::es) (Qa fa fs):=λH0 A0=>
 (Qbh (ha H0 A0) (hr H0 A0) hs).mono λσ H Q=>exK λU hs F r' rel e q=>by
  refine Ql e λr e1 e=>?_;refine Ql e λrs e2 e=>?_;cases e;refine⟨U,hs,F,r,rel,e1,λx H1 G1 p1=>⟨U,hs,F,rs,rel.ext p1.same,e2,λxs H2 G2 p2=>?_⟩⟩;refine q _ H2 (G1++G2) ⟨p1.same.trans p2.same,?_,p1.src.append p2.src p1.same,λh=>?_,p1.own.append p2.own⟩
  .simp only[Rps];exact⟨x,xs,G1,G2,rfl,rfl,p1.rp.same p2.same,p2.rp⟩
  .simp only[Zp]at h;exact⟨(p1.cnt h.1).1.append rel (p2.cnt h.2).1 p1.same p1.rp.mem,by simp only[nls,Zo,(p1.cnt h.1).2,(p2.cnt h.2).2]⟩
def QhO{n:Nat}(h:n<=64):n<=sizeLine:=ZN h ∅
def QAi{k:Nat}(ha:SA X es fs):SE X (.Tuple es k pos) (Qal fs):=λH0 A0=>
 (QAg (ha H0 A0)).mono λσ H Q=>exK λU hs F r' rel e q=>by
  refine Ql e λr e1 e=>?_;split at e
  .rename_i hz;cases e;refine⟨U,hs,F,r,rel,e1,λxs H1 G p=>⟨by rw[← p.rp.length];exact QhO hz,λc hc=>q _ _ G ⟨p.same.trans (Qdb hc),Rp.QoT QaL (p.rp.same (Qdb hc)),p.src,λh=>⟨(p.cnt h).1,by simp only[D.nl];exact(p.cnt h).2⟩,p.own⟩⟩⟩
  .cases e
def Qug(ha:SA X es fs):SE X (.List es pos) (QE fs):=λH0 A0=>
 (QAd (ha H0 A0)).mono λσ H Q=>exK λU hs F r' rel e q=>by
  refine Ql e λr e1 e=>?_;split at e
  .rename_i hz;cases e;refine⟨U,hs,F,r,rel,e1,λxs H1 G p=>⟨by rw[← p.rp.length];exact QhO hz,λc hc=>?_⟩⟩;have hH:H c=none:=p.same.free hc;refine q _ _ (c::G) ⟨p.same.trans (Qdb hc),Rp.Qe3 QaL (p.rp.same (Qdb hc)) (QhO hz),λz hz'=>?_,λh=>⟨λz=>?_,by simp only[D.nl,Zy,(p.cnt h).2]⟩,p.own⟩
   .rcases Zk.mp hz' with rfl | h
    .exact .inl hH
    .exact p.src z h
   .rw[ZaQ];have:=(p.cnt h).1 z;split
    .rename_i e';have e':c=z:=by simpa using e'
     subst e';have h0:G.count c=0:=Zae.mpr λhm=>by obtain⟨vs,w⟩:=p.rp.mem c hm;rw[hc]at w;cases w
     rw[QbQ hH];omega
    .exact this
  .cases e
noncomputable def D.items:D->Option (List D)
 | .lst xs=>some xs
 | .tup xs=>some xs
 | _=>none
noncomputable def Qf(fa fb:DE):DE:=λU=>(fa U).bind λra=>(fb U).bind λrb=>match rb.d with
 | .int i=>(ra.d.items).bind λxs=>(atI xs i).map λd=>(R.norm ⟨d,ra.fr,ra.M⟩)
 | _=>none
def Qw1{α β:Type}{xs:List α}{i:Int}{d:α}(h:atI xs i=some d):∃j:Nat,xs[j]? =some d/\∀(ys:List β),ys.length=xs.length->∀y,ys[j]? =some y->atI ys i=some y:=by
 unfold atI at h;cases e:ixN xs.length i with
 | none=>rw[e]at h;cases h
 | some j=>
  rw[e]at h;refine⟨j,h,λys hl y hy=>?_⟩;unfold atI;rw[hl,e];exact hy
def QAQ(ha:SE X a fa)(hb:SE X b fb)(hs:Qjq b):SE X (.Subscript a b pos) (Qf fa fb):=λH0 A0=>
 (QwU (Qq3.or QuA) (ha H0 A0) (hb H0 A0) hs).mono λσ H Q=>exK λU hs F r' rel e q=>by
  obtain⟨ra,rb,ea,eb,ek⟩:=QrZ e;refine two rel ea eb λx y H1 H2 G1 G2 p1 p2=>?_;have p1':=p1.rp.same p2.same;have p2':=p2.rp;have pp:Qam X.K U F H H2 ra x G1:=⟨p1.same.trans p2.same,p1',p1.src,p1.cnt,p1.own⟩;cases hb':rb.d with
  | int i=>
   rw[hb']at ek p2';rw[p2'.int_inv];refine Ql ek λxs ex ek=>?_;obtain⟨d,ed,ek⟩:=Zf.mp ek;subst ek;obtain⟨j,hj,hm⟩:=Qw1 ed;have fin:∀(L:LAd) (vs:List V),Rps X.K H2 xs vs L->(∀z,L.count z<=G1.count z)->(G1.length=ra.d.nl->L.length=nls xs)->∃v,atI vs i=some v/\Q v H2:=λL vs rl hc hn=>by
    obtain⟨v,F1,G,F2,hv,eF,rv,hx⟩:=rl.get hj;refine⟨v,hm vs rl.length.symm v hv,q v H2 G (Qam.norm (Qam.sub pp rv (λz=>ZN ?_ (hc z)) λz=>hx (hn z)))⟩;rw[eF,Zar,Zar];omega
   cases hra:ra.d with
   | lst ys=>
    rw[hra]at ex p1';cases ex;obtain⟨l,vs,L,rfl,hl,rl,zl,el⟩:=p1'.lst_inv;have hn:G1.length=ra.d.nl->L.length=nls xs:=λhz=>by
     have:=rl.Qbf;simp only[hra,D.nl]at hz;rcases el with rfl | rfl
     .rw[Zy]at hz;omega
     .omega
    have hc:∀z,L.count z<=G1.count z:=λz=>by
     rcases el with rfl | rfl
     .rw[ZaQ];omega
     .exact Zs _
    obtain⟨v,h1,h2⟩:=fin L vs rl hc hn;exact .inl ⟨l,vs,i,v,rfl,rfl,Qab hl,h1,h2⟩
   | tup ys=>
    rw[hra]at ex p1';cases ex;obtain⟨l,vs,rfl,hl,rl⟩:=p1'.Qba;obtain⟨v,h1,h2⟩:=fin G1 vs rl (λz=>Zs _) λz=>(by simpa only[hra,D.nl]using z);exact .inr ⟨l,vs,i,v,rfl,rfl,hl,h1,h2⟩
   | _=>rw[hra]at ex;cases ex
  | _=>rw[hb']at ek;cases ek
noncomputable abbrev DO:=En->Option (Option Int)
noncomputable def QZ:DO:=λ_=>some none
noncomputable def QS(f:DE):DO:=λU=>(f U).bind λr=>match r.d with
 | .int i=>some (some i)
 | _=>none
noncomputable def tVO(K:Fgg)(H0:Hp)(A0:LAd)(f:DO):TO:=λσ H Q=>∃U hs F o,Rel K H0 A0 hs U F σ H/\f U=some o/\∀H',QU H H'->Q o H'
def SO(X:Cx)(e:Option Expr)(f:DO):Prop:=∀H0 A0,PO X e (tVO X.K H0 A0 f)
def _root_.L2.PO.mono{X:Cx}{e:Option Expr}{t t':TO}(h:PO X e t)(m:∀σ H Q,t' σ H Q->t σ H Q):PO X e t':=by
 intro pins s σ H Q I q;exact h pins s σ H Q I (m σ H Q q)
def Qxr:SO X none QZ:=λH0 A0=>Qxk.mono λσ H Q=>exK λU hs F o rel e q=>by
 cases e;exact q H (QU.refl _)
def Qxm(h:SE X a fa):SO X (some a) (QS fa):=λH0 A0=>(Qyr (h H0 A0)).mono λσ H Q=>exK λU hs F o rel e q=>by
 refine Ql e λr e1 e=>?_;refine⟨U,hs,F,r,rel,e1,λv H1 G p=>?_⟩;have rp:=p.rp;cases hr:r.d with
 | int i=>
  rw[hr]at e rp;cases e;exact⟨i,rp.int_inv,q H1 p.same⟩
 | _=>rw[hr]at e;cases e
noncomputable def cutD(xs:List D)(lo hi:Option Int):List D:=(xs.drop (HT.sIx xs.length 0 lo)).take (HT.sIx xs.length xs.length hi-HT.sIx xs.length 0 lo)
noncomputable def Qad(fa:DE)(lo hi:DO):DE:=λU=>(fa U).bind λra=>(lo U).bind λl=>(hi U).bind λh=>match ra.d with
 | .lst xs=>some (Qaq (cutD xs l h) ra.M)
 | _=>none
def Rps.drop:∀{ds:List D}{vs:List V}{F:LAd}{K:Fgg}{H:Hp}(n:Nat),Rps K H ds vs F->∃G,Rps K H (ds.drop n) (vs.drop n) G/\∀a∈G,a∈F
 | [],vs,F,K,H,n,h=>by simp only[Rps]at h;rw[h.1,h.2];exact⟨[],by simp[Rps],λ_ h=>h⟩
 | d::ds,vs,F,K,H,0,h=>⟨F,by simpa using h,λ_ h=>h⟩
 | d::ds,vs,F,K,H,n+1,h=>by
  simp only[Rps]at h;obtain⟨v,ws,F1,F2,e,eF,r,q⟩:=h;subst e eF;obtain⟨G,h1,h2⟩:=Rps.drop n q;exact⟨G,by simpa using h1,λa ha=>Zg _ (h2 a ha)⟩
def Rps.take:∀{ds:List D}{vs:List V}{F:LAd}{K:Fgg}{H:Hp}(n:Nat),Rps K H ds vs F->∃G,Rps K H (ds.take n) (vs.take n) G/\∀a∈G,a∈F
 | [],vs,F,K,H,n,h=>by simp only[Rps]at h;rw[h.1,h.2];exact⟨[],by simp[Rps],λ_ h=>h⟩
 | d::ds,vs,F,K,H,0,h=>⟨[],by simp[Rps],λ_ h=>by simp at h⟩
 | d::ds,vs,F,K,H,n+1,h=>by
  simp only[Rps]at h;obtain⟨v,ws,F1,F2,e,eF,r,q⟩:=h;subst e eF;obtain⟨G,h1,h2⟩:=Rps.take n q;refine⟨F1++G,?_,λa ha=>?_⟩
  .simp only[List.take_succ_cons,Rps];exact⟨v,_,F1,G,rfl,rfl,r,h1⟩
  .rcases ZJ.mp ha with h | h
   .exact Zd _ h
   .exact Zg _ (h2 a h)
def QzP{lo hi:Option Expr}{fl fh:DO}{p2:Pos}(ha:SE X a fa)(hl:SO X lo fl)(hh:SO X hi fh):SE X (.Subscript a (.Slice lo hi none p2) pos) (Qad fa fl fh):=λH0 A0=>
 (Qwo Qxs (ha H0 A0) (hl H0 A0) (hh H0 A0)).mono λσ H Q=>exK λU hs F r' rel e q=>by
  refine Ql e λra e1 e=>?_;refine Ql e λl e2 e=>?_;refine Ql e λh e3 e=>?_;refine⟨U,hs,F,ra,rel,e1,λx H1 G1 p1=>⟨U,hs,F,l,rel.ext p1.same,e2,λH2 s2=>⟨U,hs,F,h,(rel.ext p1.same).ext s2,e3,λH3 s3=>?_⟩⟩⟩;have rp:=p1.rp.same (s2.trans s3);cases hra:ra.d with
  | lst xs=>
   rw[hra]at e rp;cases e;obtain⟨c,vs,L,rfl,hc,rl,zl,el⟩:=rp.lst_inv;refine⟨c,vs,rfl,Qab hc,λp hp=>?_⟩;obtain⟨G2,h2,m2⟩:=rl.drop (HT.sIx xs.length 0 l);obtain⟨G3,h3,m3⟩:=h2.take (HT.sIx xs.length xs.length h-HT.sIx xs.length 0 l);have n1:=rl.length;rw[show QlV vs l h=(vs.drop (HT.sIx xs.length 0 l)).take (HT.sIx xs.length xs.length h-HT.sIx xs.length 0 l) by unfold QlV;rw[n1]];refine q _ _ (p::G3) (Qam.Qaq (p1.same.trans (s2.trans s3)) hp h3 ?_ (λz hz=>p1.src z ?_) p1.own)
   .unfold cutD;rw[ZY,ZaB];omega
   .have:=m2 z (m3 z hz);rcases el with rfl | rfl
    .exact Zb _ this
    .exact this
  | _=>rw[hra]at e;cases e
noncomputable def dBf(g:List D->Option D)(fs:DA):DE:=λU=>(fs U).bind λr=>(g r.ds).map λd=>⟨d,true,[]⟩
def Qdl(K:Fgg)(g:List D->Option D)(r:List V->Hp->VK->Prop):Prop:=∀ds d,g ds=some d->d.flat=true/\∀H vs F (Q:VK),Rps K H ds vs F->(∀v,(∀H',Rp K H' d v [])->Q v H)->r vs H Q
def Qgj{x:Str}{id:String}{g:List D->Option D}{r:List V->Hp->VK->Prop}{p:Pos}(hc:Qb7 X (.builtin id) r)(hk:Qdl X.K g r)(hg:Gl X x)(hm:X.mg x=none)(hv:bootBuiltins x=some (.builtin id))(ha:SA X (e::es) fs)(hn:x≠ "__name__")(hdb:(x == ("__debug__" :Str))=false)
  (he:starEach (e::es) X.env=(false,eval e X.env)::starEach es X.env) (hpl:(backTo pos (starEach es X.env)).any (·.1)=false):SE X (.Call (.Name x p) (e::es) [] pos) (dBf g fs):=λH0 A0=>
 (Qf5 hc hg hm hv (ha H0 A0) hn hdb he hpl).mono λσ H Q=>exK λU hs F r' rel e q=>by
  refine Ql e λra e1 e=>?_;obtain⟨d,ed,e⟩:=Zf.mp e;subst e;exact⟨U,hs,F,ra,rel,e1,λvs H1 G p1=>(hk _ _ ed).2 H1 vs G Q p1.rp λv hv=>q v H1 [] (.flat p1.same (hv _) (hk _ _ ed).1)⟩
def Rps.one{K:Fgg}{H:Hp}{d:D}{vs:List V}{F:LAd}(h:Rps K H [d] vs F):∃v,vs=[v]/\Rp K H d v F:=by
 simp only[Rps]at h;obtain⟨v,ws,F1,F2,rfl,rfl,r,rfl,rfl⟩:=h;exact⟨v,rfl,by simpa using r⟩
def Rps.two{K:Fgg}{H:Hp}{d e:D}{vs:List V}{F:LAd}(h:Rps K H [d,e] vs F):∃v w F1 F2,vs=[v,w]/\Rp K H d v F1/\Rp K H e w F2:=by
 simp only[Rps]at h;obtain⟨v,ws,F1,F2,rfl,rfl,r,w,ws',F3,F4,rfl,rfl,r2,rfl,rfl⟩:=h;exact⟨v,w,F1,F3,rfl,r,r2⟩
noncomputable def Q6:List D->Option D
 | [.lst xs]=>some (.int xs.length)
 | [.tup xs]=>some (.int xs.length)
 | _=>none
def QzU{K:Fgg}:Qdl K Q6 (λxs H Q=>∃p ys,xs=[.ref p]/\(SqL K H p ys∨SqT K H p ys)/\Q (.int ys.length) H):=λds d e=>by
 unfold Q6 at e;split at e
 .cases e;refine⟨rfl,λH vs F Q r q=>?_⟩;obtain⟨v,rfl,rp⟩:=r.one;obtain⟨l,ws,L,rfl,hl,rl,zl,el⟩:=rp.lst_inv;exact⟨l,ws,rfl,.inl (Qab hl),by rw[← rl.length];exact q _ λ_=> .int_mk⟩
 .cases e;refine⟨rfl,λH vs F Q r q=>?_⟩;obtain⟨v,rfl,rp⟩:=r.one;obtain⟨l,ws,rfl,hl,rl⟩:=rp.Qba;exact⟨l,ws,rfl,.inr hl,by rw[← rl.length];exact q _ λ_=> .int_mk⟩
 .cases e
noncomputable def Qgm:List D->Option D
 | [.int i,.int j]=>some (.int (if j<i then j else i))
 | _=>none
noncomputable def Qlh:List D->Option D
 | [.int i,.int j]=>some (.int (if j>i then j else i))
 | _=>none
def QxI{K:Fgg}:Qdl K Qgm (λxs H Q=>∃i j,xs=[.int i,.int j]/\Q (.int (if j<i then j else i)) H):=λds d e=>by
 unfold Qgm at e;split at e
 .cases e;refine⟨rfl,λH vs F Q r q=>?_⟩;obtain⟨v,w,F1,F2,rfl,r1,r2⟩:=r.two;exact⟨_,_,by rw[r1.int_inv,r2.int_inv],q _ λ_=> .int_mk⟩
 .cases e
def Qxb{K:Fgg}:Qdl K Qlh (λxs H Q=>∃i j,xs=[.int i,.int j]/\Q (.int (if j>i then j else i)) H):=λds d e=>by
 unfold Qlh at e;split at e
 .cases e;refine⟨rfl,λH vs F Q r q=>?_⟩;obtain⟨v,w,F1,F2,rfl,r1,r2⟩:=r.two;exact⟨_,_,by rw[r1.int_inv,r2.int_inv],q _ λ_=> .int_mk⟩
 .cases e
noncomputable def dList(fs:DA):DE:=λU=>(fs U).bind λr=>match r.ds with
 | [.lst xs]=>some (Qaq xs r.M)
 | [.tup xs]=>if xs.length<=sizeLine then some (Qaq xs r.M)else none
 | _=>none
def QxQ{p:Pos}(hg:Gl X "list")(hm:X.mg "list" =none)(ha:SA X (e::es) fs)(he:starEach (e::es) X.env=(false,eval e X.env)::starEach es X.env)(hpl:(backTo pos (starEach es X.env)).any (·.1)=false):
  SE X (.Call (.Name "list" p) (e::es) [] pos) (dList fs):=λH0 A0=>
 (Qjb Qi3 hg hm ZbB (ha H0 A0) ∅ ∅ he hpl).mono λσ H Q=>exK λU hs F r' rel e q=>by
  refine Ql e λra e1 e=>?_;refine⟨U,hs,F,ra,rel,e1,λvs H1 G p1=>?_⟩;have rp:=p1.rp;have src:=p1.src;split at e
  .rename_i xs hds;cases e;rw[hds]at rp;obtain⟨v,rfl,rq⟩:=rp.one;obtain⟨l,ws,L,rfl,hl,rl,zl,el⟩:=rq.lst_inv;refine⟨l,ws,rfl,.inl (Qab hl),λc hc=>q _ _ (c::L) (Qam.Qaq p1.same hc rl zl (λz hz=>src z ?_) p1.own)⟩;rcases el with rfl | rfl
   .exact Zb _ hz
   .exact hz
  .rename_i xs hds;split at e
   .rename_i hz;cases e;rw[hds]at rp;obtain⟨v,rfl,rq⟩:=rp.one;obtain⟨l,ws,rfl,hl,rl⟩:=rq.Qba;exact⟨l,ws,rfl,.inr hl,λc hc=>q _ _ (c::G) (Qam.Qaq p1.same hc rl hz src p1.own)⟩
   .cases e
  .cases e
end
mutual
noncomputable def D.py:D->PyData
 | .non=> .none
 | .bl b=> .bool b
 | .int i=> .int i
 | .str x=> .str x
 | .tup xs=> .tuple (pys xs)
 | .lst xs=> .list (pys xs)
 | .exc _=> .none
noncomputable def pys:List D->List PyData
 | []=>[]
 | d::ds=>d.py::pys ds
end
def QqP:∀ds:List D,pys ds=ds.map D.py
 | []=>rfl
 | d::ds=>by simp[pys,QqP ds]
noncomputable def D.sim:Nat->D->Bool
 | _,.non=>true
 | _,.bl _=>true
 | _,.int _=>true
 | _,.str x=>PyData.canLay0 (.str x)
 | 0,.tup xs=>xs.isEmpty
 | 0,.lst xs=>xs.isEmpty
 | n+1,.tup xs=>xs.all (D.sim n)
 | n+1,.lst xs=>xs.all (D.sim n)
 | _,.exc _=>false
def Qgf:∀{ds:List D},(∀d∈ds,d.py.canLay0=true)->PyData.canLayAll0 (pys ds)=true
 | [],_=>rfl
 | d::ds,h=>by
  simp only[pys,PyData.canLayAll0,Zp];exact⟨h d Zi,Qgf λe he=>h e (Zb _ he)⟩
def QgI:∀{ds:List D},(∀d∈ds,d.py.depth<=n)->PyData.depthAll (pys ds)<=n
 | [],_=>Zaa _
 | d::ds,h=>by
  simp only[pys,PyData.depthAll];exact Nat.max_le.mpr ⟨h d Zi,QgI λe he=>h e (Zb _ he)⟩
def Qcu:∀(n:Nat) (d:D),d.sim n=true->d.py.canLay0=true/\d.py.depth<=n+1
 | n,.exc _,h=>by cases n<;>cases h
 | n,.non,_=>by simp[D.py,PyData.canLay0,PyData.depth]
 | n,.bl _,_=>by simp[D.py,PyData.canLay0,PyData.depth]
 | n,.int _,_=>by simp[D.py,PyData.canLay0,PyData.depth]
 | n,.str x,h=>by
  simp only[D.py,PyData.depth];refine⟨?_,Zaa _⟩;cases n<;>exact h
 | 0,.tup xs,h=>by
  have:xs=[]:=by simpa[D.sim]using h
  subst this;simp[D.py,pys,PyData.canLay0,PyData.canLayAll0,PyData.depth,PyData.depthAll]
 | 0,.lst xs,h=>by
  have:xs=[]:=by simpa[D.sim]using h
  subst this;simp[D.py,pys,PyData.canLay0,PyData.canLayAll0,PyData.depth,PyData.depthAll]
 | n+1,.tup xs,h=>by
  simp only[D.sim,ZZ]at h;simp only[D.py,PyData.canLay0,PyData.depth];exact⟨Qgf λd hd=>(Qcu n d (h d hd)).1,ZbR (QgI λd hd=>(Qcu n d (h d hd)).2) 1⟩
 | n+1,.lst xs,h=>by
  simp only[D.sim,ZZ]at h;simp only[D.py,PyData.canLay0,PyData.depth];exact⟨Qgf λd hd=>(Qcu n d (h d hd)).1,ZbR (QgI λd hd=>(Qcu n d (h d hd)).2) 1⟩
noncomputable def deq(a b:D):Bool:=PyData.eqv a.py b.py
def QuT(h:d.sim n=true):deq d d=true:=SeqAt.eqv_refl _ (Qcu n d h).1
mutual
noncomputable def D.noX:D->Bool
 | .exc _=>false
 | .tup xs=>Qko xs
 | .lst xs=>Qko xs
 | .non=>true
 | .bl _=>true
 | .int _=>true
 | .str _=>true
noncomputable def Qko:List D->Bool
 | []=>true
 | d::ds=>d.noX && Qko ds
end
def Qmh:∀{ds:List D},(∀d∈ds,d.noX=true)->Qko ds=true
 | [],_=>rfl
 | d::ds,h=>by
  simp only[Qko,Zp];exact⟨h d Zi,Qmh λe he=>h e (Zb _ he)⟩
def Qc0:∀(n:Nat) (d:D),d.sim n=true->d.noX=true
 | n,.exc _,h=>by cases n<;>cases h
 | n,.non,_=>rfl
 | n,.bl _,_=>rfl
 | n,.int _,_=>rfl
 | n,.str x,_=>rfl
 | 0,.tup xs,h=>by
  have:xs=[]:=by simpa[D.sim]using h
  subst this;rfl
 | 0,.lst xs,h=>by
  have:xs=[]:=by simpa[D.sim]using h
  subst this;rfl
 | n+1,.tup xs,h=>by
  simp only[D.sim,ZZ]at h;simp only[D.noX];exact Qmh λd hd=>Qc0 n d (h d hd)
 | n+1,.lst xs,h=>by
  simp only[D.sim,ZZ]at h;simp only[D.noX];exact Qmh λd hd=>Qc0 n d (h d hd)
section
variable {X:Cx}{pins:List (Addr×Obj)}{σ:L2.St}{H:Hp}{s:Shared}
mutual
def Rp.reads(I:Inv X pins σ H s):∀{d:D}{v:V}{F:LAd}{u:Value},d.noX=true->Rp X.K H d v F->RelV v u->∃as,Reads s.heap u d.py as
 | .exc _,v,_,u,hx,h,r=>by cases hx
 | .non,v,_,u,hx,h,r=>by
  rw[h.QfJ]at r;cases(show u=Value.none from r);exact⟨_,.none⟩
 | .bl b,v,_,u,hx,h,r=>by
  rw[h.Qdj]at r;cases(show u=Value.bool b from r);exact⟨_,.bool b⟩
 | .int i,v,_,u,hx,h,r=>by
  rw[h.int_inv]at r;obtain⟨t,rfl⟩:=(show ∃t,u=Value.int i t from r);exact⟨_,.int i t⟩
 | .str i,v,_,u,hx,h,r=>by
  rw[h.str_inv]at r;obtain⟨t,rfl⟩:=(show ∃t,u=Value.str i t from r);exact⟨_,.str i t⟩
 | .tup ds,v,_,u,hx,h,r=>by
  obtain⟨a,vs,rfl,hq,rs⟩:=h.Qba;cases(show u=Value.ref a from r);obtain⟨its,rv,⟨o,h1,h2,n,h3⟩,_⟩:=I.tuple hq;obtain⟨as,ra⟩:=Rps.reads I (by simpa only[D.noX]using hx) rs rv;exact⟨_,.tuple h1 h2 h3 (by simpa using ra)⟩
 | .lst ds,v,_,u,hx,h,r=>by
  simp only[Rp]at h;obtain⟨hz,a,vs,rfl,h⟩:=h;have key:∃G,(H a=some (.lst vs)∨Fix X.K H a vs)/\Rps X.K H ds vs G:=by
   rcases h with⟨G,_,q,rs⟩ | ⟨q,rs⟩
   .exact⟨G,.inl q,rs⟩
   .exact⟨_,.inr q,rs⟩
  obtain⟨G,hq,rs⟩:=key;cases(show u=Value.ref a from r);obtain⟨_,its,n,rv,_,e⟩:=I.Qo5 hq;obtain⟨as,ra⟩:=Rps.reads I (by simpa only[D.noX]using hx) rs rv;exact⟨_,.list e rfl rfl (by simpa using ra)⟩
def Rps.reads(I:Inv X pins σ H s):∀{ds:List D}{vs:List V}{F:LAd}{us:List Value},Qko ds=true->Rps X.K H ds vs F->QB vs us->∃as,ReadsAll s.heap us (pys ds) as
 | [],vs,_,us,_,h,r=>by
  simp only[Rps]at h;rw[h.1]at r;cases r;exact⟨_,.nil⟩
 | d::ds,vs,_,us,hx,h,r=>by
  simp only[Qko,Zp]at hx;simp only[Rps]at h;obtain⟨v,ws,F1,F2,rfl,rfl,h1,h2⟩:=h;cases r with
  | cons r rr=>
   obtain⟨as,ra⟩:=Rp.reads I hx.1 h1 r;obtain⟨bs,rb⟩:=Rps.reads I hx.2 h2 rr;exact⟨_,.cons ra rb⟩
end
end
noncomputable def gEq(a b:D):Option D:=if a.sim 8 && b.sim 8 then some (.bl (deq a b))else none
noncomputable def gNe(a b:D):Option D:=if a.sim 8 && b.sim 8 then some (.bl (!deq a b))else none
noncomputable def gIn(neg:Bool)(a b:D):Option D:=match b with
 | .lst xs=>if a.sim 8 && b.sim 8 then some (.bl (if neg then !(xs.any λy=>deq y a)else xs.any λy=>deq y a))else none
 | .tup xs=>if a.sim 8 && b.sim 8 then some (.bl (if neg then !(xs.any λy=>deq y a)else xs.any λy=>deq y a))else none
 | _=>none
noncomputable def QBq(K:Fgg):R2:=λx y H Q=>∃a b F G,Rp K H a x F/\Rp K H b y G/\a.sim 8=true/\b.sim 8=true/\Q (.bl (deq a b)) H
noncomputable def QAu(K:Fgg):R2:=λx y H Q=>∃a b F G,Rp K H a x F/\Rp K H b y G/\a.sim 8=true/\b.sim 8=true/\Q (.bl (!deq a b)) H
section
variable {X:Cx}
def QA3(hu:X.A.units+64<cLine):OpR X (compareOp .Eq) (QBq X.K):=by
 intro pins s σ H x y v u Q I rx ry h;obtain⟨a,b,F,G,ha,hb,sa,sb,q⟩:=h;obtain⟨as,ra⟩:=Rp.reads I (Qc0 8 _ sa) ha rx;obtain⟨bs,rb⟩:=Rp.reads I (Qc0 8 _ sb) hb ry;have h1:=Qcu 8 a sa;have h2:=Qcu 8 b sb;exact SeqAt.compareEq_reads ra rb h1.1 h2.1 (by have:=Nat.min_le_left a.py.depth b.py.depth;omega) ⟨.bl _,H,I,rfl,q⟩
def QAN(hu:X.A.units+64<cLine):OpR X (compareOp .NotEq) (QAu X.K):=by
 intro pins s σ H x y v u Q I rx ry h;obtain⟨a,b,F,G,ha,hb,sa,sb,q⟩:=h;obtain⟨as,ra⟩:=Rp.reads I (Qc0 8 _ sa) ha rx;obtain⟨bs,rb⟩:=Rp.reads I (Qc0 8 _ sb) hb ry;have h1:=Qcu 8 a sa;have h2:=Qcu 8 b sb;exact SeqAt.compareNe_reads ra rb h1.1 h2.1 (by have:=Nat.min_le_left a.py.depth b.py.depth;omega) ⟨.bl _,H,I,rfl,q⟩
def QBJ:QcF K gEq (QBq K):=λa b d e=>by
 unfold gEq at e;split at e
 .rename_i h;simp only[Zp]at h;cases e;exact⟨rfl,λH x y F G Q ha hb q=>⟨a,b,F,G,ha,hb,h.1,h.2,q _ λ_=> .QbD⟩⟩
 .cases e
def QCm:QcF K gNe (QAu K):=λa b d e=>by
 unfold gNe at e;split at e
 .rename_i h;simp only[Zp]at h;cases e;exact⟨rfl,λH x y F G Q ha hb q=>⟨a,b,F,G,ha,hb,h.1,h.2,q _ λ_=> .QbD⟩⟩
 .cases e
noncomputable def QvI(K:Fgg)(neg:Bool):R2:=λx y H Q=>∃a b F G xs,Rp K H a x F/\Rp K H b y G/\a.sim 8=true/\b.sim 8=true/\(b= .lst xs∨b= .tup xs)/\Q (.bl (if neg then !(xs.any λy=>deq y a)else xs.any λy=>deq y a)) H
def QtD(xs:List D)(a:D):((pys xs).any λy=>PyData.eqv y a.py)=xs.any λy=>deq y a:=by
 rw[QqP,List.any_map];rfl
def QBg(hu:X.A.units+64<cLine):OpR X (compareOp .In) (QvI X.K false):=by
 intro pins s σ H x y v u Q I rx ry h;obtain⟨a,b,F,G,xs,ha,hb,sa,sb,hk,q⟩:=h;obtain⟨as,ra⟩:=Rp.reads I (Qc0 8 _ sa) ha rx;obtain⟨bs,rb⟩:=Rp.reads I (Qc0 8 _ sb) hb ry;have h1:=Qcu 8 a sa;have h2:=Qcu 8 b sb;have q':Q (.bl ((pys xs).any λy=>PyData.eqv y a.py)) H:=by rw[QtD];exact q
 rcases hk with rfl | rfl
 .exact SeqAt.in_list_reads rb ra h2.1 h1.1 (by have:=ZbM (PyData.depthAll (pys xs)) a.py.depth;omega) ⟨.bl _,H,I,rfl,q'⟩
 .exact SeqAt.in_tuple_reads rb ra h2.1 h1.1 (by have:=ZbM (PyData.depthAll (pys xs)) a.py.depth;omega) ⟨.bl _,H,I,rfl,q'⟩
def Qut(hu:X.A.units+64<cLine):OpR X (compareOp .NotIn) (QvI X.K true):=by
 intro pins s σ H x y v u Q I rx ry h;obtain⟨a,b,F,G,xs,ha,hb,sa,sb,hk,q⟩:=h;obtain⟨as,ra⟩:=Rp.reads I (Qc0 8 _ sa) ha rx;obtain⟨bs,rb⟩:=Rp.reads I (Qc0 8 _ sb) hb ry;have h1:=Qcu 8 a sa;have h2:=Qcu 8 b sb;have q':Q (.bl (!(pys xs).any λy=>PyData.eqv y a.py)) H:=by rw[QtD];exact q
 rcases hk with rfl | rfl
 .exact SeqAt.notIn_list_reads rb ra h2.1 h1.1 (by have:=ZbM (PyData.depthAll (pys xs)) a.py.depth;omega) ⟨.bl _,H,I,rfl,q'⟩
 .exact SeqAt.notIn_tuple_reads rb ra h2.1 h1.1 (by have:=ZbM (PyData.depthAll (pys xs)) a.py.depth;omega) ⟨.bl _,H,I,rfl,q'⟩
def QwP:QcF K (gIn neg) (QvI K neg):=λa b d e=>by
 unfold gIn at e;split at e
 .split at e
  .rename_i h;simp only[Zp]at h;cases e;exact⟨rfl,λH x y F G Q ha hb q=>⟨a,_,F,G,_,ha,hb,h.1,h.2,.inl rfl,q _ λ_=> .QbD⟩⟩
  .cases e
 .split at e
  .rename_i h;simp only[Zp]at h;cases e;exact⟨rfl,λH x y F G Q ha hb q=>⟨a,_,F,G,_,ha,hb,h.1,h.2,.inr rfl,q _ λ_=> .QbD⟩⟩
  .cases e
 .cases e
noncomputable def D.QrM:D->Bool
 | .non=>true
 | _=>false
def Qqm(h:Rp K H d v F):decide (v= .non)=d.QrM:=by
 cases d with
 | non=>rw[h.QfJ];rfl
 | bl b=>rw[h.Qdj];rfl
 | int b=>rw[h.int_inv];rfl
 | str b=>rw[h.str_inv];rfl
 | tup b=>obtain⟨a,vs,rfl,_⟩:=h.Qba;rfl
 | lst b=>obtain⟨a,vs,G,rfl,_⟩:=h.lst_inv;rfl
 | exc b=>simp only[Rp]at h;obtain⟨⟨a,rfl,_⟩,_⟩:=h;rfl
noncomputable def D.tyN:D->String
 | .non=> "NoneType" | .bl _=> "bool" | .int _=> "int" | .str _=> "str" | .tup _=> "tuple" | .lst _=> "list" | .exc _=> "?"
noncomputable def D.isE:D->Bool
 | .exc _=>true
 | _=>false
noncomputable def D.isa(T:String)(d:D):Option Bool:=if(T == "int" || T == "bool" || T == "list" || T == "tuple" || T == "str") && !d.isE then some (d.tyN == T || (d.tyN == "bool" && T == "int"))else none
def QBm(I:Inv X pins σ H s)(rp:Rp X.K H d v F)(rx:RelV v u)(e:d.isa T=some b)(h:∀tk,Q (.bool b) {s with toks:=tk}):
  wpAny (model X.prog X.w) A (call (.builtin "isinstance") [u,.type T]) Q E s:=by
 have kit:PySem.W.kitOne X.K (.type d.tyN) (.type T)=some b:=by
  unfold D.isa at e;split at e
  .rename_i hT;cases e;simp only[Zp,Zbv,beq_iff_eq]at hT;obtain⟨hT,hE⟩:=hT;rcases hT with(((rfl | rfl) | rfl) | rfl) | rfl<;>cases d<;>first | rfl | (cases hE)
  .cases e
 cases d with
 | exc x=>unfold D.isa at e;split at e;(rename_i hT;exfalso;simp only[Zp]at hT;exact nomatch hT.2);cases e
 | non=>rw[rp.QfJ]at rx;cases(show u=Value.none from rx);exact ZaR PySem.W.kitx_none I.kIn True.intro kit (λz=>nomatch z) h
 | bl y=>rw[rp.Qdj]at rx;cases(show u=Value.bool y from rx);exact ZaR PySem.W.kitx_bool I.kIn True.intro kit (λz=>nomatch z) h
 | int i=>rw[rp.int_inv]at rx;obtain⟨t,q⟩:=(show ∃t,u=Value.int i t from rx);cases q;exact ZaR PySem.W.kitx_int I.kIn True.intro kit (λz=>nomatch z) h
 | str y=>rw[rp.str_inv]at rx;obtain⟨t,q⟩:=(show ∃t,u=Value.str y t from rx);cases q;exact ZaR PySem.W.kitx_str I.kIn True.intro kit (λz=>nomatch z) h
 | tup ds=>
  obtain⟨a,vs,rfl,hq,_⟩:=rp.Qba;cases(show u=Value.ref a from rx);obtain⟨its,rv,⟨o,h1,h2,n,h3⟩,_⟩:=I.tuple hq;exact ZaR PySem.W.kitx_tuple I.kIn ⟨o,h1,h2⟩ kit (λz=>nomatch z) h
 | lst ds=>
  obtain⟨a,vs,G,rfl,hq,_⟩:=rp.lst_inv;cases(show u=Value.ref a from rx);obtain⟨_,its,n,rv,_,e1⟩:=I.Qo5 hq;exact ZaR PySem.W.kitx_list I.kIn ⟨_,e1,rfl⟩ kit (λz=>nomatch z) h
def QDg(K:Fgg):List V->Hp->VK->Prop:=λxs H Q=>∃x T d F b,xs=[x,.ty T]/\Rp K H d x F/\d.isa T=some b/\Q (.bl b) H
def Qv9:Qb7 X (.builtin "isinstance") (QDg X.K):=by
 intro pins s σ H xs us Q I r h;obtain⟨x,T,d,F,b,rfl,rp,e,q⟩:=h;obtain⟨u,w,rfl,ru,rw'⟩:=vals2 r;cases(show w=Value.type T from rw');exact QBm I rp ru e λtk=>⟨.bl b,H,I.tok _,rfl,q⟩
noncomputable def Qmz(T:String)(fa:DE):DE:=λU=>(fa U).bind λr=>(r.d.isa T).map λb=>⟨.bl b,true,[]⟩
def Qzk(hg:Gl X "isinstance")(hm:X.mg "isinstance" =none)(ha:SE X a fa)(hT:PE X (.Name x p2) (tC (.ty T)))
  (he:starEach [a,.Name x p2] X.env=(false,eval a X.env)::starEach [.Name x p2] X.env):SE X (.Call (.Name "isinstance" p) [a,.Name x p2] [] pos) (Qmz T fa):=λH0 A0=>
 (Qf5 Qv9 hg hm ZbW (Qbh (ha H0 A0) (Qbh hT Qde) he) ∅ ∅ he (by rfl)).mono λσ H Q=>exK λU hs F r' rel e q=>by
  refine Ql e λr e1 e=>?_;obtain⟨b,eb,e⟩:=Zf.mp e;subst e;exact⟨U,hs,F,r,rel,e1,λv H1 G p=>⟨v,T,r.d,G,b,rfl,p.rp,eb,q _ H1 [] (.flat p.same .QbD)⟩⟩
noncomputable def D.tru:D->Option Bool
 | .non=>some false
 | .bl b=>some b
 | .int i=>some (i != 0)
 | .lst xs=>some (!xs.isEmpty)
 | .tup xs=>some (!xs.isEmpty)
 | .str _=>none
 | .exc _=>none
def QnP(h:Rp K H d v F)(e:d.tru=some b):Qv7 K v H b:=by
 have emp:∀{ds:List D}{vs:List V}{G:LAd},Rps K H ds vs G->(!ds.isEmpty)= !vs.isEmpty:=λ{ds vs G} r=>by
  have:=r.length;cases ds<;>cases vs<;>simp_all
 cases d with
 | non=>rw[h.QfJ];cases e;exact rfl
 | bl c=>rw[h.Qdj];cases e;exact rfl
 | int i=>rw[h.int_inv];cases e;exact rfl
 | str i=>cases e
 | exc i=>cases e
 | tup ds=>cases e;obtain⟨a,vs,rfl,hq,r⟩:=h.Qba;exact .inr (.inl ⟨vs,hq,emp r⟩)
 | lst ds=>cases e;obtain⟨a,vs,G,rfl,hq,r,_⟩:=h.lst_inv;exact .inl ⟨vs,Qab hq,emp r⟩
noncomputable def Qs(fa:DE):DT:=λU=>(fa U).bind λr=>r.d.tru
noncomputable def QdQ(f g:DT):DT:=λU=>(f U).bind λb=>if b=true then g U else some false
noncomputable def bOr(f g:DT):DT:=λU=>(f U).bind λb=>if b=true then some true else g U
noncomputable def QbG(f:DT):DT:=λU=>(f U).bind λb=>some (!b)
def SW(X:Cx)(e:Expr)(f:DT):Prop:=∀H0 A0,PW X e (tVT X.K H0 A0 f)
def _root_.L2.PW.mono(h:PW X e t)(m:∀σ H Q,t' σ H Q->t σ H Q):PW X e t':=λwh pins s σ H Q I q=>h wh pins s σ H Q I (m σ H Q q)
variable {a b e:Expr}{fa fb:DE}{ga gb gc:DT}{pos:Pos}{rest:List Expr}
def QAS(ha:SE X a fa)(he:∀whole,isTrue a X.env whole=(do let v ← whole;standAt a.pos;holding [v] (truthy v))):ST X a (Qs fa):=λH0 A0=>
 (Qwm (ha H0 A0) he).mono λσ H Q=>exK λU hs F b rel e q=>by
  refine Ql e λr e1 e=>?_;exact⟨U,hs,F,r,rel,e1,λv H1 G p=>⟨b,QnP p.rp e,q H1 p.same⟩⟩
def QAI(ho:OpR X (compareOp op) r)(hg:QcF X.K g r)(hbl:∀a b d,g a b=some d->∃k,d= .bl k)(ha:SE X a fa)(hb:SE X b fb)(hm:behindInMarks op b=false):ST X (.Compare a [op] [b] pos) (Qs (dOp g fa fb)):=λH0 A0=>
 (Qx9 ho (ha H0 A0) (hb H0 A0) hm).mono λσ H Q=>exK λU hs F k rel e q=>by
  refine Ql e λr' e0 e=>?_;obtain⟨ra,rb,d,ea,eb,eg,rfl⟩:=QmE e0;obtain⟨k',rfl⟩:=hbl _ _ _ eg;cases e;refine two rel ea eb λx y H1 H2 G1 G2 p1 p2=>(hg _ _ _ eg).2 H2 x y G1 G2 _ (p1.rp.same p2.same) p2.rp λv hv=>?_;exact⟨_,(hv H2).Qdj,q H2 (p1.same.trans p2.same)⟩
def QAr(ha:ST X a ga):ST X (.UnaryOp .Not a pos) (QbG ga):=λH0 A0=>
 (Qz7 (ha H0 A0)).mono λσ H Q=>exK λU hs F b rel e q=>by
  refine Ql e λc e1 e=>?_;cases e;exact⟨U,hs,F,c,rel,e1,λH1 s1=>q H1 s1⟩
def QyG(ha:ST X a ga):SW X (.BoolOp .And [a] pos) ga:=λH0 A0=>Qx4 (ha H0 A0)
def Qz9(ha:ST X a ga):SW X (.BoolOp .Or [a] pos) ga:=λH0 A0=>QA4 (ha H0 A0)
def QzZ(ha:ST X a ga)(hb:SW X (.BoolOp .And (b::rest) pos) gb):SW X (.BoolOp .And (a::b::rest) pos) (QdQ ga gb):=λH0 A0=>
 (Qzq (ha H0 A0) (hb H0 A0)).mono λσ H Q=>exK λU hs F c rel e q=>by
  refine Ql e λd e1 e=>?_;refine⟨U,hs,F,d,rel,e1,λH1 s1=>?_⟩;cases d with
  | true=>exact⟨U,hs,F,c,rel.ext s1,e,λH2 s2=>q H2 (s1.trans s2)⟩
  | false=>cases e;exact q H1 s1
def QB8(ha:ST X a ga)(hb:SW X (.BoolOp .Or (b::rest) pos) gb):SW X (.BoolOp .Or (a::b::rest) pos) (bOr ga gb):=λH0 A0=>
 (QB4 (ha H0 A0) (hb H0 A0)).mono λσ H Q=>exK λU hs F c rel e q=>by
  refine Ql e λd e1 e=>?_;refine⟨U,hs,F,d,rel,e1,λH1 s1=>?_⟩;cases d with
  | true=>cases e;exact q H1 s1
  | false=>exact⟨U,hs,F,c,rel.ext s1,e,λH2 s2=>q H2 (s1.trans s2)⟩
def SW.st(h:SW X e ga):ST X e ga:=λH0 A0=>(h H0 A0).pt
noncomputable def QhP(fa fb:DE):DE:=λU=>(fa U).bind λra=>(ra.d.tru).bind λb=>if b=true then fb U else some ra
noncomputable def dOr(fa fb:DE):DE:=λU=>(fa U).bind λra=>(ra.d.tru).bind λb=>if b=true then some ra else fb U
noncomputable def QrS(fa:DE):DE:=λU=>(fa U).bind λra=>(ra.d.tru).bind λb=>some ⟨.bl (!b),true,[]⟩
def QoB{op}(h:SE X a fa):SE X (.BoolOp op [a] pos) fa:=λH0 A0=>Qzu (h H0 A0)
def Qam.ext(s:QU H H1)(p:Qam K U F H1 H2 r v G)(rel:Rel K H0 A0 hs U F σ H):Qam K U F H H2 r v G where
 same:=s.trans p.same
 rp:=p.rp
 src:=λa ha=>(p.src a ha).elim (λz=> .inl (s.free z)) .inr
 cnt:=λh=>⟨λa=>ZN ((p.cnt h).1 a) (ZbR (by
  cases q:H1 a with
  | none=>rw[QbQ q,QbQ (s.free q)];exact Zs _
  | some o=>rw[Qep q];exact Zaa _) _),(p.cnt h).2⟩
 own:=p.own
def Qtu(ha:SE X a fa)(hb:SE X (.BoolOp .And (b::rest) pos) fb):SE X (.BoolOp .And (a::b::rest) pos) (QhP fa fb):=λH0 A0=>by
 intro pins s σ H Q I ⟨U,hs,F,r,rel,e,q⟩;refine Ql e λra e1 e=>?_;refine Ql e λc e2 e=>?_;refine PyProof.Rows.BoolOp_and (thn (ha H0 A0 pins s σ H _ I ⟨U,hs,F,ra,rel,e1,λv H' G p=>(⟨G,p⟩:∃G,Qam X.K U F H H' ra v G)⟩) λv s1 Z=>?_);obtain⟨x,H1,I1,r1,G,p⟩:=Z;refine thn (Qld pins s1 σ H1 x v (λk H2=>k=c/\H2=H1) I1 r1 ⟨c,QnP p.rp e2,rfl,rfl⟩) λk s2 Z=>?_;obtain⟨H2,I2,e3,e4⟩:=Z;subst e3 e4;cases k with
 | true=>exact hb H0 A0 pins s2 σ _ Q I2 ⟨U,hs,F,r,rel.ext p.same,e,λw H3 G3 p3=>q w H3 G3 (p3.ext p.same rel)⟩
 | false=>cases e;exact⟨x,_,I2,r1,q x _ G p⟩
def QBQ(ha:SE X a fa)(hb:SE X (.BoolOp .Or (b::rest) pos) fb):SE X (.BoolOp .Or (a::b::rest) pos) (dOr fa fb):=λH0 A0=>by
 intro pins s σ H Q I ⟨U,hs,F,r,rel,e,q⟩;refine Ql e λra e1 e=>?_;refine Ql e λc e2 e=>?_;refine PyProof.Rows.BoolOp_or (thn (ha H0 A0 pins s σ H _ I ⟨U,hs,F,ra,rel,e1,λv H' G p=>(⟨G,p⟩:∃G,Qam X.K U F H H' ra v G)⟩) λv s1 Z=>?_);obtain⟨x,H1,I1,r1,G,p⟩:=Z;refine thn (Qld pins s1 σ H1 x v (λk H2=>k=c/\H2=H1) I1 r1 ⟨c,QnP p.rp e2,rfl,rfl⟩) λk s2 Z=>?_;obtain⟨H2,I2,e3,e4⟩:=Z;subst e3 e4;cases k with
 | false=>exact hb H0 A0 pins s2 σ _ Q I2 ⟨U,hs,F,r,rel.ext p.same,e,λw H3 G3 p3=>q w H3 G3 (p3.ext p.same rel)⟩
 | true=>cases e;exact⟨x,_,I2,r1,q x _ G p⟩
def Qta(ha:SE X a fa):SE X (.UnaryOp .Not a pos) (QrS fa):=λH0 A0=>by
 intro pins s σ H Q I ⟨U,hs,F,r,rel,e,q⟩;refine Ql e λra e1 e=>?_;refine Ql e λc e2 e=>?_;cases e;refine PyProof.Rows.UnaryOp_ (thn (ha H0 A0 pins s σ H _ I ⟨U,hs,F,ra,rel,e1,λv H' G p=>(⟨G,p⟩:∃G,Qam X.K U F H H' ra v G)⟩) λv s1 Z=>?_);obtain⟨x,H1,I1,r1,G,p⟩:=Z;refine PyProof.Rows.not_of (thn (Qld pins s1 σ H1 x v (λk H2=>k=c/\H2=H1) I1 r1 ⟨c,QnP p.rp e2,rfl,rfl⟩) λk s2 Z=>?_);obtain⟨H2,I2,e3,e4⟩:=Z;subst e3 e4;exact⟨.bl (!k),_,I2,rfl,q _ _ [] (.flat p.same .QbD)⟩
noncomputable def Qcx(fa:DE):DE:=λU=>(fa U).bind λra=>match ra.d with
 | .int i=>some ⟨.int (-i),true,[]⟩
 | _=>none
def QAK(ha:SE X a fa):SE X (.UnaryOp .USub a pos) (Qcx fa):=λH0 A0=>
 (QCh QA1 (ha H0 A0)).mono λσ H Q=>exK λU hs F r rel e q=>by
  refine Ql e λra e1 e=>?_;refine⟨U,hs,F,ra,rel,e1,λv H1 G p=>?_⟩;have rp:=p.rp;cases hr:ra.d with
  | int i=>
   rw[hr]at e rp;cases e;exact⟨i,rp.int_inv,q _ H1 [] (.flat p.same .int_mk)⟩
  | _=>rw[hr]at e;cases e
end
end HS
namespace HS
open PySem PySem.Spec L2
section
def Qdp(U U':En):Prop:=U'.length=U.length/\∀(i:Nat) d b,U'[i]? =some (some (d,b))->∃b',U[i]? =some (some (d,b'))/\(b=true->b'=true)
def Qdp.refl:Qdp U U:=⟨rfl,λi d b h=>⟨b,h,id⟩⟩
def Qdp.trans(a:Qdp U U')(b:Qdp U' U''):Qdp U U'':=⟨b.1.trans a.1,λi d c h=>by
 obtain⟨c',h1,h2⟩:=b.2 i d c h;obtain⟨c'',h3,h4⟩:=a.2 i d c' h1;exact⟨c'',h3,λz=>h4 (h2 z)⟩⟩
def Rel.weak(r:Rel K H0 A0 hs U F σ H)(w:Qdp U U'):Rel K H0 A0 hs U' F σ H where
 len:=w.1.trans r.len
 val:=λi d b e=>let ⟨b',h,_⟩:=w.2 i d b e;r.val i d b' h
 own:=λi d e=>by
  obtain⟨b',h,hb⟩:=w.2 i d true e;have:b'=true:=hb rfl;subst this;obtain⟨h1,h2,h3,h4,h5⟩:=r.own i d h;exact⟨h1,h2,h3,λj d' b' hj e'=>let ⟨b'',h',_⟩:=w.2 j d' b' e';h4 j d' b'' hj h',h5⟩
 src:=λi d b e=>let ⟨b',h,_⟩:=w.2 i d b e;r.src i d b' h
 held:=r.held
 same:=r.same
noncomputable def kill:List Nat->En->En
 | [],U=>U
 | i::M,U=>kill M (U.set i none)
noncomputable def QaV:List Nat->En->En
 | [],U=>U
 | i::M,U=>QaV M (match U[i]? with
  | some (some (d,_))=>U.set i (some (d,false))
  | _=>U)
def Qiv(i:Nat):Qdp U (U.set i none):=⟨⋯,λj d b h=>by
 by_cases hj:i=j
 .subst hj;by_cases hl:i<U.length
  .rw[Zw hl]at h;cases h
  .rw[Zt (by simp;omega)]at h;cases h
 .rw[Zm hj]at h;exact⟨b,h,id⟩⟩
def Qdq:∀(M:List Nat) (U:En),Qdp U (kill M U)
 | [],U=> .refl
 | i::M,U=>(Qiv i).trans (Qdq M _)
def Qh8:∀(M:List Nat) (U:En) (i:Nat) (d:D) (b:Bool),i∈M->(kill M U)[i]? =some (some (d,b))->False
 | [],U,i,d,b,h,_=>by simp at h
 | j::M,U,i,d,b,h,e=>by
  rcases Zk.mp h with rfl | h
  .obtain⟨b',e',_⟩:=(Qdq M (U.set i none)).2 i d b e;by_cases hl:i<U.length
   .rw[Zw hl]at e';cases e'
   .rw[Zt (by simp;omega)]at e';cases e'
  .exact Qh8 M _ i d b h e
def Qve(i:Nat):Qdp U (match U[i]? with
  | some (some (d,_))=>U.set i (some (d,false))
  | _=>U):=by
 split
 .rename_i d b e;refine⟨⋯,λj d' b' h=>?_⟩;by_cases hj:i=j
  .subst hj;have hl:i<U.length:=(Ze.mp e).1;rw[Zw hl]at h;cases h;exact⟨b,e,λz=>by cases z⟩
  .rw[Zm hj]at h;exact⟨b',h,id⟩
 .exact .refl
def Qa9:∀(M:List Nat) (U:En),Qdp U (QaV M U)
 | [],U=> .refl
 | i::M,U=>(Qve i).trans (Qa9 M _)
def Qlt:∀(M:List Nat) (U:En) (i:Nat) (d:D),i∈M->(QaV M U)[i]? =some (some (d,true))->False
 | [],U,i,d,h,_=>by simp at h
 | j::M,U,i,d,h,e=>by
  rcases Zk.mp h with rfl | h
  .obtain⟨b',e',hb⟩:=(Qa9 M _).2 i d true e;have:b'=true:=hb rfl;subst this;split at e'
   .rename_i d' b e1;have hl:i<U.length:=(Ze.mp e1).1;rw[Zw hl]at e';cases e'
   .rename_i h1;exact h1 d true e'
  .exact Qlt M _ i d h e
def Shr(H0:Hp)(A0:LAd)(U:En)(F:Nat->List Addr)(G:LAd):Prop:=
 ∀a∈G,(H0 a=none∨a∈A0)/\∀(i:Nat) d,U[i]? =some (some (d,true))->a∉F i
def Shr.of(r:Rel K H0 A0 hs U F σ H)(s:Src U F H M G):Shr H0 A0 (QaV M U) F G:=λa ha=>by
 have w:=Qa9 M U;rcases s a ha with h | ⟨i,d,b,e,m,hm⟩
 .refine⟨.inl (r.same.free h),λj d' e' hj=>?_⟩;obtain⟨b',e2,_⟩:=w.2 j d' true e';obtain⟨vs,q⟩:=r.mem e2 hj;rw[h]at q;cases q
 .refine⟨r.src i d b e a m,λj d' e' hj=>?_⟩;obtain⟨b',e2,hb⟩:=w.2 j d' true e';have:b'=true:=hb rfl;subst this;by_cases hij:i=j
  .subst hij;rw[e]at e2;cases e2;exact Qlt M U i _ (hm rfl) e'
  .exact(r.own j d' e2).2.2.2.1 i d b hij e a hj m
def Rel.Qpe(r:Rel K H0 A0 hs U F σ H)(rp:Rp K H d v G)(sh:Shr H0 A0 U F G):
  Rel K H0 A0 hs (U.set i (some (d,d.flat))) (λj=>if j=i then G else F j) (σ.set i (some v)) H where
 len:=by simp[r.len]
 val:=λj d' b e=>by
  by_cases hj:j=i
  .subst hj;have hl:j<U.length:=by
    by_cases hl:j<U.length
    .exact hl
    .rw[Zt (by simp;omega)]at e;cases e
   rw[Zw hl]at e;cases e;exact⟨v,by rw[Zw (by rw[← r.len];exact hl)],by rw[if_pos rfl];exact rp⟩
  .rw[Zm (Ne.symm hj)]at e;obtain⟨w,h1,h2⟩:=r.val j d' b e;exact⟨w,by rw[Zm (Ne.symm hj)];exact h1,by rw[if_neg hj];exact h2⟩
 own:=λj d' e=>by
  by_cases hj:j=i
  .subst hj;have hl:j<U.length:=by
    by_cases hl:j<U.length
    .exact hl
    .rw[Zt (by simp;omega)]at e;cases e
   rw[Zw hl]at e;have e1:=Option.some.inj (Option.some.inj e);have ed:d=d':=congrArg Prod.fst e1;have ef:d.flat=true:=congrArg Prod.snd e1;subst ed;have:=rp.Qc6 ef;subst this;rw[if_pos rfl];exact⟨(Qey d ef).symm,ZaK,λa ha=>by simp at ha,λ_ _ _ _ _ a ha=>by simp at ha,λ_ _ a ha=>by simp at ha⟩
  .rw[Zm (Ne.symm hj)]at e;obtain⟨h1,h2,h3,h4,h5⟩:=r.own j d' e;rw[if_neg hj];refine⟨h1,h2,h3,λk d'' b hk ek a ha=>?_,h5⟩;by_cases hki:k=i
   .subst hki;rw[if_pos rfl];exact λhG=>(sh a hG).2 j d' e ha
   .rw[Zm (Ne.symm hki)]at ek;rw[if_neg hki];exact h4 k d'' b hk ek a ha
 src:=λj d' b e a ha=>by
  by_cases hj:j=i
  .subst hj;rw[if_pos rfl]at ha;exact(sh a ha).1
  .rw[Zm (Ne.symm hj)]at e;rw[if_neg hj]at ha;exact r.src j d' b e a ha
 held:=r.held
 same:=r.same
def QBG(r:Rel K H0 A0 hs U F σ H)(ow:Qby U M)(nd:M.Nodup)(a:Addr):((M.map F).flatten).count a<=1:=by
 induction M with
 | nil=>simp
 | cons i M ih=>
  rw[Zv,Zao,Zar];obtain⟨h1,h2⟩:=Zan.mp nd;have ih':=ih (λj hj=>ow j (Zb _ hj)) h2;obtain⟨d,e⟩:=ow i Zi;obtain⟨_,nd1,_,apart,_⟩:=r.own i d e;by_cases ha:a∈F i
  .have c1:(F i).count a<=1:=ZaF.mp nd1 a;have c2:((M.map F).flatten).count a=0:=Zae.mpr λhm=>by
    obtain⟨l,hl,hal⟩:=ZbL.mp hm;obtain⟨j,hj,rfl⟩:=ZI.mp hl;obtain⟨d',e'⟩:=ow j (Zb _ hj);exact apart j d' true (λz=>h1 (z▸hj)) e' a ha hal
   omega
  .have:(F i).count a=0:=Zae.mpr ha;omega
def Qam.fresh(r:Rel K H0 A0 hs U F σ H)(p:Qam K U F H H' rr v G)(hf:rr.fr=true)(nd:rr.M.Nodup):
  G.Nodup/\∀a∈G,H0 a=none/\(H a=none∨∃i d,i∈rr.M/\U[i]? =some (some (d,true))/\a∈F i):=by
 obtain⟨c,_⟩:=p.cnt hf;refine⟨ZaF.mpr λa=>?_,λa ha=>?_⟩
 .have h1:=c a;have h2:=QBG r p.own nd a;cases q:H a with
  | none=>rw[QbQ q,r.fl0 p.own q]at h1;omega
  | some o=>rw[Qep q]at h1;omega
 .cases q:H a with
  | none=>exact⟨r.same.free q,.inl rfl⟩
  | some o=>
   have h1:=c a;rw[Qep q]at h1;have h2:0<G.count a:=ZaC.mpr ha;obtain⟨l,hl,hal⟩:=ZbL.mp (ZaC.mp (by omega:0<((rr.M.map F).flatten).count a));obtain⟨i,hi,rfl⟩:=ZI.mp hl;obtain⟨d,e⟩:=p.own i hi;exact⟨(r.own i d e).2.2.1 a hal,.inr ⟨i,d,hi,e,hal⟩⟩
def Rel.Qfj(r:Rel K H0 A0 hs U F σ H)(p:Qam K U F H H' rr v G)(hf:rr.fr=true)(nd:rr.M.Nodup):
  Rel K H0 A0 hs ((kill rr.M U).set i (some (rr.d,true))) (λj=>if j=i then G else F j) (σ.set i (some v)) H':=by
 have r1:=(r.ext p.same).weak (Qdq rr.M U);obtain⟨gn,gs⟩:=p.fresh r hf nd;have gl:=(p.cnt hf).2;have apart:∀(j:Nat) d b,(kill rr.M U)[j]? =some (some (d,b))->∀a∈G,a∉F j:=λj d b e a ha hj=>by
  obtain⟨b',e',_⟩:=(Qdq rr.M U).2 j d b e;rcases(gs a ha).2 with q | ⟨k,d',hk,ek,hak⟩
  .obtain⟨vs,w⟩:=r.mem e' hj;rw[q]at w;cases w
  .have hjk:j≠k:=λz=>by subst z;exact Qh8 rr.M U j d b hk e
   exact(r.own k d' ek).2.2.2.1 j d b' hjk e' a hak hj
 have apartH:∀t∈hs,∀a∈G,a∉t.2.2:=λt ht a ha hj=>by
  rcases(gs a ha).2 with q | ⟨k,d',hk,ek,hak⟩
  .obtain⟨vs,w⟩:=(r.held t ht).1.mem a hj;rw[q]at w;cases w
  .exact(r.own k d' ek).2.2.2.2 t ht a hak hj
 have lt:∀{j:Nat}{x:Option (D×Bool)}{y:D×Bool},((kill rr.M U).set j x)[j]? =some (some y)->j<(kill rr.M U).length:=λ{j x y} e=>by
  by_cases hl:j<(kill rr.M U).length
  .exact hl
  .rw[Zt (by simp;omega)]at e;cases e
 refine⟨by simp[r1.len],λj d b e=>?_,λj d e=>?_,λj d b e a ha=>?_,r1.held,r1.same⟩
 .by_cases hj:j=i
  .subst hj;have hl:=lt e;rw[Zw hl]at e;cases e;exact⟨v,by rw[Zw (by rw[← r1.len];exact hl)],by rw[if_pos rfl];exact p.rp⟩
  .rw[Zm (Ne.symm hj)]at e;obtain⟨w,h1,h2⟩:=r1.val j d b e;exact⟨w,by rw[Zm (Ne.symm hj)];exact h1,by rw[if_neg hj];exact h2⟩
 .by_cases hj:j=i
  .subst hj;have hl:=lt e;rw[Zw hl]at e;cases e;rw[if_pos rfl];refine⟨gl,gn,λa ha=>(gs a ha).1,λk d' b hk ek a ha=>?_,apartH⟩;rw[Zm (Ne.symm hk)]at ek;rw[if_neg hk];exact apart k d' b ek a ha
  .rw[Zm (Ne.symm hj)]at e;obtain⟨h1,h2,h3,h4,h5⟩:=r1.own j d e;rw[if_neg hj];refine⟨h1,h2,h3,λk d' b hk ek a ha=>?_,h5⟩;by_cases hki:k=i
   .subst hki;rw[if_pos rfl];exact λhG=>apart j d true e a hG ha
   .rw[Zm (Ne.symm hki)]at ek;rw[if_neg hki];exact h4 k d' b hk ek a ha
 .by_cases hj:j=i
  .subst hj;rw[if_pos rfl]at ha;exact .inl (gs a ha).1
  .rw[Zm (Ne.symm hj)]at e;rw[if_neg hj]at ha;exact r1.src j d b e a ha
noncomputable def asg(i:Nat)(r:R)(U:En):En:=
 if r.norm.fr && decide r.norm.M.Nodup then(kill r.norm.M U).set i (some (r.d,true))else(QaV r.norm.M U).set i (some (r.d,r.d.flat))
def Rel.asg(r:Rel K H0 A0 hs U F σ H)(p:Qam K U F H H' rr v G):∃F',Rel K H0 A0 hs (asg i rr U) F' (σ.set i (some v)) H':=by
 have p':=p.norm;unfold HS.asg;split
 .rename_i h;simp only[Zp,decide_eq_true_eq]at h;have:=r.Qfj (i:=i) p' h.1 h.2;rw[rr.Qdc]at this;exact⟨_,this⟩
 .have r1:=(r.ext p'.same).weak (Qa9 rr.norm.M U);have rp:=p'.rp;rw[rr.Qdc]at rp;have sh:=Shr.of r p'.src;exact⟨_,r1.Qpe rp sh⟩
def Rel.hold(r:Rel K H0 A0 hs U F σ H)(h:∀t∈ts,Rp K H t.2.1 t.1 t.2.2/\Shr H0 A0 U F t.2.2):Rel K H0 A0 (ts++hs) U F σ H where
 len:=r.len
 val:=r.val
 own:=λi d e=>by
  obtain⟨h1,h2,h3,h4,h5⟩:=r.own i d e;refine⟨h1,h2,h3,h4,λt ht a ha hm=>?_⟩;rcases ZJ.mp ht with z | z
  .exact((h t z).2 a hm).2 i d e ha
  .exact h5 t z a ha hm
 src:=r.src
 held:=λt ht=>by
  rcases ZJ.mp ht with z | z
  .exact⟨(h t z).1,λa ha=>((h t z).2 a ha).1⟩
  .exact r.held t z
 same:=r.same
def Rel.Qn9(r:Rel K H0 A0 (ts++hs) U F σ H):Rel K H0 A0 hs U F σ H where
 len:=r.len
 val:=r.val
 own:=λi d e=>let ⟨h1,h2,h3,h4,h5⟩:=r.own i d e;⟨h1,h2,h3,h4,λt ht=>h5 t (Zg _ ht)⟩
 src:=r.src
 held:=λt ht=>r.held t (Zg _ ht)
 same:=r.same
end
structure Ret (K:Fgg) (H0:Hp) (A0:LAd) (d:D) (fr:Bool) (v:V) (H':Hp) (G:LAd):Prop where
 same:QU H0 H'
 rp:Rp K H' d v G
 src:∀a∈G,H0 a=none∨a∈A0
 cnt:fr=true->G.Nodup/\G.length=d.nl/\∀a∈G,H0 a=none
noncomputable abbrev Den:=List D->Option (D×Bool)
noncomputable def spV(K:Fgg)(n:Nat)(den:Den):Sp:=λvs H Q _=>∃ds F d fr,Rps K H ds vs F/\ds.length=n/\den ds=some (d,fr)/\∀v H' G,Ret K H F d fr v H' G->Q v H'
def Qmt{K:Fgg}{n:Nat}{den:Den}{ps:List Str}(hn:ps.length=n):∀vs H Q E,spV K n den vs H Q E->vs.length=ps.length:=λvs H Q E ⟨ds,F,d,fr,r,hl,_⟩=>by rw[hn,← hl,r.length]
noncomputable def Qm(n:Nat)(den:Den)(dfl:List D)(fs:DA):DE:=λU=>(fs U).bind λr=>if r.ds.length+dfl.length=n then(den (r.ds++dfl)).map λq=>if q.2=true then⟨q.1,true,[]⟩else R.norm ⟨q.1,false,r.M⟩else none
section
variable {X:Cx}{e:Expr}{es:List Expr}{fs:DA}{pos p:Pos}{x:Str}{n k:Nat}{f:Addr}{fd:FuncData}{ps:List Str}{den:Den}{dfl:List D}{dvs:List V}{ds:List Value}
def Qip{σ:L2.St}{H H0:Hp}{A0:LAd}{Q:VK}(hdf:∀H,Rps X.K H dfl dvs []):tV X.K H0 A0 (Qm n den dfl fs) σ H Q->QrB (spV X.K n den) dvs E0 (tVA X.K H0 A0 fs) σ H Q:=exK λU hs F r rel e q=>by
 refine Ql e λra e1 e=>?_;split at e
 .rename_i hl;obtain⟨⟨d,fr⟩,e2,e⟩:=Zf.mp e;refine⟨U,hs,F,ra,rel,e1,λvs H1 G p1=>⟨ra.ds++dfl,G++[],d,fr,p1.rp.append (hdf H1),by rw[Zo];exact hl,e2,λv H2 G2 rt=>?_⟩⟩;subst e;have src:Src U F H ra.M G2:=λa ha=>by
   rcases rt.src a ha with z | z
   .exact .inl (p1.same.free z)
   .rw[Zad]at z;exact p1.src a z
  split at q
  .rename_i hf;have hf:fr=true:=hf;obtain⟨nd,hn,fresh⟩:=rt.cnt hf;have hH:∀a∈G2,H a=none:=λa ha=>p1.same.free (fresh a ha);refine q v H2 G2 ⟨p1.same.trans rt.same,rt.rp,λa ha=> .inl (hH a ha),λ_=>⟨λa=>?_,hn⟩,Qby.nil⟩;by_cases ha:a∈G2
   .rw[QbQ (hH a ha)];have:=ZaF.mp nd a;omega
   .rw[Zae.mpr ha];exact Zaa _
  .refine q v H2 G2 (Qam.norm ⟨p1.same.trans rt.same,rt.rp,src,λz=>(by cases z),p1.own⟩)
 .cases e
def Qw7(Fk:QcJ X.prog X.w X.K X.mg X.base CX0 k f fd ps (spV X.K n den))(hr:Qbg k X.A)(hg:Gl X x)(hm:X.mg x=some (.ref f))(hk:PySem.W.keepIn X.K (.ref f)=true)(hb:Binds X.K fd ps ds)(hd:QB dvs ds)(hdf:∀H,Rps X.K H dfl dvs [])
  (ha:SA X (e::es) fs) (hdb:(x == ("__debug__" :Str))=false) (he:starEach (e::es) X.env=(false,eval e X.env)::starEach es X.env) (hpl:(backTo pos (starEach es X.env)).any (·.1)=false):
  SE X (.Call (.Name x p) (e::es) [] pos) (Qm n den dfl fs):=λH0 A0=>
 (Qw2 Fk hr hg hm hk hb hd Qr1 (ha H0 A0) hdb he hpl).mono λσ H Q h=>Qip hdf h
def QwF(Fk:QcJ X.prog X.w X.K X.mg X.base CX0 k f fd ps (spV X.K n den))(hr:Qbg k X.A)(hg:Gl X x)(hm:X.mg x=some (.ref f))(hk:PySem.W.keepIn X.K (.ref f)=true)(hb:Binds X.K fd ps ds)(hd:QB dvs ds)(hdf:∀H,Rps X.K H dfl dvs [])
  (hdb:(x == ("__debug__" :Str))=false):SE X (.Call (.Name x p) [] [] pos) (Qm n den dfl Qb):=λH0 A0=>
 (Qwn Fk hr hg hm hk hb hd Qr1 hdb).mono λσ H Q h=>by
  have h':=Qip hdf h;obtain⟨U,hs,F,r,rel,e,q⟩:=h';cases e;exact q [] H [] ⟨QU.refl _,by simp[Rps],Src.nil,λ_=>⟨Cnt.nil,rfl⟩,Qby.nil⟩
end
structure IR where
 items:List D
 M:List Nat
noncomputable abbrev DI:=En->Option IR
def Qmb(K:Fgg)(H:Hp)(ts:List (V×D×List Addr)):Prop:=∀t∈ts,Rp K H t.2.1 t.1 t.2.2
structure Walk (K:Fgg) (J:It) (ts:List (V×D×List Addr)) (ds:List D):Prop where
 stop:∀H,Qmb K H ts->J.stop ds.length H
 go:∀i H,i<ds.length->Qmb K H ts->J.go i H
 yld:∀(i:Nat) d H x H',ds[i]? =some d->Qmb K H ts->J.yld i H x H'->QU H H'/\∃G,Rp K H' d x G/\∀a∈G,∃t∈ts,a∈t.2.2
noncomputable def tI(K:Fgg)(H0:Hp)(A0:LAd)(f:DI):TI:=λσ H Rr=>∃U hs F ir,Rel K H0 A0 hs U F σ H/\f U=some ir∧
 ∀J H1 ts,QU H H1->Walk K J ts ir.items->(∀t∈ts,Rp K H1 t.2.1 t.1 t.2.2/\Src U F H ir.M t.2.2)->Qby U ir.M->ir.items.length<=sizeLine->Rr J H1
def SI(X:Cx)(tg e:Expr)(f:DI):Prop:=∀H0 A0,PI X tg e (tI X.K H0 A0 f)
def _root_.L2.PI.mono(h:PI X tg e t)(m:∀σ H Q,t' σ H Q->t σ H Q):PI X tg e t':=λpins s σ H Q I q=>h pins s σ H Q I (m σ H Q q)
section
variable {X:Cx}{tg a b:Expr}{fa fb:DE}{fs:DA}{pos p:Pos}
def Rps.nth{K:Fgg}{H:Hp}{ds:List D}{vs:List V}{F:LAd}{i:Nat}{d:D}(h:Rps K H ds vs F)(e:ds[i]? =some d):∃v G,vs[i]? =some v/\Rp K H d v G/\∀a∈G,a∈F:=by
 obtain⟨v,F1,G,F2,h1,h2,h3,_⟩:=h.get e;exact⟨v,G,h1,h3,λa ha=>by rw[h2];exact Zg _ (Zd _ ha)⟩
noncomputable def QCD(K:Fgg)(tl:TE):TI:=λσ H Rr=>tl σ H λx H1=>(∃a,x= .ref a/\(∃xs,SqL K H1 a xs)/\Rr (Itl K a) H1)∨(∃a,x= .ref a/\(∃xs,SqT K H1 a xs)/\Rr (Itt K a) H1)
def QtP(hl:PE X l tl):PI X tg l (QCD X.K tl):=by
 intro pins s σ H Rr I h;refine thn (hl pins s σ H _ I h) λv s1=>exJ λx H1 I1 r1 q1=>?_;rcases q1 with⟨a,e,⟨xs,hq⟩,q⟩ | ⟨a,e,⟨xs,hq⟩,q⟩
 .subst e;cases r1;obtain⟨its,rv,pl,hz⟩:=I1.list hq;refine wpAny_pyIter_list pl.isList ⟨s1.heap.objs.size,[s1.heap.objs.size],_,_,H1,rfl,I1.kept (t':=s1.toks) λb o e=>Zn _ e,QsH a _,⟨_,ZG _ rfl,rfl,rfl⟩,λb hb=>?_,q⟩;have e:b=s1.heap.objs.size:=by simpa using hb
  subst e;exact I1.Qon (Zs _) (I1.hok.fresh (Zs _))
 .subst e;cases r1;obtain⟨its,rv,pl,hz⟩:=I1.tuple hq;refine wpAny_pyIter_tuple (show s1.heap.IsTuple a its.toArray from pl) ⟨s1.heap.objs.size,[s1.heap.objs.size],_,_,H1,rfl,I1.kept (t':=s1.toks) λb o e=>Zn _ e,Qsf a _,⟨_,ZG _ rfl,rfl,rfl⟩,λb hb=>?_,q⟩;have e:b=s1.heap.objs.size:=by simpa using hb
  subst e;exact I1.Qon (Zs _) (I1.hok.fresh (Zs _))
noncomputable def QT(fa:DE):DI:=λU=>(fa U).bind λr=>match r.d with
 | .lst xs=>some ⟨xs,r.M⟩
 | .tup xs=>if xs.length<=sizeLine then some ⟨xs,r.M⟩else none
 | _=>none
def Qsz{K:Fgg}{c:Addr}{ds:List D}{G:LAd}:Walk K (Itl K c) [(.ref c,.lst ds,G)] ds where
 stop:=λH h=>by
  obtain⟨l,vs,L,e,hl,rl,zl,el⟩:=(h _ (ZE.mpr rfl)).lst_inv;cases e;exact⟨vs,Qab hl,by rw[rl.length];exact Zs _⟩
 go:=λi H hi h=>by
  obtain⟨l,vs,L,e,hl,rl,zl,el⟩:=(h _ (ZE.mpr rfl)).lst_inv;cases e;have:i<vs.length:=by rw[← rl.length];exact hi
  exact⟨vs,vs[i],Qab hl,by simp[this]⟩
 yld:=λi d H x H' e h y=>by
  obtain⟨l,vs,L,e1,hl,rl,zl,el⟩:=(h _ (ZE.mpr rfl)).lst_inv;cases e1;obtain⟨rfl,y⟩:=y;obtain⟨v,G',h1,h2,h3⟩:=rl.nth e;have:=y vs (Qab hl);rw[h1]at this;cases this;refine⟨QU.refl _,G',h2,λz hz=>⟨_,ZE.mpr rfl,?_⟩⟩;have:=h3 z hz;rcases el with rfl | rfl
  .exact Zb _ this
  .exact this
def QvG{K:Fgg}{c:Addr}{ds:List D}{G:LAd}:Walk K (Itt K c) [(.ref c,.tup ds,G)] ds where
 stop:=λH h=>by
  obtain⟨l,vs,e,hl,rl⟩:=(h _ (ZE.mpr rfl)).Qba;cases e;exact⟨vs,hl,by rw[rl.length];exact Zs _⟩
 go:=λi H hi h=>by
  obtain⟨l,vs,e,hl,rl⟩:=(h _ (ZE.mpr rfl)).Qba;cases e;have:i<vs.length:=by rw[← rl.length];exact hi
  exact⟨vs,vs[i],hl,by simp[this]⟩
 yld:=λi d H x H' e h y=>by
  obtain⟨l,vs,e1,hl,rl⟩:=(h _ (ZE.mpr rfl)).Qba;cases e1;obtain⟨rfl,y⟩:=y;obtain⟨v,G',h1,h2,h3⟩:=rl.nth e;have:=y vs hl;rw[h1]at this;cases this;exact⟨QU.refl _,G',h2,λz hz=>⟨_,ZE.mpr rfl,h3 z hz⟩⟩
def QAX(ha:SE X a fa):SI X tg a (QT fa):=λH0 A0=>(QtP (ha H0 A0)).mono λσ H Rr=>exK λU hs F ir rel e q=>by
 refine Ql e λr e1 e=>?_;refine⟨U,hs,F,r,rel,e1,λv H1 G p=>?_⟩;have rp:=p.rp;cases hr:r.d with
 | lst xs=>
  rw[hr]at e rp;cases e;obtain⟨c,vs,L,rfl,hl,rl,zl,el⟩:=rp.lst_inv;refine .inl ⟨c,rfl,⟨vs,Qab hl⟩,q _ H1 [(.ref c,.lst xs,G)] p.same Qsz (λt ht=>?_) p.own zl⟩;rw[ZE.mp ht];exact⟨rp,p.src⟩
 | tup xs=>
  rw[hr]at e rp;dsimp only at e;split at e
  .rename_i hz;cases e;obtain⟨c,vs,rfl,hl,rl⟩:=rp.Qba;refine .inr ⟨c,rfl,⟨vs,hl⟩,q _ H1 [(.ref c,.tup xs,G)] p.same QvG (λt ht=>?_) p.own hz⟩;rw[ZE.mp ht];exact⟨rp,p.src⟩
  .cases e
 | _=>rw[hr]at e;cases e
noncomputable def QiY(lo:Int)(n:Nat):List D:=(List.range n).map λ(k:Nat)=> .int (lo+(k:Int))
def Qhw:(QiY lo n).length=n:=by simp[QiY]
def Qwd(h:(QiY lo n)[i]? =some d):i<n/\d= .int (lo+i):=by
 unfold QiY at h;rw[Zh]at h;cases q:(List.range n)[i]? with
 | none=>rw[q]at h;cases h
 | some k=>
  rw[q]at h;obtain⟨h1,h2⟩:=Ze.mp q;simp at h1 h2;subst h2;exact⟨h1,(Option.some.inj h).symm⟩
def Qk9:Walk K (Itr lo n) [] (QiY lo n) where
 stop:=λH _=>by rw[Qhw];exact Zs _
 go:=λi H hi _=>by rw[Qhw]at hi;exact hi
 yld:=λi d H x H' e _ y=>by
  obtain⟨h1,rfl⟩:=Qwd e;obtain⟨rfl,rfl⟩:=y;exact⟨QU.refl _,[],.int_mk,λz hz=>by simp at hz⟩
noncomputable def Qan(fa:DE):DI:=λU=>(fa U).bind λr=>match r.d with
 | .int j=>if j<=16777216/\ -(2^62)<=j then some ⟨QiY 0 j.toNat,[]⟩else none
 | _=>none
noncomputable def Qdy(fa fb:DE):DI:=λU=>(fa U).bind λr=>(fb U).bind λr'=>match r.d,r'.d with
 | .int i,.int j=>if j-i<=16777216/\ -(2^62)<=i/\i<2^62/\ -(2^62)<=j/\j<2^62 then some ⟨QiY i (j-i).toNat,[]⟩else none
 | _,_=>none
def Qdx:(sizeLine:Nat)=16777216:=sizeLine_eq
def Quy(hg:Gl X "range")(hm:X.mg "range" =none)(ha:SE X a fa)(hs:starEach [a] X.env=[(false,eval a X.env)]):SI X tg (.Call (.Name "range" p) [a] [] pos) (Qan fa):=λH0 A0=>
 (QtK hg hm (Qbh (ha H0 A0) Qde hs) hs).mono λσ H Rr=>exK λU hs F ir rel e q=>by
  refine Ql e λr e1 e=>?_;refine⟨U,hs,F,r,rel,e1,λv H1 G pp=>?_⟩;have rp:=pp.rp;cases hr:r.d with
  | int j=>
   rw[hr]at e rp;dsimp only at e;split at e
   .rename_i hz;cases e;rw[rp.int_inv];refine⟨j,rfl,hz.2,⋯,q _ H1 [] pp.same Qk9 (λt ht=>by simp at ht) Qby.nil ?_⟩;rw[Qhw,Qdx];omega
   .cases e
  | _=>rw[hr]at e;cases e
def Qtr(hg:Gl X "range")(hm:X.mg "range" =none)(ha:SE X a fa)(hb:SE X b fb)(hs:starEach [a,b] X.env=[(false,eval a X.env),(false,eval b X.env)])(hs2:starEach [b] X.env=[(false,eval b X.env)]):
  SI X tg (.Call (.Name "range" p) [a,b] [] pos) (Qdy fa fb):=λH0 A0=>
 (QsW hg hm (Qbh (ha H0 A0) (Qbh (hb H0 A0) Qde hs2) (by rw[hs,hs2])) hs hs2).mono λσ H Rr=>exK λU hs F ir rel e q=>by
  refine Ql e λr e1 e=>?_;refine Ql e λr' e2 e=>?_;refine⟨U,hs,F,r,rel,e1,λv H1 G pp=>⟨U,hs,F,r',rel.ext pp.same,e2,λv' H2 G' pp'=>?_⟩⟩;have rp:=pp.rp.same pp'.same;have rp':=pp'.rp;cases hr:r.d with
  | int i=>
   cases hr':r'.d with
   | int j=>
    rw[hr,hr']at e;rw[hr]at rp;rw[hr']at rp';dsimp only at e;split at e
    .rename_i hz;cases e;rw[rp.int_inv,rp'.int_inv];refine⟨i,j,rfl,hz.2,q _ H2 [] (pp.same.trans pp'.same) Qk9 (λt ht=>by simp at ht) Qby.nil ?_⟩;rw[Qhw,Qdx];omega
    .cases e
   | _=>rw[hr,hr']at e;cases e
  | _=>rw[hr]at e;cases e
noncomputable def Qc4(ds:List D):List D:=ds.zipIdx.map λq=> .tup [.int q.2,q.1]
def Qiy:(Qc4 ds).length=ds.length:=by simp[Qc4]
def Qtc{ds:List D}{i:Nat}{d:D}(h:(Qc4 ds)[i]? =some d):∃e,ds[i]? =some e/\d= .tup [.int i,e]:=by
 unfold Qc4 at h;rw[Zh,ZbS]at h;cases q:ds[i]? with
 | none=>rw[q]at h;cases h
 | some e=>rw[q]at h;simp at h;exact⟨e,rfl,h.symm⟩
def Qtm{K:Fgg}{c:Addr}{ds:List D}{G:LAd}:Walk K (Ite K c) [(.ref c,.lst ds,G)] (Qc4 ds) where
 stop:=λH h=>by
  obtain⟨l,vs,L,e,hl,rl,zl,el⟩:=(h _ (ZE.mpr rfl)).lst_inv;cases e;exact⟨vs,Qab hl,by rw[Qiy,rl.length];exact Zs _⟩
 go:=λi H hi h=>by
  obtain⟨l,vs,L,e,hl,rl,zl,el⟩:=(h _ (ZE.mpr rfl)).lst_inv;cases e;rw[Qiy]at hi;have:i<vs.length:=by rw[← rl.length];exact hi
  exact⟨vs,vs[i],Qab hl,by simp[this]⟩
 yld:=λi d H x H' e h y=>by
  obtain⟨l,vs,L,e1,hl,rl,zl,el⟩:=(h _ (ZE.mpr rfl)).lst_inv;cases e1;obtain⟨d',e',rfl⟩:=Qtc e;obtain⟨pp,u,rfl,hp,rfl,y⟩:=y;obtain⟨v,G',h1,h2,h3⟩:=rl.nth e';have:=y vs (Qab hl);rw[h1]at this;cases this;have s:=Qdb (o:= .tup [.int i,u]) hp;refine⟨s,G',Rp.QoT QaL ?_,λz hz=>⟨_,ZE.mpr rfl,?_⟩⟩
  .simp only[Rps];exact⟨.int i,[u],[],G',rfl,rfl,.int_mk,u,[],G',[],rfl,⋯,h2.same s,rfl,rfl⟩
  .have:=h3 z hz;rcases el with rfl | rfl
   .exact Zb _ this
   .exact this
noncomputable def Qbs(fa:DE):DI:=λU=>(fa U).bind λr=>match r.d with
 | .lst xs=>some ⟨Qc4 xs,r.M⟩
 | _=>none
def QyZ(hg:Gl X "enumerate")(hm:X.mg "enumerate" =none)(ha:SE X a fa)(hs:starEach [a] X.env=[(false,eval a X.env)]):SI X (.Tuple es tk tpos) (.Call (.Name "enumerate" p) [a] [] pos) (Qbs fa):=λH0 A0=>
 (Qw4 hg hm (Qbh (ha H0 A0) Qde hs) hs).mono λσ H Rr=>exK λU hs F ir rel e q=>by
  refine Ql e λr e1 e=>?_;refine⟨U,hs,F,r,rel,e1,λv H1 G pp=>?_⟩;have rp:=pp.rp;cases hr:r.d with
  | lst xs=>
   rw[hr]at e rp;cases e;obtain⟨c,vs,L,rfl,hl,rl,zl,el⟩:=rp.lst_inv;refine⟨c,rfl,⟨vs,Qab hl⟩,q _ H1 [(.ref c,.lst xs,G)] pp.same Qtm (λt ht=>?_) pp.own (by rw[Qiy];exact zl)⟩;rw[ZE.mp ht];exact⟨rp,pp.src⟩
  | _=>rw[hr]at e;cases e
noncomputable def Qd6(xs ys:List D):List D:=(xs.zip ys).map λq=> .tup [q.1,q.2]
def QkB:(Qd6 xs ys).length=min xs.length ys.length:=by simp[Qd6]
def QvN{xs ys:List D}{i:Nat}{d:D}(h:(Qd6 xs ys)[i]? =some d):∃e f,xs[i]? =some e/\ys[i]? =some f/\d= .tup [e,f]:=by
 unfold Qd6 at h;rw[Zh]at h;cases q:(xs.zip ys)[i]? with
 | none=>rw[q]at h;cases h
 | some e=>
  rw[q]at h;obtain⟨h1,h2⟩:=ZaP.mp q;exact⟨e.1,e.2,h1,h2,(Option.some.inj h).symm⟩
def Qww{K:Fgg}{c c':Addr}{xs ys:List D}{G G':LAd}:Walk K (Itz K c c') [(.ref c,.lst xs,G),(.ref c',.lst ys,G')] (Qd6 xs ys) where
 stop:=λH h=>by
  obtain⟨l,vs,L,e,hl,rl,zl,el⟩:=(h _ (Zi)).lst_inv;obtain⟨l',vs',L',e',hl',rl',zl',el'⟩:=(h _ (Zb _ Zi)).lst_inv;cases e;cases e';refine⟨vs,vs',Qab hl,Qab hl',?_⟩;rw[QkB,← rl.length,← rl'.length];omega
 go:=λi H hi h=>by
  obtain⟨l,vs,L,e,hl,rl,zl,el⟩:=(h _ (Zi)).lst_inv;obtain⟨l',vs',L',e',hl',rl',zl',el'⟩:=(h _ (Zb _ Zi)).lst_inv;cases e;cases e';rw[QkB]at hi;have h1:i<vs.length:=by rw[← rl.length];omega
  have h2:i<vs'.length:=by rw[← rl'.length];omega
  exact⟨vs,vs',vs[i],vs'[i],Qab hl,Qab hl',by simp[h1],by simp[h2]⟩
 yld:=λi d H x H' e h y=>by
  obtain⟨l,vs,L,e1,hl,rl,zl,el⟩:=(h _ (Zi)).lst_inv;obtain⟨l',vs',L',e1',hl',rl',zl',el'⟩:=(h _ (Zb _ Zi)).lst_inv;cases e1;cases e1';obtain⟨d1,d2,ea,eb,rfl⟩:=QvN e;obtain⟨pp,u,u',rfl,hp,rfl,y,y'⟩:=y;obtain⟨v,G1,h1,h2,h3⟩:=rl.nth ea;obtain⟨v',G2,h1',h2',h3'⟩:=rl'.nth eb;have:=y vs (Qab hl);rw[h1]at this;cases this;have:=y' vs' (Qab hl');rw[h1']at this;cases this;have s:=Qdb (o:= .tup [u,u']) hp;refine⟨s,G1++G2,Rp.QoT QaL ?_,λz hz=>?_⟩
  .simp only[Rps];exact⟨u,[u'],G1,G2,rfl,rfl,h2.same s,u',[],G2,[],rfl,⋯,h2'.same s,rfl,rfl⟩
  .rcases ZJ.mp hz with hz | hz
   .refine⟨_,Zi,?_⟩;have:=h3 z hz;rcases el with rfl | rfl
    .exact Zb _ this
    .exact this
   .refine⟨_,Zb _ Zi,?_⟩;have:=h3' z hz;rcases el' with rfl | rfl
    .exact Zb _ this
    .exact this
noncomputable def QcP(fa fb:DE):DI:=λU=>(fa U).bind λr=>(fb U).bind λr'=>match r.d,r'.d with
 | .lst xs,.lst ys=>some ⟨Qd6 xs ys,r.M++r'.M⟩
 | _,_=>none
def QA5(hg:Gl X "zip")(hm:X.mg "zip" =none)(ha:SE X a fa)(hb:SE X b fb)(hs:starEach [a,b] X.env=[(false,eval a X.env),(false,eval b X.env)])(hs2:starEach [b] X.env=[(false,eval b X.env)]):
  SI X (.Tuple es tk tpos) (.Call (.Name "zip" p) [a,b] [] pos) (QcP fa fb):=λH0 A0=>
 (QAy hg hm (Qbh (ha H0 A0) (Qbh (hb H0 A0) Qde hs2) (by rw[hs,hs2])) hs hs2).mono λσ H Rr=>exK λU hs F ir rel e q=>by
  refine Ql e λr e1 e=>?_;refine Ql e λr' e2 e=>?_;refine⟨U,hs,F,r,rel,e1,λv H1 G pp=>⟨U,hs,F,r',rel.ext pp.same,e2,λv' H2 G' pp'=>?_⟩⟩;have rp:=pp.rp.same pp'.same;have rp':=pp'.rp;cases hr:r.d with
  | lst xs=>
   cases hr':r'.d with
   | lst ys=>
    rw[hr,hr']at e;rw[hr]at rp;rw[hr']at rp';cases e;obtain⟨c,vs,L,rfl,hl,rl,zl,el⟩:=rp.lst_inv;obtain⟨c',vs',L',rfl,hl',rl',zl',el'⟩:=rp'.lst_inv;refine⟨c,c',rfl,⟨vs,Qab hl⟩,⟨vs',Qab hl'⟩,q _ H2 [(.ref c,.lst xs,G),(.ref c',.lst ys,G')] (pp.same.trans pp'.same) Qww (λt ht=>?_) (pp.own.append pp'.own) (by rw[QkB];omega)⟩;have sa:=pp.src.append pp'.src pp.same;rcases Zk.mp ht with rfl | ht
    .exact⟨rp,λz hz=>sa z (Zd _ hz)⟩
    .rw[ZE.mp ht];exact⟨rp',λz hz=>sa z (Zg _ hz)⟩
   | _=>rw[hr,hr']at e;cases e
  | _=>rw[hr]at e;cases e
end
end HS
namespace HS
open PySem L2
section
end
end HS
namespace HS
open PySem PySem.Spec L2
inductive Tg where
 | nm (i:Nat)
 | tp (is:List Nat)
noncomputable def Tg.slots:Tg->List Nat
 | .nm i=>[i]
 | .tp is=>is
noncomputable def QdY:List Nat->List D->En->En
 | i::is,d::ds,U=>QdY is ds (U.set i (some (d,d.flat)))
 | _,_,U=>U
noncomputable def Qbv:Tg->D->En->Option En
 | .nm i,d,U=>some (U.set i (some (d,d.flat)))
 | .tp is,.tup xs,U=>if xs.length=is.length then some (QdY is xs U)else none
 | .tp is,.lst xs,U=>if xs.length=is.length then some (QdY is xs U)else none
 | .tp _,_,_=>none
noncomputable def tG(K:Fgg)(H0:Hp)(A0:LAd)(t:Tg):TG:=λv σ H Q=>∃U hs F d G U',Rel K H0 A0 hs U F σ H/\Rp K H d v G/\Shr H0 A0 U F G/\Qbv t d U=some U'∧
 ∀σ' F',Rel K H0 A0 hs U' F' σ' H->(∀j,j∉t.slots->σ'[j]? =σ[j]?)->(∀j a,a∈F' j->a∈F j∨a∈G)->Q σ' H
def SG(X:Cx)(tg:Expr)(t:Tg):Prop:=∀H0 A0,PG X tg (tG X.K H0 A0 t)
def _root_.L2.PG.mono{X:Cx}{tg:Expr}{t t':TG}(h:PG X tg t)(m:∀v σ H Q,t' v σ H Q->t v σ H Q):PG X tg t':=λpins s σ H v u Q I r q=>h pins s σ H v u Q I r (m v σ H Q q)
noncomputable def Qlo:List Nat->TGs
 | []=>QzT
 | i::is=>QwR (QhS i) (Qlo is)
def Shr.set{H0:Hp}{A0:LAd}{U:En}{F:Nat->List Addr}{G G1:LAd}{i:Nat}{d:D}(h:Shr H0 A0 U F G)(hf:d.flat=true->G1=[]):Shr H0 A0 (U.set i (some (d,d.flat))) (λj=>if j=i then G1 else F j) G:=λa ha=>by
 refine⟨(h a ha).1,λj d' e=>?_⟩;by_cases hj:j=i
 .subst hj;show ¬a∈(if j=j then G1 else F j);rw[if_pos rfl];have hl:j<U.length:=by
   by_cases hl:j<U.length
   .exact hl
   .rw[Zt (by simp;omega)]at e;cases e
  rw[Zw hl]at e;have e1:=Option.some.inj (Option.some.inj e);rw[hf (congrArg Prod.snd e1)];simp
 .rw[Zm (Ne.symm hj)]at e;show ¬a∈(if j=i then G1 else F j);rw[if_neg hj];exact(h a ha).2 j d' e
def Qkl{K:Fgg}{H0:Hp}{A0:LAd}{hs:List (V×D×List Addr)}:∀(is:List Nat) (ds:List D) (vs:List V) (U:En) (F:Nat->List Addr) (σ:L2.St) (H:Hp) (G:LAd) (Q:L2.St->Hp->Prop),
  Rel K H0 A0 hs U F σ H->Rps K H ds vs G->Shr H0 A0 U F G->ds.length=is.length→
  (∀σ' F',Rel K H0 A0 hs (QdY is ds U) F' σ' H->(∀j,j∉is->σ'[j]? =σ[j]?)->(∀j a,a∈F' j->a∈F j∨a∈G)->Q σ' H)->Qlo is vs σ H Q
 | [],ds,vs,U,F,σ,H,G,Q,rel,rp,sh,hl,q=>by
  have:ds=[]:=by simpa using hl
  subst this;simp only[Rps]at rp;exact⟨rp.1,q σ F rel (λ_ _=>rfl) λ_ _ h=> .inl h⟩
 | i::is,[],vs,U,F,σ,H,G,Q,rel,rp,sh,hl,q=>by simp at hl
 | i::is,d::ds,vs,U,F,σ,H,G,Q,rel,rp,sh,hl,q=>by
  simp only[Rps]at rp;obtain⟨v,ws,G1,G2,rfl,rfl,r1,r2⟩:=rp;refine⟨v,ws,rfl,?_⟩;have sh1:Shr H0 A0 U F G1:=λa ha=>sh a (Zd _ ha);have sh2:Shr H0 A0 U F G2:=λa ha=>sh a (Zg _ ha);refine Qkl is ds ws _ _ _ H G2 Q (rel.Qpe r1 sh1) r2 (sh2.set r1.Qc6) (by simpa using hl) λσ' F' rel' k m=>q σ' F' rel' (λj hj=>?_) λj a ha=>?_
  .have h1:j≠i:=λz=>hj (by rw[z];exact Zi);rw[k j λz=>hj (Zb _ z),Zm (Ne.symm h1)]
  .rcases m j a ha with z | z
   .by_cases hj:j=i
    .rw[if_pos hj]at z;exact .inr (Zd _ z)
    .rw[if_neg hj]at z;exact .inl z
   .exact .inr (Zg _ z)
section
variable {X:Cx}{tg:Expr}{pos:Pos}
def Qyw{i:Nat}{x:Str}(h:PG X (.Name x pos) (QhS i)):SG X (.Name x pos) (.nm i):=λH0 A0=>h.mono λv σ H Q Z=>by
 obtain⟨U,hs,F,d,G,U',rel,rp,sh,e,q⟩:=Z;cases e;refine q _ _ (rel.Qpe rp sh) (λj hj=>?_) λj a ha=>?_
 .have:j≠i:=λz=>hj (by simp[Tg.slots,z]);rw[Zm (Ne.symm this)]
 .by_cases hj:j=i
  .rw[if_pos hj]at ha;exact .inr ha
  .rw[if_neg hj]at ha;exact .inl ha
def QxG{es:List Expr}{k:Nat}{t:TGs}{n:Nat}(hc:X.calm=true)(h:PGs X es t)
  (hn:(assignEach es X.env).length=n) (hst:(assignEach es X.env).findIdx? (·.1)=none):PG X (.Tuple es k pos) (λv σ H Q=>∃a xs,v= .ref a/\SqL X.K H a xs/\xs.length=n/\t xs σ H Q):=by
 intro pins s σ H v u Q I r hw;obtain⟨a,xs,e1,hq,hl,hw⟩:=hw;subst e1;cases r;obtain⟨its,rv,ht,hz⟩:=I.list hq;rw[PyProof.Rows.assign_Tuple];refine wpAny_bind (wpAny_standAt ?_);unfold unpack;rw[hn,hst,show n=its.toArray.size by simp[← hl,rv.length]];refine wpAny_bind (wpAny_holding (PySem.W.kun_itemsOf (I.ok.hd hc) ht.isList λh' hx=>?_));have I1:Inv X pins σ H {s with heap:=h'}:=I.kept (t':=s.toks) λb o e=>hx b o (ZH (Zr e)) e;exact h pins _ σ H xs _ Q I1 (by simpa using rv) hw
def QAv{es:List Expr}{k:Nat}{is:List Nat}(hc:X.calm=true)(h:PGs X es (Qlo is))(hn:(assignEach es X.env).length=is.length)(hst:(assignEach es X.env).findIdx? (·.1)=none):SG X (.Tuple es k pos) (.tp is):=λH0 A0=>
 λpins s σ H v u Q I r Z=>by
  obtain⟨U,hs,F,d,G,U',rel,rp,sh,e,q⟩:=Z;cases d with
  | tup xs=>
   simp only[Qbv]at e;split at e
   .rename_i hl;cases e;obtain⟨a,vs,rfl,hq,rs⟩:=rp.Qba;exact QAA hc h hn hst pins s σ H _ u Q I r ⟨a,vs,rfl,hq,by rw[← rs.length];exact hl,Qkl is xs vs U F σ H G Q rel rs sh hl q⟩
   .cases e
  | lst xs=>
   simp only[Qbv]at e;split at e
   .rename_i hl;cases e;obtain⟨a,vs,L,rfl,hq,rs,_,eG⟩:=rp.lst_inv;have sub:∀b∈L,b∈G:=λb hb=>by
     rcases eG with rfl | rfl
     .exact Zb _ hb
     .exact hb
    exact QxG hc h hn hst pins s σ H _ u Q I r ⟨a,vs,rfl,Qab hq,by rw[← rs.length];exact hl,Qkl is xs vs U F σ H L Q rel rs (λb hb=>sh b (sub b hb)) hl λσ' F' rel' k m=>q σ' F' rel' k λj b hb=>(m j b hb).imp id (sub b)⟩
   .cases e
  | _=>simp only[Qbv]at e;cases e
end
noncomputable def Qfv(cap:List (Option Nat))(U:En):En:=cap.map λo=>o.bind λi=>match U[i]? with
 | some (some (d,_))=>some (d,d.flat)
 | _=>none
noncomputable def Qrt(cap:List (Option Nat))(U:En):List Nat:=cap.filterMap λo=>o.bind λi=>match U[i]? with
 | some (some (d,b))=>if b && !d.flat then some i else none
 | _=>none
noncomputable def Qgk(t:Tg)(ft:DT)(fe:DE)(Uc:En)(acc:List D×Bool)(d:D):Option (List D×Bool):=
 (Qbv t d Uc).bind λU1=>(ft U1).bind λc=>if c=true then(fe U1).map λr=>(acc.1++[r.d],acc.2 && r.norm.fr)else some acc
noncomputable def QO(fi:DI)(t:Tg)(cap:List (Option Nat))(ft:DT)(fe:DE):DE:=λU=>(fi U).bind λir=>
 (ir.items.foldlM (Qgk t ft fe (Qfv cap U)) ([],true)).map λq=>if q.2=true then⟨.lst q.1,true,[]⟩else⟨.lst q.1,false,ir.M++Qrt cap U⟩
def Qds(U:En):Prop:=∀(j:Nat) d,U[j]? =some (some (d,true))->d.flat=true
def Qds.set{U:En}(h:Qds U)(i:Nat)(d:D):Qds (U.set i (some (d,d.flat))):=λj d' e=>by
 by_cases hj:j=i
 .subst hj;have hl:j<U.length:=by
   by_cases hl:j<U.length
   .exact hl
   .rw[Zt (by simp;omega)]at e;cases e
  rw[Zw hl]at e;have e1:=Option.some.inj (Option.some.inj e);have h1:d=d':=congrArg Prod.fst e1;have h2:d.flat=true:=congrArg Prod.snd e1;rw[← h1];exact h2
 .rw[Zm (Ne.symm hj)]at e;exact h j d' e
def Qds.QdY:∀(is:List Nat) (ds:List D) {U:En},Qds U->Qds (QdY is ds U)
 | [],_,_,h=>h
 | _::_,[],_,h=>h
 | i::is,d::ds,_,h=>Qds.QdY is ds (h.set i d)
def Qds.bind{t:Tg}{d:D}{U U':En}(h:Qds U)(e:Qbv t d U=some U'):Qds U':=by
 cases t with
 | nm i=>cases e;exact h.set i d
 | tp is=>
  cases d with
  | tup xs=>
   simp only[Qbv]at e;split at e
   .cases e;exact h.QdY is xs
   .cases e
  | lst xs=>
   simp only[Qbv]at e;split at e
   .cases e;exact h.QdY is xs
   .cases e
  | _=>simp only[Qbv]at e;cases e
def Qkr(cap:List (Option Nat))(U:En):Qds (Qfv cap U):=λj d e=>by
 unfold Qfv at e;rw[Zh]at e;cases q:cap[j]? with
 | none=>rw[q]at e;cases e
 | some o=>
  rw[q]at e;cases o with
  | none=>cases e
  | some i=>
   simp only[ZT,Za,Option.some.injEq]at e;split at e
   .have e1:=Option.some.inj e;have h1:=congrArg Prod.fst e1;have h2:=congrArg Prod.snd e1;dsimp only at h1 h2;rw[← h1];exact h2
   .cases e
def Qnt{cap:List (Option Nat)}{U:En}{j:Nat}{d:D}{b:Bool}(e:(Qfv cap U)[j]? =some (some (d,b))):∃i b',cap[j]? =some (some i)/\U[i]? =some (some (d,b')):=by
 unfold Qfv at e;rw[Zh]at e;cases q:cap[j]? with
 | none=>rw[q]at e;cases e
 | some o=>
  rw[q]at e;cases o with
  | none=>cases e
  | some i=>
   simp only[ZT,Za,Option.some.injEq]at e;split at e
   .rename_i d' b' hi;have e1:=Option.some.inj e;have h1:d'=d:=congrArg Prod.fst e1;subst h1;exact⟨i,b',rfl,hi⟩
   .cases e
def Qo8(X:Cx)(ifs:List Expr)(f:DT):Prop:=∀H0 A0,PTs X ifs (tVT X.K H0 A0 f)
noncomputable def QaR:DT:=λ_=>some true
def Qvh{X:Cx}:Qo8 X [] QaR:=λH0 A0 pins s σ H Q I=>exK λU hs F b rel e q=>by
 cases e;exact Qyx pins s σ H Q I (q H (QU.refl _))
def Qu0{X:Cx}{c:Expr}{f:DT}(h:ST X c f):Qo8 X [c] f:=λH0 A0=>QyN (h H0 A0)
structure QnV (X:Cx) (N':List Str) (scope:Scope) (cap:List (Option Nat)) (tgs:List Nat):Prop where
 len:cap.length=N'.length
 get:∀(j i:Nat),cap[j]? =some (some i)->∃x,N'[j]? =some x/\scope.names.lookup x=some .free/\X.N[i]? =some x/\(X.env.kindOf x=some .cell∨X.env.kindOf x=some .free)
 apart:∀(j i:Nat),cap[j]? =some (some i)->j∉tgs
def join_some{α:Type}{o:Option (Option α)}{v:α}(h:o.join=some v):o=some (some v):=by
 cases o with
 | none=>cases h
 | some p=>cases p with
  | none=>cases h
  | some x=>exact h▸rfl
def Qnb{X:Cx}{N':List Str}{scope:Scope}{fi:DI}{t:Tg}{cap:List (Option Nat)}{ft:DT}{fe:DE}{H0:Hp}{A0:LAd}{σ:L2.St}{H:Hp}{Q:VK}(hc:QnV X N' scope cap t.slots):
  tV X.K H0 A0 (QO fi t cap ft fe) σ H Q->QnK (tI X.K H0 A0 fi) (QlF X N' scope) (tG X.K (λ_=>none) [] t) (tVT X.K (λ_=>none) [] ft) (tV X.K (λ_=>none) [] fe) σ H Q:=exK λU hs F r rel e q=>by
 refine Ql e λir e1 e=>?_;obtain⟨⟨xs,f⟩,ef,e⟩:=Zf.mp e;subst e;refine⟨U,hs,F,ir,rel,e1,λJ H1 ts s1 wk hts ow hz=>?_⟩;refine⟨cap.map λo=>o.bind λi=>σ[i]?.join,⟨by simp[hc.len],λj x v hN hv=>?_⟩,λDl hD=>?_⟩
 .rw[Zh]at hv;cases qc:cap[j]? with
  | none=>rw[qc]at hv;cases hv
  | some o=>
   rw[qc]at hv;cases o with
   | none=>cases hv
   | some i=>
    simp only[ZT,Za,Option.some.injEq]at hv;obtain⟨y,h1,h2,h3,h4⟩:=hc.get j i qc;rw[hN]at h1;cases h1;exact⟨h2,i,h3,join_some hv,h4⟩
 generalize hσc:(cap.map λo=>o.bind λi=>σ[i]?.join)=σc;generalize hUc:Qfv cap U=Uc at ef
 have hF0:∃Fc:Nat->List Addr,Fc=λj=>match cap[j]? with
  | some (some i)=>(match U[i]? with
   | some (some _)=>F i
   | _=>[])
  | _=>[]:=⟨_,rfl⟩
 obtain⟨Fc,hFc⟩:=hF0;have rel1:=rel.ext s1;have relC:∀H2,QU H1 H2->Rel X.K (λ_=>none) [] [] Uc Fc σc H2:=λH2 s2=>by
  refine⟨by rw[← hUc,← hσc];simp[Qfv],λj d b e=>?_,λj d e=>?_,λj d b e a ha=> .inl rfl,λt ht=>(by simp at ht),λb o z=>(by cases z)⟩
  .rw[← hUc]at e;obtain⟨i,b',h1,h2⟩:=Qnt e;obtain⟨v,h3,h4⟩:=(rel1.ext s2).val i d b' h2;refine⟨v,?_,?_⟩
   .rw[← hσc,Zh,h1];simp only[ZT,Za,h3,Option.join_some]
   .rw[hFc];simp only[h1,h2];exact h4
  .have hf:d.flat=true:=Qkr cap U j d (by rw[hUc];exact e);have:Fc j=[]:=by
    rw[← hUc]at e;obtain⟨i,b',h1,h2⟩:=Qnt e;obtain⟨v,h3,h4⟩:=rel1.val i d b' h2;rw[hFc];simp only[h1,h2];exact h4.Qc6 hf
   rw[this];exact⟨(Qey d hf).symm,ZaK,λa ha=>(by simp at ha),λ_ _ _ _ _ a ha=>(by simp at ha),λt ht=>(by simp at ht)⟩
 have shC:∀G,Shr (λ_=>none) [] Uc Fc G:=λG a ha=>⟨.inl rfl,λj d e hj=>by
  have h0:=(relC H1 (QU.refl _)).own j d e;have hf:d.flat=true:=Qkr cap U j d (by rw[hUc];exact e);have:(Fc j).length=0:=by rw[h0.1,Qey d hf]
  rw[Zas this]at hj;simp at hj⟩
 have hSh:Qds Uc:=by rw[← hUc];exact Qkr cap U
 have heldOf:∀H2,QU H1 H2->Qmb X.K H2 ts:=λH2 s2 t ht=>(hts t ht).1.same s2;have oldOf:∀a,((∃t∈ts,a∈t.2.2)∨∃j,a∈Fc j)->(∃vs,H1 a=some (.lst vs))/\(H a=none∨∃(i:Nat) (d:D) (b:Bool),U[i]? =some (some (d,b))/\a∈F i/\(b=true->i∈ir.M++Qrt cap U)):=λa ha=>by
  rcases ha with⟨t,ht,ha⟩ | ⟨j,ha⟩
  .refine⟨(hts t ht).1.mem a ha,?_⟩;rcases(hts t ht).2 a ha with z | ⟨i,d,b,e,m,w⟩
   .exact .inl z
   .exact .inr ⟨i,d,b,e,m,λhb=>Zd _ (w hb)⟩
  .have ha0:=ha;rw[hFc]at ha;dsimp only at ha;split at ha
   .rename_i i hi;split at ha
    .rename_i db hdb;obtain⟨d,b⟩:=db;obtain⟨v,h3,h4⟩:=rel1.val i d b hdb;refine⟨h4.mem a ha,.inr ⟨i,d,b,hdb,ha,λhb=>Zg _ ?_⟩⟩;unfold Qrt;refine Zba.mpr ⟨some i,ZC hi,?_⟩;simp only[Za,hdb];have hnf:d.flat=false:=by
      cases hf:d.flat with
      | false=>rfl
      | true=>rw[h4.Qc6 hf]at ha;simp at ha
     rw[hb,hnf];rfl
    .simp at ha
   .simp at ha
 have fresh5:∀H2,QU H1 H2->∀a,H2 a=none->H1 a=none:=λH2 s2 a h=>s2.free h
 refine⟨λi m acc H2=>m=ir.items.length-i/\i<=ir.items.length/\QU H1 H2/\H2 Dl=some (.lst acc)/\∃(ys:List D) (g:Bool) (G:LAd),(ir.items.drop i).foldlM (Qgk t ft fe Uc) (ys,g)=some (xs,f)/\Rps X.K H2 ys acc G/\ys.length<=i∧
  (∀a∈G,a≠Dl/\(H1 a=none∨(∃t∈ts,a∈t.2.2)∨∃j,a∈Fc j))/\(g=true->G.length=nls ys/\∀a,G.count a<=nw H1 a),⟨ir.items.length,rfl,Zaa _,Qdb hD,QaL,[],true,[],by simpa using ef,by simp[Rps],Zs _,λa ha=>(by simp at ha),λ_=>⟨rfl,λa=>⋯⟩⟩,?_⟩
 rintro i m acc H2 ⟨rfl,hi,s2,eD,ys,g,G,hfold,rps,hlen,hG,hcnt⟩;by_cases hlt:i<ir.items.length
 .refine .inr ⟨wk.go i H2 hlt (heldOf H2 s2),λx H3 hy=>?_⟩;obtain⟨s3,G0,rp0,hG0⟩:=wk.yld i ir.items[i] H2 x H3 (by simp[hlt]) (heldOf H2 s2) hy;rw[Zaf hlt,Zct]at hfold;refine Ql hfold λacc1 hstep hrest=>?_;unfold Qgk at hstep;refine Ql hstep λU1 eb hstep=>?_;refine Ql hstep λc ec hstep=>?_;have sh1:Qds U1:=hSh.bind eb;refine⟨Uc,[],Fc,ir.items[i],G0,U1,relC H3 (s2.trans s3),rp0,shC G0,eb,λσ2 F2 rel2 keep mem2=>⟨λj v hv=>?_,U1,[],F2,c,rel2,ec,λH5 s5=>?_⟩⟩
  .have hj:j∉t.slots:=λhj=>by
    rw[← hσc,Zh]at hv;cases qc:cap[j]? with
    | none=>rw[qc]at hv;cases hv
    | some o=>
     cases o with
     | none=>rw[qc]at hv;cases hv
     | some k=>exact hc.apart j k qc hj
   rw[keep j hj];exact hv
  have s15:QU H1 H5:=(s2.trans s3).trans s5;have eD5:H5 Dl=some (.lst acc):=s5 _ _ (s3 _ _ eD);cases c with
  | false=>
   rw[if_neg Zam]at hstep;refine Qsk ?_;cases hstep;exact⟨_,⋯,rfl,hlt,s15,eD5,ys,g,G,hrest,rps.same (s3.trans s5),⋯,hG,hcnt⟩
  | true=>
   rw[if_pos rfl]at hstep;refine Qsg ?_;obtain⟨rr,er,hstep⟩:=Zf.mp hstep;subst hstep;refine⟨U1,[],F2,rr,rel2.ext s5,er,λy H6 Ge pe=>?_⟩;have eD6:H6 Dl=some (.lst acc):=pe.same _ _ eD5;have s16:=s15.trans pe.same;refine⟨eD6,?_,_,⋯,rfl,hlt,?_⟩
   .rw[← rps.length];exact Zbc hlen (Zz hlt hz)
   have hGe:∀a∈Ge,a≠Dl/\(H1 a=none∨(∃t∈ts,a∈t.2.2)∨∃j,a∈Fc j):=λa ha=>by
    rcases pe.src a ha with z | ⟨j,d,b,ej,hj,_⟩
    .exact⟨λw=>(by rw[w,eD5]at z;cases z),.inl (s15.free z)⟩
    .have h1:(∃t∈ts,a∈t.2.2)∨∃j,a∈Fc j:=by
      rcases mem2 j a hj with w | w
      .exact .inr ⟨j,w⟩
      .exact .inl (hG0 a w)
     obtain⟨⟨vs,w⟩,_⟩:=oldOf a h1;exact⟨λw'=>(by rw[w',hD]at w;cases w),.inr h1⟩
   have nD:Dl∉G:=λh=>(hG _ h).1 rfl;have nDe:Dl∉Ge:=λh=>(hGe _ h).1 rfl;have sU:QU H1 (L2.upd H6 Dl (.lst (acc++[y]))):=λb o hb=>by rw[QP (Qcl hb hD)];exact s16 b o hb
   refine⟨sU,QaL,ys++[rr.d],g && rr.norm.fr,G++Ge,hrest,?_,by rw[Zo,Zbj];omega,λa ha=>?_,λhg=>?_⟩
   .refine Rps.append ((rps.same ((s3.trans s5).trans pe.same)).upd eD6 nD) ?_;simp only[Rps];exact⟨y,[],Ge,[],rfl,⋯,pe.rp.upd eD6 nDe,rfl,rfl⟩
   .rcases ZJ.mp ha with h | h
    .exact hG a h
    .exact hGe a h
   .simp only[Zp]at hg;obtain⟨l1,c1⟩:=hcnt hg.1;have pn:=pe.norm;obtain⟨c2,l2⟩:=pn.cnt hg.2;rw[rr.Qdc]at l2;have nlapp:∀(as bs:List D),nls (as++bs)=nls as+nls bs:=λas bs=>by
     induction as with
     | nil=>simp[nls]
     | cons a as ih=>simp only[Zcs,nls,ih];omega
    refine⟨by rw[Zo,l1,l2,nlapp];simp[nls],λa=>?_⟩;have fl:((rr.norm.M.map F2).flatten).count a=0:=by
     rw[Zae];intro hm;obtain⟨l,hl,hal⟩:=ZbL.mp hm;obtain⟨j,hj,rfl⟩:=ZI.mp hl;obtain⟨d,ej⟩:=pn.own j hj;have hf:=sh1 j d ej;obtain⟨v,_,rv⟩:=rel2.val j d true ej;rw[rv.Qc6 hf]at hal;simp at hal
    have h1:=c1 a;have h2:=c2 a;rw[fl]at h2;rw[Zar];cases q5:H5 a with
    | some o=>rw[Qep q5]at h2;omega
    | none=>
     rw[QbQ q5]at h2;have h0:G.count a=0:=Zae.mpr λhm=>by
      obtain⟨vs,w⟩:=rps.mem a hm;rw[s5 _ _ (s3 _ _ w)]at q5;cases q5
     rw[QbQ (s15.free q5)];omega
 .have hn:i=ir.items.length:= ⋯
  subst hn;refine .inl ⟨wk.stop H2 (heldOf H2 s2),?_⟩;rw[Zcu]at hfold;have:(ys,g)=(xs,f):=Option.some.inj hfold;cases this;have rp:Rp X.K H2 (.lst xs) (.ref Dl) (Dl::G):=Rp.Qe3 eD rps (ZN hlen hz);have hHD:H Dl=none:=s1.free hD;split at q
  .rename_i hg;have hg:f=true:=hg;obtain⟨l1,c1⟩:=hcnt hg;have hn:∀a∈G,H1 a=none:=λa ha=>by
    have:=c1 a;have h2:0<G.count a:=ZaC.mpr ha;cases w:H1 a with
    | none=>rfl
    | some o=>rw[Qep w]at this;omega
   refine q _ H2 (Dl::G) ⟨s1.trans s2,rp,λa ha=>?_,λ_=>⟨λa=>?_,by simp only[D.nl,Zy,l1]⟩,Qby.nil⟩
   .rcases Zk.mp ha with rfl | h
    .exact .inl hHD
    .exact .inl (s1.free (hn a h))
   .rw[ZaQ];have h1:=c1 a;split
    .rename_i w;have w:Dl=a:=by simpa using w
     subst w;have h0:G.count Dl=0:=Zae.mpr λh=>(hG _ h).1 rfl;rw[QbQ hHD];omega
    .cases w:H1 a with
     | none=>rw[QbQ w]at h1;rw[QbQ (s1.free w)];omega
     | some o=>rw[Qep w]at h1;omega
  .refine q _ H2 (Dl::G) ⟨s1.trans s2,rp,λa ha=>?_,λz=>(by cases z),?_⟩
   .rcases Zk.mp ha with rfl | h
    .exact .inl hHD
    .rcases(hG a h).2 with z | z
     .exact .inl (s1.free z)
     .exact(oldOf a z).2
   .refine ow.append λi hi=>?_;unfold Qrt at hi;obtain⟨o,_,ho⟩:=Zba.mp hi;cases o with
    | none=>cases ho
    | some k=>
     simp only[Za]at ho;split at ho
     .rename_i d b hk;split at ho
      .rename_i hb;cases ho;simp only[Zp]at hb;rw[hb.1]at hk;exact⟨d,hk⟩
      .cases ho
     .cases ho
section
variable {X:Cx}{tg iter elt:Expr}{ifs:List Expr}{scope:Scope}{N':List Str}{pos:Pos}{fi:DI}{t:Tg}{cap:List (Option Nat)}{ft:DT}{fe:DE}
def QxZ(hcalm:X.calm=true)(S:Qe9 X N' scope)(hi:SI X tg iter fi)(hcap:QnV X N' scope cap t.slots)
  (hin:∀cl C fp s3 H3,SG (cxc X N' scope cl C fp s3 H3) tg t/\Qo8 (cxc X N' scope cl C fp s3 H3) ifs ft/\SE (cxc X N' scope cl C fp s3 H3) elt fe) (hs:∀x,foldedSetIterable iter X.env x=pure x):
  SE X (.ListComp elt [⟨tg,iter,ifs,0⟩] scope pos) (QO fi t cap ft fe):=λH0 A0=>
 (Qmj hcalm S (hi H0 A0) (λcl C fp s3 H3=>⟨(hin cl C fp s3 H3).1 _ _,(hin cl C fp s3 H3).2.1 _ _,(hin cl C fp s3 H3).2.2 _ _⟩) hs).mono λσ H Q h=>Qnb hcap h
end
inductive Out where
 | nx (U:En)
 | bk (U:En)
 | ct (U:En)
 | rt (d:D) (fr:Bool)
noncomputable abbrev DS:=En->Option Out
def Fits(K:Fgg)(H0:Hp)(A0:LAd)(hs:List (V×D×List Addr))(E:Ends):Out->Prop
 | .nx U=>∀σ H F,Rel K H0 A0 hs U F σ H->E.nx σ H
 | .bk U=>∀σ H F,Rel K H0 A0 hs U F σ H->E.bk σ H
 | .ct U=>∀σ H F,Rel K H0 A0 hs U F σ H->E.ct σ H
 | .rt d fr=>∀v H G,Ret K H0 A0 d fr v H G->E.rt v H
noncomputable def tS(K:Fgg)(H0:Hp)(A0:LAd)(f:DS):TS:=λE σ H=>∃U hs F o,Rel K H0 A0 hs U F σ H/\f U=some o/\Fits K H0 A0 hs E o
def S1(X:Cx)(st:Stmt)(f:DS):Prop:=∀H0 A0,PS X st (tS X.K H0 A0 f)
def SS(X:Cx)(sts:List Stmt)(f:DS):Prop:=∀H0 A0,PSs X sts (tS X.K H0 A0 f)
def _root_.L2.PS.mono(h:PS X st t)(m:∀D σ H,t' D σ H->t D σ H):PS X st t':=λpins s σ H D I q=>h pins s σ H D I (m D σ H q)
def _root_.L2.PSs.mono(h:PSs X st t)(m:∀D σ H,t' D σ H->t D σ H):PSs X st t':=λpins s σ H D I q=>h pins s σ H D I (m D σ H q)
noncomputable def Qj:DS:=λU=>some (.nx U)
noncomputable def Qc(f g:DS):DS:=λU=>(f U).bind λo=>match o with
 | .nx U'=>g U'
 | .bk U'=>some (.bk U')
 | .ct U'=>some (.ct U')
 | .rt d fr=>some (.rt d fr)
noncomputable def Qwk:DS:=λU=>some (.bk U)
noncomputable def Qwy:DS:=λU=>some (.ct U)
noncomputable def Qy(i:Nat)(fa:DE):DS:=λU=>(fa U).bind λr=>some (.nx (asg i r U))
noncomputable def Qdh(fa:DE):DE:=λU=>(fa U).map λr=>⟨r.d,false,r.M⟩
noncomputable def QH(fa:DE):DS:=λU=>(fa U).bind λr=>some (.rt r.d (r.norm.fr && decide r.norm.M.Nodup))
noncomputable def Qaj(fa:DE):DS:=λU=>(fa U).bind λ_=>some (.nx U)
noncomputable def sIf(g:DT)(f1 f2:DS):DS:=λU=>(g U).bind λb=>if b=true then f1 U else f2 U
noncomputable def Qdw(t:Tg)(fb:DS):List D->DS
 | [],U=>some (.nx U)
 | d::ds,U=>(Qbv t d U).bind λU1=>(fb U1).bind λo=>match o with
  | .nx U2=>Qdw t fb ds U2
  | .ct U2=>Qdw t fb ds U2
  | .bk U2=>some (.nx U2)
  | .rt d fr=>some (.rt d fr)
noncomputable def QaH(fi:DI)(t:Tg)(fb:DS):DS:=λU=>(fi U).bind λir=>Qdw t fb ir.items (QaV ir.M U)
noncomputable def Qbk(g:DT)(fb:DS):Nat->DS
 | 0,_=>none
 | n+1,U=>(g U).bind λb=>if b=true then(fb U).bind λo=>match o with
  | .nx U2=>Qbk g fb n U2
  | .ct U2=>Qbk g fb n U2
  | .bk U2=>some (.nx U2)
  | .rt d fr=>some (.rt d fr)
  else some (.nx U)
section
def QsQ:SS X [] Qj:=λH0 A0=>Qxc.mono λE σ H=>exK λU hs F o rel e q=>by
 cases e;exact q σ H F rel
def Qqe(h1:S1 X st f)(h2:SS X sts g):SS X (st::sts) (Qc f g):=λH0 A0=>(QfP (h1 H0 A0) (h2 H0 A0)).mono λE σ H=>exK λU hs F o rel e q=>by
 refine Ql e λo1 e1 e=>?_;refine⟨U,hs,F,o1,rel,e1,?_⟩;cases o1 with
 | nx U'=>exact λσ' H' F' rel'=>⟨U',hs,F',o,rel',e,q⟩
 | bk U'=>cases e;exact q
 | ct U'=>cases e;exact q
 | rt d fr=>cases e;exact q
def Qyj:S1 X (.Pass pos) Qj:=λH0 A0=>Qyh.mono λE σ H=>exK λU hs F o rel e q=>by
 cases e;exact q σ H F rel
def Qvb:S1 X (.Break pos) Qwk:=λH0 A0=>Qwh.mono λE σ H=>exK λU hs F o rel e q=>by
 cases e;exact q σ H F rel
def QyR:S1 X (.Continue pos) Qwy:=λH0 A0=>QpO.mono λE σ H=>exK λU hs F o rel e q=>by
 cases e;exact q σ H F rel
def Qvc(h:SE X e fa):SE X e (Qdh fa):=λH0 A0=>(h H0 A0).mono λσ H Q=>exK λU hs F r rel e q=>by
 obtain⟨r',e1,rfl⟩:=Zf.mp e;exact⟨U,hs,F,r',rel,e1,λv H' G p=>q v H' G ⟨p.same,p.rp,p.src,λz=>(by cases z),p.own⟩⟩
def Qlu(h:∀H0 A0,PS X st (Qiq (tV X.K H0 A0 fa) (QhS i))):S1 X st (Qy i fa):=λH0 A0=>(h H0 A0).mono λE σ H=>exK λU hs F o rel e q=>by
 refine Ql e λr e1 e=>?_;cases e;refine⟨U,hs,F,r,rel,e1,λv H' G p=>?_⟩;obtain⟨F',rel'⟩:=rel.asg (i:=i) p;exact q _ _ F' rel'
def Qx1(h:PS X st (Qsq (tV X.K H0 A0 fa))):PS X st (tS X.K H0 A0 (Qaj fa)):=h.mono λE σ H=>exK λU hs F o rel e q=>by
 refine Ql e λr e1 e=>?_;cases e;exact⟨U,hs,F,r,rel,e1,λv H' G p=>q σ H' F (rel.ext p.same)⟩
def Rel.ret(rel:Rel K H0 A0 hs U F σ H)(p:Qam K U F H H' r v G):Ret K H0 A0 r.d (r.norm.fr && decide r.norm.M.Nodup) v H' G where
 same:=rel.same.trans p.same
 rp:=p.rp
 src:=λa ha=>by
  rcases p.src a ha with z | ⟨i,d,b,e,m,_⟩
  .exact .inl (rel.same.free z)
  .exact rel.src i d b e a m
 cnt:=λh=>by
  simp only[Zp,decide_eq_true_eq]at h;have p':=p.norm;obtain⟨h1,h2⟩:=p'.fresh rel h.1 h.2;have h3:=(p'.cnt h.1).2;rw[r.Qdc]at h3;exact⟨h1,h3,λa ha=>(h2 a ha).1⟩
def Qt4(he:SE X e fa):S1 X (.Return (some e) pos) (QH fa):=λH0 A0=>(Qus (he H0 A0)).mono λE σ H=>exK λU hs F o rel e q=>by
 refine Ql e λr e1 e=>?_;cases e;exact⟨U,hs,F,r,rel,e1,λv H' G p=>q v H' G (rel.ret p)⟩
def QCf(hc:ST X c gc)(ha:SS X a f)(hb:SS X b g):S1 X (.If c a b pos) (sIf gc f g):=λH0 A0=>(QwV (hc H0 A0) (ha H0 A0) (hb H0 A0)).mono λE σ H=>exK λU hs F o rel e q=>by
 refine Ql e λc e1 e=>?_;refine⟨U,hs,F,c,rel,e1,λH1 s1=>?_⟩;cases c with
 | true=>exact Qsg ⟨U,hs,F,o,rel.ext s1,e,q⟩
 | false=>exact Qsk ⟨U,hs,F,o,rel.ext s1,e,q⟩
def Qzz(hp:PassesOwn (model X.prog X.w) X.A X.env X.xe)(hc:X.calm=true)(hi:SI X tg iter fi)(hg:SG X tg t)(hb:SS X body f)(hs:∀x,foldedSetIterable iter X.env x=pure x):
  S1 X (.For tg iter body [] pos) (QaH fi t f):=λH0 A0=>(Qul hp hc (hi H0 A0) (hg H0 A0) (hb H0 A0) hs).mono λE σ H=>exK λU hs F o rel e q=>by
 refine Ql e λir e1 e=>?_;refine⟨U,hs,F,ir,rel,e1,λJ H1 ts s1 wk hts ow hz=>?_⟩;have rel1:Rel X.K H0 A0 (ts++hs) (QaV ir.M U) F σ H1:=((rel.ext s1).weak (Qa9 ir.M U)).hold λt ht=>⟨(hts t ht).1,Shr.of rel (hts t ht).2⟩;refine⟨λi m σ' H'=>m=ir.items.length-i/\i<=ir.items.length/\∃Ui Fi,Rel X.K H0 A0 (ts++hs) Ui Fi σ' H'/\Qdw t f (ir.items.drop i) Ui=some o,⟨_,rfl,Zaa _,_,F,rel1,by simpa using e⟩,?_⟩;rintro i m σ' H' ⟨rfl,hi',Ui,Fi,reli,ei⟩;have held:Qmb X.K H' ts:=λt ht=>(reli.held t (Zd _ ht)).1;by_cases hlt:i<ir.items.length
 .rw[Zaf hlt]at ei;unfold Qdw at ei;refine Ql ei λU1 eb ei=>?_;refine Ql ei λo1 eo ei=>?_;refine .inr ⟨wk.go i H' hlt held,λσ2 H2=>∃U2 F2,Rel X.K H0 A0 (ts++hs) U2 F2 σ2 H2/\Qdw t f (ir.items.drop (i+1)) U2=some o,λσ2 H2 ⟨U2,F2,rel2,e2⟩=>⟨_,⋯,rfl,hlt,U2,F2,rel2,e2⟩,λx H2 hy=>?_⟩;obtain⟨s2,G0,rp0,hG0⟩:=wk.yld i ir.items[i] H' x H2 (by simp[hlt]) held hy;have shr:Shr H0 A0 Ui Fi G0:=λa ha=>by
   obtain⟨t,ht,hat⟩:=hG0 a ha;exact⟨(reli.held t (Zd _ ht)).2 a hat,λj d ej hj=>(reli.own j d ej).2.2.2.2 t (Zd _ ht) a hj hat⟩
  refine⟨Ui,ts++hs,Fi,ir.items[i],G0,U1,reli.ext s2,rp0,shr,eb,λσ3 F3 rel3 _ _=>⟨U1,ts++hs,F3,o1,rel3,eo,?_⟩⟩;cases o1 with
  | nx U2=>exact λσ4 H4 F4 rel4=>⟨U2,F4,rel4,ei⟩
  | ct U2=>exact λσ4 H4 F4 rel4=>⟨U2,F4,rel4,ei⟩
  | bk U2=>cases ei;exact λσ4 H4 F4 rel4=>q σ4 H4 F4 rel4.Qn9
  | rt d fr=>cases ei;exact q
 .have hn:i=ir.items.length:= ⋯
  subst hn;rw[Zcu]at ei;cases ei;exact .inl ⟨wk.stop H' held,q σ' H' Fi reli.Qn9⟩
def QvW(hp:PassesOwn (model X.prog X.w) X.A X.env X.xe)(hc:ST X c gc)(hb:SS X body f):S1 X (.While c body [] pos) (Qbk gc f n):=λH0 A0=>(QvO hp (hc H0 A0) (hb H0 A0)).mono λE σ H=>exK λU hs F o rel e q=>by
 refine⟨λm σ' H'=>∃Ui Fi,Rel X.K H0 A0 hs Ui Fi σ' H'/\Qbk gc f m Ui=some o,⟨n,U,F,rel,e⟩,?_⟩;rintro m σ' H' ⟨Ui,Fi,reli,ei⟩;cases m with
 | zero=>cases ei
 | succ m=>
  unfold Qbk at ei;refine Ql ei λb eb ei=>?_;refine⟨Ui,hs,Fi,b,reli,eb,λH1 s1=>?_⟩;cases b with
  | false=>
   rw[if_neg Zam]at ei;cases ei;exact Qsk (q σ' H1 Fi (reli.ext s1))
  | true=>
   rw[if_pos rfl]at ei;refine Ql ei λo1 eo ei=>?_;refine Qsg ⟨λσ2 H2=>∃U2 F2,Rel X.K H0 A0 hs U2 F2 σ2 H2/\Qbk gc f m U2=some o,λσ2 H2 h=>⟨m,ZaX _,h⟩,Ui,hs,Fi,o1,reli.ext s1,eo,?_⟩;cases o1 with
   | nx U2=>exact λσ4 H4 F4 rel4=>⟨U2,F4,rel4,ei⟩
   | ct U2=>exact λσ4 H4 F4 rel4=>⟨U2,F4,rel4,ei⟩
   | bk U2=>cases ei;exact λσ4 H4 F4 rel4=>q σ4 H4 F4 rel4
   | rt d fr=>cases ei;exact q
def Rel.QC6(rel:Rel K H0 A0 hs U F σ H)(rp:Rp K H d v [])(hf:d.flat=true):
  ∃F',Rel K H0 A0 hs (U.set i (some (d,true))) F' (σ.set i (some v)) H:=by
 have:=rel.Qpe (i:=i) rp (λa ha=>by simp at ha);rw[hf]at this;exact⟨_,this⟩
end
section
variable {K:Fgg}{H H':Hp}
def Rps.split:∀{ds:List D}{vs:List V}{F:LAd}{j:Nat}{d:D},Rps K H ds vs F->ds[j]? =some d→
  ∃F1 G F2 v,F=F1++(G++F2)/\vs[j]? =some v/\Rps K H (ds.take j) (vs.take j) F1/\Rp K H d v G/\Rps K H (ds.drop (j+1)) (vs.drop (j+1)) F2
 | [],_,_,_,_,_,e=>by simp at e
 | d::ds,_,_,0,_,h,e=>by
  simp only[Rps]at h;obtain⟨v,ws,F1,F2,rfl,rfl,r,q⟩:=h;simp at e;subst e;exact⟨[],F1,F2,v,rfl,⋯,by simp[Rps],r,by simpa using q⟩
 | d::ds,_,_,j+1,_,h,e=>by
  simp only[Rps]at h;obtain⟨v,ws,F1,F2,rfl,rfl,r,q⟩:=h;obtain⟨G1,G,G2,v',h1,h2,h3,h4,h5⟩:=Rps.split q (by simpa using e);refine⟨F1++G1,G,G2,v',by rw[h1,ZaT],by simpa using h2,?_,h4,by simpa using h5⟩;simp only[List.take_succ_cons,Rps];exact⟨v,_,F1,G1,rfl,rfl,r,h3⟩
def Rps.join{ds:List D}{vs:List V}{F1 G F2:LAd}{j:Nat}{d:D}{v:V}(h1:Rps K H (ds.take j) (vs.take j) F1)(hd:Rp K H d v G)(h2:Rps K H (ds.drop (j+1)) (vs.drop (j+1)) F2)(hj:j<ds.length)(hv:vs[j]? =some v):
  Rps K H (ds.set j d) vs (F1++(G++F2)):=by
 have e1:ds.set j d=ds.take j++d::ds.drop (j+1):=ZaO .. |>.trans (by rw[if_pos hj]);have hjv:j<vs.length:=(Ze.mp hv).1;have hve:vs[j]=v:=(Ze.mp hv).2;have e2:vs=vs.take j++v::vs.drop (j+1):=by
  rw[← hve,← Zaf hjv,Zbk]
 rw[e1,e2];refine h1.append ?_;simp only[Rps];refine⟨v,_,G,F2,rfl,rfl,hd,h2⟩
def Rps.QwT{ds:List D}{vs:List V}{F1 G F2:LAd}{j:Nat}{d:D}{v:V}(h1:Rps K H (ds.take j) (vs.take j) F1)(hd:Rp K H d v G)(h2:Rps K H (ds.drop (j+1)) (vs.drop (j+1)) F2)(hj:j<ds.length)(hv:j<vs.length):
  Rps K H (ds.set j d) (vs.set j v) (F1++(G++F2)):=by
 have e1:ds.set j d=ds.take j++d::ds.drop (j+1):=ZaO .. |>.trans (by rw[if_pos hj]);have e2:vs.set j v=vs.take j++v::vs.drop (j+1):=ZaO .. |>.trans (by rw[if_pos hv]);rw[e1,e2];refine h1.append ?_;simp only[Rps];exact⟨v,_,G,F2,rfl,rfl,hd,h2⟩
def Focus(K:Fgg)(H:Hp):List Int->D->V->List Addr->D->V->List Addr->Prop
 | [],d,v,F,dm,w,Gm=>dm=d/\w=v/\Gm=F/\Rp K H d v F
 | i::is,d,v,F,dm,w,Gm=>∃(ds:List D) (a:Addr) (vs:List V) (j:Nat) (F1 G F2:LAd) (d':D) (v':V),v= .ref a/\ixN ds.length i=some j∧
   ((d= .lst ds/\ds.length<=sizeLine/\((F=a::(F1++(G++F2))/\H a=some (.lst vs))∨(F=F1++(G++F2)/\Fix K H a vs)))∨(d= .tup ds/\F=F1++(G++F2)/\SqT K H a vs))∧
   Rps K H (ds.take j) (vs.take j) F1/\Rps K H (ds.drop (j+1)) (vs.drop (j+1)) F2/\ds[j]? =some d'/\vs[j]? =some v'/\ds.length=vs.length/\Focus K H is d' v' G dm w Gm
def Focus.same(s:QU H H'):∀{is:List Int}{d:D}{v:V}{F:LAd}{dm:D}{w:V}{Gm:LAd},Focus K H is d v F dm w Gm->Focus K H' is d v F dm w Gm
 | [],_,_,_,_,_,_,h=>⟨h.1,h.2.1,h.2.2.1,h.2.2.2.same s⟩
 | i::is,_,_,_,_,_,_,h=>by
  obtain⟨ds,a,vs,j,F1,G,F2,d',v',h1,h2,h3,h4,h5,h6,h7,h8,h9⟩:=h;refine⟨ds,a,vs,j,F1,G,F2,d',v',h1,h2,?_,h4.same s,h5.same s,h6,h7,h8,h9.same s⟩;rcases h3 with⟨e,z,q⟩ | ⟨e,eF,q⟩
  .refine .inl ⟨e,z,?_⟩;rcases q with⟨eF,q⟩ | ⟨eF,q⟩
   .exact .inl ⟨eF,s _ _ q⟩
   .exact .inr ⟨eF,Qn4 s q⟩
  .exact .inr ⟨e,eF,QpF s q⟩
def Focus.rp:∀{is:List Int}{d:D}{v:V}{F:LAd}{dm:D}{w:V}{Gm:LAd},Focus K H is d v F dm w Gm->Rp K H dm w Gm
 | [],_,_,_,_,_,_,h=>by
  obtain⟨rfl,rfl,rfl,r⟩:=h;exact r
 | i::is,_,_,_,_,_,_,h=>by
  obtain⟨ds,a,vs,j,F1,G,F2,d',v',h1,h2,h3,h4,h5,h6,h7,h8,h9⟩:=h;exact h9.rp
def Focus.QtS:∀{is:List Int}{d:D}{v:V}{F:LAd}{dm:D}{w:V}{Gm:LAd},Focus K H is d v F dm w Gm->Rp K H d v F
 | [],_,_,_,_,_,_,h=>h.2.2.2
 | i::is,_,_,_,_,_,_,h=>by
  obtain⟨ds,a,vs,j,F1,G,F2,d',v',rfl,h2,h3,h4,h5,h6,h7,h8,h9⟩:=h;have hjl:j<ds.length:=(Ze.mp h6).1;have hdj:ds[j]=d':=(Ze.mp h6).2;have j1:=Rps.join h4 h9.QtS h5 hjl h7;rw[show ds.set j d'=ds by rw[← hdj];exact List.set_getElem_self hjl]at j1;rcases h3 with⟨rfl,hz,⟨rfl,q⟩ | ⟨rfl,q⟩⟩ | ⟨rfl,rfl,q⟩
  .exact Rp.Qe3 q j1 hz
  .simp only[Rp];exact⟨hz,a,vs,rfl,.inr ⟨q,j1⟩⟩
  .simp only[Rp];exact⟨a,vs,rfl,q,j1⟩
def Focus.one(r:Rp K H d v F)(hd:d.items=some ds)(hi:atI ds i=some d'):
  ∃a vs v' G,v= .ref a/\((d= .lst ds/\SqL K H a vs)∨(d= .tup ds/\SqT K H a vs))/\atI vs i=some v'/\Focus K H [i] d v F d' v' G:=by
 unfold atI at hi;cases hj:ixN ds.length i with
 | none=>rw[hj]at hi;cases hi
 | some j=>
  rw[hj]at hi;have hdj:ds[j]? =some d':=hi;have fin:∀(vs:List V) (L:LAd),Rps K H ds vs L->∃v' G F1 F2,L=F1++(G++F2)/\vs[j]? =some v'/\atI vs i=some v'/\Rps K H (ds.take j) (vs.take j) F1/\Rp K H d' v' G/\Rps K H (ds.drop (j+1)) (vs.drop (j+1)) F2/\ds.length=vs.length:=λvs L rl=>by
   obtain⟨F1,G,F2,v',h1,h2,h3,h4,h5⟩:=rl.split hdj;refine⟨v',G,F1,F2,h1,h2,?_,h3,h4,h5,rl.length⟩;unfold atI;rw[← rl.length,hj];exact h2
  cases d with
  | lst xs=>
   cases hd;simp only[Rp]at r;obtain⟨hz,a,vs,rfl,⟨L,rfl,q,rl⟩ | ⟨q,rl⟩⟩:=r
   .obtain⟨v',G,F1,F2,h1,h2,h3,h4,h5,h6,h7⟩:=fin vs L rl;exact⟨a,vs,v',G,rfl,.inl ⟨rfl,SqL.of q⟩,h3,ds,a,vs,j,F1,G,F2,d',v',rfl,hj,.inl ⟨rfl,hz,.inl ⟨by rw[h1],q⟩⟩,h4,h6,hdj,h2,h7,rfl,rfl,rfl,h5⟩
   .obtain⟨v',G,F1,F2,h1,h2,h3,h4,h5,h6,h7⟩:=fin vs _ rl;exact⟨a,vs,v',G,rfl,.inl ⟨rfl,q.sq⟩,h3,ds,a,vs,j,F1,G,F2,d',v',rfl,hj,.inl ⟨rfl,hz,.inr ⟨h1,q⟩⟩,h4,h6,hdj,h2,h7,rfl,rfl,rfl,h5⟩
  | tup xs=>
   cases hd;obtain⟨a,vs,rfl,q,rl⟩:=r.Qba;obtain⟨v',G,F1,F2,h1,h2,h3,h4,h5,h6,h7⟩:=fin vs _ rl;exact⟨a,vs,v',G,rfl,.inr ⟨rfl,q⟩,h3,ds,a,vs,j,F1,G,F2,d',v',rfl,hj,.inr ⟨rfl,h1,q⟩,h4,h6,hdj,h2,h7,rfl,rfl,rfl,h5⟩
  | _=>cases hd
def Focus.snoc:∀{is:List Int}{d:D}{v:V}{F:LAd}{dm:D}{w:V}{Gm:LAd}{i:Int}{d':D}{v':V}{G:LAd},Focus K H is d v F dm w Gm->Focus K H [i] dm w Gm d' v' G->Focus K H (is++[i]) d v F d' v' G
 | [],_,_,_,_,_,_,_,_,_,_,h,g=>by
  obtain⟨rfl,rfl,rfl,r⟩:=h;exact g
 | k::is,_,_,_,_,_,_,_,_,_,_,h,g=>by
  obtain⟨ds,a,vs,j,F1,G,F2,d',v',h1,h2,h3,h4,h5,h6,h7,h8,h9⟩:=h;exact⟨ds,a,vs,j,F1,G,F2,d',v',h1,h2,h3,h4,h5,h6,h7,h8,h9.snoc g⟩
noncomputable def Qc5:D->List Int->Option D
 | d,[]=>some d
 | d,i::is=>(d.items).bind λds=>(atI ds i).bind λd'=>Qc5 d' is
def QkR:∀{is:List Int}{d:D}{i:Int}{d':D},Qc5 d (is++[i])=some d'->∃dm ds,Qc5 d is=some dm/\dm.items=some ds/\atI ds i=some d'
 | [],d,i,d',h=>by
  refine Ql h λds h1 h=>?_;refine Ql h λd'' h2 h=>?_;cases h;exact⟨d,ds,rfl,h1,h2⟩
 | k::is,d,i,d',h=>by
  refine Ql h λds h1 h=>?_;refine Ql h λd'' h2 h=>?_;obtain⟨dm,es,h3,h4,h5⟩:=QkR h;refine⟨dm,es,?_,h4,h5⟩;simp only[Qc5,h1,h2,Za,h3]
noncomputable def Qb4:List Int->D->D->D
 | [],_,new=>new
 | i::is,.lst ds,new=>match ixN ds.length i with
  | some j=> .lst (ds.set j (Qb4 is (ds.getD j .non) new))
  | none=> .lst ds
 | i::is,.tup ds,new=>match ixN ds.length i with
  | some j=> .tup (ds.set j (Qb4 is (ds.getD j .non) new))
  | none=> .tup ds
 | _::_,d,_=>d
def QjB:∀{ds:List D}{j:Nat}{d e:D},ds[j]? =some d->nls (ds.set j e)+d.nl=nls ds+e.nl
 | [],_,_,_,h=>by simp at h
 | x::ds,0,d,e,h=>by simp at h;subst h;simp only[List.set_cons_zero,nls];omega
 | x::ds,j+1,d,e,h=>by
  have:=QjB (e:=e) (by simpa using h);simp only[List.set_cons_succ,nls];omega
def Qfz:∀(as bs:List D),nls (as++bs)=nls as+nls bs
 | [],bs=>by simp[nls]
 | a::as,bs=>by simp only[Zcs,nls,Qfz as bs];omega
def Focus.mut:∀{is:List Int}{d:D}{v:V}{F:LAd}{Gm:LAd},Focus K H is d v F (.lst dsm) (.ref p) Gm->F.Nodup->F.length=d.nl→
  ∃vsm Gp,H p=some (.lst vsm)/\Gm=p::Gp/\Rps K H dsm vsm Gp/\Gp.length=nls dsm/\p∈F/\(∀a∈Gp,a∈F)/\p∉Gp∧
   (Rps K (upd H p (.lst vs')) ds' vs' G'->ds'.length<=sizeLine->G'.length=nls ds'→
    ∃F',Rp K (upd H p (.lst vs')) (Qb4 is d (.lst ds')) v F'/\F'.length=(Qb4 is d (.lst ds')).nl/\∀a,F'.count a+Gp.count a=F.count a+G'.count a)
 | [],d,v,F,Gm,h,nd,hl=>by
  obtain⟨rfl,rfl,rfl,r⟩:=h;simp only[Rp]at r;obtain⟨hz,a,vs,e,h⟩:=r;cases e;rcases h with⟨L,rfl,q,rl⟩ | ⟨q,rl⟩
  .obtain⟨n1,n2⟩:=Zan.mp nd;have hl':L.length=nls dsm:=by simp only[D.nl,Zy]at hl;omega
   refine⟨vs,L,q,rfl,rl,hl',Zi,λa ha=>Zb _ ha,n1,λr' hz' hl2=>⟨p::G',Rp.Qe3 QaL r' hz',?_,λa=>?_⟩⟩
   .simp only[Qb4,D.nl,Zy,hl2]
   .rw[ZaQ,ZaQ];omega
  .have:=rl.Qbf;simp only[D.nl]at hl;omega
 | i::is,d,v,F,Gm,h,nd,hl=>by
  obtain⟨ds,a,vs,j,F1,G,F2,d',v',rfl,hj,h3,h4,h5,h6,h7,h8,h9⟩:=h;have hjl:j<ds.length:=(Ze.mp h6).1;have gd:ds.getD j .non=d':=by rw[ZS,h6];rfl
  have l1:=h4.Qbf;have l2:=h5.Qbf;have l3:=h9.QtS.Qbf;have nlsplit:nls (ds.take j)+(d'.nl+nls (ds.drop (j+1)))=nls ds:=by
   have e1:ds=ds.take j++d'::ds.drop (j+1):=by
    have:ds[j]=d':=(Ze.mp h6).2;rw[← this,← Zaf hjl,Zbk]
   have e2:=congrArg nls e1;rw[Qfz]at e2;simp only[nls]at e2;exact e2.symm
  have core:(F1++(G++F2)).Nodup->(F1++(G++F2)).length=nls ds->_:=λnd' hl'=>by
   simp only[Zo]at hl';have hG:G.length=d'.nl:= ⋯
   have ndG:G.Nodup:=(Zat.mp (Zat.mp nd').2.1).1;exact(h9.mut (vs':=vs') (ds':=ds') (G':=G') ndG hG)
  have apart:(F1++(G++F2)).Nodup->p∈G->p∉F1/\p∉F2:=λnd' hp=>by
   have n1:=Zat.mp nd';have n2:=Zat.mp n1.2.1;exact⟨λh=>n1.2.2 p h p (Zd _ hp) rfl,λh=>n2.2.2 p hp p h rfl⟩
  have cnt:∀(G'' Gp:LAd),(∀a,G''.count a+Gp.count a=G.count a+G'.count a)->∀a,(F1++(G''++F2)).count a+Gp.count a=(F1++(G++F2)).count a+G'.count a:=λG'' Gp hc a=>by
   have:=hc a;simp only[Zar];omega
  rcases h3 with⟨rfl,hz,⟨rfl,q⟩ | ⟨rfl,q⟩⟩ | ⟨rfl,rfl,q⟩
  ·
   obtain⟨n1,n2⟩:=Zan.mp nd;have hl':(F1++(G++F2)).length=nls ds:=by simp only[D.nl,Zy]at hl;omega
   obtain⟨vsm,Gp,e1,e2,e3,e4,e5,e6,e7,e8⟩:=core n2 hl';have ap:=apart n2 e5;have hap:a≠p:=λz=>n1 (by rw[z];exact Zg _ (Zd _ e5));refine⟨vsm,Gp,e1,e2,e3,e4,Zb _ (Zg _ (Zd _ e5)),λb hb=>Zb _ (Zg _ (Zd _ (e6 b hb))),e7,λr' hz' hl2=>?_⟩;obtain⟨G'',f1,f2,f3⟩:=e8 r' hz' hl2;have j1:=Rps.join (h4.upd e1 ap.1) f1 (h5.upd e1 ap.2) hjl h7;refine⟨a::(F1++(G''++F2)),?_,?_,λb=>?_⟩
   .simp only[Qb4,hj,gd];exact Rp.Qe3 (by rw[QP hap];exact q) j1 (by rw[Zaz];exact hz)
   .have:=QjB (e:=Qb4 is d' (.lst ds')) h6;simp only[Qb4,hj,gd,D.nl,Zy,Zo,f2]at hl' ⊢;omega
   .have:=cnt G'' Gp f3 b;rw[ZaQ,ZaQ];omega
  .have:(F1++(G++F2)).length<=nls ds:=by simp only[Zo];omega
   simp only[D.nl]at hl;omega
  ·
   have hl':(F1++(G++F2)).length=nls ds:=by simpa only[D.nl]using hl
   obtain⟨vsm,Gp,e1,e2,e3,e4,e5,e6,e7,e8⟩:=core nd hl';have ap:=apart nd e5;refine⟨vsm,Gp,e1,e2,e3,e4,Zg _ (Zd _ e5),λb hb=>Zg _ (Zd _ (e6 b hb)),e7,λr' hz' hl2=>?_⟩;obtain⟨G'',f1,f2,f3⟩:=e8 r' hz' hl2;have j1:=Rps.join (h4.upd e1 ap.1) f1 (h5.upd e1 ap.2) hjl h7;refine⟨F1++(G''++F2),?_,?_,cnt G'' Gp f3⟩
   .simp only[Qb4,hj,gd,Rp];exact⟨a,vs,rfl,Qqc e1 q,j1⟩
   .have:=QjB (e:=Qb4 is d' (.lst ds')) h6;simp only[Qb4,hj,gd,D.nl,Zo,f2]at hl' ⊢;omega
end
section
def Rel.mut(rel:Rel K H0 A0 hs U F σ H)(p:Qam K U F H H1 r vn Gn)(hf:r.fr=true)(nd:r.M.Nodup)(s12:QU H1 H2)(hx:U[x]? =some (some (d,true)))(hxM:x∉r.M)(hv0:σ[x]? =some (some v0))
  {dnew:D}{q:Addr}{F':LAd}{vsm vs':List V}(e1:H2 q=some (.lst vsm)) (e5:q∈F x) (f1:Rp K (upd H2 q (.lst vs')) dnew v0 F') (f2:F'.length=dnew.nl) (cF:∀a,F'.count a<=(F x).count a+Gn.count a):
  ∃F',Rel K H0 A0 hs ((kill r.M U).set x (some (dnew,true))) F' σ (upd H2 q (.lst vs')):=by
 obtain⟨ol,on,o0,oap,oh⟩:=rel.own x d hx;obtain⟨gn,gs⟩:=p.fresh rel hf nd;have rel2:=(rel.ext p.same).ext s12;have relk:=rel2.weak (Qdq r.M U);have apn:∀a∈Gn,a∉F x:=λa ha hax=>by
  rcases(gs a ha).2 with z | ⟨k,d',hk,ek,hak⟩
  .obtain⟨vs,w⟩:=rel.mem hx hax;rw[z]at w;cases w
  .have:k≠x:=λz=>hxM (z▸hk);exact oap k d' true this ek a hax hak
 have memF:∀a∈F',a∈F x∨a∈Gn:=λa ha=>by
  have h1:=cF a;have h2:0<F'.count a:=ZaC.mpr ha;by_cases h:a∈F x
  .exact .inl h
  .rw[Zae.mpr h]at h1;exact .inr (ZaC.mp ⋯)
 have apart:∀(j:Nat) d' b,j≠x->(kill r.M U)[j]? =some (some (d',b))->∀a∈F',a∉F j:=λj d' b hj e a ha haj=>by
  obtain⟨b',e',_⟩:=(Qdq r.M U).2 j d' b e;rcases memF a ha with h | h
  .exact oap j d' b' hj e' a h haj
  .rcases(gs a h).2 with z | ⟨k,d'',hk,ek,hak⟩
   .obtain⟨vs,w⟩:=rel.mem e' haj;rw[z]at w;cases w
   .have hjk:j≠k:=λz=>by subst z;exact Qh8 r.M U j d' b hk e
    exact(rel.own k d'' ek).2.2.2.1 j d' b' hjk e' a hak haj
 have apartH:∀t∈hs,∀a∈F',a∉t.2.2:=λt ht a ha hat=>by
  rcases memF a ha with h | h
  .exact oh t ht a h hat
  .rcases(gs a h).2 with z | ⟨k,d'',hk,ek,hak⟩
   .obtain⟨vs,w⟩:=(rel.held t ht).1.mem a hat
    rw[z]at w;cases w
   .exact(rel.own k d'' ek).2.2.2.2 t ht a hak hat
 have nqj:∀(j:Nat) d' b,j≠x->U[j]? =some (some (d',b))->q∉F j:=λj d' b hj e h=>oap j d' b hj e q e5 h;have nF':F'.Nodup:=ZaF.mpr λa=>by
  have h1:=cF a;have h2:=ZaF.mp on a;have h3:=ZaF.mp gn a;by_cases h:a∈Gn
  .rw[Zae.mpr (apn a h)]at h1;omega
  .rw[Zae.mpr h]at h1;omega
 have lt:∀{j:Nat}{z:Option (D×Bool)}{y:D×Bool},((kill r.M U).set j z)[j]? =some (some y)->j<(kill r.M U).length:=λ{j z y} e=>by
  by_cases hl:j<(kill r.M U).length
  .exact hl
  .rw[Zt (by simp;omega)]at e;cases e
 refine⟨λj=>if j=x then F' else F j,by simp[relk.len],λj d' b e=>?_,λj d' e=>?_,λj d' b e a ha=>?_,λt ht=>⟨(relk.held t ht).1.upd e1 λh=>oh t ht q e5 h,(relk.held t ht).2⟩,λb o hb=>?_⟩
 .by_cases hj:j=x
  .subst hj;have hl:=lt e;rw[Zw hl]at e;cases e;exact⟨v0,hv0,by rw[if_pos rfl];exact f1⟩
  .rw[Zm (Ne.symm hj)]at e;obtain⟨w,h1,h2⟩:=relk.val j d' b e;obtain⟨b',e',_⟩:=(Qdq r.M U).2 j d' b e;exact⟨w,h1,by rw[if_neg hj];exact h2.upd e1 (nqj j d' b' hj e')⟩
 .by_cases hj:j=x
  .subst hj;have hl:=lt e;rw[Zw hl]at e;cases e;rw[if_pos rfl];refine⟨f2,nF',λa ha=>?_,λk d'' b hk ek a ha=>?_,apartH⟩
   .rcases memF a ha with h | h
    .exact o0 a h
    .exact(gs a h).1
   .rw[Zm (Ne.symm hk)]at ek;rw[if_neg hk];exact apart k d'' b hk ek a ha
  .rw[Zm (Ne.symm hj)]at e;obtain⟨h1,h2,h3,h4,h5⟩:=relk.own j d' e;rw[if_neg hj];refine⟨h1,h2,h3,λk d'' b hk ek a ha=>?_,h5⟩;by_cases hki:k=x
   .subst hki;rw[if_pos rfl];exact λhG=>apart j d' true hj e a hG ha
   .rw[Zm (Ne.symm hki)]at ek;rw[if_neg hki];exact h4 k d'' b hk ek a ha
 .by_cases hj:j=x
  .subst hj;rw[if_pos rfl]at ha;rcases memF a ha with h | h
   .exact .inl (o0 a h)
   .exact .inl (gs a h).1
  .rw[Zm (Ne.symm hj)]at e;rw[if_neg hj]at ha;exact relk.src j d' b e a ha
 .have hbq:b≠q:=λz=>by rw[z,o0 q e5]at hb;cases hb
  rw[QP hbq];exact relk.same b o hb
end
noncomputable abbrev DP:=En->Option (List Int)
noncomputable def Qak:DP:=λ_=>some []
noncomputable def QjD(p:DP)(fb:DE):DP:=λU=>(p U).bind λis=>(fb U).bind λr=>match r.d with
 | .int i=>some (is++[i])
 | _=>none
noncomputable def tP(K:Fgg)(H0:Hp)(A0:LAd)(x:Nat)(pf:DP):TE:=λσ H Q=>∃U hs F d b is dm,Rel K H0 A0 hs U F σ H/\U[x]? =some (some (d,b))/\pf U=some is/\Qc5 d is=some dm∧
 ∀v0 v H' Gm,QU H H'->σ[x]? =some (some v0)->Focus K H' is d v0 (F x) dm v Gm->Q v H'
def SPa(X:Cx)(e:Expr)(x:Nat)(pf:DP):Prop:=∀H0 A0,PE X e (tP X.K H0 A0 x pf)
section
def QwB(h:PE X (.Name y pos) (Ql1 x)):SPa X (.Name y pos) x Qak:=λH0 A0=>h.mono λσ H Q Z=>by
 obtain⟨U,hs,F,d,b,is,dm,rel,hx,hp,hd,q⟩:=Z;cases hp;cases hd;obtain⟨v,h1,h2⟩:=rel.val x d b hx;exact⟨v,h1,q v v H (F x) (QU.refl _) h1 ⟨rfl,rfl,rfl,h2⟩⟩
def QxE(ha:SPa X a x pf)(hb:SE X b fb)(hs:Qjq b):SPa X (.Subscript a b pos) x (QjD pf fb):=λH0 A0=>
 (QwU (Qq3.or QuA) (ha H0 A0) (hb H0 A0) hs).mono λσ H Q Z=>by
  obtain⟨U,hs,F,d,b',is,dm,rel,hx,hp,hd,q⟩:=Z;refine Ql hp λis' e1 hp=>?_;refine Ql hp λr e2 hp=>?_;cases hr:r.d with
  | int i=>
   rw[hr]at hp;cases hp;obtain⟨dn,ds,g1,g2,g3⟩:=QkR hd;refine⟨U,hs,F,d,b',is',dn,rel,hx,e1,g1,λv0 w H1 Gm s1 hv fo=>⟨U,hs,F,r,rel.ext s1,e2,λu H2 G p2=>?_⟩⟩;have rp:=p2.rp;rw[hr]at rp;rw[rp.int_inv];have fo2:=fo.same p2.same;obtain⟨c,vs,v',G',rfl,hc,h3,h4⟩:=Focus.one fo2.rp g2 g3;have fin:=q v0 v' H2 G' (s1.trans p2.same) hv (fo2.snoc h4);rcases hc with⟨_,hc⟩ | ⟨_,hc⟩
   .exact .inl ⟨c,vs,i,v',rfl,rfl,hc,h3,fin⟩
   .exact .inr ⟨c,vs,i,v',rfl,rfl,hc,h3,fin⟩
  | _=>rw[hr]at hp;cases hp
noncomputable def Qb3(x:Nat)(pf:DP)(fi fa:DE):DS:=λU=>(fa U).bind λr0=>match U[x]? with
 | some (some (d,true))=>(pf U).bind λis=>(fi U).bind λri=>match ri.d,Qc5 d is with
  | .int k,some (.lst ds)=>(ixN ds.length k).bind λj=>if r0.norm.fr && decide r0.norm.M.Nodup && !r0.norm.M.contains x then some (.nx ((kill r0.norm.M U).set x (some (Qb4 is d (.lst (ds.set j r0.d)),true))))else
   if is.isEmpty && !r0.norm.M.contains x then some (.nx ((QaV r0.norm.M U).set x (some (.lst (ds.set j r0.d),false))))else
   none
  | _,_=>none
 | _=>none
def set_mk(hq:H2 q=some (.lst vsm))(rs:Rps K H2 dsm vsm Gp)(hl:Gp.length=nls dsm)(nq:q∉Gp)(nqn:q∉Gn)(hn:Rp K H2 dn vn Gn)(hnl:Gn.length=dn.nl)(hj:j<dsm.length):
  ∃G',Rps K (upd H2 q (.lst (vsm.set j vn))) (dsm.set j dn) (vsm.set j vn) G'/\G'.length=nls (dsm.set j dn)/\∀a,G'.count a<=Gp.count a+Gn.count a:=by
 obtain⟨F1,G,F2,v,e1,e2,h1,h2,h3⟩:=rs.split (j:=j) (d:=dsm[j]) (by simp[hj]);subst e1;have hjv:j<vsm.length:=by rw[← rs.length];exact hj
 have n1:q∉F1:=λh=>nq (Zd _ h);have n2:q∉F2:=λh=>nq (Zg _ (Zg _ h));refine⟨F1++(Gn++F2),Rps.QwT (h1.upd hq n1) (hn.upd hq nqn) (h3.upd hq n2) hj hjv,?_,λa=>?_⟩
 .have:=QjB (ds:=dsm) (j:=j) (d:=dsm[j]) (e:=dn) (by simp[hj]);have l1:=h1.Qbf;have l2:=h2.Qbf;have l3:=h3.Qbf;have e1:nls (dsm.take j)+((dsm[j]).nl+nls (dsm.drop (j+1)))=nls dsm:=by
   have e2:=congrArg nls (Zbk j dsm);rw[Qfz,Zaf hj]at e2;simpa only[nls]using e2
  simp only[Zo]at hl ⊢;omega
 .simp only[Zar];omega
def Qam.QnY(p:Qam K U F H H1 r v G)(s:QU H1 H2):Qam K U F H H2 r v G:=⟨p.same.trans s,p.rp.same s,p.src,p.cnt,p.own⟩
def QmF(hq:H2 q=some (.lst vsm))(rs:Rps K H2 dsm vsm Gp)(nq:q∉Gp)(nqn:q∉Gn)(hn:Rp K H2 dn vn Gn)(hj:j<dsm.length):
  ∃G',Rps K (upd H2 q (.lst (vsm.set j vn))) (dsm.set j dn) (vsm.set j vn) G'/\∀a∈G',a∈Gp∨a∈Gn:=by
 obtain⟨F1,G,F2,v,e1,e2,h1,h2,h3⟩:=rs.split (j:=j) (d:=dsm[j]) (by simp[hj]);subst e1;have hjv:j<vsm.length:=by rw[← rs.length];exact hj
 have n1:q∉F1:=λh=>nq (Zd _ h);have n2:q∉F2:=λh=>nq (Zg _ (Zg _ h));refine⟨F1++(Gn++F2),Rps.QwT (h1.upd hq n1) (hn.upd hq nqn) (h3.upd hq n2) hj hjv,λa ha=>?_⟩;rcases ZJ.mp ha with h | h
 .exact .inl (Zd _ h)
 .rcases ZJ.mp h with h | h
  .exact .inr h
  .exact .inl (Zg _ (Zg _ h))
def QjU:∀(M:List Nat) (U:En) (x:Nat),x∉M->(QaV M U)[x]? =U[x]?
 | [],U,x,_=>rfl
 | i::M,U,x,h=>by
  have hi:i≠x:=λe=>h (e▸Zi);unfold QaV;rw[QjU M _ x λe=>h (Zb _ e)];split
  .rw[Zm hi]
  .rfl
def Rel.QDm(rel:Rel K H0 A0 hs U F σ H)(hx:U[x]? =some (some (d,true)))(sh:Shr H0 A0 U F Gn)(hv0:σ[x]? =some (some v0))
  {dnew:D}{q:Addr}{G':LAd}{vsm vs':List V}(e1:H q=some (.lst vsm)) (e5:q∈F x) (f1:Rp K (upd H q (.lst vs')) dnew v0 G') (mem:∀a∈G',a∈F x∨a∈Gn):
  ∃F',Rel K H0 A0 hs (U.set x (some (dnew,false))) F' σ (upd H q (.lst vs')):=by
 obtain⟨ol,on,o0,oap,oh⟩:=rel.own x d hx;have lt:∀{j:Nat}{z:Option (D×Bool)}{y:D×Bool},(U.set j z)[j]? =some (some y)->j<U.length:=λ{j z y} e=>by
  by_cases hl:j<U.length
  .exact hl
  .rw[Zt (by simp;omega)]at e;cases e
 refine⟨λj=>if j=x then G' else F j,by simp[rel.len],λj d' b e=>?_,λj d' e=>?_,λj d' b e a ha=>?_,λt ht=>⟨(rel.held t ht).1.upd e1 λh=>oh t ht q e5 h,(rel.held t ht).2⟩,λb o hb=>?_⟩
 .by_cases hj:j=x
  .subst hj;have hl:=lt e;rw[Zw hl]at e;cases e;exact⟨v0,hv0,by rw[if_pos rfl];exact f1⟩
  .rw[Zm (Ne.symm hj)]at e;obtain⟨w,h1,h2⟩:=rel.val j d' b e;exact⟨w,h1,by rw[if_neg hj];exact h2.upd e1 λh=>oap j d' b hj e q e5 h⟩
 .by_cases hj:j=x
  .subst hj;have hl:=lt e;rw[Zw hl]at e;cases e
  .rw[Zm (Ne.symm hj)]at e;obtain⟨h1,h2,h3,h4,h5⟩:=rel.own j d' e;rw[if_neg hj];refine⟨h1,h2,h3,λk d'' b hk ek a ha=>?_,h5⟩;by_cases hki:k=x
   .subst hki;rw[if_pos rfl];intro hG;rcases mem a hG with h | h
    .exact h4 k d true (Ne.symm hj) hx a ha h
    .exact(sh a h).2 j d' e ha
   .rw[Zm (Ne.symm hki)]at ek;rw[if_neg hki];exact h4 k d'' b hk ek a ha
 .by_cases hj:j=x
  .subst hj;rw[if_pos rfl]at ha;rcases mem a ha with h | h
   .exact .inl (o0 a h)
   .exact(sh a h).1
  .rw[Zm (Ne.symm hj)]at e;rw[if_neg hj]at ha;exact rel.src j d' b e a ha
 .have hbq:b≠q:=λz=>by rw[z,o0 q e5]at hb;cases hb
  rw[QP hbq];exact rel.same b o hb
def QzJ(hv:SE X e fa)(ho:SPa X a x pf)(hi:SE X i fi)
  (h:∀te to ti,PE X e te->PE X a to->PE X i ti->PS X (.Assign [.Subscript a i pos'] e pos) (Qiq te (L2.Qa6 to ti QnQ))):S1 X (.Assign [.Subscript a i pos'] e pos) (Qb3 x pf fi fa):=λH0 A0=>
 (h _ _ _ (hv H0 A0) (ho H0 A0) (hi H0 A0)).mono λE σ H=>exK λU hs F o rel e q=>by
  refine Ql e λr0 e1 e=>?_;split at e
  .rename_i d hx;refine Ql e λis e2 e=>?_;refine Ql e λri e3 e=>?_;split at e
   .rename_i k ds hk hp;refine Ql e λj e4 e=>?_;split at e
    .rename_i hc;cases e;simp only[Zp,decide_eq_true_eq,Zau]at hc;obtain⟨⟨c1,c2⟩,c3⟩:=hc;have c3:x∉r0.norm.M:=λh=>by rw[ZbJ.mpr h]at c3;cases c3
     refine⟨U,hs,F,r0,rel,e1,λvn H1 Gn p=>⟨U,hs,F,d,true,is,.lst ds,rel.ext p.same,hx,e2,hp,λv0 w H2 Gm s2 hv0 fo=>⟨U,hs,F,ri,(rel.ext p.same).ext s2,e3,λu H3 Gi pi=>?_⟩⟩⟩;have p':=(p.norm.QnY s2).QnY pi.same;have fo3:=fo.same pi.same;have rpi:=pi.rp;rw[hk]at rpi;rw[rpi.int_inv];obtain⟨l,ws,L,rfl,_⟩:=fo3.rp.lst_inv;obtain⟨ol,on,_,oap,_⟩:=rel.own x d hx;have hjl:=(QeF e4).2.1;obtain⟨gn,gs⟩:=p'.fresh rel c1 c2;have rn:=p'.rp;rw[r0.Qdc]at rn;have hnl:=(p'.cnt c1).2;rw[r0.Qdc]at hnl;obtain⟨vsm,_,f1,_⟩:=fo3.mut (vs':=[]) (ds':=[]) (G':=[]) on ol;obtain⟨_,_,_,_,_,_,zl,_⟩:=fo3.rp.lst_inv;have key:∃F',Rp X.K (upd H3 l (.lst (vsm.set j vn))) (Qb4 is d (.lst (ds.set j r0.d))) v0 F'/\F'.length=(Qb4 is d (.lst (ds.set j r0.d))).nl/\l∈F x/\ds.length=vsm.length/\∀a,F'.count a<=(F x).count a+Gn.count a:=by
      have own5:∀G',_:=λG'=>fo3.mut (vs':=vsm.set j vn) (ds':=ds.set j r0.d) (G':=G') on ol;obtain⟨vs1,Gp,g1,g2,g3,g4,g5,g6,g7,_⟩:=own5 [];rw[f1]at g1;cases g1;have hq:l∉Gn:=λh=>by
       rcases(gs l h).2 with z | ⟨k',d',hk',ek,hak⟩
       .obtain⟨vs,w⟩:=rel.mem hx g5;rw[z]at w;cases w
       .exact oap k' d' true (λz=>c3 (z▸hk')) ek l g5 hak
      obtain⟨G',m1,m2,m3⟩:=set_mk f1 g3 g4 g7 hq rn hnl hjl;obtain⟨vs2,Gp2,k1,k2,k3,k4,k5,k6,k7,k8⟩:=own5 G';have eG:Gp2=Gp:=by rw[g2]at k2;exact(List.cons.inj k2).2.symm
      subst eG;obtain⟨F',h1,h2,h3⟩:=k8 m1 (by rw[Zaz];exact zl) m2;exact⟨F',h1,h2,g5,g3.length,λa=>by have:=h3 a;have:=m3 a;omega⟩
     obtain⟨F',k1,k2,k3,k4,k5⟩:=key;refine⟨l,vsm,k,j,rfl,rfl,f1,by rw[← k4];exact e4,?_⟩;obtain⟨F'',rel'⟩:=rel.mut p' c1 c2 (QU.refl _) hx c3 hv0 f1 k3 k1 k2 k5;exact q _ _ F'' rel'
    ·
     split at e
     .rename_i hc;cases e;simp only[Zp,Zau,List.isEmpty_iff]at hc;obtain⟨rfl,c3⟩:=hc;have c3:x∉r0.norm.M:=λh=>by rw[ZbJ.mpr h]at c3;cases c3
      refine⟨U,hs,F,r0,rel,e1,λvn H1 Gn p=>⟨U,hs,F,d,true,[],.lst ds,rel.ext p.same,hx,e2,hp,λv0 w H2 Gm s2 hv0 fo=>⟨U,hs,F,ri,(rel.ext p.same).ext s2,e3,λu H3 Gi pi=>?_⟩⟩⟩;have p':=(p.norm.QnY s2).QnY pi.same;have fo3:=fo.same pi.same;have rpi:=pi.rp;rw[hk]at rpi;rw[rpi.int_inv];obtain⟨l,ws,L,rfl,_⟩:=fo3.rp.lst_inv;obtain⟨ol,on,_,oap,_⟩:=rel.own x d hx;have hjl:=(QeF e4).2.1;have rn:=p'.rp;rw[r0.Qdc]at rn;obtain⟨vsm,Gp,f1,g2,g3,g4,g5,g6,g7,_⟩:=fo3.mut (vs':=[]) (ds':=[]) (G':=[]) on ol;obtain⟨_,_,_,_,_,_,zl,_⟩:=fo3.rp.lst_inv;have sh:=Shr.of rel p'.src;have relD:=(rel.ext p'.same).weak (Qa9 r0.norm.M U);have hxD:(QaV r0.norm.M U)[x]? =some (some (d,true)):=by rw[QjU _ _ _ c3];exact hx
      have hq:l∉Gn:=λh=>(sh l h).2 x d hxD g5;obtain⟨G',m1,m3⟩:=QmF f1 g3 g7 hq rn hjl;have e0:v0= .ref l:=(fo3.2.1).symm;subst e0;refine⟨l,vsm,k,j,rfl,rfl,f1,by rw[← g3.length];exact e4,?_⟩;obtain⟨F'',rel'⟩:=relD.QDm (dnew:= .lst (ds.set j r0.d)) (G':=l::G') (vs':=vsm.set j vn) hxD sh hv0 f1 g5 (Rp.Qe3 QaL m1 (by rw[Zaz];exact zl)) λa ha=>by
       rcases Zk.mp ha with h | h
       .exact .inl (h▸g5)
       .rcases m3 a h with h | h
        .exact .inl (g6 a h)
        .exact .inr h
      exact q _ _ F'' rel'
     ·
      cases e
   .cases e
  .cases e
end
section
variable {K:Fgg}{H0 H H1 H2 H3:Hp}{A0:LAd}{hs:List (V×D×List Addr)}{U:En}{F:Nat->List Addr}{σ:L2.St}
def Rel.write(rel:Rel K H0 A0 hs U F σ H)(p:Qam K U F H H3 r vn Gn)(hf:r.fr=true)(nd:r.M.Nodup)(hx:U[x]? =some (some (d,true)))(hxM:x∉r.M)(hv0:σ[x]? =some (some v0))
  {is:List Int}{ds:List D}{Gm:LAd}(fo:Focus K H3 is d v0 (F x) (.lst ds) w Gm):
  ∃l vsm Gp,w= .ref l/\H3 l=some (.lst vsm)/\Rps K H3 ds vsm Gp/\Gp.length=nls ds/\l∉Gp/\l∉Gn/\ds.length<=sizeLine∧
   ∀ds' vs' G',Rps K (upd H3 l (.lst vs')) ds' vs' G'->ds'.length<=sizeLine->G'.length=nls ds'->(∀a,G'.count a<=Gp.count a+Gn.count a)→
    ∃F',Rel K H0 A0 hs ((kill r.M U).set x (some (Qb4 is d (.lst ds'),true))) F' σ (upd H3 l (.lst vs')):=by
 obtain⟨l,ws,L,rfl,_,_,zl,_⟩:=fo.rp.lst_inv;obtain⟨ol,on,_,oap,_⟩:=rel.own x d hx;obtain⟨gn,gs⟩:=p.fresh rel hf nd;obtain⟨vsm,Gp,g1,g2,g3,g4,g5,g6,g7,_⟩:=fo.mut (vs':=[]) (ds':=[]) (G':=[]) on ol;have hq:l∉Gn:=λh=>by
  rcases(gs l h).2 with z | ⟨k',d',hk',ek,hak⟩
  .obtain⟨vs,w⟩:=rel.mem hx g5;rw[z]at w;cases w
  .exact oap k' d' true (λz=>hxM (z▸hk')) ek l g5 hak
 refine⟨l,vsm,Gp,rfl,g1,g3,g4,g7,hq,zl,λds' vs' G' m1 m2 m3 m4=>?_⟩;obtain⟨vs2,Gp2,k1,k2,k3,k4,k5,k6,k7,k8⟩:=fo.mut (vs':=vs') (ds':=ds') (G':=G') on ol;have eG:Gp2=Gp:=by rw[g2]at k2;exact(List.cons.inj k2).2.symm
 subst eG;obtain⟨F',h1,h2,h3⟩:=k8 m1 m2 m3;exact rel.mut p hf nd (QU.refl _) hx hxM hv0 g1 g5 h1 h2 λa=>by have:=h3 a;have:=m4 a;omega
end
section
variable {X:Cx}{a b e:Expr}{fa fb:DE}{pf:DP}{x:Nat}{pos apos:Pos}
noncomputable def Qn0(r:R)(x:Nat):Bool:=r.norm.fr && decide r.norm.M.Nodup && !r.norm.M.contains x
def QsC(h:Qn0 r x=true):r.norm.fr=true/\r.norm.M.Nodup/\x∉r.norm.M:=by
 unfold Qn0 at h;simp only[Zp,decide_eq_true_eq,Zau]at h;exact⟨h.1.1,h.1.2,λz=>by rw[ZbJ.mpr z]at h;cases h.2⟩
noncomputable def Qb5(x:Nat)(pf:DP)(fa:DE):DS:=λU=>match U[x]? with
 | some (some (d,true))=>(pf U).bind λis=>(fa U).bind λr0=>match Qc5 d is with
  | some (.lst ds)=>if Qn0 r0 x && decide (ds.length<sizeLine)then some (.nx ((kill r0.norm.M U).set x (some (Qb4 is d (.lst (ds++[r0.d])),true))))else none
  | _=>none
 | _=>none
def QuX{H0:Hp}{A0:LAd}{E:Ends}{σ:L2.St}{H:Hp}:tS X.K H0 A0 (Qb5 x pf fa) E σ H->Qsq (tBM X.K "list" Qqn (tP X.K H0 A0 x pf) (Qr9 (tV X.K H0 A0 fa) QrA)) E σ H:=exK λU hs F o rel e q=>by
 unfold Qb5 at e;split at e
 .rename_i d hx;refine Ql e λis e2 e=>?_;refine Ql e λr0 e1 e=>?_;split at e
  .rename_i ds hp;split at e
   .rename_i hc;simp only[Zp,decide_eq_true_eq]at hc;obtain⟨c1,c2,c3⟩:=QsC hc.1;cases e;refine⟨U,hs,F,d,true,is,.lst ds,rel,hx,e2,hp,λv0 w H2 Gm s2 hv0 fo=>?_⟩;have ty:tyV X.K "list" w H2:=by
     obtain⟨l,ws,L,rfl,hl,_⟩:=fo.rp.lst_inv;exact .inl ⟨rfl,ws,Qab hl⟩
    refine⟨ty,U,hs,F,r0,rel.ext s2,e1,λvn H3 Gn p=>?_⟩;have p':=p.norm;obtain⟨l,vsm,Gp,rfl,g1,g2,g3,g4,g5,g6,g7⟩:=(rel.ext s2).write p' c1 c2 hx c3 hv0 (fo.same p.same);refine⟨l,vsm,vn,rfl,rfl,g1,by rw[← g2.length];exact hc.2,?_⟩;have rn:=p'.rp;rw[r0.Qdc]at rn;have hnl:=(p'.cnt c1).2;rw[r0.Qdc]at hnl;have rw1:Rps X.K (upd H3 l (.lst (vsm++[vn]))) [r0.d] [vn] Gn:=by
     simp only[Rps];exact⟨vn,[],Gn,[],rfl,⋯,rn.upd g1 g5,rfl,rfl⟩
    obtain⟨F',rel'⟩:=g7 (ds++[r0.d]) (vsm++[vn]) (Gp++Gn) ((g2.upd g1 g4).append rw1) (by rw[Zo,Zbj];omega) (by rw[Zo,Qfz,g3,hnl];simp[nls]) (λa=>by rw[Zar];omega);exact q _ _ F' rel'
   .cases e
  .cases e
 .cases e
open PyProof.Rows in
def Qtx:Qz6 X (QAC X.K):=by
 intro pins s σ H o i ov iv Q I ro ri h;obtain⟨p,xs,k,v,rfl,rfl,hq,ha,q⟩:=h;cases ro;obtain⟨t,rfl⟩:=ri;obtain⟨its,r,pl,hz⟩:=I.list hq;obtain⟨j,h1,h2,h3,h4,h5⟩:=QlY ha;obtain⟨w,ew,rw'⟩:=r.get h2;have hl:=r.length;have hn:=Qho;by_cases h0:0<=k
 .refine wpAny_getItem_list pl.isList h0 ⋯ (x:=w) ?_ ⟨v,H,I,rw',q⟩;have:k.toNat=j:=by
   rw[seqIndex_of h0 h5]at h1;exact Option.some.inj h1
  rw[this];simpa using ew
 .refine wpAny_getItem_list_neg pl.isList ⋯ (by rw[Zx]<;>omega) ⋯ (x:=w) ?_ ⟨v,H,I,rw',q⟩;have hj:(k+(its.toArray.size:Int)).toNat=j:=by
   rw[seqIndex_neg ⋯ h4]at h1;rw[Zx,← hl];exact Option.some.inj h1
  rw[hj];simpa using ew
noncomputable def Qgs(g:D->D->Option D)(x:Nat)(pf:DP)(fi fa:DE):DS:=λU=>match U[x]? with
 | some (some (d,true))=>(pf U).bind λis=>(fi U).bind λri=>match ri.d,Qc5 d is with
  | .int k,some (.lst ds)=>(ixN ds.length k).bind λj=>(ds[j]?).bind λold=>(fa U).bind λr=>(g old r.d).map λnew=> .nx (U.set x (some (Qb4 is d (.lst (ds.set j new)),true)))
  | _,_=>none
 | _=>none
def QxC(ho:OpR X (inplaceOp op) r)(hg:QcF X.K g r)(hv:SE X e fa)(hp:SPa X a x pf)(hi:SE X i fi)
  (ha:∀ov iv new,augStore i ov iv new=(do holding [new,ov,iv] (setItem ov iv new);release [new,ov,iv] [];pure .next)):S1 X (.AugAssign (.Subscript a i pos') op e pos) (Qgs g x pf fi fa):=λH0 A0=>
 (Qxq (hp H0 A0) (hi H0 A0) Qtx (hv H0 A0) (λpins s σ H x y v u Q I rx ry q=>QDk ho I rx ry q) set_list ha).mono λE σ H=>exK λU hs F o rel e q=>by
  unfold Qgs at e;split at e
  .rename_i d hx;refine Ql e λis e2 e=>?_;refine Ql e λri e3 e=>?_;split at e
   .rename_i k ds hk hp';refine Ql e λj e4 e=>?_;refine Ql e λold e5 e=>?_;refine Ql e λrv e6 e=>?_;obtain⟨new,e7,e⟩:=Zf.mp e;subst e;have hjl:=(QeF e4).2.1;refine⟨U,hs,F,d,true,is,.lst ds,rel,hx,e2,hp',λv0 w H2 Gm s2 hv0 fo=>⟨U,hs,F,ri,rel.ext s2,e3,λu H3 Gi pi=>?_⟩⟩;have fo3:=fo.same pi.same;have rpi:=pi.rp;rw[hk]at rpi;rw[rpi.int_inv];have at3:atI ds k=some old:=by unfold atI;rw[e4];exact e5
    obtain⟨l,vs,v',Go,rfl,hc,h3,h4⟩:=Focus.one fo3.rp rfl at3;have hc:SqL X.K H3 l vs:=by
     rcases hc with⟨_,hc⟩ | ⟨hc,_⟩
     .exact hc
     .cases hc
    refine⟨l,vs,k,v',rfl,rfl,hc,h3,U,hs,F,rv,(rel.ext s2).ext pi.same,e6,λy H4 G4 p4=>?_⟩;have fo4:=fo3.same p4.same;have ro:=h4.rp.same p4.same;refine(hg _ _ _ e7).2 H4 v' y Go G4 _ ro p4.rp λz hz=>?_;have rel4:=((rel.ext s2).ext pi.same).ext p4.same;have pz:Qam X.K U F H4 H4 ⟨new,true,[]⟩ z []:= .flat (QU.refl _) (hz H4) (hg _ _ _ e7).1;obtain⟨l',vsm,Gp,el,g1,g2,g3,g4,g5,g6,g7⟩:=rel4.write pz rfl ZaK hx ⋯ hv0 fo4;cases el;refine⟨l,vsm,k,j,rfl,rfl,g1,by rw[← g2.length];exact e4,?_⟩;obtain⟨G',m1,m2,m3⟩:=set_mk g1 g2 g3 g4 g5 (hz H4) (Qey new (hg _ _ _ e7).1).symm hjl;obtain⟨F',rel'⟩:=g7 _ _ G' m1 (by rw[Zaz];exact g6) m2 m3;exact q _ _ F' rel'
   .cases e
  .cases e
end
end HS
namespace HS
open PySem PySem.Spec L2 PyProof.Rows
noncomputable def D.QwW:D->Option Int
 | .int i=>some i
 | _=>none
noncomputable def Qb1:List D->Option (List Int)
 | []=>some []
 | d::ds=>(d.QwW).bind λi=>(Qb1 ds).map λr=>i::r
def Qb8:∀{ds:List D}{ns:List Int},Qb1 ds=some ns->ds=ns.map .int
 | [],_,h=>by cases h;rfl
 | d::ds,ns,h=>by
  unfold Qb1 at h;refine Ql h λi h1 h=>?_;obtain⟨r,h2,rfl⟩:=Zf.mp h;cases d with
  | int j=>cases h1;rw[Qb8 h2];rfl
  | _=>cases h1
def Qdk:∀(ns:List Int),Qb1 (ns.map D.int)=some ns
 | []=>rfl
 | n::ns=>by simp[Qb1,Qdk ns,D.QwW]
def Rps.ints{K:Fgg}{H:Hp}:∀{ns:List Int}{vs:List V}{F:LAd},Rps K H (ns.map .int) vs F->vs=ns.map .int
 | [],_,_,h=>by simp only[Zaw,Rps]at h;rw[h.1];rfl
 | n::ns,_,_,h=>by
  simp only[Zv,Rps]at h;obtain⟨v,ws,F1,F2,rfl,rfl,r,q⟩:=h;rw[r.int_inv,Rps.ints q];rfl
def Qa5(h:QB (ns.map V.int) us):IntsAre us ns:=intsAre_of h
noncomputable def Qkw:List D->Option (List Bool)
 | []=>some []
 | d::ds=>(match d with | .bl b=>some b | _=>none).bind λi=>(Qkw ds).map λr=>i::r
def Qku:∀{ds:List D}{ns:List Bool},Qkw ds=some ns->ds=ns.map .bl
 | [],_,h=>by cases h;rfl
 | d::ds,ns,h=>by
  unfold Qkw at h;refine Ql h λi h1 h=>?_;obtain⟨r,h2,rfl⟩:=Zf.mp h;cases d with
  | bl j=>cases h1;rw[Qku h2];rfl
  | _=>cases h1
def Rps.bls{K:Fgg}{H:Hp}:∀{ns:List Bool}{vs:List V}{F:LAd},Rps K H (ns.map .bl) vs F->vs=ns.map .bl
 | [],_,_,h=>by simp only[Zaw,Rps]at h;rw[h.1];rfl
 | n::ns,_,_,h=>by
  simp only[Zv,Rps]at h;obtain⟨v,ws,F1,F2,rfl,rfl,r,q⟩:=h;rw[Rps.bls q];simp only[Rp]at r;rw[r.1];rfl
def QkG:∀{ns:List Bool}{us:List Value},QB (ns.map V.bl) us->LSm.BoolsAre us ns
 | [],_,.nil=> .nil
 | n::ns,_,.cons r h=>by cases r;exact .cons n (QkG h)
section
variable {X:Cx}{a b e:Expr}{es:List Expr}{fa fb:DE}{fs:DA}{pos p2:Pos}
def QBo(he:PE X e te)(hk:PE X k tk):PE X (.Subscript e (.Slice none none (some k) p2) pos)
  (λσ H Q=>te σ H λx H1=>tk σ H1 λy H2=>∃a xs,x= .ref a/\y= .int (-1)/\SqL X.K H2 a xs/\∀p,H2 p=none->Q (.ref p) (upd H2 p (.lst xs.reverse))):=by
 intro pins s σ H Q I h;refine PyProof.Rows.Subscript_ (thn (he pins s σ H _ I h) λv s1=>exJ λx H1 I1 r1 q1=>?_);refine wpAny_Slice ?_;rw[evalPart_none];refine wpAny_pure (wpAny_pure ?_);rw[evalPart_some];refine thn (hk pins s1 σ H1 _ I1 q1) λvk s3=>exJ λy H3 I3 r3 q3=>?_;obtain⟨c,xs,rfl,rfl,hq,q⟩:=q3;cases r1;obtain⟨t,rfl⟩:=r3;have I4:Inv X pins σ H3 {s3 with heap:=s3.heap.push {cls:= .type "slice",data:= .fields #[.none,.none,.int (-1) t]}}:=I3.kept (t':=s3.toks) λb ob q=>Zn _ q;obtain⟨its,r,ht,hz⟩:=I4.list hq;have hlen:=r.length;refine tail_any ht.isList.typeIs slot_list_getitem.lookup ?_ (by with_unfolding_all rfl);refine wpAny_getItem_list_slice ht.isList (Heap.IsSliceOf.new ..) .none .none (.int (-1) t) ⋯ ?_ (by rw[Zx]<;>omega);rw[PySem.W.krv_pick];refine⟨.ref _,_,I4.laid (t':=s3.toks) (λb ob q=>Zn _ q) (Zs _) ?_,rfl,q _ (I4.hok.fresh (Zs _))⟩;exact⟨by rw[ZaW];exact hz,its.reverse,0,r.reverse,ZG _ rfl⟩
def Rps.rev{K:Fgg}{H:Hp}:∀{ds:List D}{vs:List V}{F:LAd},Rps K H ds vs F->∃G,Rps K H ds.reverse vs.reverse G/\∀a∈G,a∈F
 | [],_,_,h=>by simp only[Rps]at h;rw[h.1,h.2];exact⟨[],by simp[Rps],λ_ h=>h⟩
 | d::ds,_,_,h=>by
  simp only[Rps]at h;obtain⟨v,ws,F1,F2,rfl,rfl,r,q⟩:=h;obtain⟨G,h1,h2⟩:=Rps.rev q;refine⟨G++F1,?_,λa ha=>?_⟩
  .rw[ZbA,ZbA];refine h1.append ?_;simp only[Rps];exact⟨v,[],F1,[],rfl,⋯,r,rfl,rfl⟩
  .rcases ZJ.mp ha with z | z
   .exact Zg _ (h2 a z)
   .exact Zd _ z
noncomputable def Qij(fa fk:DE):DE:=λU=>(fa U).bind λra=>(fk U).bind λrk=>match ra.d,rk.d with
 | .lst xs,.int (-1)=>some (Qaq xs.reverse ra.M)
 | _,_=>none
def QAR{k:Expr}{fk:DE}(ha:SE X a fa)(hk:SE X k fk):SE X (.Subscript a (.Slice none none (some k) p2) pos) (Qij fa fk):=λH0 A0=>
 (QBo (ha H0 A0) (hk H0 A0)).mono λσ H Q=>exK λU hs F r' rel e q=>by
  refine Ql e λra e1 e=>?_;refine Ql e λrk e2 e=>?_;refine two rel e1 e2 λx y H1 H2 G1 G2 p1 p2=>?_;split at e
  .rename_i xs hra hrk;cases e;have rp:=p1.rp.same p2.same;have rk':=p2.rp;rw[hra]at rp;rw[hrk]at rk';obtain⟨c,vs,L,rfl,hc,rl,zl,el⟩:=rp.lst_inv;refine⟨c,vs,rfl,rk'.int_inv,Qab hc,λp hp=>?_⟩;obtain⟨G,h1,h2⟩:=rl.rev;refine q _ _ (p::G) (Qam.Qaq (p1.same.trans p2.same) hp h1 (by rw[ZaW];exact zl) (λz hz=>p1.src z ?_) p1.own);rcases el with rfl | rfl
   .exact Zb _ (h2 z hz)
   .exact h2 z hz
  .cases e
def Qsc(K:Fgg)(C:List Int->Int->Prop):List V->Hp->VK->Prop:=λxs H Q=>∃(p:Addr) (ns:List Int),xs=[.ref p]/\(SqL K H p (ns.map V.int)∨SqT K H p (ns.map V.int))/\ns≠[]/\∀M,C ns M->Q (.int M) H
def QlN(ns:List Int)(M:Int):Prop:=M∈ns/\∀a∈ns,M<=a
def isMax(ns:List Int)(M:Int):Prop:=M∈ns/\∀a∈ns,a<=M
def Qdu(hi:IntsAre us ns):∃xs:Array (Int×Tok),us.toArray=intItems xs/\ns=xs.toList.map (·.1):=by
 obtain⟨xs,e⟩:=hi.allInts.items;exact⟨xs,e,by rw[← hi.numsOf,← nums_intItems,← e]⟩
def Qo2(hh:A.handled=none)(hl:s.heap.IsTuple l (intItems xs))(hne:0<xs.size)
  (h:∀v h' tk,(intItems xs)[argBest (λi j=>decide (numAt xs i<numAt xs j)) (xs.size-1)]? =some v->(∀b o,s.heap.get? b=some o->h'.get? b=some o)->Q v {s with heap:=h',toks:=tk}):
  wpAny (model prog w) A (call (.builtin "min") [.ref l]) Q E s:=by
 have hlt:l<s.heap.objs.size:=by obtain⟨_,e,_⟩:=hl;exact Zr e
 refine call_min_walk (wpAny_pyIter_tuple hl ?_);refine⟨_,[_,l],[_],_,_,_,_,rfl,Walks.tuple (A:=A.in1) hh _ l (ZH hlt) (intItems xs),⟨⟨_,ZG _ rfl,rfl,rfl⟩,hl.push _⟩,λb hb=>?_,by simpa[intItems]using hne,CmpOf.ints_lt (numAt xs) (λ_ _=>intItems_at),λv h' tk hP hk=>?_⟩
 .show b<(s.heap.push _).objs.size;rw[Zav];rcases Zk.mp hb with rfl | hb
  .exact ZaX _
  .rcases Zk.mp hb with rfl | hb
   .exact Zai hlt
   .cases hb
 .refine h v h' tk (by simpa[intItems]using hP) λb o e=>?_;refine hk b o (λhm=>?_) (Zn _ e);rcases Zk.mp hm with e1 | hm
  .exact absurd (e1▸Zr e) (ZV _)
  .cases hm
def Qs8(hc:X.calm=true):Qb7 X (.builtin "min") (Qsc X.K QlN):=by
 intro pins s σ H xs us Q I r h;obtain⟨p,ns,rfl,hq,hne,q⟩:=h;obtain⟨u,rfl,rx⟩:=vals1 r;cases rx;rcases hq with hq | hq
 .obtain⟨its,r',pl,hz⟩:=I.list hq;obtain⟨ys,e,hns⟩:=Qdu (Qa5 r');have hl:=pl.isList;rw[e]at hl;have hsz:0<ys.size:=by
   rcases Zbw ys.size with z | z
   .exact absurd (by rw[hns,Zbs];exact Zas (by simpa using z)) hne
   .exact z
  refine min_intList (I.ok.hd hc) hl hsz λv h' tk hv hk=>?_;obtain⟨t,rfl⟩:=intItems_at hv;obtain⟨h1,h2⟩:=argBest_lt (numAt ys) (ys.size-1);refine⟨.int _,H,I.kept hk,⟨t,rfl⟩,q _ ⟨?_,λa ha=>?_⟩⟩
  .rw[hns,numAt_eq];exact getD_mem (by rw[Zc,Zu];omega)
  .rw[hns]at ha;obtain⟨j,hj,rfl⟩:=mem_getD ha;rw[Zc,Zu]at hj;rw[← numAt_eq];exact h2 j ⋯
 .obtain⟨its,r',pl,hz⟩:=I.tuple hq;obtain⟨ys,e,hns⟩:=Qdu (Qa5 r');have hl:=pl;rw[e]at hl;have hsz:0<ys.size:=by
   rcases Zbw ys.size with z | z
   .exact absurd (by rw[hns,Zbs];exact Zas (by simpa using z)) hne
   .exact z
  refine Qo2 (I.ok.hd hc) hl hsz λv h' tk hv hk=>?_;obtain⟨t,rfl⟩:=intItems_at hv;obtain⟨h1,h2⟩:=argBest_lt (numAt ys) (ys.size-1);refine⟨.int _,H,I.kept hk,⟨t,rfl⟩,q _ ⟨?_,λa ha=>?_⟩⟩
  .rw[hns,numAt_eq];exact getD_mem (by rw[Zc,Zu];omega)
  .rw[hns]at ha;obtain⟨j,hj,rfl⟩:=mem_getD ha;rw[Zc,Zu]at hj;rw[← numAt_eq];exact h2 j ⋯
def Qpb(hh:A.handled=none)(hl:s.heap.IsTuple l (intItems xs))(hne:0<xs.size)
  (h:∀v h' tk,(intItems xs)[argBest (λi j=>decide (numAt xs i>numAt xs j)) (xs.size-1)]? =some v->(∀b o,s.heap.get? b=some o->h'.get? b=some o)->Q v {s with heap:=h',toks:=tk}):
  wpAny (model prog w) A (call (.builtin "max") [.ref l]) Q E s:=by
 have hlt:l<s.heap.objs.size:=by obtain⟨_,e,_⟩:=hl;exact Zr e
 refine call_max_walk (wpAny_pyIter_tuple hl ?_);refine⟨_,[_,l],[_],_,_,_,_,rfl,Walks.tuple (A:=A.in1) hh _ l (ZH hlt) (intItems xs),⟨⟨_,ZG _ rfl,rfl,rfl⟩,hl.push _⟩,λb hb=>?_,by simpa[intItems]using hne,CmpOf.ints_gt (numAt xs) (λ_ _=>intItems_at),λv h' tk hP hk=>?_⟩
 .show b<(s.heap.push _).objs.size;rw[Zav];rcases Zk.mp hb with rfl | hb
  .exact ZaX _
  .rcases Zk.mp hb with rfl | hb
   .exact Zai hlt
   .cases hb
 .refine h v h' tk (by simpa[intItems]using hP) λb o e=>?_;refine hk b o (λhm=>?_) (Zn _ e);rcases Zk.mp hm with e1 | hm
  .exact absurd (e1▸Zr e) (ZV _)
  .cases hm
def Qte(hc:X.calm=true):Qb7 X (.builtin "max") (Qsc X.K isMax):=by
 intro pins s σ H xs us Q I r h;obtain⟨p,ns,rfl,hq,hne,q⟩:=h;obtain⟨u,rfl,rx⟩:=vals1 r;cases rx;rcases hq with hq | hq
 .obtain⟨its,r',pl,hz⟩:=I.list hq;obtain⟨ys,e,hns⟩:=Qdu (Qa5 r');have hl:=pl.isList;rw[e]at hl;have hsz:0<ys.size:=by
   rcases Zbw ys.size with z | z
   .exact absurd (by rw[hns,Zbs];exact Zas (by simpa using z)) hne
   .exact z
  refine max_intList (I.ok.hd hc) hl hsz λv h' tk hv hk=>?_;obtain⟨t,rfl⟩:=intItems_at hv;obtain⟨h1,h2⟩:=argBest_gt (numAt ys) (ys.size-1);refine⟨.int _,H,I.kept hk,⟨t,rfl⟩,q _ ⟨?_,λa ha=>?_⟩⟩
  .rw[hns,numAt_eq];exact getD_mem (by rw[Zc,Zu];omega)
  .rw[hns]at ha;obtain⟨j,hj,rfl⟩:=mem_getD ha;rw[Zc,Zu]at hj;rw[← numAt_eq];exact h2 j ⋯
 .obtain⟨its,r',pl,hz⟩:=I.tuple hq;obtain⟨ys,e,hns⟩:=Qdu (Qa5 r');have hl:=pl;rw[e]at hl;have hsz:0<ys.size:=by
   rcases Zbw ys.size with z | z
   .exact absurd (by rw[hns,Zbs];exact Zas (by simpa using z)) hne
   .exact z
  refine Qpb (I.ok.hd hc) hl hsz λv h' tk hv hk=>?_;obtain⟨t,rfl⟩:=intItems_at hv;obtain⟨h1,h2⟩:=argBest_gt (numAt ys) (ys.size-1);refine⟨.int _,H,I.kept hk,⟨t,rfl⟩,q _ ⟨?_,λa ha=>?_⟩⟩
  .rw[hns,numAt_eq];exact getD_mem (by rw[Zc,Zu];omega)
  .rw[hns]at ha;obtain⟨j,hj,rfl⟩:=mem_getD ha;rw[Zc,Zu]at hj;rw[← numAt_eq];exact h2 j ⋯
def Qo3(hh:A.handled=none)(hl:s.heap.IsTuple l (intItems xs))
  (h:∀h' tk t',(∀b o,s.heap.get? b=some o->h'.get? b=some o)->Q (.int (preSum (numAt xs) xs.size) t') {s with heap:=h',toks:=tk}):
  wpAny (model prog w) A (call (.builtin "sum") [.ref l]) Q E s:=by
 have hlt:l<s.heap.objs.size:=by obtain⟨_,e,_⟩:=hl;exact Zr e
 refine call_sum_walkG (wpAny_pyIter_tuple hl ?_);refine⟨_,[_,l],[_],_,_,_,numAt xs,rfl,Walks.tuple (A:=A.in1) hh _ l (ZH hlt) (intItems xs),⟨⟨_,ZG _ rfl,rfl,rfl⟩,hl.push _⟩,λb hb=>?_,(λ_ _=>intItems_at),λh' tk t' hk=>?_⟩
 .show b<(s.heap.push _).objs.size;rw[Zav];rcases Zk.mp hb with rfl | hb
  .exact ZaX _
  .rcases Zk.mp hb with rfl | hb
   .exact Zai hlt
   .cases hb
 .have:=h h' tk t' λb o e=>by
   refine hk b o (λhm=>?_) (Zn _ e);rcases Zk.mp hm with e1 | hm
   .exact absurd (e1▸Zr e) (ZV _)
   .cases hm
  simpa[intItems]using this
def QA9(K:Fgg):List V->Hp->VK->Prop:=λxs H Q=>∃(p:Addr) (ns:List Int),xs=[.ref p]/\(SqL K H p (ns.map V.int)∨SqT K H p (ns.map V.int))/\Q (.int ns.sum) H
def Quc(hc:X.calm=true):Qb7 X (.builtin "sum") (QA9 X.K):=by
 intro pins s σ H xs us Q I r h;obtain⟨p,ns,rfl,hq,q⟩:=h;obtain⟨u,rfl,rx⟩:=vals1 r;cases rx;rcases hq with hq | hq
 .obtain⟨its,r',pl,hz⟩:=I.list hq;obtain⟨ys,e,hns⟩:=Qdu (Qa5 r');have hl:=pl.isList;rw[e]at hl;refine sum_intListG (I.ok.hd hc) hl λh' tk t' hk=>?_;refine⟨.int ns.sum,H,I.kept hk,⟨t',?_⟩,q⟩;rw[preSum_eq,Zbd ⋯,hns]
 .obtain⟨its,r',pl,hz⟩:=I.tuple hq;obtain⟨ys,e,hns⟩:=Qdu (Qa5 r');have hl:=pl;rw[e]at hl;refine Qo3 (I.ok.hd hc) hl λh' tk t' hk=>?_;refine⟨.int ns.sum,H,I.kept hk,⟨t',?_⟩,q⟩;rw[preSum_eq,Zbd ⋯,hns]
def Qtz(hc:X.calm=true):Qb7 X (.builtin "all") (λxs H Q=>∃(p:Addr) (ns:List Bool),xs=[.ref p]/\SqL X.K H p (ns.map V.bl)/\Q (.bl (ns.all id)) H):=by
 intro pins s σ H xs us Q I r h;obtain⟨p,ns,rfl,hq,q⟩:=h;obtain⟨u,rfl,rx⟩:=vals1 r;cases rx;obtain⟨its,r',pl,hz⟩:=I.list hq;have hb:=QkG r';have hl:=pl.isList;have hlt:p<s.heap.objs.size:=by obtain⟨_,e,_⟩:=hl;exact Zr e
 refine call_all_walk (wpAny_pyIter_list hl ?_)
 refine⟨s.heap.objs.size,[s.heap.objs.size,p],[s.heap.objs.size],its.toArray.size,_,_,λi=>(ns[i]?).getD true,rfl,Walks.list (A:=X.A.in1) (I.ok.hd hc) _ p (ZH hlt) its.toArray,
  ⟨⟨_,ZG _ rfl,rfl,rfl⟩,hl.push _⟩,λi v s' Q' E' hP hQ=>?_,λh' tk hk=>?_⟩
 .obtain⟨b,e,rfl⟩:=hb.get i v (by simpa using hP);simp only[e,Option.getD_some]at hQ;exact wpAny_truthy_bool hQ
 .have e:((List.range its.toArray.size).all λi=>(ns[i]?).getD true)=ns.all id:=by
   rw[Zx,hb.length];exact LSm.range_all ns
  rw[e];exact⟨.bl (ns.all id),H,I.kept (LSm.kept_iter hk),rfl,q⟩
def QsL(hc:X.calm=true):Qb7 X (.builtin "any") (λxs H Q=>∃(p:Addr) (ns:List Bool),xs=[.ref p]/\SqL X.K H p (ns.map V.bl)/\Q (.bl (ns.any id)) H):=by
 intro pins s σ H xs us Q I r h;obtain⟨p,ns,rfl,hq,q⟩:=h;obtain⟨u,rfl,rx⟩:=vals1 r;cases rx;obtain⟨its,r',pl,hz⟩:=I.list hq;have hb:=QkG r';have hl:=pl.isList;have hlt:p<s.heap.objs.size:=by obtain⟨_,e,_⟩:=hl;exact Zr e
 refine call_any_walk (wpAny_pyIter_list hl ?_)
 refine⟨s.heap.objs.size,[s.heap.objs.size,p],[s.heap.objs.size],its.toArray.size,_,_,λi=>(ns[i]?).getD false,rfl,Walks.list (A:=X.A.in1) (I.ok.hd hc) _ p (ZH hlt) its.toArray,
  ⟨⟨_,ZG _ rfl,rfl,rfl⟩,hl.push _⟩,λi v s' Q' E' hP hQ=>?_,λh' tk hk=>?_⟩
 .obtain⟨b,e,rfl⟩:=hb.get i v (by simpa using hP);simp only[e,Option.getD_some]at hQ;exact wpAny_truthy_bool hQ
 .have e:((List.range its.toArray.size).any λi=>(ns[i]?).getD false)=ns.any id:=by
   rw[Zx,hb.length];exact LSm.range_any ns
  rw[e];exact⟨.bl (ns.any id),H,I.kept (LSm.kept_iter hk),rfl,q⟩
noncomputable def Qks:List Int->Option Int
 | []=>none
 | [n]=>some n
 | n::r=>(Qks r).map λm=>if m<n then m else n
noncomputable def Qkf:List Int->Option Int
 | []=>none
 | [n]=>some n
 | n::r=>(Qkf r).map λm=>if n<m then m else n
def Qjr:∀{ns:List Int}{m:Int},Qks ns=some m->QlN ns m
 | [],_,h=>by cases h
 | [n],_,h=>by cases h;exact⟨⋯,λa ha=>by simp at ha;omega⟩
 | n::k::r,m,h=>by
  simp only[Qks]at h;obtain⟨m',h1,rfl⟩:=Zf.mp h;obtain⟨h2,h3⟩:=Qjr h1;constructor
  .split
   .exact Zb _ h2
   .exact Zi
  .intro a ha;rcases Zk.mp ha with rfl | ha
   .split<;>omega
   .have:=h3 a ha;split<;>omega
def Qji:∀{ns:List Int}{m:Int},Qkf ns=some m->isMax ns m
 | [],_,h=>by cases h
 | [n],_,h=>by cases h;exact⟨⋯,λa ha=>by simp at ha;omega⟩
 | n::k::r,m,h=>by
  simp only[Qkf]at h;obtain⟨m',h1,rfl⟩:=Zf.mp h;obtain⟨h2,h3⟩:=Qji h1;constructor
  .split
   .exact Zb _ h2
   .exact Zi
  .intro a ha;rcases Zk.mp ha with rfl | ha
   .split<;>omega
   .have:=h3 a ha;split<;>omega
def QmW{ns:List Int}{a b:Int}(h:QlN ns a)(g:QlN ns b):a=b:=by have:=h.2 b g.1;have:=g.2 a h.1;omega
def Qm8{ns:List Int}{a b:Int}(h:isMax ns a)(g:isMax ns b):a=b:=by have:=h.2 b g.1;have:=g.2 a h.1;omega
noncomputable def Qc7:List D->Option D
 | [.lst xs]=>(Qb1 xs).bind λns=>(Qks ns).map .int
 | [.tup xs]=>(Qb1 xs).bind λns=>(Qks ns).map .int
 | _=>none
noncomputable def QeS:List D->Option D
 | [.lst xs]=>(Qb1 xs).bind λns=>(Qkf ns).map .int
 | [.tup xs]=>(Qb1 xs).bind λns=>(Qkf ns).map .int
 | _=>none
noncomputable def QeX:List D->Option D
 | [.lst xs]=>(Qb1 xs).map λns=> .int ns.sum
 | [.tup xs]=>(Qb1 xs).map λns=> .int ns.sum
 | _=>none
def Qxi{K:Fgg}:Qdl K Qc7 (Qsc K QlN):=λds d e=>by
 unfold Qc7 at e;split at e
 .refine Ql e λns h1 e=>?_;obtain⟨m,h2,rfl⟩:=Zf.mp e;refine⟨rfl,λH vs F Q r q=>?_⟩;obtain⟨v,rfl,rp⟩:=r.one;obtain⟨l,ws,L,rfl,hl,rl,zl,el⟩:=rp.lst_inv;rw[Qb8 h1]at rl;rw[rl.ints]at hl;exact⟨l,ns,rfl,.inl (Qab hl),λz=>(by rw[z]at h2;cases h2),λM hM=>by rw[QmW hM (Qjr h2)];exact q _ λ_=> .int_mk⟩
 .refine Ql e λns h1 e=>?_;obtain⟨m,h2,rfl⟩:=Zf.mp e;refine⟨rfl,λH vs F Q r q=>?_⟩;obtain⟨v,rfl,rp⟩:=r.one;obtain⟨l,ws,rfl,hl,rl⟩:=rp.Qba;rw[Qb8 h1]at rl;rw[rl.ints]at hl;exact⟨l,ns,rfl,.inr hl,λz=>(by rw[z]at h2;cases h2),λM hM=>by rw[QmW hM (Qjr h2)];exact q _ λ_=> .int_mk⟩
 .cases e
def QxP{K:Fgg}:Qdl K QeS (Qsc K isMax):=λds d e=>by
 unfold QeS at e;split at e
 .refine Ql e λns h1 e=>?_;obtain⟨m,h2,rfl⟩:=Zf.mp e;refine⟨rfl,λH vs F Q r q=>?_⟩;obtain⟨v,rfl,rp⟩:=r.one;obtain⟨l,ws,L,rfl,hl,rl,zl,el⟩:=rp.lst_inv;rw[Qb8 h1]at rl;rw[rl.ints]at hl;exact⟨l,ns,rfl,.inl (Qab hl),λz=>(by rw[z]at h2;cases h2),λM hM=>by rw[Qm8 hM (Qji h2)];exact q _ λ_=> .int_mk⟩
 .refine Ql e λns h1 e=>?_;obtain⟨m,h2,rfl⟩:=Zf.mp e;refine⟨rfl,λH vs F Q r q=>?_⟩;obtain⟨v,rfl,rp⟩:=r.one;obtain⟨l,ws,rfl,hl,rl⟩:=rp.Qba;rw[Qb8 h1]at rl;rw[rl.ints]at hl;exact⟨l,ns,rfl,.inr hl,λz=>(by rw[z]at h2;cases h2),λM hM=>by rw[Qm8 hM (Qji h2)];exact q _ λ_=> .int_mk⟩
 .cases e
def QyC{K:Fgg}:Qdl K QeX (QA9 K):=λds d e=>by
 unfold QeX at e;split at e
 .obtain⟨ns,h1,rfl⟩:=Zf.mp e;refine⟨rfl,λH vs F Q r q=>?_⟩;obtain⟨v,rfl,rp⟩:=r.one;obtain⟨l,ws,L,rfl,hl,rl,zl,el⟩:=rp.lst_inv;rw[Qb8 h1]at rl;rw[rl.ints]at hl;exact⟨l,ns,rfl,.inl (Qab hl),q _ λ_=> .int_mk⟩
 .obtain⟨ns,h1,rfl⟩:=Zf.mp e;refine⟨rfl,λH vs F Q r q=>?_⟩;obtain⟨v,rfl,rp⟩:=r.one;obtain⟨l,ws,rfl,hl,rl⟩:=rp.Qba;rw[Qb8 h1]at rl;rw[rl.ints]at hl;exact⟨l,ns,rfl,.inr hl,q _ λ_=> .int_mk⟩
 .cases e
noncomputable def QjF:List D->Option D
 | [.lst xs]=>(Qkw xs).map λns=> .bl (ns.all id)
 | _=>none
def Qyz{K:Fgg}:Qdl K QjF (λxs H Q=>∃(p:Addr) (ns:List Bool),xs=[.ref p]/\SqL K H p (ns.map V.bl)/\Q (.bl (ns.all id)) H):=λds d e=>by
 unfold QjF at e;split at e
 .obtain⟨ns,h1,rfl⟩:=Zf.mp e;refine⟨rfl,λH vs F Q r q=>?_⟩;obtain⟨v,rfl,rp⟩:=r.one;obtain⟨l,ws,L,rfl,hl,rl,zl,el⟩:=rp.lst_inv;rw[Qku h1]at rl;rw[rl.bls]at hl;exact⟨l,ns,rfl,Qab hl,q _ λ_=> .QbD⟩
 .cases e
noncomputable def Qft:List D->Option D
 | [.lst xs]=>(Qkw xs).map λns=> .bl (ns.any id)
 | _=>none
def Qxu{K:Fgg}:Qdl K Qft (λxs H Q=>∃(p:Addr) (ns:List Bool),xs=[.ref p]/\SqL K H p (ns.map V.bl)/\Q (.bl (ns.any id)) H):=λds d e=>by
 unfold Qft at e;split at e
 .obtain⟨ns,h1,rfl⟩:=Zf.mp e;refine⟨rfl,λH vs F Q r q=>?_⟩;obtain⟨v,rfl,rp⟩:=r.one;obtain⟨l,ws,L,rfl,hl,rl,zl,el⟩:=rp.lst_inv;rw[Qku h1]at rl;rw[rl.bls]at hl;exact⟨l,ns,rfl,Qab hl,q _ λ_=> .QbD⟩
 .cases e
noncomputable def QgV(neg:Bool)(a b:D):Option D:=match a,b with
 | a,.non=>some (.bl (if neg then !a.QrM else a.QrM))
 | .bl x,.bl y=>some (.bl (if neg then !(x == y)else x == y))
 | _,_=>none
def QAh:OpR X (compareOp .Is) (λx y H Q=>∃c d,x= .bl c/\y= .bl d/\Q (.bl (c == d)) H):=by
 intro pins s σ H x y v u Q I rx ry h;obtain⟨c,d,rfl,rfl,q⟩:=h;cases rx;cases ry;exact PyProof.Rows.is_bool (QlK I q rfl)
def QyX:OpR X (compareOp .IsNot) (λx y H Q=>∃c d,x= .bl c/\y= .bl d/\Q (.bl (!(c == d))) H):=by
 intro pins s σ H x y v u Q I rx ry h;obtain⟨c,d,rfl,rfl,q⟩:=h;cases rx;cases ry;exact PyProof.Rows.isnot_bool (QlK I q rfl)
def QBf{K:Fgg}:QcF K (QgV false) (λx y H Q=>(y= .non/\Q (.bl (decide (x= .non))) H)∨∃c d,x= .bl c/\y= .bl d/\Q (.bl (c == d)) H):=λa b d e=>by
 unfold QgV at e;split at e
 .cases e;exact⟨rfl,λH x y F G Q ha hb q=> .inl ⟨hb.QfJ,by rw[Qqm ha];exact q _ λ_=> .QbD⟩⟩
 .cases e;exact⟨rfl,λH x y F G Q ha hb q=> .inr ⟨_,_,ha.Qdj,hb.Qdj,q _ λ_=> .QbD⟩⟩
 .cases e
def Quw{K:Fgg}:QcF K (QgV true) (λx y H Q=>(y= .non/\Q (.bl (!decide (x= .non))) H)∨∃c d,x= .bl c/\y= .bl d/\Q (.bl (!(c == d))) H):=λa b d e=>by
 unfold QgV at e;split at e
 .cases e;exact⟨rfl,λH x y F G Q ha hb q=> .inl ⟨hb.QfJ,by rw[Qqm ha];exact q _ λ_=> .QbD⟩⟩
 .cases e;exact⟨rfl,λH x y F G Q ha hb q=> .inr ⟨_,_,ha.Qdj,hb.Qdj,q _ λ_=> .QbD⟩⟩
 .cases e
def Qqk:∀a b d,QgV neg a b=some d->∃k,d= .bl k:=λa b d h=>by
 unfold QgV at h;split at h<;>cases h<;>exact⟨_,rfl⟩
noncomputable def QmJ:List D->Option D
 | [.int i]=>some (.int i)
 | [.bl k]=>some (.int (if k then 1 else 0))
 | _=>none
def Qzj{K:Fgg}:Qdl K QmJ (λxs H Q=>(∃i,xs=[.int i]/\Q (.int i) H)∨∃k,xs=[.bl k]/\Q (.int (if k then 1 else 0)) H):=λds d e=>by
 unfold QmJ at e;split at e
 .cases e;refine⟨rfl,λH vs F Q r q=>?_⟩;obtain⟨v,rfl,rp⟩:=r.one;exact .inl ⟨_,by rw[rp.int_inv],q _ λ_=> .int_mk⟩
 .cases e;refine⟨rfl,λH vs F Q r q=>?_⟩;obtain⟨v,rfl,rp⟩:=r.one;exact .inr ⟨_,by rw[rp.Qdj],q _ λ_=> .int_mk⟩
 .cases e
def QBp(hc:Qb7 X (.type T) r)(hk:Qdl X.K g r)(hg:Gl X x)(hm:X.mg x=none)(hv:bootBuiltins x=some (.type T))(ha:SA X (e::es) fs)(hn:x≠ "__name__")(hdb:(x == ("__debug__" :Str))=false)
  (he:starEach (e::es) X.env=(false,eval e X.env)::starEach es X.env) (hpl:(backTo pos (starEach es X.env)).any (·.1)=false):SE X (.Call (.Name x p) (e::es) [] pos) (dBf g fs):=λH0 A0=>
 (Qjb hc hg hm hv (ha H0 A0) hn hdb he hpl).mono λσ H Q=>exK λU hs F r' rel e q=>by
  refine Ql e λra e1 e=>?_;obtain⟨d,ed,e⟩:=Zf.mp e;subst e;exact⟨U,hs,F,ra,rel,e1,λvs H1 G p1=>(hk _ _ ed).2 H1 vs G Q p1.rp λv hv=>q v H1 [] (.flat p1.same (hv _) (hk _ _ ed).1)⟩
end
def QjS:∀{vs:List V}{us:List Value},us.length=vs.length->(∀(k:Nat) (v:V),vs[k]? =some v->∃u,us[k]? =some u/\RelV v u)->QB vs us
 | [],[],_,_=> .nil
 | [],_::_,h,_=>by simp at h
 | _::_,[],h,_=>by simp at h
 | v::vs,u::us,h,g=>by
  obtain⟨u',e,r⟩:=g 0 v rfl;cases e;exact .cons r (QjS (by simpa using h) λk v hk=>g (k+1) v hk)
section
variable {X:Cx}{a b c e tg:Expr}{es:List Expr}{fa fb fc:DE}{fs:DA}{pos p2:Pos}
def Qt8(I:Inv X pins σ H s)(hc:X.calm=true)(h0:0<=j)(h1:j<=1000000)
  (q:∀l,H l=none->Q (.ref l) (upd H l (.lst ((List.range j.toNat).map λ(k:Nat)=>V.int (k:Int))))):
  wpAny (model X.prog X.w) X.A (call (.type "list") [.ref s.heap.objs.size]) (EP X pins σ Q) E {s with heap:=s.heap.push {cls:= .type "range",data:= .fields #[.int 0 t,.int j u,.int 1 v]},toks:=tk}:=by
 have I2:Inv X pins σ H {s with heap:=s.heap.push {cls:= .type "range",data:= .fields #[.int 0 t,.int j u,.int 1 v]},toks:=tk}:=I.kept λb o e=>Zn _ e;refine call_list_range (n:=j.toNat) (I.ok.hd hc) (IsRange.new ..) (small_one ⋯ ⋯ ⋯ ⋯) (by rw[rangeSize_one];split<;>omega) ⋯ λh' tk' acc' c' hk hS hacc=>?_;have hv:QB ((List.range j.toNat).map λ(k:Nat)=>V.int (k:Int)) acc'.toList:=by
  have hl:=hacc.1;refine QjS (by simp[hl]) λk v hk=>?_;rw[Zh]at hk;have hkl:k<j.toNat:=by
   by_cases z:k<j.toNat
   .exact z
   .rw[Zt (by simp;omega)]at hk;cases hk
  rw[ZL hkl]at hk;cases hk;obtain⟨w,hw⟩:∃w,acc'[k]? =some w:=⟨acc'[k]'⋯,by rw[ZU ⋯]⟩;obtain⟨t',rfl⟩:=hacc.2 k w hw;exact⟨_,by rw[ZX];exact hw,⟨t',⋯⟩⟩
 refine⟨.ref _,_,I2.laid hk (Zs _) (show Qca X.prog X.w _ h' _ (.lst _)from⟨by simp[Qdx];omega,acc'.toList,c',hv,by simpa using hS⟩),rfl,q _ (I2.hok.fresh (Zs _))⟩
def Qt1(hg:Gl X "list")(hm:X.mg "list" =none)(hg':Gl X "range")(hm':X.mg "range" =none)(hc:X.calm=true)(ha:PA X [a] ta)(hs:starEach [a] X.env=[(false,eval a X.env)]):
  PE X (.Call (.Name "list" p) [.Call (.Name "range" p') [a] [] pos'] [] pos) (λσ H Q=>ta σ H λvs H1=>∃j:Int,vs=[.int j]/\0<=j/\j<=1000000/\∀l,H1 l=none->Q (.ref l) (upd H1 l (.lst ((List.range j.toNat).map λ(k:Nat)=>V.int (k:Int))))):=by
 intro pins s σ H Q I h;refine wpAny_Call_Name_kw (QcS I hg hm boot_list ?_ ∅ ∅);refine Zac (Zcc ?_) rfl rfl;refine Call_ (QcS I hg' hm' boot_range (Zac (thn (ha pos' pins s σ H _ I h) λus s1 ⟨vs,H1,I1,r1,q1⟩=>?_) hs rfl));obtain⟨j,e,q1,q2,q⟩:=q1;subst e;cases r1 with
 | cons r rr=>
  cases rr;obtain⟨t,rfl⟩:=r;exact call_range_1 (Zch (Qt8 I1 hc q1 q2 q))
noncomputable def Qgh(fa:DE):DE:=λU=>(fa U).bind λr=>match r.d with
 | .int j=>if 0<=j/\j<=1000000 then some ⟨.lst ((List.range j.toNat).map λ(k:Nat)=> .int (k:Int)),true,[]⟩else none
 | _=>none
def Rps.ofInts{K:Fgg}{H:Hp}:∀ns:List Int,Rps K H (ns.map .int) (ns.map .int) []
 | []=>by simp[Rps]
 | n::ns=>by simp only[Zv,Rps];exact⟨_,_,[],[],rfl,rfl,.int_mk,Rps.ofInts ns⟩
def QdZ:∀ns:List Int,Qar (ns.map .int)=true
 | []=>rfl
 | n::ns=>by simp[Qar,D.flat,QdZ ns]
def Qyi{p p' pos':Pos}(hg:Gl X "list")(hm:X.mg "list" =none)(hg':Gl X "range")(hm':X.mg "range" =none)(hc:X.calm=true)(ha:SE X a fa)(hs:starEach [a] X.env=[(false,eval a X.env)]):
  SE X (.Call (.Name "list" p) [.Call (.Name "range" p') [a] [] pos'] [] pos) (Qgh fa):=λH0 A0=>
 (Qt1 hg hm hg' hm' hc (Qbh (ha H0 A0) Qde hs) hs).mono λσ H Q=>exK λU hs F r' rel e q=>by
  refine Ql e λra e1 e=>?_;refine⟨U,hs,F,ra,rel,e1,λv H1 G p1=>?_⟩;cases hd:ra.d with
  | int j=>
   rw[hd]at e;dsimp only at e;split at e
   .rename_i hj;cases e;have rp:=p1.rp;rw[hd]at rp;refine⟨j,by rw[rp.int_inv],hj.1,hj.2,λl hl=>?_⟩;have e2:((List.range j.toNat).map λ(k:Nat)=>D.int (k:Int))=((List.range j.toNat).map λ(k:Nat)=>(k:Int)).map D.int:=by rw[ZO];rfl
    have e3:((List.range j.toNat).map λ(k:Nat)=>V.int (k:Int))=((List.range j.toNat).map λ(k:Nat)=>(k:Int)).map V.int:=by rw[ZO];rfl
    have:=Qam.Qaq (U:=U) (F:=F) p1.same hl (Rps.ofInts (K:=X.K) ((List.range j.toNat).map λ(k:Nat)=>(k:Int))) (by simp[Qdx];omega) Src.nil Qby.nil;rw[← e2,← e3]at this;unfold Qaq at this;rw[if_pos (by rw[e2];exact QdZ _)]at this;exact q _ _ _ this
   .cases e
  | _=>rw[hd]at e;cases e
noncomputable def insI(x:Int):List Int->List Int
 | []=>[x]
 | y::r=>if x<=y then x::y::r else y::insI x r
noncomputable def QbT:List Int->List Int
 | []=>[]
 | x::r=>insI x (QbT r)
def insI_perm(x:Int):∀l:List Int,(insI x l).Perm (x::l)
 | []=> .refl _
 | y::r=>by
  unfold insI;split
  .exact .refl _
  .exact((insI_perm x r).cons y).trans (.swap x y r)
def QbL:∀l:List Int,(QbT l).Perm l
 | []=> .refl _
 | x::r=>(insI_perm x (QbT r)).trans ((QbL r).cons x)
def QjJ(x:Int):∀l:List Int,l.Pairwise (· <= ·)->(insI x l).Pairwise (· <= ·)
 | [],_=>by simp[insI]
 | y::r,h=>by
  unfold insI;have h1:=ZaL.mp h;split
  .rename_i hxy;refine ZaL.mpr ⟨λz hz=>?_,h⟩;rcases Zk.mp hz with rfl | hz
   .exact hxy
   .exact ZbZ hxy (h1.1 z hz)
  .rename_i hxy;refine ZaL.mpr ⟨λz hz=>?_,QjJ x r h1.2⟩;rcases Zk.mp ((insI_perm x r).mem_iff.mp hz)with rfl | hz
   .omega
   .exact h1.1 z hz
def QdI:∀l:List Int,(QbT l).Pairwise (· <= ·)
 | []=> .nil
 | x::r=>QjJ x _ (QdI r)
def Qhq:∀{l l':List Int},l.Pairwise (· <= ·)->l'.Pairwise (· <= ·)->l.Perm l'->l=l'
 | [],l',_,_,p=>(List.Perm.nil_eq p)
 | x::l,[],_,_,p=>by have:=p.length_eq;simp at this
 | x::l,y::l',h,h',p=>by
  have h1:=ZaL.mp h;have h2:=ZaL.mp h';have e:x=y:=by
   have a:=p.mem_iff.mp (Zi);have b:=p.mem_iff.mpr (Zi);rcases Zk.mp a with a | a
   .exact a
   .rcases Zk.mp b with b | b
    .exact b.symm
    .have:=h1.1 y b;have:=h2.1 x a;omega
  subst e;rw[Qhq h1.2 h2.2 (List.Perm.cons_inv p)]
def Qpd:Qb7 X (.builtin "sorted") (λxs H Q=>∃(p:Addr) (ns:List Int),xs=[.ref p]/\SqL X.K H p (ns.map V.int)/\ns.length<64/\∀l,H l=none->Q (.ref l) (upd H l (.lst ((QbT ns).map V.int)))):=by
 intro pins s σ H xs us Q I r h;obtain⟨p,ns,rfl,hq,hl64,q⟩:=h;obtain⟨u,rfl,rx⟩:=vals1 r;cases rx;obtain⟨its,r',pl,hz⟩:=I.list hq;have hI:=Qa5 r';refine sorted_ints pl.isList hI (by rw[← hI.length]at *;simpa using hl64) λout ns' a1 a2 a3=>?_;have e:ns'=QbT ns:=Qhq a3 (QdI ns) (a2.trans (QbL ns).symm);subst e;obtain⟨ep,hat⟩:=sortedAll_at s.heap its out;refine⟨.ref (s.heap.objs.size+1),_,I.laid (t':=s.toks) (o:= .lst ((QbT ns).map V.int)) (λb o hb=>?_) (ZaE _) ⟨?_,out.toList,ep,L2.Qa5 a1,by simpa using hat⟩,rfl,q _ (I.hok.fresh (ZaE _))⟩
 .exact sortedAll_old hb
 .rw[Zc,(QbL ns).length_eq,Qdx];omega
noncomputable def Qcc(fs:DA):DE:=λU=>(fs U).bind λr=>match r.ds with
 | [.lst xs]=>(Qb1 xs).bind λns=>if ns.length<64 then some ⟨.lst ((QbT ns).map .int),true,[]⟩else none
 | _=>none
def QyD{p:Pos}(hg:Gl X "sorted")(hm:X.mg "sorted" =none)(ha:SA X (e::es) fs)(he:starEach (e::es) X.env=(false,eval e X.env)::starEach es X.env)(hpl:(backTo pos (starEach es X.env)).any (·.1)=false):
  SE X (.Call (.Name "sorted" p) (e::es) [] pos) (Qcc fs):=λH0 A0=>
 (Qf5 Qpd hg hm boot_sorted (ha H0 A0) ∅ ∅ he hpl).mono λσ H Q=>exK λU hs F r' rel e q=>by
  refine Ql e λra e1 e=>?_;refine⟨U,hs,F,ra,rel,e1,λvs H1 G p1=>?_⟩;split at e
  .rename_i xs hds;refine Ql e λns h1 e=>?_;split at e
   .rename_i hl;cases e;have rp:=p1.rp;rw[hds]at rp;obtain⟨v,rfl,rq⟩:=rp.one;obtain⟨l,ws,L,rfl,hl',rl,zl,el⟩:=rq.lst_inv;rw[Qb8 h1]at rl;rw[rl.ints]at hl';refine⟨l,ns,rfl,Qab hl',hl,λc hc=>?_⟩;have:=Qam.Qaq (U:=U) (F:=F) p1.same hc (Rps.ofInts (K:=X.K) (QbT ns)) (by rw[Zc,(QbL ns).length_eq,Qdx];omega) Src.nil Qby.nil;unfold Qaq at this;rw[if_pos (QdZ _)]at this;exact q _ _ _ this
   .cases e
  .cases e
end
end HS
namespace HS
open PySem L2
noncomputable def QfM(ns:List Int):List Int:=ns.foldl PyProof.Rows.step_dedup []
noncomputable def Qjj(fa:DE):DE:=λU=>(fa U).bind λr=>match r.d with
 | .lst xs=>(Qb1 xs).bind λns=>if ns.length<=18 then some ⟨.lst ((QbT (QfM ns)).map .int),true,[]⟩else none
 | _=>none
def Qor:∀(ns σ:List Int),(σ++ns).Nodup->ns.foldl PyProof.Rows.step_dedup σ=σ++ns
 | [],σ,_=>by simp
 | n::ns,σ,h=>by
  have hn:σ.any (· == n)=false:=by
   rw[Zax];intro x hx e;rw[beq_iff_eq]at e;subst e;exact(Zat.mp h).2.2 x hx x Zi rfl
  have e:PyProof.Rows.step_dedup σ n=σ++[n]:=by unfold PyProof.Rows.step_dedup;rw[hn];rfl
  show ns.foldl PyProof.Rows.step_dedup (PyProof.Rows.step_dedup σ n)=_;rw[e,Qor ns (σ++[n]) (by simpa using h)];simp
def QtZ{ns:List Int}(h:ns.Nodup):QfM ns=ns:=by
 have:=Qor ns [] (by simpa using h);simpa[QfM]using this
def Qr4:∀{a b:List Int},a.Perm b->a.Pairwise (· <= ·)->b.Pairwise (· <= ·)->a=b:=λ{a b} p ha hb=>p.eq_of_pairwise (λx y _ _ h1 h2=>Int.le_antisymm h1 h2) ha hb
def Qrk{ns:List Int}(h:ns.Pairwise (· <= ·)):QbT ns=ns:=Qr4 (QbL ns) (QdI ns) h
def Inc(xs:Array Nat):Prop:=xs.toList.Pairwise (· < ·)
def Inc.get{xs:Array Nat}(h:Inc xs){i j a b:Nat}(hi:xs[i]? =some a)(hj:xs[j]? =some b)(hij:i<j):a<b:=by
 rw[← ZX]at hi hj;obtain⟨i1,rfl⟩:=Ze.mp hi;obtain⟨j1,rfl⟩:=Ze.mp hj;exact Zcf.mp h i j i1 j1 hij
structure Cut (xs:Array Nat) (j r:Nat):Prop where
 le:r<=xs.size
 lo:∀i a,i<r->xs[i]? =some a->a<j
 hi:∀i a,r<=i->xs[i]? =some a->j<=a
def Qkz{xs:Array Nat}(hx:Inc xs)(j:Nat):∀(fuel lo hi:Nat),hi-lo<=fuel->lo<=hi->hi<=xs.size->(∀i a,i<lo->xs[i]? =some a->a<j)->(∀i a,hi<=i->xs[i]? =some a->j<=a)->Cut xs j (SetTable.below.go xs j fuel lo hi)
 | 0,lo,hi,hf,h1,h2,h3,h4=>by
  unfold SetTable.below.go;exact⟨⋯,h3,λi a q=>h4 i a ⋯⟩
 | fuel+1,lo,hi,hf,h1,h2,h3,h4=>by
  unfold SetTable.below.go;by_cases z:lo<hi
  .rw[if_pos z];obtain⟨a,ha⟩:∃a,xs[(lo+hi) / 2]? =some a:=⟨_,ZU ⋯⟩;have e:xs.getD ((lo+hi) / 2) j=a:=by rw[Array.getD_eq_getD_getElem?,ha];rfl
   dsimp only;rw[e];by_cases y:a<j
   .rw[if_pos y];refine Qkz hx j fuel _ hi ⋯ ⋯ h2 (λi b q hb=>?_) h4;by_cases w:i=(lo+hi) / 2
    .rw[w,ha]at hb;cases hb;exact y
    .have:=hx.get hb ha ⋯;omega
   .rw[if_neg y];refine Qkz hx j fuel lo _ ⋯ ⋯ ⋯ h3 λi b q hb=>?_;by_cases w:i=(lo+hi) / 2
    .rw[w,ha]at hb;cases hb;omega
    .have:=hx.get ha hb ⋯;omega
  .rw[if_neg z];exact⟨⋯,h3,λi a q=>h4 i a ⋯⟩
def Qgq{xs:Array Nat}(hx:Inc xs)(j:Nat):Cut xs j (SetTable.below xs j):=Qkz hx j _ 0 _ ⋯ (Zaa _) (Zs _) (λi a q=> ⋯) λi a q h=>by
 rw[Array.getElem?_eq_none q]at h;cases h
def Qry{xs:Array Nat}(hx:Inc xs):SetTable.below xs 0=0:=by
 have c:=Qgq hx 0;by_cases z:SetTable.below xs 0=0
 .exact z
 .have le:=c.le;have:=c.lo 0 _ ⋯ (ZU ⋯);omega
def Qsm{xs:Array Nat}(hx:Inc xs){i a:Nat}(ha:xs[i]? =some a):SetTable.below xs (a+1)=i+1:=by
 have c:=Qgq hx (a+1);have hi:i<xs.size:=by
  by_cases z:i<xs.size
  .exact z
  .rw[Array.getElem?_eq_none ⋯]at ha;cases ha
 by_cases z:SetTable.below xs (a+1)<=i
 .have:=c.hi i a z ha;omega
 .by_cases y:i+1<SetTable.below xs (a+1)
  .have le:=c.le;have h1:=ZU (xs:=xs) (i:=i+1) ⋯;have h2:=c.lo (i+1) _ y h1;have h3:=hx.get ha h1 ⋯;omega
  .omega
def Qua{xs:Array Nat}(hx:Inc xs){j:Nat}(h:xs[SetTable.below xs j]? ≠some j):∀k:Nat,xs[k]? ≠some j:=λk hk=>by
 have c:=Qgq hx j;by_cases z:k<SetTable.below xs j
 .have:=c.lo k j z hk;omega
 .by_cases y:k=SetTable.below xs j
  .rw[y]at hk;exact h hk
  .have ks:k<xs.size:=by
    by_cases z:k<xs.size
    .exact z
    .rw[Array.getElem?_eq_none ⋯]at hk;cases hk
   have h1:=ZU (xs:=xs) (i:=SetTable.below xs j) ⋯;have h2:=hx.get h1 hk ⋯;have h3:=c.hi _ _ (Zs _) h1;omega
def QyI{xs:Array Nat}(hx:Inc xs){j:Nat}(hj:∀k:Nat,xs[k]? ≠some j):Inc (SetTable.insertAt xs (SetTable.below xs j) j):=by
 have c:=Qgq hx j;unfold Inc;rw[SetTable.toList_insertAt,List.pairwise_append,ZaL];have lo:∀a∈xs.toList.take (SetTable.below xs j),a<j:=λa ha=>by
  obtain⟨i,hi⟩:=Zap ha;rw[List.getElem?_take]at hi;split at hi
  .rename_i z;exact c.lo i a z (by rw[← ZX];exact hi)
  .cases hi
 have hi:∀a∈xs.toList.drop (SetTable.below xs j),j<a:=λa ha=>by
  obtain⟨i,hi⟩:=Zap ha;rw[Zbe,ZX]at hi;have h1:=c.hi _ a ⋯ hi;have h2:a≠j:=λe=>hj _ (by rw[hi,e]);omega
 refine⟨List.Pairwise.sublist (List.take_sublist _ _) hx,⟨hi,List.Pairwise.sublist (List.drop_sublist _ _) hx⟩,λa ha b hb=>?_⟩;have h1:=lo a ha;rcases Zk.mp hb with rfl | hb
 .exact h1
 .have:=hi b hb;omega
structure TbI (t:SetTable):Prop where
 inc:Inc t.place
 dum:t.dummies= #[]
def Qjv(j:Nat):SetTable.has #[] j=false:=by
 unfold SetTable.has;rw[Array.getElem?_eq_none (Zaa _)];rfl
def Qsx{t:SetTable}(h:TbI t){j:Nat}(e:t.slot j= .empty):∀k:Nat,t.place[k]? ≠some j:=by
 refine Qua h.inc λz=>?_;unfold SetTable.slot at e;dsimp only at e;rw[z,if_pos ⋯]at e;cases e
def QmM{t:SetTable}(h:TbI t)(j:Nat):t.slot j≠ .dummy:=λe=>by
 unfold SetTable.slot at e;dsimp only at e;rw[h.dum,Qjv]at e;split at e
 .cases e
 .cases e
def QtW(t:SetTable)(p:SetTable.Probe):(t.advance p).dummy=p.dummy:=by
 unfold SetTable.advance;split
 .rfl
 .rfl
def Qhy{t:SetTable}(h:TbI t)(f:Mt1)(x:Int):∀(fuel:Nat) (p:SetTable.Probe),p.dummy=none->∀j d,SetTable.probe.go t f x fuel p=some (.empty j d)->d=none/\t.slot j= .empty
 | 0,p,hp,j,d,e=>by unfold SetTable.probe.go at e;cases e
 | fuel+1,p,hp,j,d,e=>by
  unfold SetTable.probe.go at e;split at e
  .rename_i hs;cases e;exact⟨hp,hs⟩
  .rename_i hs;exact absurd hs (QmM h _)
  .split at e
   .cases e
   .exact Qhy h f x fuel _ (by rw[QtW];exact hp) j d e
def Qvu{t:SetTable}(h:TbI t){x:Int}{j:Nat}{w:Bool}(e:t.freeSlot x=some (j,w)):∀k:Nat,t.place[k]? ≠some j:=by
 unfold SetTable.freeSlot at e;split at e
 .rename_i j' d hp;obtain⟨rfl,hs⟩:=Qhy h _ _ _ _ rfl j' d hp;cases e;exact Qsx h hs
 .cases e
def Quf(n:Nat):Inc (Array.range n):=by
 unfold Inc;rw[Array.toList_range];exact ZbC
def Qfy(t:SetTable)(n:Nat):TbI (t.standIn n):=⟨Quf n,rfl⟩
def Qs9{t:SetTable}(h:TbI t)(es:Array (Int×Value))(x:Int)(v:Value):TbI (layNew t es x v).2.1/\(layNew t es x v).2.1.led=t.led:=by
 unfold layNew;split
 .rename_i j w e;have hf:=Qvu h e;have tp:TbI (t.put j).1:=⟨QyI h.inc hf,by show(if SetTable.has t.dummies j then _ else t.dummies)= #[];rw[h.dum,Qjv];rfl⟩;dsimp only;unfold SetTable.orStandIn;split
  .exact⟨tp,rfl⟩
  .exact⟨Qfy _ _,rfl⟩
 .exact⟨Qfy _ _,rfl⟩
def QuF(t:SetTable)(es:Array (Int×Value))(n:Nat):TbI (relayAll t es n).2.1/\(relayAll t es n).2.1.led=t.led:=by
 unfold relayAll;split
 .rename_i t' order e;dsimp only;split
  .unfold SetTable.relaid SetTable.laid at e;rw[Option.bind_eq_bind]at e;refine Ql e λow _ e=>?_;cases e;refine⟨⟨?_,rfl⟩,rfl⟩;unfold Inc;dsimp only;rw[Zbl];refine List.Pairwise.filterMap _ (λa a' haa b hb b' hb'=>?_) ZbC;obtain⟨_,_,rfl⟩:=Zf.mp hb;obtain⟨_,_,rfl⟩:=Zf.mp hb';exact haa
  .exact⟨Qfy _ _,rfl⟩
 .exact⟨Qfy _ _,rfl⟩
def Qqo{α:Type}:∀{l:List α}{j:Nat}{a:α},l[j]? =some a->(a::l.eraseIdx j).Perm l
 | [],j,a,h=>by simp at h
 | x::l,0,a,h=>by cases h;exact .refl _
 | x::l,j+1,a,h=>(List.Perm.swap x a _).trans ((Qqo (l:=l) (j:=j) (by simpa using h)).cons x)
def QmZ{α:Type}(next:Nat->Nat):∀(fuel k:Nat) (left:List α) (out:Array α),left.length=fuel->List.Perm (pickOrder.go next fuel k left out).toList (out.toList++left)
 | 0,k,left,out,h=>by
  rw[List.length_eq_zero_iff]at h;subst h;unfold pickOrder.go;simp
 | fuel+1,k,left,out,h=>by
  unfold pickOrder.go;have hlt:next k % left.length<left.length:=Nat.mod_lt _ ⋯;rw[Zq hlt];dsimp only;refine(QmZ next fuel (k+1) _ _ (by rw[List.length_eraseIdx_of_lt hlt];omega)).trans ?_;rw[Array.toList_push,ZaT];refine List.Perm.append_left _ ?_;show List.Perm (left[next k % left.length]::left.eraseIdx (next k % left.length)) left;exact Qqo (Zq hlt)
end HS
namespace HS
open PySem
noncomputable def lpx(m:Nat):Nat->Nat->Nat->Nat×Nat
 | 0,i,p=>(i,p)
 | l+1,i,p=>lpx m l ((i*5+1+p / 32) % (m+1)) (p / 32)
def Qrg(m:Nat):∀(a b i p:Nat),lpx m (a+b) i p=lpx m b (lpx m a i p).1 (lpx m a i p).2
 | 0,b,i,p=>by rw[Zcy];rfl
 | a+1,b,i,p=>by
  rw[Nat.add_right_comm];exact Qrg m a b _ _
def Qoc(m:Nat):∀(a i p:Nat),(lpx m a i p).2=p / 32^a
 | 0,i,p=>by show p=p / 1;rw[Nat.div_one]
 | a+1,i,p=>by
  show(lpx m a _ (p / 32)).2=_;rw[Qoc m a,Nat.div_div_eq_div_mul,Nat.pow_succ,Nat.mul_comm 32]
def Que(m:Nat):∀(a i p:Nat),(lpx m (a+1) i p).1<m+1
 | 0,i,p=>Nat.mod_lt _ (Nat.succ_pos _)
 | a+1,i,p=>Que m a _ _
noncomputable def orb(m:Nat):Nat->Nat->List Nat
 | 0,_=>[]
 | n+1,i=>i::orb m n ((i*5+1) % (m+1))
def QqX(m:Nat):∀(n i j:Nat),j∈orb m n i->∃l,l<n/\(lpx m l i 0).1=j
 | 0,i,j,h=>nomatch h
 | n+1,i,j,h=>by
  rcases Zk.mp h with rfl | h
  .exact⟨0,Nat.succ_pos _,rfl⟩
  .obtain⟨l,h1,h2⟩:=QqX m n _ j h;exact⟨l+1,Nat.succ_lt_succ h1,h2⟩
abbrev Qg9(m:Nat):Prop:=m=7∨m=31
def QyY{m:Nat}(h:Qg9 m):∀i<m+1,∀j<m+1,j∈orb m (m+1) i:=by
 have e:∀m:Nat,((List.range (m+1)).all λi=>(List.range (m+1)).all λj=>(orb m (m+1) i).contains j)=true->∀i<m+1,∀j<m+1,j∈orb m (m+1) i:=λm z i hi j hj=>by
  have z1:=ZZ.mp z i (Zj.mpr hi);have z2:=ZZ.mp z1 j (Zj.mpr hj);simpa using z2
 rcases h with rfl | rfl
 .exact e 7 nofun
 .exact e 31 nofun
def Qn5{m:Nat}(h:Qg9 m)(i p:Nat)(hp:p<2^64){j:Nat}(hj:j<m+1):∃l,l<m+15/\(lpx m l i p).1=j:=by
 have h1:(lpx m 13 i p).2=0:=by
  rw[Qoc];exact Nat.div_eq_of_lt (Nat.lt_trans hp ∅)
 obtain⟨l,a,b⟩:=QqX m _ _ j (QyY h _ (Que m 12 i p) j hj);refine⟨13+l,⋯,?_⟩;rw[Qrg,h1];exact b
section
variable {t:SetTable}
noncomputable abbrev stp(t:SetTable)(i p:Nat)(d:Option Nat):SetTable.Probe:={j:=i,more:=SetTable.runEnd t.mask i-i,i:=i,perturb:=p,dummy:=d}
def Qmp(f:Mt1)(x:Int):∀(n:Nat) (p:SetTable.Probe),SetTable.probe.go t f x (n+1) p=none->SetTable.probe.go t f x n p=none
 | 0,p,_=>by unfold SetTable.probe.go;rfl
 | n+1,p,h=>by
  unfold SetTable.probe.go at h ⊢;split
  .rename_i e;rw[e]at h;cases h
  .rename_i e;rw[e]at h;exact Qmp f x n _ h
  .rename_i e;rw[e]at h;dsimp only at h;split
   .rename_i y;rw[if_pos y]at h;cases h
   .rename_i y;rw[if_neg y]at h;exact Qmp f x n _ h
def QoC(f:Mt1)(x:Int)(n:Nat)(p:SetTable.Probe):∀d,SetTable.probe.go t f x (n+d) p=none->SetTable.probe.go t f x n p=none
 | 0,h=>h
 | d+1,h=>QoC f x n p d (Qmp f x _ p h)
def Qpa(ht:TbI t)(x:Int)(n:Nat)(p:SetTable.Probe)(h:SetTable.probe.go t (λ_=>x+1) x (n+1) p=none):t.slot p.j≠ .empty/\SetTable.probe.go t (λ_=>x+1) x n (t.advance p)=none:=by
 unfold SetTable.probe.go at h;cases e:t.slot p.j with
 | empty=>rw[e]at h;cases h
 | dummy=>exact absurd e (QmM ht _)
 | live k=>
  rw[e]at h;dsimp only at h;rw[if_neg (by rw[beq_iff_eq];omega)]at h;exact⟨(λz=>nomatch z),h⟩
def Qun(ht:TbI t)(x:Int)(n:Nat):∀(more:Nat) (p:SetTable.Probe),p.more=more->SetTable.probe.go t (λ_=>x+1) x (n+more+1) p=none->SetTable.probe.go t (λ_=>x+1) x n (stp t ((p.i*5+1+p.perturb / 32) % (t.mask+1)) (p.perturb / 32) p.dummy)=none
 | 0,p,e,h=>by
  have:=(Qpa ht x _ p h).2;unfold SetTable.advance at this;rw[if_neg ⋯]at this;exact this
 | more+1,p,e,h=>by
  have:=(Qpa ht x _ p h).2;unfold SetTable.advance at this;rw[if_pos ⋯]at this;exact Qun ht x n more {p with j:=p.j+1,more:=p.more-1} (by show p.more-1=more;omega) this
def Qov(ht:TbI t)(x:Int):∀(m i p:Nat) (d:Option Nat),SetTable.probe.go t (λ_=>x+1) x (10*m) (stp t i p d)=none->∀l<m,t.slot (lpx t.mask l i p).1≠ .empty
 | 0,i,p,d,h,l,hl=> ⋯
 | m+1,i,p,d,h,l,hl=>by
  have more:(stp t i p d).more<=9:=by
   show SetTable.runEnd t.mask i-i<=9;unfold SetTable.runEnd;split<;>omega
  cases l with
  | zero=>exact(Qpa ht x (10*m+9) _ h).1
  | succ l=>
   have h1:SetTable.probe.go t (λ_=>x+1) x (10*m+(stp t i p d).more+1) (stp t i p d)=none:=QoC _ _ _ _ (9-(stp t i p d).more) (by
    rw[show 10*m+(stp t i p d).more+1+(9-(stp t i p d).more)=10*(m+1) by omega];exact h)
   exact Qov ht x m _ _ _ (Qun ht x (10*m) _ _ rfl h1) l ⋯
def Qng(ht:TbI t)(x:Int):∀(n:Nat) (p:SetTable.Probe) (j i:Nat) (q:SetTable.Probe),SetTable.probe.go t (λ_=>x+1) x n p≠some (.candidate j i q)
 | 0,p,j,i,q,h=>by unfold SetTable.probe.go at h;cases h
 | n+1,p,j,i,q,h=>by
  unfold SetTable.probe.go at h;cases e:t.slot p.j with
  | empty=>rw[e]at h;cases h
  | dummy=>exact absurd e (QmM ht _)
  | live k=>
   rw[e]at h;dsimp only at h;rw[if_neg (by rw[beq_iff_eq];omega)]at h;exact Qng ht x n _ j i q h
def Qzf{j:Nat}(ht:TbI t)(h:t.slot j≠ .empty):j∈t.place.toList:=by
 unfold SetTable.slot at h;dsimp only at h;rw[ht.dum,Qjv]at h;split at h
 .rename_i z;rw[beq_iff_eq,← ZX]at z;exact ZC z
 .exact absurd rfl h
def QxA{l:List Nat}(n:Nat)(h:∀j<n,j∈l):n<=l.length:=by
 have:=(Zbp (n:=n)).length_le_of_subset (l₂:=l) λj hj=>h j (Zj.mp hj);rwa[ZF]at this
def QqH(x:Int):SetTable.bits x<2^64:=by
 unfold SetTable.bits;have h1:=ZP x (show(2^64:Int)≠0 by decide);have h2:=ZR x (show(0:Int)<2^64 by decide);omega
def Qzc(ht:TbI t)(hm:Qg9 t.mask)(hs:t.place.size<=t.mask)(x:Int):∃j,t.freeSlot x=some (j,false):=by
 unfold SetTable.freeSlot;cases e:t.probe (λ_=>x+1) x (t.probeStart x)with
 | none=>
  have:=QxA (l:=t.place.toList) (t.mask+1) λj hj=>by
   obtain⟨l,h1,h2⟩:=Qn5 hm (SetTable.bits x % (t.mask+1)) (SetTable.bits x) (QqH x) hj;have h3:=Qov ht x _ _ _ _ (show SetTable.probe.go t (λ_=>x+1) x (10*(t.mask+15)) (stp t (SetTable.bits x % (t.mask+1)) (SetTable.bits x) none)=none from e) l h1;rw[h2]at h3;exact Qzf ht h3
  rw[Zu]at this;omega
 | some m=>
  cases m with
  | empty j d=>
   obtain⟨rfl,_⟩:=Qhy ht _ _ _ _ rfl j d e;exact⟨_,rfl⟩
  | candidate j i q=>exact absurd e (Qng ht x _ _ j i q)
def Qps(ht:TbI t)(hm:Qg9 t.mask){es:Array (Int×Value)}(hf:t.fits es.size=true)(hs:es.size+1<=t.mask)(x:Int)(v:Value):(layNew t es x v).2.1.plain=t.plain/\(layNew t es x v).2.1.mask=t.mask/\(layNew t es x v).2.2.1=false:=by
 have h1:t.place.size=es.size:=by unfold SetTable.fits at hf;simp only[Zp,beq_iff_eq]at hf;exact hf.1
 obtain⟨j,e⟩:=Qzc ht hm ⋯ x;unfold layNew;rw[e];dsimp only;have ft:(t.put j).1.fits (SetTable.insertAt es (t.put j).2 (x,v)).size=true:=by
  have a1:(SetTable.insertAt t.place (SetTable.below t.place j) j).size=es.size+1:=by
   rw[← Zu,SetTable.toList_insertAt,Zo,Zy,ZY,ZaB,Zu,h1];omega
  have a2:(SetTable.insertAt es (SetTable.below t.place j) (x,v)).size=es.size+1:=by
   rw[← Zu,SetTable.toList_insertAt,Zo,Zy,ZY,ZaB,Zu];omega
  unfold SetTable.fits SetTable.fill SetTable.put;dsimp only;rw[ht.dum,Qjv,if_neg ∅,a1,a2];simp;exact hs
 unfold SetTable.orStandIn;rw[if_pos ft];exact⟨rfl,rfl,rfl⟩
end
section
variable {mask:Nat}{owner:Array (Option Nat)}
def QqU:∀(fuel i p j:Nat),SetTable.layClean.free mask owner fuel i p=some j->owner[j]? =some none
 | 0,i,p,j,h=>by unfold SetTable.layClean.free at h;cases h
 | fuel+1,i,p,j,h=>by
  unfold SetTable.layClean.free at h;split at h
  .rename_i k e;cases h;have:=List.find?_some e;rw[Array.getD_eq_getD_getElem?]at this;cases z:owner[i+k]? with
   | none=>rw[z]at this;cases this
   | some o=>rw[z]at this;cases o with
    | none=>rfl
    | some _=>cases this
  .exact QqU fuel _ _ j h
def Qrf:∀(fuel i p:Nat),SetTable.layClean.free mask owner fuel i p=none->∀l<fuel,owner[(lpx mask l i p).1]? ≠some none
 | 0,i,p,h,l,hl=> ⋯
 | fuel+1,i,p,h,l,hl=>by
  unfold SetTable.layClean.free at h;split at h
  .cases h
  .rename_i e;cases l with
   | zero=>
    intro z;have r:0∈List.range (SetTable.runEnd mask i+1-i):=by
     rw[Zj];unfold SetTable.runEnd;split<;>omega
    have:=List.find?_eq_none.mp e 0 r;rw[Array.getD_eq_getD_getElem?,Nat.add_zero,show owner[i]? =some none from z]at this;exact this rfl
   | succ l=>exact Qrf fuel _ _ h l ⋯
def QoQ{α:Type}:∀(l:List (Option α)),(∀o∈l,o≠none)->(l.filterMap id).length=l.length
 | [],_=>rfl
 | none::l,h=>absurd rfl (h none Zi)
 | some a::l,h=>by
  show(a::l.filterMap id).length=_;rw[Zy,QoQ l λo ho=>h o (Zb _ ho),Zy]
def QkH{α:Type}(a:α):∀(l:List (Option α)) (j:Nat),l[j]? =some none->((l.set j (some a)).filterMap id).Perm (a::l.filterMap id)
 | [],j,h=>by simp at h
 | o::l,0,h=>by cases h;exact .refl _
 | none::l,j+1,h=>QkH a l j (by simpa using h)
 | some b::l,j+1,h=>((QkH a l j (by simpa using h)).cons b).trans (.swap a b _)
structure Own (mask:Nat) (owner:Array (Option Nat)) (k:Nat):Prop where
 size:owner.size=mask+1
 perm:(owner.toList.filterMap id).Perm (List.range k)
def Qql(hm:Qg9 mask):∀(hs:List Int) (owner:Array (Option Nat)) (k:Nat),Own mask owner k->k+hs.length<=mask->∃o2,Own mask o2 (k+hs.length)/\List.foldl (λ(acc:Option (Array (Option Nat)×Nat)) h=>do
  let (owner,k) ← acc
  let j ← SetTable.layClean.free mask owner (SetTable.turns mask) (SetTable.bits h % (mask+1)) (SetTable.bits h)
  pure (owner.setIfInBounds j (some k),k+1)) (some (owner,k)) hs=some (o2,k+hs.length)
 | [],owner,k,O,_=>⟨owner,O,rfl⟩
 | h::hs,owner,k,O,le=>by
  rw[Zy]at le;cases e:SetTable.layClean.free mask owner (SetTable.turns mask) (SetTable.bits h % (mask+1)) (SetTable.bits h)with
  | none=>
   have all:∀o∈owner.toList,o≠none:=λo ho z=>by
    subst z;obtain⟨j,hj⟩:=Zap ho;rw[ZX]at hj;have jl:j<mask+1:=by
     rw[← O.size];exact(Array.getElem?_eq_some_iff.mp hj).1
    obtain⟨l,h1,h2⟩:=Qn5 hm (SetTable.bits h % (mask+1)) (SetTable.bits h) (QqH h) jl;exact Qrf _ _ _ e l h1 (by rw[h2];exact hj)
   have h1:=QoQ _ all;rw[O.perm.length_eq,ZF,Zu,O.size]at h1;omega
  | some j=>
   have at0:=QqU _ _ _ j e;have O2:Own mask (owner.setIfInBounds j (some k)) (k+1):=⟨by rw[Array.size_setIfInBounds];exact O.size,by
    rw[Array.toList_setIfInBounds];refine(QkH k _ j (by rw[ZX];exact at0)).trans ?_;refine(O.perm.cons k).trans ?_;rw[ZaA];exact(List.perm_append_singleton k _).symm⟩
   obtain⟨o2,h1,h2⟩:=Qql hm hs _ _ O2 ⋯;have ek:k+1+hs.length=k+(h::hs).length:=by rw[Zy];omega
   rw[ek]at h1 h2;refine⟨o2,h1,Eq.trans ?_ h2⟩;rw[ZbV];congr 1;show(SetTable.layClean.free mask owner (SetTable.turns mask) (SetTable.bits h % (mask+1)) (SetTable.bits h)).bind _=_;rw[e];rfl
def Qvy(l:List (Option Nat)):(List.range l.length).filterMap (λj=>l.getD j none)=l.filterMap id:=by
 have:(List.range l.length).map (λj=>l.getD j none)=l:=by
  refine Zaj λi=>?_;rw[Zh];by_cases z:i<l.length
  .rw[ZL z,Zq z];show some (l.getD i none)=_;rw[ZS,Zq z];rfl
  .rw[Zt (by simp;omega),Zt ⋯];rfl
 have h:=congrArg (List.filterMap id) this;rw[List.filterMap_map]at h;exact h
def range_all{α:Type}(es:Array α):(List.range es.size).filterMap (es[·]?)=es.toList:=by
 have h1:∀(l:List α),(List.range l.length).filterMap (l[·]?)=l:=λl=>by
  induction l with
  | nil=>rfl
  | cons a l ih=>
   rw[Zy,ZbD,Zbr];dsimp only[List.getElem?_cons_zero];rw[List.filterMap_map];congr 1
 have:=h1 es.toList;rw[Zu]at this;refine Eq.trans ?_ this;congr 1;funext i;rw[ZX]
def Qp5{t:SetTable}{es:Array (Int×Value)}{n:Nat}(hm:Qg9 (SetTable.sizeAbove n-1))(hs:es.size<=SetTable.sizeAbove n-1):(relayAll t es n).2.1.plain=t.plain/\(relayAll t es n).2.1.mask=SetTable.sizeAbove n-1:=by
 generalize hk:SetTable.sizeAbove n-1=m at *;have O0:Own m (Array.replicate (m+1) none) 0:=⟨⋯,by rw[Array.toList_replicate];exact(by
  have:∀k,(List.replicate k (none:Option Nat)).filterMap id=[]:=λk=>by
   induction k with
   | zero=>rfl
   | succ k ih=>exact ih
  rw[this];exact .refl _)⟩
 obtain⟨o2,O,e⟩:=Qql hm (es.map (·.1)).toList _ 0 O0 (by rw[Zu,Array.size_map];omega);rw[Zcy,Zu,Array.size_map]at O e;have el:SetTable.layClean m (es.map (·.1))=some o2:=by
  unfold SetTable.layClean;rw[← Array.foldl_toList,e];rfl
 have ord:(((List.range (m+1)).filterMap λj=>(o2.getD j none).map (j, ·)).map (·.2))=o2.toList.filterMap id:=by
  rw[List.map_filterMap,← Qvy,Zu,O.size];congr 1;funext j;rw[Option.map_map];show Option.map id _=_;rw[Option.map_id,Array.getD_eq_getD_getElem?,ZS,ZX];rfl
 have ln:((List.range (m+1)).filterMap λj=>(o2.getD j none).map (j, ·)).length=es.size:=by
  rw[← Zc (f:=(·.2)),ord,O.perm.length_eq,ZF]
 unfold relayAll SetTable.relaid;rw[hk];unfold SetTable.laid;rw[el,Option.bind_eq_bind,Za];dsimp only[pure];rw[ord];have c1:coversAll (o2.toList.filterMap id).toArray es.size=true:=by
  unfold coversAll;exact List.isPerm_iff.mpr O.perm
 have c2:((o2.toList.filterMap id).toArray.filterMap (es[·]?)).size=es.size:=by
  rw[← Zu,Array.toList_filterMap,(O.perm.filterMap _).length_eq,range_all,Zu]
 rw[c1,if_pos (by
  unfold SetTable.fits SetTable.fill;dsimp only;rw[c2,Zx,Zc,ln];simp;omega)]
 exact⟨rfl,rfl⟩
end
end HS
namespace HS
open PySem L2 PyProof.Rows
section
variable {prog:Program}{w:World}{A:Around}{E:Value->Shared->Prop}{s:Shared}
structure Qhx (prog:Program) (w:World) (L:Bool) (ob:Obj) (ar:Array (Int×Value)) (tb:SetTable) (S:Int->Bool) (n:Nat):Prop where
 ex:ob.ExactSet
 el:ElemsOf (intKind prog w) ar.toList
 mem:∀k,S k=true↔∃e∈ar.toList,(intKind prog w).is k e.2=true
 lt:ar.size<scanBound
 fit:tb.fits ar.size=true
 num:ar.size=n
 ti:TbI tb
 led:tb.led=L
def Sz(tb:SetTable)(n:Nat):Prop:=tb.plain=true/\(tb.mask=7/\n<=4∨tb.mask=31/\n<=18)
def QeJ(prog:Program)(w:World)(L:Bool)(h:Heap)(a:Addr)(S:Int->Bool)(n:Nat):Prop:=∃ob ar en tb,h.get? a=some ob/\ob.data= .set ar en tb/\Qhx prog w L ob ar tb S n/\Sz tb n
def QeJ.QeG{L:Bool}{h h':Heap}{a:Addr}{S:Int->Bool}{n:Nat}(r:QeJ prog w L h a S n)(k:∀o,h.get? a=some o->h'.get? a=some o):QeJ prog w L h' a S n:=by
 obtain⟨ob,ar,en,tb,h1,h2⟩:=r;exact⟨ob,ar,en,tb,k _ h1,h2⟩
def QeJ.cast{L:Bool}{h:Heap}{a:Addr}{S S':Int->Bool}{n n':Nat}(r:QeJ prog w L h a S n)(e:∀k,S k=S' k)(en:n=n'):QeJ prog w L h a S' n':=by
 have:S=S':=funext e;subst this;subst en;exact r
def Qn6{L:Bool}{h:Heap}{a:Addr}{ob:Obj}{ar ar1:Array (Int×Value)}{en:Nat}{tb tb1:SetTable}{S:Int->Bool}(g:h.get? a=some ob)(d:ob.data= .set ar en tb)(c:Qhx prog w L ob ar1 tb1 S ar1.size)(z:Sz tb1 ar1.size):
  QeJ prog w L (h.update a (Obj.putSet ar1 tb1)) a S ar1.size:=by
 obtain⟨g1,g2⟩:=SetOf_store (knd:=intKind prog w) g c.ex d c.el c.mem c.lt c.fit;exact⟨_,_,_,_,g1,rfl,⟨c.ex,c.el,c.mem,c.lt,c.fit,rfl,c.ti,c.led⟩,z⟩
def Qou{M:Model}(b:Bool){s1:Shared}{Q:Unit->Shared->Prop}(q:Q () s1):wpAny M A (match b with | true=>rule "set.scan.the-table-gave-way" | false=>pure ()) Q E s1:=by
 cases b
 .exact wpAny_pure q
 .exact wpAny_rule q
def Qzl{L:Bool}{a:Addr}{ob:Obj}{ar ar1:Array (Int×Value)}{en:Nat}{tb tb1:SetTable}{S:Int->Bool}{wd:Bool}{g:Bool->Sem Unit}{Q:Option Bool->Shared->Prop}
  (hg:∀(b:Bool) (s1:Shared) (Q':Unit->Shared->Prop),Q' () s1->wpAny (model prog w) A (g b) Q' E s1)
  (ho:s.heap.get? a=some ob) (hd:ob.data= .set ar en tb) (c:Qhx prog w L ob ar1 tb1 S ar1.size) (hwd:wd=false) (pl:tb1.plain=true) (sm:tb1.mask=7/\ar1.size<=5∨tb1.mask=31/\ar1.size<=18)
  (q:∀h',Heap.SameBut a s.heap h'->QeJ prog w L h' a S ar1.size->Q (some true) {s with heap:=h'}):
  wpAny (model prog w) A (do
   storeSet a ar1 tb1
   if(!wd && tb1.tooFull)=true then do
    g (relayAll tb1 ar1 (SetTable.grown ar1.size)).2.2
    storeSet a (relayAll tb1 ar1 (SetTable.grown ar1.size)).1 (relayAll tb1 ar1 (SetTable.grown ar1.size)).2.1
    pure (some true)
   else pure (some true)) Q E s:=by
 have up1:=ZbX s.heap a (Obj.putSet ar1 tb1);have fl:tb1.tooFull=decide (ar1.size*5≥tb1.mask*3):=by
  have h1:=c.fit;unfold SetTable.fits at h1;simp only[Zp,beq_iff_eq]at h1;unfold SetTable.tooFull SetTable.fill;rw[c.ti.dum,h1.1];rfl
 refine wpAny_bind (wpAny_storeSet_of ho hd ?_ (fits_of_scanBound c.lt));by_cases z:(!wd && tb1.tooFull)=true
 .rw[if_pos z];rw[hwd,fl,Bool.not_false,Zcm,decide_eq_true_iff]at z;have s5:ar1.size=5:= ⋯
  obtain⟨pl2,mk2⟩:=Qp5 (t:=tb1) (es:=ar1) (n:=SetTable.grown ar1.size) (by rw[s5];decide+kernel) (by rw[s5];decide+kernel);have mk3:SetTable.sizeAbove (SetTable.grown ar1.size)-1=31:=by rw[s5];decide+kernel
  rw[mk3]at mk2;obtain⟨ti2,led2⟩:=QuF tb1 ar1 (SetTable.grown ar1.size);have pm:=relayAll_perm tb1 ar1 (SetTable.grown ar1.size);have ft:=relayAll_fits tb1 ar1 (SetTable.grown ar1.size);generalize relayAll tb1 ar1 (SetTable.grown ar1.size)=Z at *;obtain⟨ar2,tb2,gv⟩:=Z;dsimp only at *;have sz:ar2.size=ar1.size:=by have:=pm.length_eq;simpa using this
  obtain⟨g1,_⟩:=SetOf_store (knd:=intKind prog w) ho c.ex hd c.el c.mem c.lt c.fit;have c2:Qhx prog w L {ob with data:= .set ar1 (en+1) tb1} ar2 tb2 S ar2.size:=⟨c.ex,c.el.perm pm,λk=>(c.mem k).trans ⟨λ⟨e,he,y⟩=>⟨e,pm.mem_iff.mpr he,y⟩,λ⟨e,he,y⟩=>⟨e,pm.mem_iff.mp he,y⟩⟩,by rw[sz];exact c.lt,ft,rfl,ti2,led2.trans c.led⟩;refine wpAny_bind (hg _ _ _ (wpAny_bind (wpAny_storeSet_of g1 rfl ?_ (fits_of_scanBound c2.lt))));exact wpAny_pure (q _ (up1.trans (ZbX _ a _)) ((Qn6 g1 rfl c2 ⟨pl2.trans pl,.inr ⟨mk2,⋯⟩⟩).cast (λ_=>rfl) sz))
 .rw[if_neg z];rw[hwd,fl,Bool.not_false,Zcm,decide_eq_true_iff]at z;exact wpAny_pure (q _ up1 (Qn6 ho hd c ⟨pl,⋯⟩))
def add_one{L:Bool}{a:Addr}{S:Int->Bool}{n:Nat}{k:Int}{tk:Tok}{Q:Bool->Shared->Prop}(r:QeJ prog w L s.heap a S n)(room:n+1<=18)
  (q:∀b h',Heap.SameBut a s.heap h'->QeJ prog w L h' a (λj=>S j || decide (j=k)) (if S k then n else n+1)->Q b {s with heap:=h'}):
  wpAny (model prog w) A (setAddHashed a (.int k tk) ((intKind prog w).hash k)) Q E s:=by
 obtain⟨ob,ar,en,tb,ho,hd,c,sz0⟩:=r;have key:(intKind prog w).is k (.int k tk)=true:=intKind_is _ _ _ _;have sc:(Value.int k tk).scannable=true:=rfl;unfold setAddHashed;refine wpAny_holding ?_;unfold setAddHashedIn;refine wpAny_bind (wpAny_setState_of ho hd c.fit ?_);dsimp only;rw[byScan_of sc c.lt c.el,if_pos rfl];refine wpAny_bind ?_;unfold setAddByScan;refine wpAny_bind (wpAny_rule (wpAny_bind (wpAny_setScan_of key ho hd c.fit c.el ?_)));cases hr:List.findIdx? (λe=>(intKind prog w).is k e.2) ar.toList with
 | some j=>
  obtain⟨hj,pj,_⟩:=List.findIdx?_eq_some_iff_getElem.mp hr;have there:S k=true:=(c.mem k).mpr ⟨_,List.getElem_mem hj,pj⟩;dsimp only;refine wpAny_pure (wpAny_pure ?_);refine q false s.heap (Heap.SameBut.refl a s.heap) ⟨ob,ar,en,tb,ho,hd,⟨c.ex,c.el,λi=>?_,c.lt,c.fit,by rw[there];exact c.num,c.ti,c.led⟩,by rw[there];exact sz0⟩;rw[← c.mem i,Zbv,decide_eq_true_iff];exact⟨λy=>y.elim id λe=>e▸there,.inl⟩
 | none=>
  have away:S k=false:=by
   cases y:S k with
   | false=>rfl
   | true=>
    obtain⟨e,he,pe⟩:=(c.mem k).mp y;have:=List.findIdx?_eq_none_iff.mp hr e he;rw[pe]at this;cases this
  have pm:=layNew_perm tb ar ((intKind prog w).hash k) (.int k tk);have ft:=layNew_fits tb ar ((intKind prog w).hash k) (.int k tk);obtain⟨pl1,mk1,wd1⟩:=Qps c.ti (sz0.2.imp And.left And.left) c.fit (by have:=sz0.2;have:=c.num;omega) ((intKind prog w).hash k) (.int k tk);obtain⟨ti1,led1⟩:=Qs9 c.ti ar ((intKind prog w).hash k) (.int k tk);dsimp only;generalize layNew tb ar ((intKind prog w).hash k) (.int k tk)=Z at *;obtain⟨ar1,tb1,wd,gv⟩:=Z;dsimp only at *;rw[Array.toList_push]at pm;have sz:ar1.size=n+1:=by have:=pm.length_eq;rw[Zo,Zu,Zu,c.num]at this;simpa using this
  have base:Qhx prog w L ob ar1 tb1 (λj=>S j || decide (j=k)) ar1.size:=⟨c.ex,(c.el.push key sc).perm pm,mem_push_iff key c.mem pm,(by rw[sz];exact Zbc room ∅),ft,rfl,ti1,led1.trans c.led⟩;have fin:∀h',Heap.SameBut a s.heap h'->QeJ prog w L h' a (λj=>S j || decide (j=k)) ar1.size->Q true {s with heap:=h'}:=λh' sb sr=>q true h' sb (sr.cast (λ_=>rfl) (by rw[away,sz];rfl));refine wpAny_bind (Qou _ ?_);have hv:hashByValue 8 (.int k tk)=pure true:=by unfold hashByValue;rfl
  rw[if_pos (pl1.trans sz0.1),hv];refine wpAny_bind (wpAny_pure ?_);refine Qzl (λb s1 Q' y=>Qou b y) ho hd base wd1 (pl1.trans sz0.1) (show tb1.mask=7/\ar1.size<=5∨tb1.mask=31/\ar1.size<=18 by rw[mk1,sz];have:=sz0.2;omega) λh' sb sr=>wpAny_pure (fin h' sb sr)
end
section
variable {prog:Program}{w:World}{A:Around}{R:Result->Shared->Prop}{I:Addr}{fp wr:LAd}{G:Array GenState->Array GenState->Prop}{n:Nat}{P:Nat->Value->Prop}{St:Nat->Shared->Prop}
abbrev InI(prog:Program)(w:World)(L:Bool)(h:Heap)(a:Addr)(val:Mt1)(i:Nat):Prop:=QeJ prog w L h a (λj=>(firstMet val i).any (· == j)) (firstMet val i).length
def QwA{L:Bool}(W:WalksS prog w A.in1 I fp wr G n P St){a:Addr}(af:a∉fp){val:Mt1}(pv:∀i v,P i v->∃t,v= .int (val i) t)(nb:n<=18):
  ∀(left i:Nat) (s:Shared),n-i=left->i<=n->St i s->InI prog w L s.heap a val i->(∀s',Moved (a::wr) G s s'->InI prog w L s'.heap a val n->R (.ok (.ret .none)) s')→
   codeAny (model prog w) A (.builtin "set.update.loop" ⟨[.ref a,.ref I],[]⟩) R s:=by
 have aw:a∉wr:=λz=>af (W.sub _ z);have wide:∀b∈wr,b∈a::wr:=λb z=>Zb _ z;intro left
 induction left with
 | zero=>
  intro i s e le st r q;obtain rfl:i=n:= ⋯
  refine codeAny_builtin PyProof.Rows.F.entry_set_update_loop ?_;rw[Around.under_plainId PyProof.Rows.F.plain_set_update_loop];show wpAny _ A.in1 (pyNext (.ref I) >>= _) _ _ s;refine wpAny_bind (W.done s _ _ st λs1 mv=>?_);show wpAny _ A.in1 (ret Value.none) _ _ s1;exact wpAny_pure (q s1 (mv.mono wide) (r.QeG λo z=>mv.heap a o aw z))
 | succ left ih=>
  intro i s e le st r q;have il:i<n:= ⋯
  refine codeAny_builtin PyProof.Rows.F.entry_set_update_loop ?_;rw[Around.under_plainId PyProof.Rows.F.plain_set_update_loop];show wpAny _ A.in1 (pyNext (.ref I) >>= _) _ _ s;refine wpAny_bind (W.item i s _ _ il st λv s1 pi st1 mv=>?_);obtain⟨t,rfl⟩:=pv i v pi;have r1:InI prog w L s1.heap a val i:=r.QeG λo z=>mv.heap a o aw z;show wpAny _ A.in1 (holding [Value.int (val i) t] (setAdd a (.int (val i) t)) >>= _) _ _ s1;refine wpAny_bind (wpAny_holding ?_);unfold setAdd;refine wpAny_holding (wpAny_bind ((intKind prog w).pyHash (k:=val i) (intKind_is _ _ _ _) ?_));have few:=firstMet_length_le val i;refine add_one (s:={s1 with toks:=s1.toks+1}) r1 ⋯ λb h' sb r2=>?_;have r3:InI prog w L h' a val (i+1):=r2.cast (λj=>by rw[firstMet_succ,step_any]) (by rw[firstMet_succ,step_length]);refine wpAny_pure ⟨plainId_quiet PyProof.Rows.F.plain_set_update_loop _,ih (i+1) _ ⋯ il (W.frame _ s1 _ _ st1 (ZaE _) λb hb o z=>?_) r3 λs2 mv2 r4=>?_⟩
  .rw[sb.2 b λy:b=a=>af (y▸hb)];exact z
  .refine q s2 (Moved.trans W.gtrans ((mv.mono wide).then_heap (ZaE _) λb o hb z=>?_) mv2) r4;rw[sb.2 b λy:b=a=>hb (y▸Zi)];exact z
end
section
variable {prog:Program}{w:World}{A:Around}{E:Value->Shared->Prop}{s:Shared}
noncomputable abbrev Qid(w:World):Bool:= !w.params.followText "set-order"
noncomputable abbrev Qfj(w:World):Obj:={cls:= .type "set",dict:=none,data:= .set #[] 0 (.fresh 0 0 (Qid w))}
def Qsv(x:Value){Q:Value->Shared->Prop}(q:Q (.ref s.heap.objs.size) {s with heap:=s.heap.push (Qfj w)}):
  codeAny (model prog w) A (.call (.builtin "set.__new__") ⟨[.type "set",x],[]⟩) (wants Q E) s:=by
 refine codeAny_of_tree ?_;show wpAny _ A.in1 (do checkBuiltinCall "set.__new__" ⟨[.type "set",x],[]⟩;again (.builtin "set.__new__" ⟨[.type "set",x],[]⟩)) _ _ s;refine wpAny_bind (wpAny_of_eq (PySem.F.newCall_set_1 x) (wpAny_pure ⟨plainId_quiet PySem.F.plain_set_new _,codeAny_builtin PySem.F.entry_set_new ?_⟩));rw[Around.under_plainId PySem.F.plain_set_new];unfold Builtin.«set.__new__» Builtin.Frozenset.newClass;have sub:=sub_set_self;obtain⟨hp,g,d,tk,os⟩:=s;dsimp only at q ⊢
 wp_walk
 refine wpAny_askSetting (wpAny_pure ?_);dsimp only;simp only[newObj];refine wpAny_bind (wpAny_alloc (wpAny_pure ?_));exact wpAny_pure q
set_option maxHeartbeats 4000000 in
def QvE{l:Addr}{items:Array Value}{ns:List Int}{Q:Value->Shared->Prop}(hh:A.handled=none)(hl:s.heap.IsList l items)(hi:IntsAre items.toList ns)(hb:items.size<=18)
  (q:∀(h':Heap) (tk:Nat),InI prog w (Qid w) h' s.heap.objs.size (λi=>ns.getD i 0) items.size->(∀b o,b<s.heap.objs.size->s.heap.get? b=some o->h'.get? b=some o)->Q (.ref s.heap.objs.size) {s with heap:=h',toks:=tk}):
  wpAny (model prog w) A (call (.type "set") [.ref l]) Q E s:=by
 obtain⟨cc,ct,mro⟩:=PySem.F.called_set.mro;have mk:=PySem.F.called_set.made;have sb:=PySem.F.called_set.sub;have nt:=PySem.F.called_set.notType;have cr:=PySem.F.called_set.canCreate;have tc:=PySem.F.typeCall_set_1 (.ref l);refine wpAny_call (codeAny_of_tree ?_);show wpAny _ _ (callAny (.type "set") _) _ _ _;refine wpAny_pure ⟨Code.quiet_builtin _ nofun,codeAny_builtin PySem.F.entry_type_call ?_⟩;rw[Around.under_plain (weight_type_call_type "set" [.ref l] []) rfl]
 repeat (any_goals (first | assumption | wp_step))
 refine codeAny_mono (Qsv (.ref l) (E:=E) (Q:=λv s1=>v= .ref s.heap.objs.size/\s1={s with heap:=s.heap.push (Qfj w)}) ⟨rfl,rfl⟩) λr s1 hr=>?_;cases r with
 | error e=>exact hr
 | ok fl=>
  cases fl with
  | ret v=>
   obtain⟨rfl,rfl⟩:=hr;have at0:(s.heap.push (Qfj w)).get? s.heap.objs.size=some (Qfj w):=ZG _ rfl;have ty:Shared.TypeIs {s with heap:=s.heap.push (Qfj w)} (.ref s.heap.objs.size) "set" :=⟨_,at0,rfl⟩;have li:=PySem.F.called_set.init.lookup;have bi:=PySem.F.called_set.init.bind (.ref s.heap.objs.size)
   repeat (any_goals (first | assumption | wp_step))
   refine codeAny_mono (codeAny_call_builtin (R:=wants (λv s2=>v= .none/\∃h' tk,s2={s with heap:=h',toks:=tk}/\InI prog w (Qid w) h' s.heap.objs.size (λi=>ns.getD i 0) items.size/\∀b o,b<s.heap.objs.size->s.heap.get? b=some o->h'.get? b=some o) E) PySem.F.called_set.init.plain PySem.F.entry_set_init (check_set_init_1 ty ?_)) λr2 s2 hr2=>?_
   .obtain⟨ol,ho,hc,nl,hd⟩:=hl;obtain⟨oc,od,odt,osl⟩:=ol;dsimp only at hc hd;subst hc hd;have ho1:(s.heap.push (Qfj w)).get? l=some {cls:= .type "list",dict:=od,data:= .seq items nl,slots:=osl}:=Zn _ ho;have s1:=PySem.F.sub_list_set;have s2:=PySem.F.sub_list_frozenset;have nd:(Value.type "list" == Value.type "dict")=false:= ∅
    have hl1:(s.heap.push (Qfj w)).IsList l items:=⟨_,ho1,rfl,nl,rfl⟩;unfold Builtin.«set.__init__» noKeywords Builtin.Frozenset.updateFrom;generalize hPI:pyIter=PI
    wp_walk
    subst hPI;refine wpAny_pyIter_list hl1 (wpAny_bind (wpAny_runValue ?_));have ll:l<s.heap.objs.size:=Zr ho;have h3:A.in1.in1.in1.handled=none:=by simp[hh]
    have ne:l≠(s.heap.push (Qfj w)).objs.size:=by rw[Zav];exact ZH (Zai ll)
    have nf:s.heap.objs.size∉[(s.heap.push (Qfj w)).objs.size,l]:=by
     rw[Zav];simp only[Zk,Zcr,or_false,not_or];exact⟨ZH (ZaX _),Zby ll⟩
    have pv:∀(i:Nat) (v:Value),items[i]? =some v->∃t,v= .int ((λi=>ns.getD i 0) i) t:=λi v hv=>IntsAre.int_at hi i v (by rw[ZX];exact hv);refine QwA (L:=Qid w) ((Walks.list h3 _ l ne items).toS) nf pv hb (items.size-0) 0 _ ⋯ (Zaa _) ⟨⟨_,ZG _ rfl,rfl,rfl⟩,hl1.push _⟩ ?hA0 ?hB0
    case hA0=>
     refine⟨Qfj w,#[],0,.fresh 0 0 (Qid w),Zn _ at0,rfl,⟨⟨rfl,rfl,rfl⟩,(λe he=>nomatch he),(λk=>?_),∅,rfl,rfl,⟨List.Pairwise.nil,rfl⟩,rfl⟩,⟨rfl,.inl ⟨rfl,Zaa _⟩⟩⟩;exact⟨(λz=>by cases z),(λ⟨e,he,_⟩=>nomatch he)⟩
    case hB0=>
     intro s3 mv r3;obtain⟨h',g',d',t',o'⟩:=s3;have e1:g'=s.gens:=mv.gens;have e2:d'=s.drawn:=mv.drawn;have e3:o'=s.os:=mv.os;subst e1 e2 e3;refine wpAny_pure ?_;show wpAny _ _ (ret Value.none) _ _ _;refine wpAny_pure ⟨rfl,h',t',rfl,r3,λb o hb z=>?_⟩;refine mv.heap b o ?_ (Zn _ (Zn _ z));rw[Zav];simp only[Zk,Zcr,or_false,not_or];exact⟨ZH hb,ZH (Zai hb)⟩
   .cases r2 with
    | error e=>exact hr2
    | ok fl2=>
     cases fl2 with
     | ret v=>
      obtain⟨rfl,h',tk,rfl,r3,kp⟩:=hr2
      repeat (any_goals (first | assumption | wp_step))
      exact q _ _ r3 kp
     | _=>exact hr2.elim
  | _=>exact hr.elim
end
def Qj0{α:Type}[DecidableEq α]:∀{F K:List α},F.Nodup->(∀x∈F,x∈K)->K.length<=F.length->F.Perm K
 | [],K,_,_,h=>by
  rw[List.length_nil,Nat.le_zero,List.length_eq_zero_iff]at h;subst h;exact .refl _
 | x::F,K,nd,sub,h=>by
  have hx:x∈K:=sub x Zi;obtain⟨n1,n2⟩:=Zan.mp nd;have pe:=List.perm_cons_erase hx;refine((Qj0 n2 (λy hy=>?_) ?_).cons x).trans pe.symm
  .have ne:y≠x:=λe=>n1 (by rw[← e];exact hy);exact(ZbT ne).mpr (sub y (Zb _ hy))
  .have:=pe.length_eq;rw[Zy]at this h;omega
def Qrp{σ:List Int}(h:σ.Nodup)(v:Int):(step_dedup σ v).Nodup:=by
 unfold step_dedup;split
 .exact h
 .rename_i z;rw[Bool.not_eq_true,Zax]at z;exact Zat.mpr ⟨h,⋯,λa ha b hb=>by
   rw[ZE]at hb;subst hb;exact λe=>z a ha (by rw[e];simp)⟩
def QjV(val:Mt1):∀i,(firstMet val i).Nodup
 | 0=>ZaK
 | i+1=>by rw[firstMet_succ];exact Qrp (QjV val i) _
def range_getD(ns:List Int):(List.range ns.length).map (λi=>ns.getD i 0)=ns:=by
 refine Zaj λi=>?_;rw[Zh];by_cases z:i<ns.length
 .rw[ZL z,Zq z];show some (ns.getD i 0)=_;rw[ZS,Zq z];rfl
 .rw[Zt (by simp;omega),Zt ⋯];rfl
def Qnk(ns:List Int):firstMet (λi=>ns.getD i 0) ns.length=QfM ns:=by
 unfold firstMet QfM;rw[range_getD]
def Qvw{prog:Program}{w:World}{L:Bool}{ob:Obj}{ar:Array (Int×Value)}{tb:SetTable}{F:List Int}(c:Qhx prog w L ob ar tb (λj=>F.any (· == j)) F.length)(nd:F.Nodup):∃ks:List Int,IntsAre (ar.toList.map (·.2)) ks/\ks.Perm F:=by
 have ex:∀l:List (Int×Value),ElemsOf (intKind prog w) l->∃ks:List Int,IntsAre (l.map (·.2)) ks/\ks.length=l.length/\∀k,(∃e∈l,(intKind prog w).is k e.2=true)->k∈ks:=by
  intro l
  induction l with
  | nil=>exact λ_=>⟨[],.nil,rfl,λk ⟨e,he,_⟩=>nomatch he⟩
  | cons e r ih=>
   intro hl;obtain⟨ks,h1,h2,h3⟩:=ih hl.tail;obtain⟨⟨k,hk,_⟩,_⟩:=hl.head;obtain⟨x,v⟩:=e;obtain⟨t,rfl⟩:=Zcg hk;refine⟨k::ks,.cons k t h1,by rw[Zy,Zy,h2],λj ⟨e,he,hj⟩=>?_⟩;rcases Zk.mp he with rfl | he
   .obtain⟨u,eu⟩:=Zcg (show Value.isInt j (.int k t)=true from hj);cases eu;exact Zi
   .exact Zb _ (h3 j ⟨e,he,hj⟩)
 obtain⟨ks,h1,h2,h3⟩:=ex ar.toList c.el;refine⟨ks,h1,(Qj0 nd (λx hx=>h3 x ((c.mem x).mp ?_)) ?_).symm⟩
 .rw[ZbN];exact⟨x,hx,⋯⟩
 .rw[h2,Zu,c.num];exact Zs _
section
variable {prog:Program}{w:World}
structure Qlk (prog:Program) (w:World) (a:Addr) (ob:Obj) (ep:Nat) (wk:Array (Int×Value)) (sl:Nat->Nat):Prop where
 zero:sl 0=0
 next:∀(A:Around) (E:Value->Shared->Prop) (s:Shared) (Q:Option (Value×Nat)->Shared->Prop) (i:Nat) (e:Int×Value),s.heap.get? a=some ob->wk[i]? =some e->Q (some (e.2,sl (i+1))) s->wpAny (model prog w) A (setNext a (sl i) i ep) Q E s
 stop:∀(A:Around) (E:Value->Shared->Prop) (s:Shared) (Q:Option (Value×Nat)->Shared->Prop),s.heap.get? a=some ob->Q none s->wpAny (model prog w) A (setNext a (sl wk.size) wk.size ep) Q E s
def Qm9{a:Addr}{ob:Obj}{ar:Array (Int×Value)}{ep:Nat}{tb:SetTable}{A:Around}{E:Value->Shared->Prop}{s:Shared}{Q:Option (Value×Nat)->Shared->Prop}{j i:Nat}(hf:w.params.followText "set-order" =true)(ho:s.heap.get? a=some ob)(hd:ob.data= .set ar ep tb)(ft:tb.fits ar.size=true)
  (q:Q (((pickOrder (w.params.setOrder a ep) ar)[i]?).map λe=>(e.2,j)) s):wpAny (model prog w) A (setNext a j i ep) Q E s:=by
 unfold setNext;refine wpAny_bind (wpAny_setState_of ho hd ft ?_);unfold setsByText;refine wpAny_bind (wpAny_bind (wpAny_askSetting (wpAny_pure ?_)));show wpAny _ _ (if w.params.followText "set-order" =true then _ else _) _ _ _;rw[hf,if_pos rfl,if_neg ⋯];show wpAny _ _ (setWalk a >>= _) _ _ _;unfold setWalk;refine wpAny_bind (wpAny_bind (wpAny_setState_of ho hd ft ?_));unfold setsByText;refine wpAny_bind (wpAny_bind (wpAny_askSetting (wpAny_pure ?_)));show wpAny _ _ (if w.params.followText "set-order" =true then _ else _) _ _ _;rw[hf,if_pos rfl];exact wpAny_bind (wpAny_askSetting (wpAny_pure (wpAny_pure q)))
def Qnl{a:Addr}{ob:Obj}{ar:Array (Int×Value)}{ep:Nat}{tb:SetTable}{A:Around}{E:Value->Shared->Prop}{s:Shared}{Q:Option (Value×Nat)->Shared->Prop}{j i:Nat}(hf:w.params.followText "set-order" =false)(ho:s.heap.get? a=some ob)(hd:ob.data= .set ar ep tb)(ft:tb.fits ar.size=true)(hp:tb.plain=true)(hl:tb.led=true)
  (q:Q (match ar[SetTable.below tb.place j]?,tb.place[SetTable.below tb.place j]? with
   | some (_,x),some k=>some (x,k+1)
   | _,_=>none) s):wpAny (model prog w) A (setNext a j i ep) Q E s:=by
 unfold setNext;refine wpAny_bind (wpAny_setState_of ho hd ft ?_);unfold setsByText;refine wpAny_bind (wpAny_bind (wpAny_askSetting (wpAny_pure ?_)));show wpAny _ _ (if w.params.followText "set-order" =true then _ else _) _ _ _;rw[hf,if_neg ∅];refine wpAny_ite_split (λz=>?_) (λ_=>?_)
 .have z':(!tb.plain && decide (ar.size>1))=true:=z;rw[hp]at z';cases z'
 show wpAny _ _ ((if(!tb.led && !ar.isEmpty)=true then unsupported "set:maker-not-led" else pure ()) >>= _) _ _ _;rw[hl,if_neg ⋯];exact wpAny_bind (wpAny_pure (wpAny_pure q))
def QvX{a:Addr}{ob:Obj}{ar:Array (Int×Value)}{ep:Nat}{tb:SetTable}{S:Int->Bool}{n:Nat}(hd:ob.data= .set ar ep tb)(c:Qhx prog w (Qid w) ob ar tb S n)(hp:tb.plain=true):∃wk sl,wk.toList.Perm ar.toList/\Qlk prog w a ob ep wk sl:=by
 have sz:tb.place.size=ar.size:=by
  have h1:=c.fit;unfold SetTable.fits at h1;simp only[Zp,beq_iff_eq]at h1;exact h1.1
 cases hf:w.params.followText "set-order" with
 | true=>
  have pm:(pickOrder (w.params.setOrder a ep) ar).toList.Perm ar.toList:=by
   unfold pickOrder;exact QmZ _ _ _ _ _ (Zu)
  refine⟨_,λ_=>0,pm,rfl,λA E s Q i e ho he q=>Qm9 hf ho hd c.fit ?_,λA E s Q ho q=>Qm9 hf ho hd c.fit ?_⟩
  .rw[he];exact q
  .rw[Array.getElem?_eq_none (Zs _)];exact q
 | false=>
  have hl:tb.led=true:=by rw[c.led];unfold Qid;rw[hf];rfl
  have cut:∀i,i<=ar.size->SetTable.below tb.place (if i=0 then 0 else tb.place.getD (i-1) 0+1)=i:=λi hi=>by
   cases i with
   | zero=>exact Qry c.ti.inc
   | succ i=>
    have h1:=ZU (xs:=tb.place) (i:=i) ⋯;have:=Qsm c.ti.inc h1;rw[if_neg ⋯,Zbf,Array.getD_eq_getD_getElem?,h1];exact this
  refine⟨ar,λi=>if i=0 then 0 else tb.place.getD (i-1) 0+1,.refl _,rfl,λA E s Q i e ho he q=>Qnl hf ho hd c.fit hp hl ?_,λA E s Q ho q=>Qnl hf ho hd c.fit hp hl ?_⟩
  .have il:i<ar.size:=(Array.getElem?_eq_some_iff.mp he).1;have h1:=ZU (xs:=tb.place) (i:=i) ⋯;rw[cut i ⋯,he,h1];rw[if_neg ⋯,Zbf,Array.getD_eq_getD_getElem?,h1]at q;exact q
  .rw[cut _ (Zs _),Array.getElem?_eq_none (Zs _)];exact q
end
def Qo0:entryFor table "set.__iter__" =some Builtin.«frozenset.__iter__» :=entryFor_alias (id':= "frozenset.__iter__") (by kernel_rfl) rfl nofun (by kernel_rfl)
def Qub:Manifest.owners.lookup (String.ofList ['r','o','t','a','r','e','t','i','_','t','e','s'].reverse)=some Manifest.sig_set_iterator:=by kernel_rfl
def QfF:Slot "set_iterator" "__next__" "set_iterator.__next__" := .of (owner:= "set_iterator") (n:= "__next__") (by rw[typeLookup_type,builtinLookup_eq_fast];kernel_rfl) nofun nofun nofun (.inl nofun) (by rw[isSubtype_type];kernel_rfl)
def QoJ:entryFor table "set_iterator.__next__" =some Builtin.«set_iterator.__next__» :=entryFor_of_tree (by kernel_rfl)
def QoA(a:Value):argsOk "set_iterator.__next__" ⟨[a],[]⟩:=by
 unfold argsOk;rw[signature?_of (id:= "set_iterator.__next__") (n:=['_','_','t','x','e','n','_','_']) (o:=['r','o','t','a','r','e','t','i','_','t','e','s']) (by kernel_rfl) Qub]
 kernel_rfl
def Qq5:Slot "set_iterator" "__iter__" "set_iterator.__iter__" := .of (owner:= "set_iterator") (n:= "__iter__") (by rw[typeLookup_type,builtinLookup_eq_fast];kernel_rfl) nofun nofun nofun (.inl nofun) (by rw[isSubtype_type];kernel_rfl)
def Qwz:entryFor table "set_iterator.__iter__" =some Builtin.«dict_keyiterator.__iter__» :=entryFor_alias (id':= "dict_keyiterator.__iter__") (by kernel_rfl) rfl nofun (by kernel_rfl)
def QvS(a:Value):argsOk "set_iterator.__iter__" ⟨[a],[]⟩:=by
 unfold argsOk;rw[signature?_of (id:= "set_iterator.__iter__") (n:=['_','_','r','e','t','i','_','_']) (o:=['r','o','t','a','r','e','t','i','_','t','e','s']) (by kernel_rfl) Qub]
 kernel_rfl
section
variable {prog:Program}{w:World}{A:Around}{E:Value->Shared->Prop}{s:Shared}
noncomputable abbrev siO(j i:Nat)(a:Addr)(n ep:Nat):Obj:={cls:= .type "set_iterator",data:= .fields #[rawInt j,rawInt i,.ref a,rawInt n,rawInt ep]}
def Qz2{a:Addr}{ob:Obj}{ar:Array (Int×Value)}{ep:Nat}{tb:SetTable}{Q:Value->Shared->Prop}(ho:s.heap.get? a=some ob)(hx:ob.ExactSet)(hd:ob.data= .set ar ep tb)(ft:tb.fits ar.size=true)(hp:tb.plain=true)
  (q:Q (.ref s.heap.objs.size) {s with heap:=s.heap.push (siO 0 0 a ar.size ep)}):wpAny (model prog w) A (pyIter (.ref a)) Q E s:=by
 have ty:s.TypeIs (.ref a) "set" :=⟨ob,ho,hx.1⟩;refine wpAny_pyIter_slot ty PySem.F.slot_set_iter (wpAny_call_entry PySem.F.slot_set_iter ty Qo0 ?_ (PySem.F.args_set_iter_1 _));unfold Builtin.«frozenset.__iter__»;refine wpAny_bind (m:=Builtin.Frozenset.slot0 "__iter__" _) (wpAny_pure ?_);unfold Builtin.Frozenset.sizeOf setEntries setDrawn setsByText;refine wpAny_bind (wpAny_bind (wpAny_bind (wpAny_setState_of ho hd ft (wpAny_pure (wpAny_pure ?_)))));refine wpAny_bind (wpAny_bind (wpAny_setState_of ho hd ft ?_));refine wpAny_bind (wpAny_bind (wpAny_askSetting (wpAny_pure (wpAny_pure ?_))));dsimp only;refine wpAny_ite_split (λz=>?_) (λ_=>?_)
 .have z':(!w.params.followText "set-order" && (!tb.plain && decide (ar.size>1)))=true:=z;rw[hp]at z';simp at z'
 refine wpAny_bind (wpAny_pure ?_);unfold setEpoch;refine wpAny_bind (wpAny_bind (wpAny_setState_of ho hd ft (wpAny_pure ?_)));exact wpAny_bind (wpAny_newObj_type (wpAny_pure ⟨_,rfl,"set_iterator",_,⟨_,ZG _ rfl,rfl⟩,QfF.lookup,q⟩))
def QxD{I a:Addr}{ob:Obj}{ar wk:Array (Int×Value)}{ep i:Nat}{tb:SetTable}{sl:Nat->Nat}{e:Int×Value}{Q:Option Value->Shared->Prop}(hi:s.heap.get? I=some (siO (sl i) i a ar.size ep))(ho:s.heap.get? a=some ob)(hd:ob.data= .set ar ep tb)(ft:tb.fits ar.size=true)(na:a≠I)(W:Qlk prog w a ob ep wk sl)(he:wk[i]? =some e)
  (q:∀h',h'.get? I=some (siO (sl (i+1)) (i+1) a ar.size ep)->Heap.SameBut I s.heap h'->Q (some e.2) {s with heap:=h'}):wpAny (model prog w) A (pyNext (.ref I)) Q E s:=by
 have ty:s.TypeIs (.ref I) "set_iterator" :=⟨_,hi,rfl⟩;unfold pyNext;refine wpAny_bind (wpAny_attempt (wpAny_callSpecial?_slot (name:=Str.ofString "__next__") ty QfF (wpAny_call_entry QfF ty QoJ ?_ (QoA _))));unfold Builtin.«set_iterator.__next__»;refine wpAny_bind (m:=slotArgs "__next__" 0 _) (wpAny_pure ?_);refine wpAny_bind (wpAny_fieldsOf hi rfl ?_);unfold setEntries;show wpAny _ _ ((setState a >>= λz=>pure z.1) >>= _) _ _ _;refine wpAny_bind (wpAny_bind (wpAny_setState_of ho hd ft (wpAny_pure ?_)));dsimp only;rw[if_neg ⋯];show wpAny _ _ (setNext a (Int.toNat (sl i:Int)) (Int.toNat (i:Int)) (Int.toNat (ep:Int)) >>= _) _ _ _;rw[Zl,Zl,Zl];refine wpAny_bind (W.next _ _ _ _ i e ho he ?_);refine wpAny_bind (wpAny_setField_rec hi ⋯ λh1 z1 b1=>?_);refine wpAny_bind (wpAny_setField_rec (s:={s with heap:=h1}) z1 ⋯ λh2 z2 b2=>?_);exact wpAny_pure ⟨_,rfl,wpAny_pure (q h2 (by rw[z2];rfl) (b1.trans b2))⟩
def Qxo{I a:Addr}{ob:Obj}{ar wk:Array (Int×Value)}{ep:Nat}{tb:SetTable}{sl:Nat->Nat}{Q:Option Value->Shared->Prop}(hh:A.handled=none)(hi:s.heap.get? I=some (siO (sl wk.size) wk.size a ar.size ep))(ho:s.heap.get? a=some ob)(hd:ob.data= .set ar ep tb)(ft:tb.fits ar.size=true)(W:Qlk prog w a ob ep wk sl)
  (q:∀h',Heap.ExtBut I s.heap h'->Q none {s with heap:=h'}):wpAny (model prog w) A (pyNext (.ref I)) Q E s:=by
 have ty:s.TypeIs (.ref I) "set_iterator" :=⟨_,hi,rfl⟩;unfold pyNext;refine wpAny_bind (wpAny_attempt (wpAny_callSpecial?_slot (name:=Str.ofString "__next__") ty QfF (wpAny_call_entry QfF ty QoJ ?_ (QoA _))));unfold Builtin.«set_iterator.__next__»;refine wpAny_bind (m:=slotArgs "__next__" 0 _) (wpAny_pure ?_);refine wpAny_bind (wpAny_fieldsOf hi rfl ?_);unfold setEntries;show wpAny _ _ ((setState a >>= λz=>pure z.1) >>= _) _ _ _;refine wpAny_bind (wpAny_bind (wpAny_setState_of ho hd ft (wpAny_pure ?_)));dsimp only;rw[if_neg ⋯];show wpAny _ _ (setNext a (Int.toNat (sl wk.size:Int)) (Int.toNat (wk.size:Int)) (Int.toNat (ep:Int)) >>= _) _ _ _;rw[Zl,Zl,Zl];refine wpAny_bind (W.stop _ _ _ _ ho ?_);dsimp only;refine wpAny_bind (wpAny_setField hi rfl ⋯ ?_);refine wpAny_bind ?_;simp only[newExc,newTuple];refine wpAny_bind (wpAny_newObj_type ?_ (by size_fits));refine wpAny_bind (m:=firstArgMember _ _) (wpAny_of_eq (a:=Value.none) rfl ?_);refine wpAny_newObj_type ?_ (by size_fits);simp only[raiseNew];refine wpAny_bind (wpAny_handled ?_);rw[show A.in1.handled=none from hh];refine wpAny_bind (wpAny_pure (wpAny_throw ?_));refine wpAny_bind (wpAny_isInstance (T:= "StopIteration") (b:=true) ⟨_,ZG _ rfl,rfl⟩ isSubtype_stop ?_);exact wpAny_pure (q _ (((ZbX ..).extBut.push _).push _))
def QyP{I a:Addr}{j i n ep:Nat}{Q:Value->Shared->Prop}(hi:s.heap.get? I=some (siO j i a n ep))(q:Q (.ref I) s):wpAny (model prog w) A (pyIter (.ref I)) Q E s:=by
 have ty:s.TypeIs (.ref I) "set_iterator" :=⟨_,hi,rfl⟩;refine wpAny_pyIter_slot ty Qq5 (wpAny_call_entry Qq5 ty Qwz ?_ (QvS _));show wpAny _ _ (ret (.ref I)) _ _ s;exact wpAny_pure ⟨_,rfl,"set_iterator",_,ty,QfF.lookup,q⟩
def Qvl(hh:A.handled=none){I a:Addr}{ob:Obj}{ar wk:Array (Int×Value)}{ep:Nat}{tb:SetTable}{sl:Nat->Nat}(hd:ob.data= .set ar ep tb)(ft:tb.fits ar.size=true)(na:a≠I)(W:Qlk prog w a ob ep wk sl):
  Walks prog w A I [I,a] [I] wk.size (λi v=>∃e,wk[i]? =some e/\v=e.2) (λi h=>h.get? I=some (siO (sl i) i a ar.size ep)/\h.get? a=some ob) where
 sub:=λb hb=>by simp at hb;simp[hb]
 frame:=λ_ _ _ st k=>⟨k I ⋯ _ st.1,k a ⋯ _ st.2⟩
 item:=λi s Q E hi st q=>QxD st.1 st.2 hd ft na W (ZU hi) λh' z b=>q _ h' s.toks ⟨_,ZU hi,rfl⟩ ⟨z,b.extBut a _ na st.2⟩ λc o hc z=>b.extBut c o (λy=>hc (by simp[y])) z
 done:=λs Q E st q=>Qxo hh st.1 st.2 hd ft W λh' b=>q h' s.toks λc o hc z=>b c o (λy=>hc (by simp[y])) z
 self:=λ_ _ _ _ st q=>QyP st.1 q
end
section
variable {prog:Program}{w:World}{A:Around}{E:Value->Shared->Prop}{s:Shared}
def QuQ{a:Addr}{ob:Obj}{Q:Bool->Shared->Prop}(ho:s.heap.get? a=some ob)(hx:ob.ExactSet)(q:Q false s):wpAny (model prog w) A (Builtin.List.listLengthHint (.ref a)) Q E s:=by
 have ty:s.TypeIs (.ref a) "set" :=⟨ob,ho,hx.1⟩;unfold Builtin.List.listLengthHint;refine wpAny_bind (wpAny_specialOf ty PySem.F.slot_set_len.lookup ?_);generalize e:("set.__len__" :String)=x
 wp_delta
 rw[show splitId x=some ("set","__len__")from by subst e;decide+kernel];subst e;refine wpAny_bind (wpAny_isInstance (T:= "set") (b:=true) ty (by rw[isSubtype_type];kernel_rfl) ?_);refine wpAny_ite_split (λz=>absurd z ∅) (λ_=>?_);refine wpAny_ite_split (λ_=>?_) (λz=>absurd nofun z);exact wpAny_bind (wpAny_typeOf ty (wpAny_pure q))
def Qkg{h:Heap}{S:Addr}{f g:Obj->Obj}(b:Addr)(o:Obj)(hb:b≠S)(z:h.get? b=some o):((h.update S f).update S g).get? b=some o:=(Zbb _ _ (Ne.symm hb)).trans ((Zbb _ _ (Ne.symm hb)).trans z)
set_option maxHeartbeats 400000 in
def Qxf{a:Addr}{ob:Obj}{ar wk:Array (Int×Value)}{ep:Nat}{tb:SetTable}{sl:Nat->Nat}{Q:List Value->Shared->Prop}(hh:A.handled=none)(ho:s.heap.get? a=some ob)(hx:ob.ExactSet)(hd:ob.data= .set ar ep tb)(ft:tb.fits ar.size=true)(hp:tb.plain=true)(W:Qlk prog w a ob ep wk sl)(nb:wk.size<=sizeLine)
  (q:∀h' tk acc,(∀b o,s.heap.get? b=some o->h'.get? b=some o)->s.heap.objs.size<h'.objs.size->ItemsOf (λi v=>∃e,wk[i]? =some e/\v=e.2) acc wk.size->Q acc.toList {s with heap:=h',toks:=tk}):wpAny (model prog w) A (collect (.ref a)) Q E s:=by
 unfold collect;refine wpAny_bind (wpAny_runValue (codeAny_builtin PySem.F.entry_proto_collect ?_));rw[Around.under_plainId PySem.F.plain_proto_collect _];show wpAny _ A.in1 (newList [] >>= λl=>again (.builtin "list.__iadd__" ⟨[l,.ref a],[]⟩)) _ _ s;refine wpAny_bind (wpAny_newObj_type (wpAny_pure ⟨plainId_quiet PySem.F.plain_list_iadd _,codeAny_builtin PySem.F.entry_list_iadd ?_⟩));rw[Around.under_plainId PySem.F.plain_list_iadd _];have al:a<s.heap.objs.size:=Zr ho;have ho1:=Zn (seqObj "list" ([]:List Value).toArray 0) ho;have hS:(s.heap.push (seqObj "list" ([]:List Value).toArray 0)).get? s.heap.objs.size=some (seqObj "list" ([]:List Value).toArray 0):=ZG _ rfl;show wpAny _ A.in1 (Builtin.List.listExtendWith (.ref s.heap.objs.size) (.ref a) (.ref s.heap.objs.size)) _ _ {s with heap:=s.heap.push (seqObj "list" ([]:List Value).toArray 0)};unfold Builtin.List.listExtendWith;refine wpAny_bind (wpAny_typeOf (T:= "set") ⟨ob,ho1,hx.1⟩ ?_);have h1:Builtin.List.listSameRef (.ref s.heap.objs.size) (.ref a)=false:=by simp[Builtin.List.listSameRef,Zby al]
 rw[if_neg (by rw[h1];decide)];have WW:=(Qvl (prog:=prog) (w:=w) (A:=A.in1) (I:=s.heap.objs.size+1) (wk:=wk) (sl:=sl) hh hd ft (ZH (Zai al)) W).toS
 have key:∀(R:Result->Shared->Prop) (h:Heap) (c tk:Nat),h.get? (s.heap.objs.size+1)=some (siO 0 0 a ar.size ep)->h.get? a=some ob->(∀b o,s.heap.get? b=some o->h.get? b=some o)->h.get? s.heap.objs.size=some {cls:= .type "list",data:= .seq #[] c}→
   (∀(h':Heap) (tk c:Nat) (acc:Array Value),(∀b o,s.heap.get? b=some o->h'.get? b=some o)->h'.get? s.heap.objs.size=some {cls:= .type "list",data:= .seq acc c}->ItemsOf (λi v=>∃e,wk[i]? =some e/\v=e.2) acc wk.size->R (.ok (.ret (.ref s.heap.objs.size))) {s with heap:=h',toks:=tk})→
   codeAny (model prog w) A (.builtin "list.extend.loop" ⟨[.ref s.heap.objs.size,.ref (s.heap.objs.size+1),.ref s.heap.objs.size],[]⟩) R {s with heap:=h,toks:=tk}:=by
  intro R h c tk k1 k2 k3 k4 k5;refine codeAny_extend_loopS WW nb s.heap.objs.size (by simp[Zby al]) _ wk.size 0 _ #[] c rfl (Zaa _) ⟨(by rw[W.zero];exact k1),k2⟩ k4 (ItemsOf.nil _) λs' acc c mv g ia=>?_;rw[Moved.eq_with mv];refine k5 s'.heap s'.toks c acc (λb o z=>?_) g ia;have bl:=Zr z;exact mv.heap b o (by simp[ZH bl,ZH (Zai bl)]) (k3 b o z)
 have ho2:=Zn (siO 0 0 a ar.size ep) ho1;have hS2:=Zn (siO 0 0 a ar.size ep) hS;have hI2:((s.heap.push (seqObj "list" ([]:List Value).toArray 0)).push (siO 0 0 a ar.size ep)).get? (s.heap.push (seqObj "list" ([]:List Value).toArray 0)).objs.size=some (siO 0 0 a ar.size ep):=ZG _ rfl;refine wpAny_bind (Qz2 ho1 hx hd ft hp ?_);refine wpAny_bind (wpAny_holding (QuQ ho2 hx ?_));rw[if_pos ∅];refine wpAny_bind (wpAny_rule (wpAny_bind ?_));have sI:(s.heap.push (seqObj "list" ([]:List Value).toArray 0)).objs.size=s.heap.objs.size+1:=Zav _ _;rw[sI]at hI2 ⊢;show wpAny _ _ (updateSeq s.heap.objs.size (·.push .none) >>= λ_=>updateSeq s.heap.objs.size (·.pop)) _ _ _;refine wpAny_bind (wpAny_updateSeq hS2 rfl ?_);have hS3:=ZbI (Obj.mapSeq (·.push Value.none)) hS2 rfl;refine wpAny_updateSeq (hz:=by seq_fits) hS3 rfl ?_;have hS4:=ZbI (Obj.mapSeq (·.pop)) hS3 rfl;refine wpAny_pure ⟨plainId_quiet PySem.F.plain_extend_loop _,key _ _ 2 _ ?_ ?_ ?_ hS4 ?_⟩
 .dsimp only;exact Qkg _ _ (Nat.succ_ne_self _) hI2
 .dsimp only;exact Qkg _ _ (ZH al) ho2
 .intro b o z;dsimp only;refine Qkg b o (ZH (Zr z)) ?_;exact Zn _ (Zn _ z)
 .intro h' tk c acc m1 m2 m3;exact wpAny_bind (wpAny_load m2 (wpAny_pure (q h' tk acc m1 (Zr m2) m3)))
end
def QsN{vs vs':List Value}(p:vs'.Perm vs):∀{ks:List Int},IntsAre vs ks->∃ks',IntsAre vs' ks'/\ks'.Perm ks:=by
 induction p with
 | nil=>exact λh=>⟨_,h,.refl _⟩
 | cons x p ih=>
  intro ks h;cases h with
  | cons n t h=>
   obtain⟨k,h1,h2⟩:=ih h;exact⟨n::k,.cons n t h1,h2.cons n⟩
 | swap x y l=>
  intro ks h;cases h with
  | cons n t h=>
   cases h with
   | cons m u h=>exact⟨_,.cons m u (.cons n t h),.swap n m _⟩
 | trans p1 p2 i1 i2=>
  intro ks h;obtain⟨k1,a1,b1⟩:=i2 h;obtain⟨k2,a2,b2⟩:=i1 a1;exact⟨k2,a2,b2.trans b1⟩
def QrO{wk:Array (Int×Value)}{acc:Array Value}(h:ItemsOf (λi v=>∃e,wk[i]? =some e/\v=e.2) acc wk.size):acc.toList=wk.toList.map (·.2):=by
 refine Zaj λi=>?_;rw[Zh,ZX,ZX];by_cases z:i<acc.size
 .obtain⟨e,h1,h2⟩:=h.2 i _ (ZU z);rw[ZU z,h1,h2];rfl
 .rw[Array.getElem?_eq_none ⋯,Array.getElem?_eq_none (by have:=h.1;omega)];rfl
section
variable {prog:Program}{w:World}{A:Around}{E:Value->Shared->Prop}{s:Shared}
def Qy7{a:Addr}{F:List Int}{Q:Value->Shared->Prop}(hh:A.handled=none)(nd:F.Nodup)(r:QeJ prog w (Qid w) s.heap a (λj=>F.any (· == j)) F.length)
  (q:∀h' tk l out e,(∀b o,s.heap.get? b=some o->h'.get? b=some o)->s.heap.objs.size<=l->h'.get? l=some (seqObj "list" out e)->IntsAre out.toList (QbT F)->Q (.ref l) {s with heap:=h',toks:=tk}):wpAny (model prog w) A (call (.builtin "sorted") [.ref a]) Q E s:=by
 obtain⟨ob,ar,ep,tb,ho,hd,c,sz⟩:=r;obtain⟨ks,i1,i2⟩:=Qvw c nd;obtain⟨wk,sl,pm,W⟩:=QvX (a:=a) hd c sz.1;have few:F.length<=18:=by have:=sz.2;omega
 have wz:wk.size<=18:=by
  have:=pm.length_eq;rw[Zu,Zu,c.num]at this;omega
 refine Calls.call_function_entry kind_sorted plain_sorted entry_sorted (args_sorted1 _) ?_;unfold Builtin.«sorted»;refine wpAny_bind (m:=checkCount "sorted" 1 1 _) (wpAny_pure ?_);refine wpAny_bind (Qxf (by simp[hh]) ho c.ex hd c.fit sz.1 W (ZN wz (by rw[Qdx];decide)) λh1 t1 acc k1 z1 ia=>?_);obtain⟨ks',j1,j2⟩:=QsN (pm.map (·.2)) i1;rw[← QrO ia]at j1;have al:acc.toList.length<64:=by rw[Zu,ia.1];omega
 refine wpAny_bind (wpAny_newList ?_);have oL:(h1.push (seqObj "list" acc.toList.toArray 0)).get? h1.objs.size=some (seqObj "list" acc.toList.toArray 0):=ZG _ rfl;refine wpAny_bind (wpAny_holding (wpAny_call_entry slot_list_sort ⟨_,oL,rfl⟩ entry_list_sort (list_sort_tree oL j1 al λout ns' a1 a2 a3=>⟨_,rfl,?_⟩) (args_list_sort _)));obtain⟨e,hat⟩:=sortedHeap_at (out:=out) oL;have es:ns'=QbT F:=Qhq a3 (QdI F) ((a2.trans (j2.trans i2)).trans (QbL F).symm);subst es;refine wpAny_pure ⟨_,rfl,q _ t1 _ out e (λb o z=>?_) (Zbx z1) hat a1⟩;have b1:=Zr (k1 b o z);rw[sortedHeap_old (ZH b1) (by rw[Zav];exact Zai b1)];exact Zn _ (k1 b o z)
end
end HS
namespace HS
open PySem PySem.Spec L2 PyProof.Rows
section
variable {X:Cx}{a:Expr}{fa:DE}{pos:Pos}
def boot_set:bootBuiltins "set" =some (.type "set"):=by kernel_rfl
def Qxx{l:Addr}{ns:List Int}(I:Inv X pins σ H s)(hc:X.calm=true)(hq:SqL X.K H l (ns.map V.int))(hn:ns.length<=18)(q:∀l,H l=none->Q (.ref l) (upd H l (.lst ((QbT (QfM ns)).map V.int)))):
  wpAny (model X.prog X.w) X.A (call (.type "set") [.ref l]) (λv s1=>wpAny (model X.prog X.w) X.A (call (.builtin "sorted") [v]) (EP X pins σ Q) E s1) E s:=by
 obtain⟨its,r',pl,hz⟩:=I.list hq;have hI:=Qa5 r';have il:its.toArray.size=ns.length:=by rw[Zx];exact hI.length
 refine QvE (I.ok.hd hc) pl.isList (ns:=ns) hI ⋯ λh1 t1 si kp=>?_;have ed:firstMet (λi=>ns.getD i 0) its.toArray.size=QfM ns:=by rw[il];exact Qnk ns
 have nd:(QfM ns).Nodup:=by rw[← ed];exact QjV _ _
 unfold InI at si;rw[ed]at si;have sz:s.heap.objs.size<h1.objs.size:=by
  obtain⟨ob,ar,en,tb,g,_⟩:=si;exact Zr g
 refine Qy7 (I.ok.hd hc) nd si λh2 t2 b out e k2 z2 g2 io=>?_;refine⟨.ref b,_,I.laid (t':=t2) (o:= .lst ((QbT (QfM ns)).map V.int)) (λc o z=>k2 c o (kp c o (Zr z) z)) (ZN (Zbx sz) z2) ⟨?_,out.toList,e,L2.Qa5 io,by simpa using g2⟩,rfl,q _ (I.hok.fresh (ZN (Zbx sz) z2))⟩;rw[Zc,(QbL _).length_eq,← ed,Qdx];have:=firstMet_length_le (λi=>ns.getD i 0) its.toArray.size;omega
def Qyp{p p' pos':Pos}(hg:Gl X "sorted")(hm:X.mg "sorted" =none)(hg':Gl X "set")(hm':X.mg "set" =none)(hc:X.calm=true)(ha:PA X [a] ta)(hs:starEach [a] X.env=[(false,eval a X.env)]):
  PE X (.Call (.Name "sorted" p) [.Call (.Name "set" p') [a] [] pos'] [] pos) (λσ H Q=>ta σ H λvs H1=>∃(l:Addr) (ns:List Int),vs=[.ref l]/\SqL X.K H1 l (ns.map V.int)/\ns.length<=18/\∀l,H1 l=none->Q (.ref l) (upd H1 l (.lst ((QbT (QfM ns)).map V.int)))):=by
 intro pins s σ H Q I h;refine wpAny_Call_Name_kw (QcS I hg hm boot_sorted ?_ ∅ ∅);refine ZbK (Zcc ?_) rfl rfl;refine Call_ (QcS I hg' hm' boot_set (Zac (thn (ha pos' pins s σ H _ I h) λus s1 ⟨vs,H1,I1,r1,q1⟩=>?_) hs rfl));obtain⟨l,ns,e,q1,q2,q⟩:=q1;subst e;cases r1 with
 | cons r rr=>
  cases rr;cases r;exact wpAny_mono (Qxx I1 hc q1 q2 q) (λv s2 z=>Zch z) λ_ _ z=>z
def QyH{p p' pos':Pos}(hg:Gl X "sorted")(hm:X.mg "sorted" =none)(hg':Gl X "set")(hm':X.mg "set" =none)(hc:X.calm=true)(ha:SE X a fa)(hs:starEach [a] X.env=[(false,eval a X.env)]):
  SE X (.Call (.Name "sorted" p) [.Call (.Name "set" p') [a] [] pos'] [] pos) (Qjj fa):=λH0 A0=>
 (Qyp hg hm hg' hm' hc (Qbh (ha H0 A0) Qde hs) hs).mono λσ H Q=>exK λU hs F r' rel e q=>by
  refine Ql e λra e1 e=>?_;refine⟨U,hs,F,ra,rel,e1,λv H1 G p1=>?_⟩;cases hd:ra.d with
  | lst xs=>
   rw[hd]at e;dsimp only at e;refine Ql e λns h1 e=>?_;split at e
   .rename_i hl;cases e;have rp:=p1.rp;rw[hd]at rp;obtain⟨l,ws,L,rfl,hl',rl,zl,el⟩:=rp.lst_inv;rw[Qb8 h1]at rl;rw[rl.ints]at hl';refine⟨l,ns,rfl,Qab hl',hl,λc hc=>?_⟩;have:=Qam.Qaq (U:=U) (F:=F) p1.same hc (Rps.ofInts (K:=X.K) (QbT (QfM ns))) (by
     rw[Zc,(QbL _).length_eq,Qdx,← Qnk];have:=firstMet_length_le (λi=>ns.getD i 0) ns.length;omega) Src.nil Qby.nil
    unfold Qaq at this;rw[if_pos (QdZ _)]at this;exact q _ _ _ this
   .cases e
  | _=>rw[hd]at e;cases e
end
end HS
namespace HS
open PySem PySem.Spec PyProof.Rows L2
section
variable {X:Cx}{a b c:Expr}{fa fb fc:DE}{pos:Pos}
end
end HS
namespace HS
open PySem PySem.Spec L2
structure FnR where
 n:Nat
 dfl:List D
 den:Den
structure Th where
 N:List Str
 sc:List (Str×NameKind)
 Γ:List (Str×FnR)
 cs:List (Str×Int)
 tr:Stmt->Option DS:=λ_=>none
noncomputable def posOf(x:Str):List Str->Option Nat
 | []=>none
 | y::ys=>if x=y then some 0 else(posOf x ys).map (· +1)
def Qgv:∀{x:Str}{ys:List Str}{i:Nat},posOf x ys=some i->ys[i]? =some x
 | x,[],i,h=>by cases h
 | x,y::ys,i,h=>by
  unfold posOf at h;split at h
  .rename_i e;cases h;subst e;rfl
  .obtain⟨j,hj,rfl⟩:=Zf.mp h;simpa using Qgv hj
noncomputable def look{α:Type}(x:Str):List (Str×α)->Option α
 | []=>none
 | (y,a)::r=>if x=y then some a else look x r
def Qbc{α:Type}:∀{x:Str}{l:List (Str×α)},look x l=l.lookup x
 | x,[]=>rfl
 | x,(y,a)::r=>by
  unfold look;rw[ZD];by_cases h:x=y
  .subst h;simp
  .rw[if_neg h,Qbc];have:(x == y)=false:=by simpa using h
   rw[this]
noncomputable def QwI:NameKind->Bool
 | .local =>true | .cell=>true | .free=>true | _=>false
noncomputable def QwK:NameKind->Bool
 | .local =>true | .cell=>true | _=>false
noncomputable def QC7:NameKind->Bool
 | .globalImplicit=>true | _=>false
noncomputable def isFree:NameKind->Bool
 | .free=>true | _=>false
noncomputable def odd(x:Str):Bool:=decide (x= "__debug__") || decide (x= "__classdict__") || decide (x= "__name__")
noncomputable def Th.slot(Y:Th)(x:Str):Option Nat:=if((look x Y.sc).map QwI).getD false && !odd x then posOf x Y.N else none
noncomputable def Th.Qct(Y:Th)(x:Str):Option Nat:=if((look x Y.sc).map QwK).getD false && !odd x then posOf x Y.N else none
noncomputable def Th.gl(Y:Th)(x:Str):Bool:=((look x Y.sc).map QC7).getD false && !odd x
def Qxy(X:Cx)(x:Str)(r:FnR):Prop:=∃k f fd ps,QcJ X.prog X.w X.K X.mg X.base CX0 k f fd ps (spV X.K r.n r.den)/\Qbg k X.A/\X.mg x=some (.ref f)/\PySem.W.keepIn X.K (.ref f)=true∧
 ∀m,m<=r.dfl.length->∃ds dvs,Binds X.K fd ps ds/\QB dvs ds/\∀H,Rps X.K H (r.dfl.drop (r.dfl.length-m)) dvs []
noncomputable def Qpx:List Str:=["range","enumerate","zip","len","list","min","max","sum","abs","isinstance","int","bool","tuple","str","divmod","sorted","any","all","set"]
structure CtxB (X:Cx) (Y:Th):Prop where
 N:X.N=Y.N
 nd:Y.N.Nodup
 lc:∀x,look x Y.sc=some .local ->X.env.scope.names.lookup x=some .local
 ce:∀x,look x Y.sc=some .cell->X.env.scope.names.lookup x=some .cell/\X.fn x=true
 fe:∀x,look x Y.sc=some .free->X.env.scope.names.lookup x=some .cell∨X.env.scope.names.lookup x=some .free
 gl:∀x,look x Y.sc=some .globalImplicit->X.env.scope.names.lookup x=some .globalImplicit
 units:X.A.units+64<cLine
 mg:∀x∈Qpx,X.mg x=none
 cs:∀x i,look x Y.cs=some i->∃t,X.mg x=some (.int i t)
structure Qaf (X:Cx) (Y:Th):Prop extends CtxB X Y where
 calm:X.calm=true
 pass:PassesOwn (model X.prog X.w) X.A X.env X.xe
 fns:∀x r,look x Y.Γ=some r->Qxy X x r
 tr:∀st f,Y.tr st=some f->S1 X st f
section
def Qqj(h:odd x=false):(x == ("__debug__" :Str))=false/\(x == ("__classdict__" :Str))=false/\x≠ "__name__" :=by
 unfold odd at h;simp only[Bool.or_eq_false_iff,decide_eq_false_iff_not]at h;exact⟨by simpa using h.1.1,by simpa using h.1.2,h.2⟩
def Qhf(ok:CtxB X Y)(h:Y.slot x=some i):PE X (.Name x pos) (Ql1 i):=by
 unfold Th.slot at h;split at h
 .rename_i hc;simp only[Zp,Zau]at hc;obtain⟨h1,h2,_⟩:=Qqj hc.2;refine QAo (by rw[ok.N];exact Qgv h) ?_ h1 h2;cases q:look x Y.sc with
  | none=>rw[q]at hc;cases hc.1
  | some k=>
   rw[q]at hc;cases k with
   | «local» =>exact .inl (ok.lc x q)
   | cell=>exact .inr (.inl (ok.ce x q).1)
   | free=>exact .inr (ok.fe x q)
   | _=>cases hc.1
 .cases h
def Qc8(ok:CtxB X Y)(h:Y.Qct x=some i):X.N[i]? =some x/\Loc X.env.scope x/\(X.fn x=true∨X.env.scope.names.lookup x=some .local):=by
 unfold Th.Qct at h;split at h
 .rename_i hc;simp only[Zp,Zau]at hc;refine⟨by rw[ok.N];exact Qgv h,?_⟩;cases q:look x Y.sc with
  | none=>rw[q]at hc;cases hc.1
  | some k=>
   rw[q]at hc;cases k with
   | «local» =>exact⟨.inl (ok.lc x q),.inr (ok.lc x q)⟩
   | cell=>exact⟨.inr (ok.ce x q).1,.inl (ok.ce x q).2⟩
   | _=>cases hc.1
 .cases h
def QcK(ok:CtxB X Y)(h:Y.gl x=true):Gl X x/\(x == ("__debug__" :Str))=false/\x≠ "__name__" :=by
 unfold Th.gl at h;simp only[Zp,Zau]at h;obtain⟨h1,h2,h3⟩:=Qqj h.2;refine⟨?_,h1,h3⟩;cases q:look x Y.sc with
 | none=>rw[q]at h;cases h.1
 | some k=>
  rw[q]at h;cases k with
  | globalImplicit=>exact ok.gl x q
  | _=>cases h.1
end
noncomputable def isTup:Expr->Bool
 | .Tuple .. =>true
 | _=>false
noncomputable def Qcv:Expr->Option Str
 | .Name x _=>some x
 | _=>none
noncomputable def QgJ(Y:Th):Expr->Option Tg
 | .Name x _=>(Y.Qct x).map .nm
 | .Tuple es _ _=>((es.mapM Qcv).bind λxs=>xs.mapM Y.Qct).map .tp
 | _=>none
noncomputable def QrD:CmpOp->Option (D->D->Option D)
 | .Eq=>some gEq | .NotEq=>some gNe | .Lt=>some gLt | .LtE=>some gLe | .Gt=>some gGt | .GtE=>some gGe
 | .Is=>some (QgV false) | .IsNot=>some (QgV true)
 | .In=>some (gIn false) | .NotIn=>some (gIn true)
noncomputable def QuL(x:Str):Option String:=
 if x= "int" then some "int" else if x= "bool" then some "bool" else if x= "list" then some "list" else if x= "tuple" then some "tuple" else if x= "str" then some "str" else none
noncomputable def inner(Y:Th)(scope:Scope):Th:={N:=(scope.names.filter λy=>QwI y.2).map (·.1),sc:=scope.names,Γ:=Y.Γ,cs:=Y.cs}
noncomputable def Qjt(Y:Th)(scope:Scope):List (Option Nat):=(inner Y scope).N.map λx=>if((look x scope.names).map isFree).getD false then posOf x Y.N else none
noncomputable def QiU(Y:Th)(scope:Scope)(t:Tg):Bool:=(scope.kind == .function) && decide (inner Y scope).N.Nodup &&
 (scope.names.all λy=>match y.2 with
  | .cell=>decide (look y.1 scope.names=some .cell)
  | .local =>decide (look y.1 scope.names=some .local)
  | .free=>match look y.1 Y.sc with
   | some .cell=>true
   | some .free=>true
   | _=>false
  | _=>true) &&
 t.slots.all λj=>match (Qjt Y scope)[j]? with
  | some (some _)=>false
  | _=>true
noncomputable def Qkv(Y:Th)(x:Str)(a:Expr):Option Expr:=match a with
 | .Call (.Name y _) [b] [] _=>if x= "list" /\y= "range" /\Y.gl y=true/\(look y Y.Γ).isNone=true then some b else none
 | _=>none
noncomputable def setArg(Y:Th)(x:Str)(a:Expr):Option Expr:=match a with
 | .Call (.Name y _) [b] [] _=>if x= "sorted" /\y= "set" /\Y.gl y=true/\(look y Y.Γ).isNone=true then some b else none
 | _=>none
noncomputable def QCr:List Expr->Bool
 | []=>true | [_]=>true | _=>false
noncomputable def bf1(x:Str)(fa:DE):Option DE:=
 if x= "len" then some (dBf Q6 (Qa fa Qb))else
 if x= "list" then some (dList (Qa fa Qb))else
 if x= "min" then some (dBf Qc7 (Qa fa Qb))else
 if x= "max" then some (dBf QeS (Qa fa Qb))else
 if x= "sum" then some (dBf QeX (Qa fa Qb))else
 if x= "int" then some (dBf QmJ (Qa fa Qb))else
 if x= "sorted" then some (Qcc (Qa fa Qb))else
 if x= "all" then some (dBf QjF (Qa fa Qb))else
 if x= "any" then some (dBf Qft (Qa fa Qb))else
 none
noncomputable def bf2(x:Str)(fa fb:DE):Option DE:=
 if x= "min" then some (dBf Qgm (Qa fa (Qa fb Qb)))else
 if x= "max" then some (dBf Qlh (Qa fa (Qa fb Qb)))else
 none
mutual
noncomputable def Qv(n:Nat)(Y:Th)(e:Expr):Option DE:=match n with
 | 0=>none
 | n+1=>match e with
  | .Name x _=>match Y.slot x with
   | some i=>some (Qh i)
   | none=>if Y.gl x then(look x Y.cs).map λi=>dC (.int i)else none
  | .Constant (.int i) _ _=>some (dC (.int i))
  | .Constant (.bool b) _ _=>some (dC (.bl b))
  | .Constant .none _ _=>some (dC .non)
  | .Constant (.str x) _ _=>some (dC (.str x))
  | .BinOp a op b _=>(Qv n Y a).bind λfa=>(Qv n Y b).bind λfb=>match op with
   | .Add=>some (QA fa fb)
   | .Mult=>some (QaE fa fb)
   | .Sub=>some (dOp Qa6 fa fb)
   | .FloorDiv=>some (dOp QbV fa fb)
   | .Mod=>some (dOp QaC fa fb)
   | .Pow=>some (dOp Qvx fa fb)
   | _=>none
  | .UnaryOp .USub a _=>(Qv n Y a).map Qcx
  | .UnaryOp .Not a _=>(Qv n Y a).map QrS
  | .BoolOp .And [a] _=>Qv n Y a
  | .BoolOp .And (a::b::r) p=>(Qv n Y a).bind λfa=>(Qv n Y (.BoolOp .And (b::r) p)).map λfb=>QhP fa fb
  | .BoolOp .Or [a] _=>Qv n Y a
  | .BoolOp .Or (a::b::r) p=>(Qv n Y a).bind λfa=>(Qv n Y (.BoolOp .Or (b::r) p)).map λfb=>dOr fa fb
  | .Compare a [op] [b] _=>(Qv n Y a).bind λfa=>(Qv n Y b).bind λfb=>(QrD op).map λg=>dOp g fa fb
  | .Tuple es _ _=>(Qb2 n Y es).map Qal
  | .List es _=>(Qb2 n Y es).map QE
  | .Subscript a (.Slice lo hi none _) _=>(Qv n Y a).bind λfa=>(QkV n Y lo).bind λfl=>(QkV n Y hi).map λfh=>Qad fa fl fh
  | .Subscript a (.Slice none none (some k) _) _=>(Qv n Y a).bind λfa=>(Qv n Y k).map λfk=>Qij fa fk
  | .Subscript a b _=>(Qv n Y a).bind λfa=>(Qv n Y b).map λfb=>Qf fa fb
  | .Call (.Name x _) args [] _=>if Y.gl x then(match look x Y.Γ with
    | some r=>if r.n<=args.length+r.dfl.length/\args.length<=r.n then(Qb2 n Y args).map λfs=>Qm r.n r.den (r.dfl.drop (r.dfl.length-(r.n-args.length))) fs else none
    | none=>QnS n Y x args)else none
  | .ListComp elt [⟨tg,iter,ifs,0⟩] scope _=>(QgJ (inner Y scope) tg).bind λt=>if QiU Y scope t && QCr ifs then
    (QhA n Y tg iter).bind λfi=>(Qg8 n (inner Y scope) ifs).bind λft=>(Qv n (inner Y scope) elt).map λfe=>QO fi t (Qjt Y scope) ft fe else none
  | _=>none
noncomputable def QnS(n:Nat)(Y:Th)(x:Str)(args:List Expr):Option DE:=match n with
  | 0=>none
  | n+1=>match args with
    | [a]=>match Qkv Y x a with
     | some b=>(Qv n Y b).map Qgh
     | none=>
       match setArg Y x a with
       | some b=>(Qv n Y b).map Qjj
       | none=>
         (Qv n Y a).bind λfa=>bf1 x fa
    | [a,b]=>if x= "isinstance" then(Qv n Y a).bind λfa=>match b with
        | .Name y _=>if Y.gl y then(QuL y).map λT=>Qmz T fa else none
        | _=>none
      else(Qv n Y a).bind λfa=>(Qv n Y b).bind λfb=>bf2 x fa fb
    | _=>none
noncomputable def Qbo(n:Nat)(Y:Th)(e:Expr):Option DT:=match n with
 | 0=>none
 | n+1=>match e with
  | .UnaryOp .Not a _=>(Qbo n Y a).map QbG
  | .BoolOp .And [a] _=>Qbo n Y a
  | .BoolOp .And (a::b::r) p=>(Qbo n Y a).bind λfa=>(Qbo n Y (.BoolOp .And (b::r) p)).map λfb=>QdQ fa fb
  | .BoolOp .Or [a] _=>Qbo n Y a
  | .BoolOp .Or (a::b::r) p=>(Qbo n Y a).bind λfa=>(Qbo n Y (.BoolOp .Or (b::r) p)).map λfb=>bOr fa fb
  | .Compare a [op] [b] _=>(Qv n Y a).bind λfa=>(Qv n Y b).bind λfb=>(QrD op).map λg=>Qs (dOp g fa fb)
  | .BoolOp _ _ _=>none
  | .IfExp _ _ _ _=>none
  | .Compare _ _ _ _=>none
  | e=>(Qv n Y e).map Qs
noncomputable def Qg8(n:Nat)(Y:Th)(es:List Expr):Option DT:=match n with
 | 0=>none
 | n+1=>match es with
  | []=>some QaR
  | [c]=>Qbo n Y c
  | _=>none
noncomputable def Qb2(n:Nat)(Y:Th)(es:List Expr):Option DA:=match n with
 | 0=>none
 | n+1=>match es with
  | []=>some Qb
  | e::es=>(Qv n Y e).bind λfa=>(Qb2 n Y es).map λfs=>Qa fa fs
noncomputable def QkV(n:Nat)(Y:Th)(e:Option Expr):Option DO:=match n with
 | 0=>none
 | n+1=>match e with
  | none=>some QZ
  | some e=>(Qv n Y e).map QS
noncomputable def QhA(n:Nat)(Y:Th)(tg e:Expr):Option DI:=match n with
 | 0=>none
 | n+1=>match e with
  | .Call (.Name x _) args [] _=>if Y.gl x && (look x Y.Γ).isNone then(match args with
    | [a]=>if x= "range" then(Qv n Y a).map Qan else
     if x= "enumerate" then(if isTup tg then(Qv n Y a).map Qbs else none)else
     (Qv n Y e).map QT
    | [a,b,c]=>
     (Qv n Y e).map QT
    | [a,b]=>
     if x= "range" then(Qv n Y a).bind λfa=>(Qv n Y b).map λfb=>Qdy fa fb else
     if x= "zip" then(if isTup tg then(Qv n Y a).bind λfa=>(Qv n Y b).map λfb=>QcP fa fb else none)else
     (Qv n Y e).map QT
    | _=>(Qv n Y e).map QT)else(Qv n Y e).map QT
  | e=>(Qv n Y e).map QT
end
def Qb0{α β γ:Type}{x:Option α}{y:α->Option β}{k:α->β->γ}{r:γ}(e:(x.bind λa=>(y a).map λb=>k a b)=some r):∃a b,x=some a/\y a=some b/\k a b=r:=by
 refine Ql e λa h1 e=>?_;obtain⟨b,h2,e⟩:=Zf.mp e;exact⟨a,b,h1,h2,e⟩
def bindR{α β γ:Type}{x:Option α}{y:α->Option β}{k:α->β->γ}{r:γ}{M:γ->Prop}(e:(x.bind λa=>(y a).map λb=>k a b)=some r)(g:∀a b,x=some a->y a=some b->M (k a b)):M r:=by
 obtain⟨a,b,h1,h2,rfl⟩:=Qb0 e;exact g a b h1 h2
def Qbd(h:Qv n Y e=some f)(es:List Expr)(env:Env):starEach (e::es) env=(false,eval e env)::starEach es env:=by
 cases n with
 | zero=>exact nn h
 | succ n=>cases e<;>first | rfl | (exact nn h)
def QqV:∀{n:Nat}{Y:Th}{es:List Expr}{f:DA},Qb2 n Y es=some f->∀(pos:Pos) (env:Env),(backTo pos (starEach es env)).any (·.1)=false
 | 0,_,_,_,h,_,_=>by simp[Qb2]at h
 | n+1,_,[],_,h,_,_=>rfl
 | n+1,_,e::es,_,h,pos,env=>by
  simp only[Qb2]at h;obtain⟨fa,fs,h1,h2,_⟩:=Qb0 h;rw[Qbd h1];have:=QqV h2 pos env;simpa[backTo]using this
def Qrd(h:Qv n Y b=some f):Qjq b:=by
 cases n with
 | zero=>exact nn h
 | succ n=>cases b<;>first | (intro o i;rfl) | (exact nn h)
def QAn(h:Qv n Y e=some f)(env:Env):∀x,foldedSetIterable e env x=pure x:=by
 cases n with
 | zero=>exact nn h
 | succ n=>cases e<;>first | (intro x;rfl) | (exact nn h)
def QtA(h:Qv n Y e=some f)(op:CmpOp):behindInMarks op e=false:=by
 cases n with
 | zero=>exact nn h
 | succ n=>cases e<;>first | rfl | (exact nn h)
def Qen{env:Env}:∀{names:List (Str×NameKind)}{x:Str},names.lookup x=some .cell→
  (names.map λ(n,k)=>if(k == NameKind.free && env.scope.kind == .function && env.kindOf n == some .cell)then(n,NameKind.cell)else(n,k)).lookup x=some .cell
 | [],_,h=>by simp at h
 | (n,k)::r,x,h=>by
  have ih:= @Qen env r x;rw[Zv];cases hx:x == n with
  | true=>
   simp only[ZD,hx]at h;cases h;dsimp only;split<;>simp[ZD,hx]
  | false=>
   simp only[ZD,hx]at h;dsimp only;split<;>(simp only[ZD,hx];exact ih h)
def QkC{X:Cx}{Y:Th}{scope:Scope}{t:Tg}(ok:Qaf X Y)(h:QiU Y scope t=true):Qe9 X (inner Y scope).N scope/\QnV X (inner Y scope).N scope (Qjt Y scope) t.slots/\∀cl C fp s3 H3,Qaf (cxc X (inner Y scope).N scope cl C fp s3 H3) (inner Y scope):=by
 unfold QiU at h;simp only[Zp,decide_eq_true_eq]at h;obtain⟨⟨⟨h1,h2⟩,h3⟩,h4⟩:=h;have hk:scope.kind= .function:=by simpa using h1
 have each:∀y∈scope.names,(y.2= .cell->scope.names.lookup y.1=some .cell)/\(y.2= .local ->scope.names.lookup y.1=some .local)/\(y.2= .free->X.env.kindOf y.1=some .cell∨X.env.kindOf y.1=some .free):=λy hy=>by
  have:=ZZ.mp h3 y hy;obtain⟨y,k⟩:=y;cases k with
  | cell=>exact⟨λ_=>(by rw[← Qbc];simpa using this),λz=>(by cases z),λz=>(by cases z)⟩
  | «local» =>exact⟨λz=>(by cases z),λ_=>by rw[← Qbc];simpa using this,λz=>by cases z⟩
  | free=>
   refine⟨λz=>(by cases z),λz=>(by cases z),λ_=>?_⟩;dsimp only at this;split at this
   .rename_i q;exact .inl (ok.ce _ q).1
   .rename_i q;exact ok.fe _ q
   .cases this
  | _=>exact⟨λz=>(by cases z),λz=>(by cases z),λz=>(by cases z)⟩
 have S:Qe9 X (inner Y scope).N scope:=⟨hk,λy hy=>(each y hy).1,λy hy=>(each y hy).2.1,λy hy=>(each y hy).2.2⟩;refine⟨S,⟨by unfold Qjt;simp,λj i e=>?_,λj i e hj=>?_⟩,λcl C fp s3 H3=>⟨⟨rfl,h2,λx e=>?_,λx e=>?_,λx e=>?_,λx e=>?_,ok.units,ok.mg,ok.cs⟩,ok.calm,PassesOwn.never,ok.fns,λ_ _ e=>nomatch e⟩⟩
 .unfold Qjt at e;rw[Zh]at e;cases q:(inner Y scope).N[j]? with
  | none=>rw[q]at e;cases e
  | some x=>
   rw[q]at e;simp only[ZT,Option.some.injEq]at e;split at e
   .rename_i hf;cases hl:look x scope.names with
    | none=>rw[hl]at hf;cases hf
    | some k=>
     rw[hl]at hf;cases k with
     | free=>
      rw[Qbc]at hl;exact⟨x,rfl,hl,by rw[ok.N];exact Qgv e,(each (x,.free) (Zah hl)).2.2 rfl⟩
     | _=>cases hf
   .cases e
 .have:=ZZ.mp h4 j hj;rw[e]at this;cases this
 .have e':scope.names.lookup x=some .local :=by rw[← Qbc];exact e
  exact lookup_relabel_local e'
 .have e':scope.names.lookup x=some .cell:=by rw[← Qbc];exact e
  exact⟨Qen e',decide_eq_true e'⟩
 .have e':scope.names.lookup x=some .free:=by rw[← Qbc];exact e
  exact Qc3 e'
 .have e':scope.names.lookup x=some .globalImplicit:=by rw[← Qbc];exact e
  show(relabel scope X.env).names.lookup x=some .globalImplicit;unfold relabel
  have gen:∀{names:List (Str×NameKind)},names.lookup x=some .globalImplicit→
    (names.map λ(n,k)=>if(k == NameKind.free && X.env.scope.kind == .function && X.env.kindOf n == some .cell)then(n,NameKind.cell)else(n,k)).lookup x=some .globalImplicit:=by
   intro names
   induction names with
   | nil=>intro z;simp at z
   | cons y r ih=>
    intro z;obtain⟨n,k⟩:=y;rw[Zv];cases hx:x == n with
    | true=>
     simp only[ZD,hx]at z;cases z;simp[ZD,hx]
    | false=>
     simp only[ZD,hx]at z;dsimp only;split<;>(simp only[ZD,hx];exact ih z)
  exact gen e'
def QlR(ok:Qaf X Y)(h:QgJ Y tg=some t):SG X tg t:=by
 have hN:X.N.Nodup:=by rw[ok.N];exact ok.nd
 cases tg with
 | Name x pos=>
  change Option.map _ _=_ at h;refine mapR h λi hi=>?_;obtain⟨h1,h2,h3⟩:=Qc8 ok.toCtxB hi;exact Qyw (Qqu hN h1 h2 h3)
 | Tuple es k pos=>
  change Option.map _ _=_ at h;refine mapR h λis hi=>?_;refine Ql hi λxs h1 h2=>?_;have key:∀(es:List Expr) (xs:List Str) (is:List Nat),es.mapM Qcv=some xs->xs.mapM Y.Qct=some is->PGs X es (Qlo is)/\(assignEach es X.env).length=is.length/\(assignEach es X.env).findIdx? (·.1)=none:=by
   intro es
   induction es with
   | nil=>
    intro xs is h1 h2;cases h1;cases h2;exact⟨QyK,rfl,rfl⟩
   | cons e es ih=>
    intro xs is h1 h2;rw[List.mapM_cons]at h1;refine Ql h1 λx hx h1=>?_;refine Ql h1 λys hy h1=>?_;cases h1;rw[List.mapM_cons]at h2;refine Ql h2 λi hi h2=>?_;refine Ql h2 λjs hj h2=>?_;cases h2;obtain⟨a1,a2,a3⟩:=ih ys js hy hj;cases e with
    | Name y p=>
     cases hx;obtain⟨g1,g2,g3⟩:=Qc8 ok.toCtxB hi;refine⟨Qvi (Qqu hN g1 g2 g3) a1 rfl,?_,?_⟩
     .show(assignEach es X.env).length+1=_;rw[a2];rfl
     .show List.findIdx? (·.1) ((false,assign (.Name x p) X.env)::assignEach es X.env)=none;rw[List.findIdx?_cons];simp only[a3];rfl
    | _=>cases hx
  obtain⟨a1,a2,a3⟩:=key es xs is h1 h2;exact QAv ok.calm a1 a2 a3
 | _=>exact nn h
def QrY{f:Int->Int->Bool}:∀a b d,gI (λi j=>some (.bl (f i j))) a b=some d->∃k,d= .bl k:=λa b d h=>by
 obtain⟨i,j,_,_,e⟩:=QsO h;cases e;exact⟨_,rfl⟩
def QsI(ok:Qaf X Y)(h:QrD op=some g):∃r,OpR X (compareOp op) r/\QcF X.K g r/\∀a b d,g a b=some d->∃k,d= .bl k:=by
 cases op<;>cases h
 .exact⟨_,QA3 ok.units,QBJ,λa b d h=>by unfold gEq at h;split at h<;>cases h;exact⟨_,rfl⟩⟩
 .exact⟨_,QAN ok.units,QCm,λa b d h=>by unfold gNe at h;split at h<;>cases h;exact⟨_,rfl⟩⟩
 .exact⟨_,QCu,QB5,QrY⟩
 .exact⟨_,QBR,QBP,QrY⟩
 .exact⟨_,QCi,QBA,QrY⟩
 .exact⟨_,QCp,QCg,QrY⟩
 .exact⟨_,QAP.or QAh,QBf,Qqk⟩
 .exact⟨_,QyA.or QyX,Quw,Qqk⟩
 .exact⟨_,QBg ok.units,QwP,λa b d h=>by unfold gIn at h;split at h<;>first | (split at h<;>cases h;exact⟨_,rfl⟩) | cases h⟩
 .exact⟨_,Qut ok.units,QwP,λa b d h=>by unfold gIn at h;split at h<;>first | (split at h<;>cases h;exact⟨_,rfl⟩) | cases h⟩
structure QkW (n:Nat):Prop where
 E:∀X Y e f,Qaf X Y->Qv n Y e=some f->SE X e f
 B:∀X Y x args f p pos,Qaf X Y->Y.gl x=true->QnS n Y x args=some f->SE X (.Call (.Name x p) args [] pos) f
 T:∀X Y e f,Qaf X Y->Qbo n Y e=some f->ST X e f
 Ts:∀X Y e f,Qaf X Y->Qg8 n Y e=some f->Qo8 X e f
 A:∀X Y e f,Qaf X Y->Qb2 n Y e=some f->SA X e f
 O:∀X Y e f,Qaf X Y->QkV n Y e=some f->SO X e f
 I:∀X Y tg e f,Qaf X Y->QhA n Y tg e=some f->SI X tg e f/\∀x,foldedSetIterable e X.env x=pure x
def callArgs{X:Cx}{n:Nat}{Y:Th}{es:List Expr}{fs:DA}(h:Qb2 n Y es=some fs){e:Expr}{es':List Expr}(he:es=e::es')(pos:Pos):starEach (e::es') X.env=(false,eval e X.env)::starEach es' X.env/\(backTo pos (starEach es' X.env)).any (·.1)=false:=by
 subst he;cases n with
 | zero=>simp[Qb2]at h
 | succ n=>
  simp only[Qb2]at h;obtain⟨fa,fs',h1,h2,_⟩:=Qb0 h;exact⟨Qbd h1 es' X.env,QqV h2 pos X.env⟩
def QBy(ih:QkW n):∀X Y e f,Qaf X Y->Qv (n+1) Y e=some f->SE X e f:=by
  intro X Y e f ok h;cases e with
  | Name x pos=>
    (conv at h=>lhs;whnf)
    cases q:Y.slot x with
    | some i=>rw[q]at h;cases h;exact QtT (Qhf ok.toCtxB q)
    | none=>
      rw[q]at h;dsimp only at h;split at h
      · rename_i hg
        refine mapR h λi hi=>?_;obtain⟨g1,g2,g3⟩:=QcK ok.toCtxB hg;obtain⟨t,hm⟩:=ok.cs x i hi;exact QkL (v:= .int i) (QxN g1 hm ⟨t,rfl⟩ g2) (λ_ _=> .int_mk) rfl
      · cases h
  | Constant c k pos=>
    cases c with
    | int i=>(conv at h=>lhs;whnf);cases h;exact QkL QtC (λ_ _=> .int_mk) rfl
    | bool b=>(conv at h=>lhs;whnf);cases h;exact QkL QwH (λ_ _=> .QbD) rfl
    | none=>(conv at h=>lhs;whnf);cases h;exact QkL QzA (λ_ _=> .QlI) rfl
    | str x=>(conv at h=>lhs;whnf);cases h;exact QkL QzO (λ_ _=> .str_mk) rfl
    | _=>exact nn h
  | BinOp a op b pos=>
    (conv at h=>lhs;whnf)
    refine Ql h λfa h1 h=>?_;refine Ql h λfb h2 h=>?_;have ha:=ih.E X Y a fa ok h1;have hb:=ih.E X Y b fb ok h2;cases op with
    | Add=>cases h;exact QsZ ha hb
    | Mult=>cases h;exact Qz1 ha hb
    | Sub=>cases h;exact QnM QBn Qum ha hb
    | FloorDiv=>cases h;exact QnM Qxn Qzr ha hb
    | Mod=>cases h;exact QnM QxM QAY ha hb
    | Pow=>cases h;exact QnM Qys QBb ha hb
    | _=>cases h
  | UnaryOp op a pos=>
    cases op with
    | USub=>
      (conv at h=>lhs;whnf)
      refine mapR h λfa h1=>?_;exact QAK (ih.E X Y a fa ok h1)
    | Not=>
      (conv at h=>lhs;whnf)
      refine mapR h λfa h1=>?_;exact Qta (ih.E X Y a fa ok h1)
    | _=>exact nn h
  | BoolOp op es pos=>
    cases op with
    | And=>
      match es,h with
      | [],h=>exact nn h
      | [a],h=>(conv at h=>lhs;whnf);exact QoB (ih.E X Y a f ok h)
      | a::b::r,h=>
        (conv at h=>lhs;whnf)
        refine bindR h λfa fb h1 h2=>?_;exact Qtu (ih.E X Y a fa ok h1) (ih.E X Y _ fb ok h2)
    | Or=>
      match es,h with
      | [],h=>exact nn h
      | [a],h=>(conv at h=>lhs;whnf);exact QoB (ih.E X Y a f ok h)
      | a::b::r,h=>
        (conv at h=>lhs;whnf)
        refine bindR h λfa fb h1 h2=>?_;exact QBQ (ih.E X Y a fa ok h1) (ih.E X Y _ fb ok h2)
  | Compare a ops bs pos=>
    match ops,bs,h with
    | [op],[b],h=>
      (conv at h=>lhs;whnf)
      refine Ql h λfa h1 h=>?_;refine bindR h λfb g h2 h3=>?_;obtain⟨r,o1,o2,_⟩:=QsI ok h3;exact Qzm o1 o2 (ih.E X Y a fa ok h1) (ih.E X Y b fb ok h2) (QtA h2 op)
    | [],_,h=>exact nn h
    | [_],[],h=>exact nn h
    | [_],_::_::_,h=>exact nn h
    | _::_::_,_,h=>exact nn h
  | Tuple es k pos=>
    (conv at h=>lhs;whnf)
    refine mapR h λfs h1=>?_;exact QAi (ih.A X Y es fs ok h1)
  | List es pos=>
    (conv at h=>lhs;whnf)
    refine mapR h λfs h1=>?_;exact Qug (ih.A X Y es fs ok h1)
  | Subscript a b pos=>
    by_cases hb:∃lo hi p2,b= .Slice lo hi none p2
    · obtain⟨lo,hi,p2,rfl⟩:=hb
      (conv at h=>lhs;whnf)
      refine Ql h λfa h1 h=>?_;refine bindR h λfl fh h2 h3=>?_;exact QzP (ih.E X Y a fa ok h1) (ih.O X Y lo fl ok h2) (ih.O X Y hi fh ok h3)
    · by_cases hk:∃k p2,b= .Slice none none (some k) p2
      · obtain⟨k,p2,rfl⟩:=hk
        (conv at h=>lhs;whnf)
        refine bindR h λfa fk h1 h2=>?_;exact QAR (ih.E X Y a fa ok h1) (ih.E X Y k fk ok h2)
      · have h':((Qv n Y a).bind λfa=>(Qv n Y b).map λfb=>Qf fa fb)=some f:=by
          cases b<;>first
            | (exact h)
            | (rename_i lo hi st p2;cases lo<;>cases hi<;>cases st<;>first | (exact absurd ⟨_,_,_,rfl⟩ hb) | (exact absurd ⟨_,_,rfl⟩ hk) | (exact h))
        refine bindR h' λfa fb h1 h2=>?_;exact QAQ (ih.E X Y a fa ok h1) (ih.E X Y b fb ok h2) (Qrd h2)
  | Call fn args kws pos=>
    cases fn with
    | Name x p=>
     cases kws with
     | cons k ks=>exact nn h
     | nil=>
      have h:(if Y.gl x then(match look x Y.Γ with | some r=>if r.n<=args.length+r.dfl.length/\args.length<=r.n then(Qb2 n Y args).map λfs=>Qm r.n r.den (r.dfl.drop (r.dfl.length-(r.n-args.length))) fs else none | none=>QnS n Y x args)else none)=some f:=h;split at h
      · rename_i hg
        obtain⟨g1,g2,g3⟩:=QcK ok.toCtxB hg;split at h
        · rename_i r hr
          split at h
          · rename_i hn
            refine mapR h λfs h1=>?_;obtain⟨k,fa,fd,ps,F1,F2,F3,F4,F5⟩:=ok.fns x r hr;obtain⟨ds,dvs,b1,b2,b3⟩:=F5 (r.n-args.length) ⋯;cases args with
            | nil=>
              cases n with
              | zero=>simp[Qb2]at h1
              | succ n=>
                simp only[Qb2]at h1;cases h1;exact QwF F1 F2 g1 F3 F4 b1 b2 b3 g2
            | cons e es=>
              obtain⟨s1,s2⟩:=callArgs (X:=X) h1 rfl pos;exact Qw7 F1 F2 g1 F3 F4 b1 b2 b3 (ih.A X Y _ fs ok h1) g2 s1 s2
          · cases h
        · exact ih.B X Y x args f p pos ok hg h
      · cases h
    | _=>exact nn h
  | ListComp elt gens scope pos=>
    match gens,h with
    | [⟨tg,iter,ifs,k⟩],h=>
      by_cases hk:k=0
      · subst hk
        (conv at h=>lhs;whnf)
        refine Ql h λt ht h=>?_;split at h
        · rename_i hc
          simp only[Zp]at hc;refine Ql h λfi h1 h=>?_;refine bindR h λft fe h2 h3=>?_;obtain⟨S,cap,inn⟩:=QkC ok hc.1;obtain⟨i1,i2⟩:=ih.I X Y tg iter fi ok h1;exact QxZ ok.calm S i1 cap (λcl C fp s3 H3=>⟨QlR (inn cl C fp s3 H3) ht,ih.Ts _ _ ifs ft (inn cl C fp s3 H3) h2,ih.E _ _ elt fe (inn cl C fp s3 H3) h3⟩) i2
        · cases h
      · exfalso
        cases k with
        | ofNat k=>
          cases k with
          | zero=>exact hk rfl
          | succ k=>exact nn h
        | negSucc k=>exact nn h
    | [],h=>exact nn h
    | ⟨_,_,_,.ofNat 0⟩::_::_,h=>exact nn h
    | ⟨_,_,_,.ofNat (k+1)⟩::_::_,h=>exact nn h
    | ⟨_,_,_,.negSucc k⟩::_::_,h=>exact nn h
  | _=>exact nn h
def Qzi(ok:Qaf X Y)(g1:Gl X x)(sa:SA X [a] (Qa fa Qb))(st:starEach [a] X.env=(false,eval a X.env)::starEach [] X.env)(h:bf1 x fa=some f):SE X (.Call (.Name x p) [a] [] pos) f:=by
 unfold bf1 at h;by_cases e:x= "len"
 .rw[if_pos e]at h;cases h;subst e;have hm:=ok.mg "len" nofun;exact Qgj QoF QzU g1 hm PySem.boot_len sa ∅ ∅ st rfl
 rw[if_neg e]at h;clear e;by_cases e:x= "list"
 .rw[if_pos e]at h;cases h;subst e;have hm:=ok.mg "list" nofun;exact QxQ g1 hm sa st rfl
 rw[if_neg e]at h;clear e;by_cases e:x= "min"
 .rw[if_pos e]at h;cases h;subst e;have hm:=ok.mg "min" nofun;exact Qgj (Qs8 ok.calm) Qxi g1 hm PyProof.Rows.boot_min sa ∅ ∅ st rfl
 rw[if_neg e]at h;clear e;by_cases e:x= "max"
 .rw[if_pos e]at h;cases h;subst e;have hm:=ok.mg "max" nofun;exact Qgj (Qte ok.calm) QxP g1 hm PyProof.Rows.boot_max sa ∅ ∅ st rfl
 rw[if_neg e]at h;clear e;by_cases e:x= "sum"
 .rw[if_pos e]at h;cases h;subst e;have hm:=ok.mg "sum" nofun;exact Qgj (Quc ok.calm) QyC g1 hm PyProof.Rows.boot_sum sa ∅ ∅ st rfl
 rw[if_neg e]at h;clear e;by_cases e:x= "int"
 .rw[if_pos e]at h;cases h;subst e;have hm:=ok.mg "int" nofun;exact QBp Qs2 Qzj g1 hm PyProof.Rows.boot_int sa ∅ ∅ st rfl
 rw[if_neg e]at h;clear e;by_cases e:x= "sorted"
 .rw[if_pos e]at h;cases h;subst e;have hm:=ok.mg "sorted" nofun;exact QyD g1 hm sa st rfl
 rw[if_neg e]at h;clear e;by_cases e:x= "all"
 .rw[if_pos e]at h;cases h;subst e;have hm:=ok.mg "all" nofun;exact Qgj (Qtz ok.calm) Qyz g1 hm PyProof.Rows.boot_all sa ∅ ∅ st rfl
 rw[if_neg e]at h;clear e;by_cases e:x= "any"
 .rw[if_pos e]at h;cases h;subst e;have hm:=ok.mg "any" nofun;exact Qgj (QsL ok.calm) Qxu g1 hm PyProof.Rows.boot_any sa ∅ ∅ st rfl
 rw[if_neg e]at h;clear e;cases h
def Qz8(ok:Qaf X Y)(g1:Gl X x)(sa:SA X [a,b] (Qa fa (Qa fb Qb)))(st:starEach [a,b] X.env=(false,eval a X.env)::starEach [b] X.env)(pl:(backTo pos (starEach [b] X.env)).any (·.1)=false)(h:bf2 x fa fb=some f):SE X (.Call (.Name x p) [a,b] [] pos) f:=by
 unfold bf2 at h;by_cases e:x= "min"
 .rw[if_pos e]at h;cases h;subst e;have hm:=ok.mg "min" nofun;exact Qgj (Quj ok.calm) QxI g1 hm PyProof.Rows.boot_min sa ∅ ∅ st pl
 rw[if_neg e]at h;clear e;by_cases e:x= "max"
 .rw[if_pos e]at h;cases h;subst e;have hm:=ok.mg "max" nofun;exact Qgj (Qto ok.calm) Qxb g1 hm PyProof.Rows.boot_max sa ∅ ∅ st pl
 rw[if_neg e]at h;clear e;cases h
def QBC(ih:QkW n):∀X Y x args f p pos,Qaf X Y->Y.gl x=true->QnS (n+1) Y x args=some f->SE X (.Call (.Name x p) args [] pos) f:=by
 intro X Y x args f p pos ok hg h;obtain⟨g1,g2,g3⟩:=QcK ok.toCtxB hg
 match args,h with
 | [],h=>exact nn h
 | [a],h=>
  change(match Qkv Y x a with | some b=>(Qv n Y b).map Qgh | none=>_)=some f at h;split at h
  .rename_i b hr;refine mapR h λfb h1=>?_;unfold Qkv at hr;split at hr
   .rename_i y p' b' pos';split at hr
    .rename_i hc;cases hr;obtain⟨c1,c2,c3,_⟩:=hc;subst c1;subst c2;obtain⟨y1,y2,y3⟩:=QcK ok.toCtxB c3;exact Qyi g1 (ok.mg _ nofun) y1 (ok.mg _ nofun) ok.calm (ih.E X Y b fb ok h1) (Qbd h1 [] X.env)
    .cases hr
   .cases hr
  change(match setArg Y x a with | some b=>(Qv n Y b).map Qjj | none=>_)=some f at h;split at h
  .rename_i b hr;refine mapR h λfb h1=>?_;unfold setArg at hr;split at hr
   .rename_i y p' b' pos';split at hr
    .rename_i hc;cases hr;obtain⟨c1,c2,c3,_⟩:=hc;subst c1;subst c2;obtain⟨y1,y2,y3⟩:=QcK ok.toCtxB c3;exact QyH g1 (ok.mg _ nofun) y1 (ok.mg _ nofun) ok.calm (ih.E X Y b fb ok h1) (Qbd h1 [] X.env)
    .cases hr
   .cases hr
  change((Qv n Y a).bind λfa=>bf1 x fa)=some f at h;refine Ql h λfa h1 h=>?_;have ha:=ih.E X Y a fa ok h1;have st:=Qbd h1 [] X.env;exact Qzi ok g1 (QfE ha Qjf st) st h
 | [a,b],h=>
  change(if x= "isinstance" then(Qv n Y a).bind λfa=>(match b with | .Name y _=>if Y.gl y then(QuL y).map λT=>Qmz T fa else none | _=>none)else(Qv n Y a).bind λfa=>(Qv n Y b).bind λfb=>bf2 x fa fb)=some f at h;split at h
  .rename_i e;refine Ql h λfa h1 h=>?_;have ha:=ih.E X Y a fa ok h1;split at h
   .rename_i y p2;split at h
    .rename_i hy;refine mapR h λT hT=>?_;obtain⟨y1,y2,y3⟩:=QcK ok.toCtxB hy;clear h;subst e;refine Qzk g1 (ok.mg _ nofun) ha ?_ (Qbd h1 _ X.env);unfold QuL at hT;split at hT
     .rename_i e;cases hT;subst e;exact QgZ y1 (ok.mg _ nofun) PyProof.Rows.boot_int rfl
     .split at hT
      .rename_i e;cases hT;subst e;exact QgZ y1 (ok.mg _ nofun) PyProof.Rows.boot_bool rfl
      .split at hT
       .rename_i e;cases hT;subst e;exact QgZ y1 (ok.mg _ nofun) ZbB rfl
       .split at hT
        .rename_i e;cases hT;subst e;exact QgZ y1 (ok.mg _ nofun) PyProof.Rows.boot_tuple rfl
        .split at hT
         .rename_i e;cases hT;subst e;exact QgZ y1 (ok.mg _ nofun) PyProof.Rows.boot_str rfl
         .cases hT
    .cases h
   .cases h
  .refine Ql h λfa h1 h=>?_;refine Ql h λfb h2 h=>?_;have ha:=ih.E X Y a fa ok h1;have hb:=ih.E X Y b fb ok h2;have sb:SA X [b] (Qa fb Qb):=QfE hb Qjf (Qbd h2 [] X.env);have sa:SA X [a,b] (Qa fa (Qa fb Qb)):=QfE ha sb (Qbd h1 [b] X.env);have pl:(backTo pos (starEach [b] X.env)).any (·.1)=false:=by rw[Qbd h2 [] X.env];rfl
   exact Qz8 ok g1 sa (Qbd h1 [b] X.env) pl h
 | _::_::_::_,h=>exact nn h
def QBH{n:Nat}(ih:QkW n):∀X Y e f,Qaf X Y->Qbo (n+1) Y e=some f->ST X e f:=by
 intro X Y e f ok h;have dflt:(Qv n Y e).map Qs=some f->(∀whole,isTrue e X.env whole=(do let v ← whole;standAt e.pos;holding [v] (truthy v)))->ST X e f:=λh he=>by
  refine mapR h λfa h1=>?_;exact QAS (ih.E X Y e fa ok h1) he
 cases e with
 | UnaryOp op a pos=>
  cases op with
  | Not=>
   change(Qbo n Y a).map QbG=some f at h;refine mapR h λfa h1=>?_;exact QAr (ih.T X Y a fa ok h1)
  | _=>exact dflt h λ_=>rfl
 | BoolOp op es pos=>
  cases op with
  | And=>
   match es,h with
   | [],h=>exact nn h
   | [a],h=>exact(QyG (ih.T X Y a f ok h)).st
   | a::b::r,h=>
    change((Qbo n Y a).bind λfa=>(Qbo n Y (.BoolOp .And (b::r) pos)).map λfb=>QdQ fa fb)=some f at h;refine bindR h λfa fb h1 h2=>?_;have hb:=ih.T X Y _ fb ok h2;exact(QzZ (ih.T X Y a fa ok h1) (λH0 A0 wh pins s σ H Q I q=>by have:=hb H0 A0 pins s σ H Q I q;exact this)).st
  | Or=>
   match es,h with
   | [],h=>exact nn h
   | [a],h=>exact(Qz9 (ih.T X Y a f ok h)).st
   | a::b::r,h=>
    change((Qbo n Y a).bind λfa=>(Qbo n Y (.BoolOp .Or (b::r) pos)).map λfb=>bOr fa fb)=some f at h;refine bindR h λfa fb h1 h2=>?_;have hb:=ih.T X Y _ fb ok h2;exact(QB8 (ih.T X Y a fa ok h1) (λH0 A0 wh pins s σ H Q I q=>by have:=hb H0 A0 pins s σ H Q I q;exact this)).st
 | Compare a ops bs pos=>
  match ops,bs,h with
  | [op],[b],h=>
   change((Qv n Y a).bind λfa=>(Qv n Y b).bind λfb=>(QrD op).map λg=>Qs (dOp g fa fb))=some f at h;refine Ql h λfa h1 h=>?_;refine bindR h λfb g h2 h3=>?_;obtain⟨r,o1,o2,o3⟩:=QsI ok h3;exact QAI o1 o2 o3 (ih.E X Y a fa ok h1) (ih.E X Y b fb ok h2) (QtA h2 op)
  | [],_,h=>exact nn h
  | [_],[],h=>exact nn h
  | [_],_::_::_,h=>exact nn h
  | _::_::_,_,h=>exact nn h
 | IfExp c a b pos=>exact nn h
 | _=>exact dflt h λ_=>rfl
def QCo(ih:QkW n):∀X Y tg e f,Qaf X Y->QhA (n+1) Y tg e=some f->SI X tg e f/\∀x,foldedSetIterable e X.env x=pure x:=by
 intro X Y tg e f ok h;have dflt:(Qv n Y e).map QT=some f->SI X tg e f/\∀x,foldedSetIterable e X.env x=pure x:=λh=>by
  obtain⟨fa,h1,rfl⟩:=Zf.mp h;exact⟨QAX (ih.E X Y e fa ok h1),QAn h1 X.env⟩
 cases e with
 | Call fn args kws pos=>
  cases fn with
  | Name x p=>
   cases kws with
   | cons k ks=>exact dflt h
   | nil=>
    change @ite _ _ _ _ _=_ at h;split at h
    .rename_i hg;simp only[Zp]at hg;obtain⟨g1,g2,g3⟩:=QcK ok.toCtxB hg.1
     match args,h with
     | [],h=>exact dflt h
     | [a],h=>
      dsimp only at h;by_cases er:x= "range"
      .rw[if_pos er]at h;obtain⟨fa,h1,rfl⟩:=Zf.mp h;subst er;exact⟨Quy g1 (ok.mg _ nofun) (ih.E X Y a fa ok h1) (Qbd h1 [] X.env),λ_=>rfl⟩
      rw[if_neg er]at h;by_cases ez:x= "enumerate"
      .rw[if_pos ez]at h;split at h
       .rename_i ht;obtain⟨fa,h1,rfl⟩:=Zf.mp h;subst ez;cases tg with
        | Tuple es k tp=>exact⟨QyZ g1 (ok.mg _ nofun) (ih.E X Y a fa ok h1) (Qbd h1 [] X.env),λ_=>rfl⟩
        | _=>exact nomatch (show false=true from ht)
       .cases h
      rw[if_neg ez]at h;exact dflt h
     | [a,b],h=>
      dsimp only at h;by_cases er:x= "range"
      .rw[if_pos er]at h;obtain⟨fa,fb,h1,h2,rfl⟩:=Qb0 h;subst er;exact⟨Qtr g1 (ok.mg _ nofun) (ih.E X Y a fa ok h1) (ih.E X Y b fb ok h2) (by rw[Qbd h1 [b] X.env,Qbd h2 [] X.env];rfl) (Qbd h2 [] X.env),λ_=>rfl⟩
      rw[if_neg er]at h;by_cases ez:x= "zip"
      .rw[if_pos ez]at h;split at h
       .rename_i ht;obtain⟨fa,fb,h1,h2,rfl⟩:=Qb0 h;subst ez;cases tg with
        | Tuple es k tp=>exact⟨QA5 g1 (ok.mg _ nofun) (ih.E X Y a fa ok h1) (ih.E X Y b fb ok h2) (by rw[Qbd h1 [b] X.env,Qbd h2 [] X.env];rfl) (Qbd h2 [] X.env),λ_=>rfl⟩
        | _=>exact nomatch (show false=true from ht)
       .cases h
      rw[if_neg ez]at h;exact dflt h
     | [a,b,c],h=>
      dsimp only at h;exact dflt h
     | _::_::_::_::_,h=>exact dflt h
    .exact dflt h
  | _=>exact dflt h
 | _=>exact dflt h
def Qcn:∀n,QkW n
 | 0=>⟨λ_ _ _ _ _ h=>(nn h),λ_ _ _ _ _ _ _ _ _ h=>(nn h),λ_ _ _ _ _ h=>(nn h),λ_ _ _ _ _ h=>(nn h),λ_ _ _ _ _ h=>(nn h),λ_ _ _ _ _ h=>(nn h),λ_ _ _ _ _ _ h=>(nn h)⟩
 | n+1=>by
  have ih:=Qcn n;refine⟨QBy ih,QBC ih,QBH ih,λX Y e f ok h=>?_,λX Y e f ok h=>?_,λX Y e f ok h=>?_,QCo ih⟩
  .match e,h with
   | [],h=>simp only[Qg8]at h;cases h;exact Qvh
   | [c],h=>simp only[Qg8]at h;exact Qu0 (ih.T X Y c f ok h)
   | _::_::_,h=>simp only[Qg8]at h;cases h
  .match e,h with
   | [],h=>simp only[Qb2]at h;cases h;exact Qjf
   | e::es,h=>
    simp only[Qb2]at h;refine bindR h λfa fs h1 h2=>?_;exact QfE (ih.E X Y e fa ok h1) (ih.A X Y es fs ok h2) (Qbd h1 es X.env)
  .match e,h with
   | none,h=>simp only[QkV]at h;cases h;exact Qxr
   | some e,h=>
    simp only[QkV]at h;refine mapR h λfa h1=>?_;exact Qxm (ih.E X Y e fa ok h1)
section
noncomputable def Qu:DS:=λ_=>none
def Qvj:S1 X st Qu:=λH0 A0=>QuS.mono λE σ H ⟨U,hs,F,o,rel,e,q⟩=>by cases e
def QhF:∀{n:Nat}{U:En}{o:Out},Qbk g fb n U=some o->Qbk g fb (n+1) U=some o
 | 0,_,_,h=>by cases h
 | n+1,U,o,h=>by
  unfold Qbk at h ⊢;refine Ql h λb hb h=>?_;rw[hb];cases b with
  | false=>exact h
  | true=>
   rw[if_pos rfl]at h;refine Ql h λo1 ho h=>?_;rw[Za,if_pos rfl,ho];cases o1 with
   | nx U2=>exact QhF h
   | ct U2=>exact QhF h
   | bk U2=>exact h
   | rt d fr=>exact h
def Qpy(h:Qbk g fb n U=some o)(hm:n<=m):Qbk g fb m U=some o:=by
 induction hm with
 | refl=>exact h
 | step _ ih=>exact QhF ih
open Classical in
noncomputable def QdH(g:DT)(fb:DS):DS:=λU=>if h:∃n,(Qbk g fb n U).isSome=true then Qbk g fb h.choose U else none
def QdA:QdH g fb U=some o↔∃n,Qbk g fb n U=some o:=by
 unfold QdH;constructor
 .intro h;split at h
  .exact⟨_,h⟩
  .cases h
 .rintro⟨n,h⟩;have hx:∃n,(Qbk g fb n U).isSome=true:=⟨n,by rw[h];rfl⟩;rw[dif_pos hx];obtain⟨o',ho'⟩:=Zcl.mp hx.choose_spec;have h1:=Qpy h (Nat.le_max_left n hx.choose);have h2:=Qpy ho' (Nat.le_max_right n hx.choose);rw[h1]at h2;rw[ho',← h2]
def QtY(hp:PassesOwn (model X.prog X.w) X.A X.env X.xe)(hc:ST X c gc)(hb:SS X body f):S1 X (.While c body [] pos) (QdH gc f):=λH0 A0 pins s σ H D I h=>by
 obtain⟨U,hs,F,o,rel,e,q⟩:=h;obtain⟨n,hn⟩:=QdA.mp e;exact QvW (n:=n) hp hc hb H0 A0 pins s σ H D I ⟨U,hs,F,o,rel,hn,q⟩
def Qt9(g:DT)(fb:DS)(U:En):QdH g fb U=(g U).bind λb=>if b=true then(fb U).bind λo=>match o with
  | .nx U2=>QdH g fb U2
  | .ct U2=>QdH g fb U2
  | .bk U2=>some (.nx U2)
  | .rt d fr=>some (.rt d fr)
  else some (.nx U):=by
 apply Option.ext;intro o;rw[QdA];constructor
 .rintro⟨n,h⟩;cases n with
  | zero=>cases h
  | succ n=>
   unfold Qbk at h;refine Ql h λb hb h=>?_;rw[hb];cases b with
   | false=>exact h
   | true=>
    rw[if_pos rfl]at h;refine Ql h λo1 ho h=>?_;rw[Za,if_pos rfl,ho];cases o1 with
    | nx U2=>exact QdA.mpr ⟨n,h⟩
    | ct U2=>exact QdA.mpr ⟨n,h⟩
    | bk U2=>exact h
    | rt d fr=>exact h
 .intro h;refine Ql h λb hb h=>?_;cases b with
  | false=>exact⟨1,by unfold Qbk;rw[hb];exact h⟩
  | true=>
   rw[if_pos rfl]at h;refine Ql h λo1 ho h=>?_;cases o1 with
   | nx U2=>
    obtain⟨n,hn⟩:=QdA.mp h;exact⟨n+1,by unfold Qbk;rw[hb];rw[Za,if_pos rfl,ho];exact hn⟩
   | ct U2=>
    obtain⟨n,hn⟩:=QdA.mp h;exact⟨n+1,by unfold Qbk;rw[hb];rw[Za,if_pos rfl,ho];exact hn⟩
   | bk U2=>exact⟨1,by unfold Qbk;rw[hb];rw[Za,if_pos rfl,ho];exact h⟩
   | rt d fr=>exact⟨1,by unfold Qbk;rw[hb];rw[Za,if_pos rfl,ho];exact h⟩
noncomputable def Qlb(t:Tg)(fa:DE):DS:=λU=>(fa U).bind λr=>(Qbv t r.d (QaV r.norm.M U)).map .nx
def QxJ(he:SE X e fa)(hg:SG X tg t)(hs:swapsWithSole [tg] e pos.line X.env=pure false)(hw:swappedStores [tg] e X.env=pure none)(h1:(assignEach [tg] X.env).map (·.2)=[assign tg X.env]):
  S1 X (.Assign [tg] e pos) (Qlb t fa):=λH0 A0=>(QlB (he H0 A0) (hg H0 A0) hs hw h1).mono λE σ H=>exK λU hs F o rel e q=>by
 refine Ql e λr e1 e=>?_;obtain⟨U',e2,rfl⟩:=Zf.mp e;refine⟨U,hs,F,r,rel,e1,λv H' G p=>?_⟩;have p':=p.norm;have rp:=p'.rp;rw[r.Qdc]at rp;exact⟨QaV r.norm.M U,hs,F,r.d,G,U',(rel.ext p'.same).weak (Qa9 _ _),rp,Shr.of rel p'.src,e2,λσ' F' rel' _ _=>q _ _ F' rel'⟩
def QxX(hN:X.N.Nodup)(hx1:X.N[i]? =some x)(hx:Loc X.env.scope x)(hf:X.fn x=true∨X.env.scope.names.lookup x=some .local)
  (hcalm:X.calm=true) (S:Qe9 X N' scope) (hi:SI X tg iter fi) (hcap:QnV X N' scope cap t.slots)
  (hin:∀cl C fp s3 H3,SG (cxc X N' scope cl C fp s3 H3) tg t/\Qo8 (cxc X N' scope cl C fp s3 H3) ifs ft/\SE (cxc X N' scope cl C fp s3 H3) elt fe) (hs:∀x,foldedSetIterable iter X.env x=pure x):
  S1 X (.Assign [.Name x pos'] (.ListComp elt [⟨tg,iter,ifs,0⟩] scope pos) spos) (Qy i (QO fi t cap ft fe)):=
 Qlu λH0 A0=>(Qxd hN hx1 hx hf hcalm S (hi H0 A0) (λcl C fp s3 H3=>⟨(hin cl C fp s3 H3).1 _ _,(hin cl C fp s3 H3).2.1 _ _,(hin cl C fp s3 H3).2.2 _ _⟩) hs).mono λE σ H h=>Qnb hcap h
end
end HS
namespace HS
open PySem PySem.Spec L2 PyProof.Rows
section
variable {X:Cx}{a b e:Expr}{fa fb:DE}{pf:DP}{x:Nat}{pos apos:Pos}
end
noncomputable def QfD:Expr->Bool
 | .ListComp .. =>false
 | .SetComp .. =>false
 | .DictComp .. =>false
 | _=>true
def QdU(h:QfD e=true):swapsWith e t l env=pure false:=by
 cases e<;>first | rfl | cases h
noncomputable def QsJ:Expr->Bool
 | .Tuple .. =>true
 | _=>false
noncomputable def QeW(n:Nat)(Y:Th)(e:Expr):Option (Nat×DP):=match n with
 | 0=>none
 | n+1=>match e with
  | .Name x _=>(Y.slot x).map λi=>(i,Qak)
  | .Subscript a b _=>(QeW n Y a).bind λq=>(Qv n Y b).map λfb=>(q.1,QjD q.2 fb)
  | _=>none
def QhI:∀(n:Nat) (X:Cx) (Y:Th) (e:Expr) (q:Nat×DP),Qaf X Y->QeW n Y e=some q->SPa X e q.1 q.2/\attributeBase e=λ_ env w=>w
 | 0,_,_,_,_,_,h=>(nn h)
 | n+1,X,Y,e,q,ok,h=>by
  cases e with
  | Name x pos=>
   change Option.map _ _=_ at h;obtain⟨i,hi,rfl⟩:=Zf.mp h;exact⟨QwB (Qhf ok.toCtxB hi),by funext a b c;rfl⟩
  | Subscript a b pos=>
   change Option.bind _ _=_ at h;obtain⟨q',fb,h1,h2,rfl⟩:=Qb0 h;exact⟨QxE (QhI n X Y a q' ok h1).1 ((Qcn n).E X Y b fb ok h2) (Qrd h2),by funext a b c;rfl⟩
  | _=>exact nn h
noncomputable def Qjk:Expr->Bool
 | .Name .. =>true
 | .Subscript _ (.Slice ..) _=>false
 | .Subscript (.Call ..) _ _=>false
 | .Subscript .. =>true
 | _=>false
noncomputable def Qvt:Operator->Option (D->D->Option D)
 | .Add=>some (gI λi j=>some (.int (i+j)))
 | .Sub=>some Qa6
 | _=>none
def QBr(h:Qvt op=some g):∃r,OpR X (inplaceOp op) r/\QcF X.K g r:=by
 cases op<;>cases h
 .exact⟨_,Qx6,Qhr (λi j d e=>by cases e;rfl) λi j d e H Q q=>by cases e;exact⟨i,j,rfl,rfl,q _ λ_=> .int_mk⟩⟩
 .exact⟨_,QxF,Qum⟩
noncomputable def Qw6:Expr->Bool
 | .Slice .. =>true
 | _=>false
noncomputable def Qlm(n:Nat)(Y:Th)(o:Expr)(m:Str)(args:List Expr):Option DS:=match args with
  | []=>(QeW n Y o).bind λq=>
    none
  | [e]=>if m= "append" then
     ((QeW n Y o).bind λq=>(Qv n Y e).map λfa=>Qb5 q.1 q.2 fa)
    else
    none
  | _=>none
def Qvn(ok:Qaf X Y)(h:Qlm n Y o m args=some f)(hl:(apos.endLine == cpos.line)=true):
  S1 X (.Expr (.Call (.Attribute o m apos) args [] cpos) pos) f:=by
 have base:∀{q:Nat×DP},QeW n Y o=some q->SPa X o q.1 q.2/\attributeBase o m X.env (eval o X.env)=eval o X.env:=λ{q} h1=>by
  obtain⟨sp,ab⟩:=QhI n X Y o _ ok h1;exact⟨sp,by rw[ab]⟩
 have app:∀{e:Expr}{f:DS},m= "append" ->((QeW n Y o).bind λq=>(Qv n Y e).map λfa=>Qb5 q.1 q.2 fa)=some f->S1 X (.Expr (.Call (.Attribute o m apos) [e] [] cpos) pos) f:=λ{e f} em h=>by
  obtain⟨q,fa,h1,h2,rfl⟩:=Qb0 h;obtain⟨sp,hb⟩:=base h1;subst em;have he:=(Qcn n).E X Y e fa ok h2;have st:=Qbd h2 [] X.env;have sa:∀H0 A0,PA X [e] (Qr9 (tV X.K H0 A0 fa) QrA):=λH0 A0=>Qbh (he H0 A0) Qde st;exact λH0 A0=>(QmC (QBK PySem.F.plainAttrs_list PySem.F.slot_list_append PySem.F.type_list_append Qm5 (sp H0 A0) (sa H0 A0) hb (by rw[st];rfl) hl st rfl) rfl).mono λE σ H q=>QuX q
 match args,h with
 | [],h=>
  unfold Qlm at h;dsimp only at h;obtain⟨⟨x,pf⟩,h1,h⟩:=bind1 h;obtain⟨sp,hb⟩:=base h1;cases h
 | [e],h=>
  unfold Qlm at h;dsimp only at h;by_cases em:m= "append"
  .rw[if_pos em]at h;exact app em h
  rw[if_neg em]at h;clear em;clear app;cases h
 | _::_::_,h=>exact nn h
noncomputable def Qrh(x:Nat)(fy f1 g1 f2 g2:DE)(U:En):Option Out:=if x<U.length then(fy U).bind λry=>match ry.d with
 | .lst ds=>(g1 U).bind λr1=>(f1 U).bind λk1=>(g2 U).bind λr2=>(f2 U).bind λk2=>match k1.d,k2.d with
  | .int i1,.int i2=>(ixN ds.length i1).bind λj1=>(ixN ds.length i2).bind λj2=>some (.nx ((QaV (ry.M++(r1.M++r2.M)) U).set x (some (.lst ((ds.set j1 r1.d).set j2 r2.d),false))))
  | _,_=>none
 | _=>none else none
noncomputable def Qke(x:Nat)(fy f1 g1 f2 g2:DE):DS:=λU=>Qrh x fy f1 g1 f2 g2 (U.set x none)
section
variable {K:Fgg}{H0 H H':Hp}{A0:LAd}{hs:List (V×D×List Addr)}{U:En}{F:Nat->List Addr}{σ:L2.St}
def Rel.QqZ(rel:Rel K H0 A0 hs U F σ H){a:Addr}{zs ys:List V}(ha:H a=some (.lst zs))(h0:H0 a=none)(hn:∀(i:Nat) d b,U[i]? =some (some (d,b))->a∉F i)(hh:∀t∈hs,a∉t.2.2):Rel K H0 A0 hs U F σ (upd H a (.lst ys)) where
 len:=rel.len
 val:=λi d b e=>by
  obtain⟨v,h1,h2⟩:=rel.val i d b e;exact⟨v,h1,h2.upd ha (hn i d b e)⟩
 own:=rel.own
 src:=rel.src
 held:=λt ht=>⟨(rel.held t ht).1.upd ha (hh t ht),(rel.held t ht).2⟩
 same:=λb o hb=>by
  have:b≠a:=λz=>by rw[z,h0]at hb;cases hb
  rw[QP this];exact rel.same b o hb
def Rel.put(rel:Rel K H0 A0 hs U F σ H){i:Nat}{v:V}(hi:∀d b,U[i]? ≠some (some (d,b))):Rel K H0 A0 hs U F (σ.set i (some v)) H:=
 ⟨by simpa using rel.len,λj d b e=>by
  obtain⟨w,h1,h2⟩:=rel.val j d b e;have hj:i≠j:=λz=>hi d b (z▸e);exact⟨w,by rw[Zm hj];exact h1,h2⟩,rel.own,rel.src,rel.held,rel.same⟩
def Src.more(s:Src U F H M G)(h:∀i∈M,i∈M'):Src U F H M' G:=λa ha=>by
 rcases s a ha with z | ⟨i,d,b,e,m,w⟩
 .exact .inl z
 .exact .inr ⟨i,d,b,e,m,λhb=>h i (w hb)⟩
end
section
variable {X:Cx}{st1 st2 st3:Stmt}{sts:List Stmt}{x:Nat}{fy f1 g1 f2 g2:DE}{g:DS}
def QBh(p1:∀H0 A0,PS X st1 (Qiq (λσ H Q=>tVA X.K H0 A0 (Qa fy Qb) σ H λxs H1=>∃p ys,xs=[.ref p]/\(SqL X.K H1 p ys∨SqT X.K H1 p ys)/\∀l,H1 l=none->Q (.ref l) (upd H1 l (.lst ys))) (QhS x)))
  (p2:∀H0 A0,PS X st2 (Qiq (tV X.K H0 A0 g1) (L2.Qa6 (Ql1 x) (tV X.K H0 A0 f1) QnQ))) (p3:∀H0 A0,PS X st3 (Qiq (tV X.K H0 A0 g2) (L2.Qa6 (Ql1 x) (tV X.K H0 A0 f2) QnQ))) (h:SS X sts g):
  SS X (st1::st2::st3::sts) (Qc (Qke x fy f1 g1 f2 g2) g):=λH0 A0=>
 (QfP (p1 H0 A0) (QfP (p2 H0 A0) (QfP (p3 H0 A0) (h H0 A0)))).mono λE σ H=>exK λU hs F o rel e q=>by
 refine Ql e λo1 e1 e=>?_;unfold Qke Qrh at e1;split at e1
 case isFalse=>cases e1
 rename_i hx;have hr0:∀d b,(U.set x none)[x]? ≠some (some (d,b)):=λd b z=>by
  rw[Zw (by simpa using hx)]at z;cases z
 have rel0:=rel.weak (Qiv (U:=U) x);generalize U.set x none=U0 at *;refine Ql e1 λry ey e1=>?_;split at e1
 case h_2=>cases e1
 rename_i ds hds;refine Ql e1 λr1 eg1 e1=>?_;refine Ql e1 λk1 ef1 e1=>?_;refine Ql e1 λr2 eg2 e1=>?_;refine Ql e1 λk2 ef2 e1=>?_;split at e1
 case h_2=>cases e1
 rename_i i1 i2 hk1 hk2;refine Ql e1 λj1 ej1 e1=>?_;refine Ql e1 λj2 ej2 e1=>?_;cases e1;refine⟨U0,hs,F,⟨[ry.d],ry.fr && true,ry.M++[]⟩,rel0,by simp[Qa,Qb,ey],λvs H1 G q1=>?_⟩;have rp:=q1.rp;dsimp only at rp;rw[hds]at rp;obtain⟨v,rfl,rq⟩:=rp.one;obtain⟨l,ws,L,rfl,hl,rl,zl,el⟩:=rq.lst_inv;have memL:∀a∈L,a∈G:=λa ha=>by
  rcases el with rfl | rfl
  .exact Zb _ ha
  .exact ha
 refine⟨l,ws,rfl,.inl (Qab hl),λc hc=>?_⟩;have relx:=rel0.ext q1.same;have nfr:∀(i:Nat) d b,U0[i]? =some (some (d,b))->c∉F i:=λi d b ei hci=>by
  obtain⟨zs,z⟩:=relx.mem ei hci;rw[hc]at z;cases z
 have nhs:∀t∈hs,c∉t.2.2:=λt ht hct=>by
  obtain⟨zs,z⟩:=(relx.held t ht).1.mem c hct;rw[hc]at z;cases z
 have h0c:H0 c=none:=relx.same.free hc;have nL:c∉L:=λz=>by
  obtain⟨zs,y⟩:=rl.mem c z;rw[hc]at y;cases y
 have sU:QU H1 (upd H1 c (.lst ws)):=λb o eb=>by
  have:b≠c:=λz=>by rw[z,hc]at eb;cases eb
  rw[QP this];exact eb
 have relA:=(relx.ext sU).put (i:=x) (v:= .ref c) hr0;have hσ:(σ.set x (some (.ref c)))[x]? =some (some (.ref c)):=Zw (by rw[← rel0.len];exact hx);generalize hσ':σ.set x (some (V.ref c))=σ1 at relA hσ;show QAT _ _ E (σ.set x (some (.ref c))) _;rw[hσ'];have hc2:upd H1 c (.lst ws) c=some (.lst ws):=QaL;have rl2:=rl.same sU;generalize upd H1 c (.lst ws)=H2 at relA hc2 rl2;refine⟨U0,hs,F,r1,relA,eg1,λv1 H3 G1 q2=>⟨.ref c,hσ,U0,hs,F,k1,relA.ext q2.same,ef1,λu1 H4 Gi q3=>?_⟩⟩;have hc4:=q3.same _ _ (q2.same _ _ hc2);have ru:=q3.rp;rw[hk1]at ru;refine⟨c,ws,i1,j1,rfl,ru.int_inv,hc4,by rw[← rl.length];exact ej1,?_⟩;have nG1:c∉G1:=λz=>by
  rcases q2.src c z with y | ⟨i,d,b,ei,m,_⟩
  .rw[hc2]at y;cases y
  .exact nfr i d b ei m
 have hj1:=(QeF ej1).2.1;obtain⟨G',m1,m2⟩:=QmF hc4 ((rl2.same q2.same).same q3.same) nL nG1 (q2.rp.same q3.same) hj1;have relB:=((relA.ext q2.same).ext q3.same).QqZ (ys:=ws.set j1 v1) hc4 h0c nfr nhs;have hc5:upd H4 c (.lst (ws.set j1 v1)) c=some (.lst (ws.set j1 v1)):=QaL;generalize upd H4 c (.lst (ws.set j1 v1))=H5 at relB hc5 m1;refine⟨U0,hs,F,r2,relB,eg2,λv2 H6 G2 q4=>⟨.ref c,hσ,U0,hs,F,k2,relB.ext q4.same,ef2,λu2 H7 Gj q5=>?_⟩⟩;have hc7:=q5.same _ _ (q4.same _ _ hc5);have rw2:=q5.rp;rw[hk2]at rw2;refine⟨c,ws.set j1 v1,i2,j2,rfl,rw2.int_inv,hc7,by rw[Zaz,← rl.length];exact ej2,?_⟩;have nG2:c∉G2:=λz=>by
  rcases q4.src c z with y | ⟨i,d,b,ei,m,_⟩
  .rw[hc5]at y;cases y
  .exact nfr i d b ei m
 have nG':c∉G':=λz=>(m2 c z).elim nL nG1;have hj2:=(QeF ej2).2.1;obtain⟨G'',n1,n2⟩:=QmF hc7 ((m1.same q4.same).same q5.same) nG' nG2 (q4.rp.same q5.same) (by rw[Zaz];exact hj2);have relC:=((relB.ext q4.same).ext q5.same).QqZ (ys:=(ws.set j1 v1).set j2 v2) hc7 h0c nfr nhs;have hc8:upd H7 c (.lst ((ws.set j1 v1).set j2 v2)) c=some (.lst ((ws.set j1 v1).set j2 v2)):=QaL;generalize upd H7 c (.lst ((ws.set j1 v1).set j2 v2))=H8 at relC hc8 n1;have sh0:=Shr.of rel0 (q1.src.more (M':=ry.M++(r1.M++r2.M)) λi hi=>by
  have hi:i∈ry.M++[]:=hi;rw[Zad]at hi;exact Zd _ hi)
 have sh1:=Shr.of relA (q2.src.more (M':=ry.M++(r1.M++r2.M)) λi hi=>Zg _ (Zd _ hi));have sh2:=Shr.of relB (q4.src.more (M':=ry.M++(r1.M++r2.M)) λi hi=>Zg _ (Zg _ hi));have sh:Shr H0 A0 (QaV (ry.M++(r1.M++r2.M)) U0) F (c::G''):=λa ha=>by
  rcases Zk.mp ha with rfl | ha
  .refine⟨.inl h0c,λi d ei hm=>?_⟩;obtain⟨b',e',_⟩:=(Qa9 _ U0).2 i d true ei;exact nfr i d b' e' hm
  .rcases n2 a ha with z | z
   .rcases m2 a z with y | y
    .exact sh0 a (memL a y)
    .exact sh1 a y
   .exact sh2 a z
 have relD:=(relC.weak (Qa9 (ry.M++(r1.M++r2.M)) U0)).Qpe (i:=x) (d:= .lst ((ds.set j1 r1.d).set j2 r2.d)) (v:= .ref c) (Rp.Qe3 hc8 n1 (by rw[Zaz,Zaz];exact zl)) sh;have hs1:σ1.set x (some (.ref c))=σ1:=by rw[← hσ',List.set_set]
 rw[hs1]at relD;exact⟨_,hs,_,o,relD,e,q⟩
end
structure Swp where
 x:Str
 y:Expr
 i1:Expr
 e1:Expr
 i2:Expr
 e2:Expr
 r:List Stmt
noncomputable def Qrz:Stmt->Option (Expr×Expr)
 | .Assign [t] e _=>some (t,e)
 | _=>none
noncomputable def Qu3:Expr->Option (Expr×Expr)
 | .Subscript a i _=>some (a,i)
 | _=>none
noncomputable def aName(st:Stmt):Option (Str×Expr):=(Qrz st).bind λz=>(Qcv z.1).bind λx=>some (x,z.2)
noncomputable def QvC(st:Stmt):Option (Str×Expr×Expr):=(Qrz st).bind λz=>(Qu3 z.1).bind λy=>(Qcv y.1).bind λx=>some (x,y.2,z.2)
noncomputable def Qr3:Expr->Option (Str×Expr)
 | .Call (.Name f _) [y] [] _=>some (f,y)
 | _=>none
def QoH{st:Stmt}(h:Qrz st=some z):∃p,st= .Assign [z.1] z.2 p:=by
 unfold Qrz at h;split at h
 .cases h;exact⟨_,rfl⟩
 .cases h
def QuN(h:Qu3 e=some z):∃p,e= .Subscript z.1 z.2 p:=by
 unfold Qu3 at h;split at h
 .cases h;exact⟨_,rfl⟩
 .cases h
def Qnd(h:Qcv e=some x):∃p,e= .Name x p:=by
 unfold Qcv at h;split at h
 .cases h;exact⟨_,rfl⟩
 .cases h
def QtR{st:Stmt}(h:aName st=some (x,e)):∃p q,st= .Assign [.Name x p] e q:=by
 refine Ql h λz h1 h=>?_;refine Ql h λy h2 h=>?_;cases h;obtain⟨p,e1⟩:=QoH h1;obtain⟨q,e2⟩:=Qnd h2;exact⟨q,p,by rw[e1,e2]⟩
def QpG{st:Stmt}(h:QvC st=some (x,i,e)):∃a b c,st= .Assign [.Subscript (.Name x a) i b] e c:=by
 refine Ql h λz h1 h=>?_;refine Ql h λy h2 h=>?_;refine Ql h λw h3 h=>?_;cases h;obtain⟨p,e1⟩:=QoH h1;obtain⟨q,e2⟩:=QuN h2;obtain⟨r,e3⟩:=Qnd h3;exact⟨r,q,p,by rw[e1,e2,e3]⟩
def Qtw(h:Qr3 e=some (f,y)):∃p q,e= .Call (.Name f p) [y] [] q:=by
 unfold Qr3 at h;split at h
 .cases h;exact⟨_,_,rfl⟩
 .cases h
noncomputable def Qr2:List Stmt->Option Swp
 | a::b::c::r=>(aName a).bind λz=>(Qr3 z.2).bind λy=>(QvC b).bind λu=>(QvC c).bind λv=>if y.1= "list" /\u.1=z.1/\v.1=z.1 then some ⟨z.1,y.2,u.2.1,u.2.2,v.2.1,v.2.2,r⟩else none
 | _=>none
def QuM{sts:List Stmt}{q:Swp}(h:Qr2 sts=some q):∃p1 p2 p3 p4 a1 a2 a3 b1 b2 b3,sts= .Assign [.Name q.x p1] (.Call (.Name "list" p2) [q.y] [] p3) p4:: .Assign [.Subscript (.Name q.x a1) q.i1 a2] q.e1 a3:: .Assign [.Subscript (.Name q.x b1) q.i2 b2] q.e2 b3::q.r:=by
 refine(λh:∀G:Prop,(_->G)->G=>h _ id) λGG kk=>?_;unfold Qr2 at h;split at h
 .rename_i a b c r;refine Ql h λz h1 h=>?_;refine Ql h λy h2 h=>?_;refine Ql h λu h3 h=>?_;refine Ql h λv h4 h=>?_;split at h
  .rename_i hc;obtain⟨g1,g2,g3⟩:=hc;obtain⟨p1,p4,e1⟩:=QtR h1;obtain⟨p2,p3,e2⟩:=Qtw h2;obtain⟨a1,a2,a3,e3⟩:=QpG h3;obtain⟨b1,b2,b3,e4⟩:=QpG h4;have h:=Option.some.inj h;subst h;exact kk ⟨p1,p2,p3,p4,a1,a2,a3,b1,b2,b3,by rw[e1,e2,e3,e4,g1,g2,g3]⟩
  .cases h
 .cases h
section
variable {K:Fgg}{H0 H H':Hp}{A0:LAd}{hs:List (V×D×List Addr)}{U:En}{F:Nat->List Addr}{σ:L2.St}{x i j:Nat}{ds es:List D}{a:Addr}{vs:List V}{v vn:V}{dn:D}
end
noncomputable def hop:List Stmt->Bool
 | .Assign ts e _::r=>match e with
  | .Dict _ _ _=>true
  | _=>hop r
 | _=>false
noncomputable def Qr5:DS:=λ_=>none
def Qzy{X:Cx}{sts:List Stmt}:SS X sts Qr5:=λH0 A0 pins s σ H D I q=>by
 obtain⟨U,hs,F,o,rel,e,_⟩:=q;cases e
mutual
noncomputable def Qjw(n:Nat)(Y:Th)(st:Stmt):Option DS:=match n with
 | 0=>none
 | n+1=>match st with
  | .Pass _=>some Qj
  | .Break _=>some Qwk
  | .Continue _=>some Qwy
  | .Raise _ _ _=>some Qu
  | .Return (some e) _=>(Qv n Y e).map QH
  | .Expr (.Constant (.str _) _ _) _=>some Qj
  | .Expr (.Call (.Attribute o m apos) args [] cpos) _=>if(apos.endLine == cpos.line)=true then Qlm n Y o m args else none
  | .Expr (.Call (.Name x p) args [] cpos) _=>(Qv n Y (.Call (.Name x p) args [] cpos)).map Qaj
  | .Assign [.Name x _] e _=>(Y.Qct x).bind λi=>(Qv n Y e).map λfa=>Qy i (if Qjk e=true then Qdh fa else fa)
  | .Assign [.Tuple es k p] e _=>if QfD e=true/\QsJ e=false then(QgJ Y (.Tuple es k p)).bind λt=>(Qv n Y e).map λfa=>Qlb t fa else none
  | .Assign [.Subscript a i _] e _=>(QeW n Y a).bind λq=>(Qv n Y i).bind λfi=>(Qv n Y e).map λfa=>Qb3 q.1 q.2 fi fa
  | .AugAssign (.Subscript a i _) op e _=>(QeW n Y a).bind λq=>(Qv n Y i).bind λfi=>(Qvt op).bind λg=>(Qv n Y e).map λfa=>Qgs g q.1 q.2 fi fa
  | .If c a b _=>(Qbo n Y c).bind λg=>(QaW n Y a).bind λf1=>(QaW n Y b).map λf2=>sIf g f1 f2
  | .For tg iter body [] _=>(QgJ Y tg).bind λt=>(QhA n Y tg iter).bind λfi=>(QaW n Y body).map λfb=>QaH fi t fb
  | .While c body [] _=>(Qbo n Y c).bind λg=>(QaW n Y body).map λfb=>QdH g fb
  | .Try a b c d p=>Y.tr (.Try a b c d p)
  | _=>none
noncomputable def QaW(n:Nat)(Y:Th)(sts:List Stmt):Option DS:=match n with
  | 0=>none
  | n+1=>match sts with
    | []=>some Qj
    | st::r=>
     if hop (st::r)=true then some Qr5 else
      match Qr2 (st::r)with
      | some q=>if Y.gl "list" =true then(Y.Qct q.x).bind λx=>(Y.slot q.x).bind λx'=>if x'=x then(Qv n Y q.y).bind λfy=>(Qv n Y q.i1).bind λf1=>(Qv n Y q.e1).bind λg1=>(Qv n Y q.i2).bind λf2=>(Qv n Y q.e2).bind λg2=>(QaW n Y q.r).map λg=>Qc (Qke x fy f1 g1 f2 g2) g else none else none
      | none=>
       (Qjw n Y st).bind λf=>(QaW n Y r).map λg=>Qc f g
end
def QjA(h:Qv n Y e=some f):Qw6 e=false:=by
 cases n with
 | zero=>exact nn h
 | succ n=>cases e<;>first | rfl | (exact nn h)
def Qy5(h:Qv n Y (.ListComp elt gens scope pos)=some f):∃m tg iter ifs t fi ft fe,n=m+1/\gens=[⟨tg,iter,ifs,0⟩]/\QgJ (inner Y scope) tg=some t/\QiU Y scope t=true∧
  QhA m Y tg iter=some fi/\Qg8 m (inner Y scope) ifs=some ft/\Qv m (inner Y scope) elt=some fe/\f=QO fi t (Qjt Y scope) ft fe:=by
 cases n with
 | zero=>exact nn h
 | succ n=>
  match gens,h with
  | [⟨tg,iter,ifs,k⟩],h=>
   by_cases hk:k=0
   .subst hk
    (conv at h=>lhs;whnf)
    refine Ql h λt ht h=>?_;split at h
    .rename_i hc;simp only[Zp]at hc;refine Ql h λfi h1 h=>?_;obtain⟨ft,fe,h2,h3,rfl⟩:=Qb0 h;exact⟨n,tg,iter,ifs,t,fi,ft,fe,rfl,rfl,ht,hc.1,h1,h2,h3,rfl⟩
    .cases h
   .exfalso;cases k with
    | ofNat k=>
     cases k with
     | zero=>exact hk rfl
     | succ k=>exact nn h
    | negSucc k=>exact nn h
  | [],h=>exact nn h
  | ⟨_,_,_,.ofNat 0⟩::_::_,h=>exact nn h
  | ⟨_,_,_,.ofNat (k+1)⟩::_::_,h=>exact nn h
  | ⟨_,_,_,.negSucc k⟩::_::_,h=>exact nn h
def Qxa(ok:Qaf X Y)(hx:Y.Qct x=some i)(h:Qv n Y e=some fa):S1 X (.Assign [.Name x p] e pos) (Qy i fa):=by
 have hN:X.N.Nodup:=by rw[ok.N];exact ok.nd
 obtain⟨h1,h2,h3⟩:=Qc8 ok.toCtxB hx;by_cases hc:QfD e=true
 .have he:=(Qcn n).E X Y e fa ok h;exact Qlu λH0 A0=>Qhl hN h1 h2 (he H0 A0) (QdU hc) h3
 .cases e with
  | ListComp elt gens scope cpos=>
   obtain⟨m,tg,iter,ifs,t,fi,ft,fe,rfl,rfl,ht,hco,g1,g2,g3,rfl⟩:=Qy5 h;obtain⟨S,cap,inn⟩:=QkC ok hco;obtain⟨i1,i2⟩:=(Qcn m).I X Y tg iter fi ok g1;exact QxX hN h1 h2 h3 ok.calm S i1 cap (λcl C fp s3 H3=>⟨QlR (inn cl C fp s3 H3) ht,(Qcn m).Ts _ _ ifs ft (inn cl C fp s3 H3) g2,(Qcn m).E _ _ elt fe (inn cl C fp s3 H3) g3⟩) i2
  | SetComp _ _ _ _=>cases n<;>exact nn h
  | DictComp _ _ _ _ _=>cases n<;>exact nn h
  | _=>exact absurd rfl hc
def QvK(ok:Qaf X Y)(hx:Y.Qct x=some i)(h:Qv n Y e=some fa)(ha:Qjk e=true):S1 X (.Assign [.Name x p] e pos) (Qy i (Qdh fa)):=by
 have hN:X.N.Nodup:=by rw[ok.N];exact ok.nd
 obtain⟨h1,h2,h3⟩:=Qc8 ok.toCtxB hx;have hc:QfD e=true:=by cases e<;>first | rfl | cases ha
 have he:=Qvc ((Qcn n).E X Y e fa ok h);exact Qlu λH0 A0=>Qhl hN h1 h2 (he H0 A0) (QdU hc) h3
def QiP:swapsWithSole [.Subscript a i p] e l env=pure false:=by
 cases e<;>rfl
structure QAU (n:Nat):Prop where
 S:∀X Y st f,Qaf X Y->Qjw n Y st=some f->S1 X st f
 Ss:∀X Y sts f,Qaf X Y->QaW n Y sts=some f->SS X sts f
def QBk(ih:QAU n):∀X Y st f,Qaf X Y->Qjw (n+1) Y st=some f->S1 X st f:=by
 intro X Y st f ok h;have hN:X.N.Nodup:=by rw[ok.N];exact ok.nd
 have E:=Qcn n;cases st with
 | Pass pos=>change some Qj=some f at h;cases h;exact Qyj
 | Break pos=>change some Qwk=some f at h;cases h;exact Qvb
 | Continue pos=>change some Qwy=some f at h;cases h;exact QyR
 | Raise a b pos=>change some Qu=some f at h;cases h;exact Qvj
 | Return e pos=>
  cases e with
  | none=>exact nn h
  | some e=>
   change(Qv n Y e).map QH=some f at h;obtain⟨fa,h1,rfl⟩:=Zf.mp h;exact Qt4 (E.E X Y e fa ok h1)
 | Expr e pos=>
  cases e with
  | Constant c k p=>
   cases c with
   | str x=>
    change some Qj=some f at h;cases h;exact λH0 A0=>QAB.mono λE σ H ⟨U,hs,F,o,rel,e,q⟩=>by cases e;exact q σ H F rel
   | _=>exact nn h
  | Call fn args kws cpos=>
   cases fn with
   | Attribute o m apos=>
    cases kws with
    | nil=>
     change(if(apos.endLine == cpos.line)=true then Qlm n Y o m args else none)=some f at h;split at h
     .rename_i hl;exact Qvn ok h hl
     .cases h
    | cons _ _=>exact nn h
   | Name x p=>
    cases kws with
    | nil=>
     change(Qv n Y (.Call (.Name x p) args [] cpos)).map Qaj=some f at h;obtain⟨fa,h1,rfl⟩:=Zf.mp h;exact λH0 A0=>Qx1 (QmC (E.E X Y _ fa ok h1 H0 A0) rfl)
    | cons _ _=>exact nn h
   | _=>exact nn h
  | _=>exact nn h
 | Assign ts e pos=>
  match ts,h with
  | [t],h=>
   cases t with
   | Name x p=>
    change((Y.Qct x).bind λi=>(Qv n Y e).map λfa=>Qy i (if Qjk e=true then Qdh fa else fa))=some f at h;obtain⟨i,fa,h1,h2,rfl⟩:=Qb0 h;split
    .rename_i ha;exact QvK ok h1 h2 ha
    .exact Qxa ok h1 h2
   | Tuple es k p=>
    change(if QfD e=true/\QsJ e=false then(QgJ Y (.Tuple es k p)).bind λt=>(Qv n Y e).map λfa=>Qlb t fa else none)=some f at h;split at h
    .rename_i hc;obtain⟨t,fa,h1,h2,rfl⟩:=Qb0 h;refine QxJ (E.E X Y e fa ok h2) (QlR ok h1) (by show swapsWith e (some (.Tuple es k p)) pos.line X.env=pure false;exact QdU hc.1) ?_ rfl;cases e<;>first | rfl | (cases hc.2)
    .cases h
   | Subscript a i p=>
    change((QeW n Y a).bind λq=>(Qv n Y i).bind λfi=>(Qv n Y e).map λfa=>Qb3 q.1 q.2 fi fa)=some f at h;refine Ql h λq h1 h=>?_;obtain⟨fi,fa,h2,h3,rfl⟩:=Qb0 h;obtain⟨sp,_⟩:=QhI n X Y a q ok h1;have ns:=QjA h2;refine QzJ (E.E X Y e fa ok h3) sp (E.E X Y i fi ok h2) λte to ti he ho hi=>QlB he (QoI ho hi set_list ?_) QiP ?_ rfl
    .intro v;cases i<;>first | rfl | (cases ns)
    .cases e<;>rfl
   | _=>exact nn h
  | [],h=>exact nn h
  | t::_::_,h=>cases t<;>exact nn h
 | AugAssign t op e pos=>
  cases t with
  | Subscript a i p=>
   change((QeW n Y a).bind λq=>(Qv n Y i).bind λfi=>(Qvt op).bind λg=>(Qv n Y e).map λfa=>Qgs g q.1 q.2 fi fa)=some f at h;refine Ql h λq h1 h=>?_;refine Ql h λfi h2 h=>?_;obtain⟨g,fa,h3,h4,rfl⟩:=Qb0 h;obtain⟨r,o1,o2⟩:=QBr (X:=X) h3;obtain⟨sp,_⟩:=QhI n X Y a q ok h1;have ns:=QjA h2;exact QxC o1 o2 (E.E X Y e fa ok h4) sp (E.E X Y i fi ok h2) λov iv new=>by cases i<;>first | rfl | (cases ns)
  | _=>exact nn h
 | If c a b pos=>
  change((Qbo n Y c).bind λg=>(QaW n Y a).bind λf1=>(QaW n Y b).map λf2=>sIf g f1 f2)=some f at h;refine Ql h λg h1 h=>?_;obtain⟨f1,f2,h2,h3,rfl⟩:=Qb0 h;exact QCf (E.T X Y c g ok h1) (ih.Ss X Y a f1 ok h2) (ih.Ss X Y b f2 ok h3)
 | For tg iter body els pos=>
  cases els with
  | nil=>
   change((QgJ Y tg).bind λt=>(QhA n Y tg iter).bind λfi=>(QaW n Y body).map λfb=>QaH fi t fb)=some f at h;refine Ql h λt h1 h=>?_;obtain⟨fi,fb,h2,h3,rfl⟩:=Qb0 h;obtain⟨i1,i2⟩:=E.I X Y tg iter fi ok h2;exact Qzz ok.pass ok.calm i1 (QlR ok h1) (ih.Ss X Y body fb ok h3) i2
  | cons _ _=>exact nn h
 | While c body els pos=>
  cases els with
  | nil=>
   change((Qbo n Y c).bind λg=>(QaW n Y body).map λfb=>QdH g fb)=some f at h;obtain⟨g,fb,h1,h2,rfl⟩:=Qb0 h;exact QtY ok.pass (E.T X Y c g ok h1) (ih.Ss X Y body fb ok h2)
  | cons _ _=>exact nn h
 | Try a b c d pos=>exact ok.tr _ _ h
 | _=>exact nn h
def QjG:∀n,QAU n
 | 0=>⟨λ_ _ _ _ _ h=>(nn h),λ_ _ _ _ _ h=>(nn h)⟩
 | n+1=>by
  have ih:=QjG n;refine⟨QBk ih,λX Y sts f ok h=>?_⟩
  match sts,h with
  | [],h=>change some Qj=some f at h;cases h;exact QsQ
  | st::r,h=>
   change(if hop (st::r)=true then some Qr5 else _)=some f at h;split at h
   .cases h;exact Qzy
   change(match Qr2 (st::r)with
    | some q=>if Y.gl "list" =true then(Y.Qct q.x).bind λx=>(Y.slot q.x).bind λx'=>if x'=x then(Qv n Y q.y).bind λfy=>(Qv n Y q.i1).bind λf1=>(Qv n Y q.e1).bind λg1=>(Qv n Y q.i2).bind λf2=>(Qv n Y q.e2).bind λg2=>(QaW n Y q.r).map λg=>Qc (Qke x fy f1 g1 f2 g2) g else none else none
    | none=>_)=some f at h
   split at h
   .rename_i q hq;split at h
    case isFalse=>cases h
    rename_i hg;refine Ql h λx hx h=>?_;refine Ql h λx' hx' h=>?_;split at h
    case isFalse=>cases h
    rename_i hxx;subst hxx;refine Ql h λfy h1 h=>?_;refine Ql h λf1 h2 h=>?_;refine Ql h λg1 h3 h=>?_;refine Ql h λf2 h4 h=>?_;obtain⟨g2,g,h5,h6,rfl⟩:=Qb0 h;obtain⟨p1,p2,p3,p4,a1,a2,a3,b1,b2,b3,hs⟩:=QuM hq;rw[hs];have E:=Qcn n;have hN:X.N.Nodup:=by rw[ok.N];exact ok.nd
    obtain⟨g1',g2',g3'⟩:=QcK ok.toCtxB hg;obtain⟨l1,l2,l3⟩:=Qc8 ok.toCtxB hx;have n1:=QjA h2;have n2:=QjA h4;refine QBh (λH0 A0=>Qhl hN l1 l2 (Qjb Qi3 g1' (ok.mg _ nofun) ZbB (QfE (E.E X Y q.y fy ok h1) Qjf (Qbd h1 _ _) H0 A0) ∅ ∅ (Qbd h1 _ _) rfl) (QdU rfl) l3) (λH0 A0=>QlB (E.E X Y q.e1 g1 ok h3 H0 A0) (QoI (Qhf ok.toCtxB hx') (E.E X Y q.i1 f1 ok h2 H0 A0) set_list ?_) QiP ?_ rfl) (λH0 A0=>QlB (E.E X Y q.e2 g2 ok h5 H0 A0) (QoI (Qhf ok.toCtxB hx') (E.E X Y q.i2 f2 ok h4 H0 A0) set_list ?_) QiP ?_ rfl) (ih.Ss X Y q.r g ok h6)
    .intro v;cases hi:q.i1<;>first | rfl | (rw[hi]at n1;cases n1)
    .cases q.e1<;>rfl
    .intro v;cases hi:q.i2<;>first | rfl | (rw[hi]at n2;cases n2)
    .cases q.e2<;>rfl
   change((Qjw n Y st).bind λf=>(QaW n Y r).map λg=>Qc f g)=some f at h;obtain⟨fs,fr,h1,h2,rfl⟩:=Qb0 h;exact Qqe (ih.S X Y st fs ok h1) (ih.Ss X Y r fr ok h2)
noncomputable def QaS(k:Nat)(ds:List D):En:=ds.map (λd=>some (d,d.flat))++List.replicate (k-ds.length) none
noncomputable def outD:Out->Option (D×Bool)
 | .rt d fr=>some (d,fr)
 | .nx _=>some (.non,true)
 | _=>none
noncomputable def Qx(k:Nat)(f:DS):Den:=λds=>(f (QaS k ds)).bind outD
def Rps.parts{K:Fgg}{H:Hp}:∀{ds:List D}{vs:List V}{F:LAd},Rps K H ds vs F→
  ∃Fs:List (List Addr),(∀L∈Fs,∀a∈L,a∈F)/\∀(i:Nat) (d:D),ds[i]? =some d->∃v,vs[i]? =some v/\Rp K H d v (Fs.getD i [])
 | [],_,_,h=>⟨[],λL hL=>by simp at hL,λi d e=>by simp at e⟩
 | d::ds,_,_,h=>by
  simp only[Rps]at h;obtain⟨v,ws,F1,F2,rfl,rfl,r,q⟩:=h;obtain⟨Fs,h1,h2⟩:=Rps.parts q;refine⟨F1::Fs,λL hL a ha=>?_,λi d' e=>?_⟩
  .rcases Zk.mp hL with rfl | hL
   .exact Zd _ ha
   .exact Zg _ (h1 L hL a ha)
  .cases i with
   | zero=>simp at e;subst e;exact⟨v,⋯,by simpa using r⟩
   | succ i=>obtain⟨w,hw,hr⟩:=h2 i d' (by simpa using e);exact⟨w,by simpa using hw,by simpa using hr⟩
def QjP{k:Nat}{ds:List D}{i:Nat}{d:D}{b:Bool}(h:(QaS k ds)[i]? =some (some (d,b))):ds[i]? =some d/\b=d.flat:=by
 unfold QaS at h;by_cases hi:i<ds.length
 .rw[Zal (by simpa using hi),Zh]at h;cases e:ds[i]? with
  | none=>rw[e]at h;cases h
  | some a=>rw[e]at h;cases h;exact⟨rfl,rfl⟩
 .rw[Zbn (by simpa using hi),Zcq]at h;split at h<;>cases h
def Qgi{K:Fgg}{H:Hp}{ds:List D}{vs:List V}{F:LAd}{N:List Str}(r:Rps K H ds vs F):∃F0,Rel K H F [] (QaS N.length ds) F0 (start N vs) H:=by
 obtain⟨Fs,h1,h2⟩:=r.parts;have hl:=r.length;have src:∀i a,a∈Fs.getD i []->a∈F:=λi a ha=>by
  by_cases hi:i<Fs.length
  .have:Fs.getD i []∈Fs:=by rw[ZS,Zq hi];exact List.getElem_mem hi
   exact h1 _ this a ha
  .rw[ZS,Zt ⋯]at ha;simp at ha
 refine⟨λi=>Fs.getD i [],?_,λi d b e=>?_,λi d e=>?_,λi d b e a ha=> .inr (src i a ha),λt ht=>absurd ht ⋯,QU.refl _⟩
 .unfold QaS L2.start;simp[hl]
 .obtain⟨e1,_⟩:=QjP e;obtain⟨v,hv,hr⟩:=h2 i d e1;refine⟨v,?_,hr⟩;have hi:i<vs.length:=(Ze.mp hv).1;unfold L2.start;rw[Zal (by simpa using hi),Zh,hv];rfl
 .obtain⟨e1,e2⟩:=QjP e;obtain⟨v,hv,hr⟩:=h2 i d e1;have z:Fs.getD i []=[]:=hr.Qc6 e2.symm;simp only[z];exact⟨(Qey d e2.symm).symm,ZaK,λa ha=>by simp at ha,λ_ _ _ _ _ a ha=>by simp at ha,λ_ _ a ha=>by simp at ha⟩
section
variable (P:Program) (w:World) (K:Fgg) (mg:Str->Option Value) (base:Heap)
def Known(k:Nat)(x:Str)(r:FnR):Prop:=∃f fd ps,QcJ P w K mg base CX0 k f fd ps (spV K r.n r.den)/\mg x=some (.ref f)/\PySem.W.keepIn K (.ref f)=true∧
 ∀m,m<=r.dfl.length->∃ds dvs,Binds K fd ps ds/\QB dvs ds/\∀H,Rps K H (r.dfl.drop (r.dfl.length-m)) dvs []
def QbH(k:Nat)(Γ:List (Str×FnR)):Prop:=∀x r,look x Γ=some r->Known P w K mg base k x r
structure Qd4 (cs:List (Str×Int)):Prop where
 bn:∀x∈Qpx,mg x=none
 cs:∀x i,look x cs=some i->∃t,mg x=some (.int i t)
end
section
variable {P:Program}{w:World}{K:Fgg}{mg:Str->Option Value}{base:Heap}
def QbH.nil{k:Nat}:QbH P w K mg base k []:=λx r h=>by cases h
def Known.mono{j k:Nat}{x:Str}{r:FnR}(h:Known P w K mg base j x r)(hk:j<=k):Known P w K mg base k x r:=by
 obtain⟨f,fd,ps,h1,h2⟩:=h;exact⟨f,fd,ps,h1.mono hk,h2⟩
def QbH.cons{k:Nat}{Γ:List (Str×FnR)}{x:Str}{r:FnR}(t:QbH P w K mg base k Γ)(h:Known P w K mg base (k+1) x r):QbH P w K mg base (k+1) ((x,r)::Γ):=λy q e=>by
 unfold look at e;split at e
 .rename_i z;cases e;subst z;exact h
 .exact(t y q e).mono (ZaE _)
noncomputable def namesOf(sc:Scope):List Str:=(sc.names.filter λy=>QwK y.2).map (·.1)
noncomputable def Qei(st:Stmt)(Γ:List (Str×FnR))(cs:List (Str×Int)):Th:=⟨namesOf (Qn st),(Qn st).names,Γ,cs,λ_=>none⟩
def Qq2{CX:CXT}{xe:Value->Shared->Prop}{st:Stmt}{ps:List Str}{qual:Str}{f:Addr}{cdv:Value}{A:Around}{outer:List Env}{s:Shared}{H:Hp}{E:XK}{k:Nat}{Γ:List (Str×FnR)}{cs:List (Str×Int)}(S:QbR (namesOf (Qn st)) ps (Qn st))(M:Qd4 mg cs)(tab:QbH P w K mg base k Γ)
  (hr:Qbg k (A.deeper (envOfC qual (Qn st) s.heap.objs.size f cdv))) (hp:PassesOwn (model P w) (A.deeper (envOfC qual (Qn st) s.heap.objs.size f cdv)) (envOfC qual (Qn st) s.heap.objs.size f cdv) xe):
  Qaf ((QdC CX P w K mg base (namesOf (Qn st)) qual (Qn st) f cdv A outer s H E).Qf9 xe) (Qei st Γ cs) where
 N:=rfl
 nd:=S.nd
 lc:=λx h=>by rw[Qbc]at h;exact h
 ce:=λx h=>by rw[Qbc]at h;exact⟨h,rfl⟩
 fe:=λx h=>by rw[Qbc]at h;exact absurd rfl (S.nofree _ (Zah h))
 gl:=λx h=>by rw[Qbc]at h;exact h
 calm:=decide_eq_true hr.hd
 pass:=hp
 tr:=λ_ _ h=>by cases h
 units:=hr.units
 mg:=M.bn
 fns:=λx r h=>by
  obtain⟨f',fd,ps',h1,h2,h3,h4⟩:=tab x r h;exact⟨k,f',fd,ps',h1,hr,h2,h3,h4⟩
 cs:=M.cs
def QtF{st:Stmt}{ps:List Str}{qual:Str}{f:Addr}{cdv:Value}{A:Around}{outer:List Env}{s:Shared}{H:Hp}{E:XK}{k:Nat}{Γ:List (Str×FnR)}{cs:List (Str×Int)}(S:QbR (namesOf (Qn st)) ps (Qn st))(M:Qd4 mg cs)(tab:QbH P w K mg base k Γ)
  (hr:Qbg k (A.deeper (envOfC qual (Qn st) s.heap.objs.size f cdv))):Qaf (QdC CX0 P w K mg base (namesOf (Qn st)) qual (Qn st) f cdv A outer s H E).nox (Qei st Γ cs):=Qq2 S M tab hr PassesOwn.never
def Qs1{x qual:Str}{st:Stmt}{f:Addr}{fd:FuncData}{ps:List Str}{k n:Nat}{Γ:List (Str×FnR)}{cs:List (Str×Int)}{g:DS}(F:Fun K x qual st f fd)(S:QbR (namesOf (Qn st)) ps (Qn st))(M:Qd4 mg cs)(tab:QbH P w K mg base k Γ)
  (hc:QaW n (Qei st Γ cs) (QaT st)=some g):QcJ P w K mg base CX0 (k+1) f fd ps (spV K ps.length (Qx (namesOf (Qn st)).length g)):=by
 refine F.ok S (Qmt rfl) λcdv A outer s H vs Q E hr h=>?_;obtain⟨ds,L,d,fr,rps,hl,hd,q⟩:=h;refine⟨_,(QjG n).Ss _ _ _ g (QtF S M tab hr) hc H L,?_⟩;obtain⟨F0,rel⟩:=Qgi (N:=namesOf (Qn st)) rps;unfold Qx at hd;refine Ql hd λo ho hd=>?_;refine⟨_,[],F0,o,rel,ho,?_⟩;cases o with
 | nx U=>
  cases hd;exact λσ H' F' rel'=>q .non H' [] ⟨rel'.same,.QlI,λa ha=>by simp at ha,λ_=>⟨ZaK,rfl,λa ha=>by simp at ha⟩⟩
 | bk U=>cases hd
 | ct U=>cases hd
 | rt d' fr'=>
  cases hd;exact λv H' G r=>q v H' G r
structure Fact (K:Fgg) (x:Str) (st:Stmt):Prop where
 ex:∃f fd,Fun K x x st f fd/\PySem.W.nsIn K mainGlobals x=some (some (.ref f))
def fact_mk{x:Str}{st:Stmt}{f:Addr}{oc:Value}{od an:Option Addr}{osl:Array (Option Value)}{kV doc pm cdv ct:Value}(a:PySem.W.nsIn K mainGlobals x=some (some (.ref f)))(l:K.lookup f=some ⟨oc,od,.func (PySem.W.fnOf x x (QfB st) (QaT st) (Qn st) .none kV doc pm an cdv ct),osl⟩)
  (c:PySem.W.codeIn K cdv x=true) (k:PySem.W.keepIn K (.ref f)=true):Fact K x st:=⟨f,_,QAp l c k,a⟩
def l0{α:Type}{P:List α->Prop}(h:P []):∀l:List α,l.length=0->P l:=λl e=>(List.length_eq_zero_iff.mp e).symm▸h
def lc{α:Type}{n:Nat}{P:List α->Prop}(h:∀a,∀l:List α,l.length=n->P (a::l)):∀l:List α,l.length=n+1->P l
 | a::l,e=>h a l (Nat.succ.inj e)
def QaD(x:Str)(st:Stmt)(ps:List Str):Prop:=∀(kV doc pm:Value) (an:Option Addr) (cdv ct:Value) (us:List Value),us.length=ps.length->bindArgs (PySem.W.fnOf x x (QfB st) (QaT st) (Qn st) .none kV doc pm an cdv ct) ⟨us,[]⟩=pure (ps.zip us)
def Qco{h:Heap}{x:Str}{st:Stmt}{ps:List Str}{k n:Nat}{Γ:List (Str×FnR)}{cs:List (Str×Int)}{g:DS}(X:K.In h)(G:h.Ns mainGlobals mg)(F:Fact K x st)(S:QbR (namesOf (Qn st)) ps (Qn st))(B:QaD x st ps)(M:Qd4 mg cs)(tab:QbH P w K mg base k Γ)
  (hc:QaW n (Qei st Γ cs) (QaT st)=some g):Known P w K mg base (k+1) x ⟨ps.length,[],Qx (namesOf (Qn st)).length g⟩:=by
 obtain⟨f,fd,Fn,a⟩:=F.ex;refine⟨f,fd,ps,Qs1 Fn S M tab hc,ZaV X G a,Fn.kp,λm hm=>⟨[],[],Fn.binds (B ·),.nil,λH=>by simp[Rps]⟩⟩
end
end HS
namespace HS
open PySem PySem.Spec L2 PyProof.Rows
def Qvo{l:PySem.W.OpenLaw}{k:Nat}{q:Program}{loose:List Str}{XP:(Str->Option Value)->Heap->Prop}{YP:World->Heap->Prop}{d:DefRec}{K:Params->PySem.W.Frag}{den:Den}{x:Str}
  (hn:l.most=some 63) (hdf:d.params.defaults=[]) (hr:Qbg k callerA) (hY:∀(w:World) (h:Heap),YP w h->(K w.params).In h)
  (hden:∀ns:List Int,ns.length<=63->∃fr,den [.lst (ns.map .int)]=some (.bl true,fr))
  (F:∀(w:World) (mg:Str->Option Value) (fa:Addr) (h:Heap),(K w.params).In h->h.Ns mainGlobals mg->mg d.name=some (.ref fa)→
   ∃fd:FuncData,(∀(s:Shared) (u:Value),BindsTo s fd ⟨[u],[]⟩ [(x,u)])∧
    ∀base:Heap,(K w.params).In base->base.Ns mainGlobals mg->QcJ l.prog w (K w.params) mg base CX0 k fa fd [x] (spV (K w.params) 1 den)):
  PySem.W.WalkO q loose XP YP l.row.toRowW d [] (λf vs=>PySem.call f vs):=by
 refine Att.Qqa hn hdf λw s₀ s₁ mg mb fa o pm cd doc a vs ns G Y ho hd hcd hmg hobj hints hlen hg=>?_;have KX:=hY w _ Y;obtain⟨fd,hb,hF⟩:=F w mg fa _ KX G.T.g hmg;have h63:(63:Nat)<=sizeLine:= ∅
 refine QvU KX G.T.g G.T.b G.T.builtins G.T.nolimit hg hobj hints (ZN hlen h63) hr hF hb (λH hO hS=>?_) λH e s' z=>z;have fx:Fix (K w.params) H a (ns.map V.int):=by
  rcases hS with(h | ⟨o,h⟩) | ⟨o,its,n,hk,hc,hdn,hda,hz,rv⟩
  .rcases hO a with z | ⟨o,xs,z⟩<;>rw[h]at z<;>cases z
  .exact .inl ⟨o,h⟩
  .have e:=KX a o hk;rw[hobj]at e;cases e;cases hda;exact .inr ⟨vs,_,hk,by rw[Zc];exact ZN hlen h63,by simpa using rv⟩
 obtain⟨fr,hfr⟩:=hden ns hlen;have rp:Rp (K w.params) H (.lst (ns.map .int)) (.ref a) []:=by
  simp only[Rp];refine⟨by rw[Zc];exact ZN hlen h63,a,_,rfl,.inr ⟨fx,?_⟩⟩;have gen:∀ns:List Int,Rps (K w.params) H (ns.map .int) (ns.map .int) []:=by
   intro ns
   induction ns with
   | nil=>simp[Rps]
   | cons n ns ih=>simp only[Zv,Rps];exact⟨_,_,[],[],rfl,rfl,.int_mk,ih⟩
  exact gen ns
 refine⟨[.lst (ns.map .int)],[],.bl true,fr,?_,rfl,hfr,λv H' G r=>r.rp.Qdj⟩;simp only[Rps];exact⟨_,_,[],[],rfl,rfl,rp,rfl,rfl⟩
def QBv{P:Program}{w:World}{K:Fgg}{mg:Str->Option Value}{h:Heap}{x y:Str}{st:Stmt}{fa:Addr}{k n:Nat}{Γ:List (Str×FnR)}{cs:List (Str×Int)}{g:DS}(X:K.In h)(G:h.Ns mainGlobals mg)(hmg:mg x=some (.ref fa))
  (F:Fact K x st) (S:QbR (namesOf (Qn st)) [y] (Qn st)) (B:QaD x st [y]) (M:Qd4 mg cs) (tab:∀base:Heap,QbH P w K mg base k Γ) (hc:QaW n (Qei st Γ cs) (QaT st)=some g):
  ∃fd:FuncData,(∀(s:Shared) (u:Value),BindsTo s fd ⟨[u],[]⟩ [(y,u)])∧
    ∀base:Heap,K.In base->base.Ns mainGlobals mg->QcJ P w K mg base CX0 (k+1) fa fd [y] (spV K 1 (Qx (namesOf (Qn st)).length g)):=by
 obtain⟨f,fd,Fn,a⟩:=F.ex;have e:=hmg.symm.trans (ZaV X G a);cases e;refine⟨fd,λs u=>?_,λbase _ _=>Qs1 Fn S M (tab base) hc⟩;obtain⟨oc,od,kV,doc,pm,an,cdv,ct,osl,rfl,lk,hcd⟩:=Fn.ex;exact .of_eq (B kV doc pm an cdv ct [u] rfl)
end HS
namespace HS
open PySem PySem.Spec PyProof.Rows L2
section
variable {P:Program}{w:World}{K:Fgg}{mg:Str->Option Value}{base:Heap}
end
end HS
namespace HS
open PySem PySem.Spec L2 PyProof.Rows
def Qv5(x:Qca P w H h a o):∃u,h.get? a=some u:=by
 cases o with
 | lst xs=>obtain⟨_,_,_,_,e⟩:=x;exact⟨_,e⟩
 | tup xs=>obtain⟨_,_,_,ob,e,_⟩:=x;exact⟨_,e⟩
 | dK kvs=>obtain⟨_,_,_,_,o,_,_,e,_⟩:=x;exact⟨_,e⟩
 | dT kvs=>obtain⟨_,_,_,_,o,_,_,e,_⟩:=x;exact⟨_,e⟩
 | set S n=>obtain⟨o,_,_,_,e,_⟩:=x;exact⟨_,e⟩
 | ins C dx fs=>obtain⟨_,_,_,e,_⟩:=x;exact⟨_,e⟩
 | own y=>exact x
 | xd fs=>obtain⟨_,⟨_,_,_,e,_⟩,_⟩:=x;exact⟨_,e⟩
 | rng lo hi=>obtain⟨_,_,_,e⟩:=x;exact⟨_,e⟩
 | frz ob u=>obtain⟨e,_⟩:=x;exact⟨_,e⟩
 | tbl ps=>exact⟨_,show h.get? a=some _ from x⟩
 | met f y=>exact⟨_,show h.get? a=some _ from x⟩
 | ext φ=>obtain⟨_,e,_⟩:=x;exact e
section
variable {P:Program}{w:World}{H H':Hp}{h0 h h' B:Heap}{fs:LAd}
def Cov(H:Hp)(B:Heap):Prop:=∀b u,H b=some u->∃o,B.get? b=some o
def QmL(hok:HOk P w H h)(hB:B.StaysIn h)(hB':B.StaysIn h')(cov:Cov H B):HOk P w H h':=λa o e=>
 (hok a o e).QeG (λc v hc q=>by
  have:∃u,H c=some u:=by
   rcases hc with rfl | hc
   .exact⟨_,e⟩
   .exact⟨_,hc⟩
  obtain⟨u,hu⟩:=this;obtain⟨o',ho'⟩:=cov c u hu;have:=hB _ _ ho';rw[q]at this;cases this;exact hB' _ _ ho') (λ_ q=>q) λ_ _ q=>q
def Qog(u:Un fs [] H H' h0 h)(hB:B.StaysIn h)(hB':B.StaysIn h')(up:h.UpToSlots h')(old:∀b o,h0.get? b=some o->b∉fs->∃o',B.get? b=some o')
  (dat:∀b o,h0.get? b=some o->b∈fs->∀vs,o.data≠ .fields vs) (frf:∀b∈fs,H b=none):Un fs [] H H' h0 h' where
 keep:=λb o e n hb hx=>by
  obtain⟨o',e1⟩:=old b o e hb;have:=hB _ _ e1;rw[u.keep b o e n hb hx]at this;cases this;exact hB' _ _ e1
 slot:=λb o e n hb hx=>by
  obtain⟨sl,e1⟩:=u.slot b o e n hb hx;obtain⟨sl',e2⟩:=up b _ e1 (dat b o e hb);exact⟨sl',e2⟩
 free:=u.free
 there:=λb o e hx=>by
  by_cases hb:b∈fs
  .obtain⟨sl,e1⟩:=u.slot b o e (frf b hb) hb hx;obtain⟨sl',e2⟩:=up b _ e1 (dat b o e hb);exact⟨_,e2⟩
  .obtain⟨o',e1⟩:=old b o e hb;exact⟨_,hB' _ _ e1⟩
 tups:=u.tups
 frzs:=u.frzs
 tbls:=u.tbls
end
noncomputable def CXR(P:Program)(w:World):CXT:=λouter H s E e s'=>∃ea C H' B a0,e=Value.ref ea/\s'.os=s.os/\AllBare s'.gens/\Un (frs outer) [] H H' s.heap s'.heap/\HOk P w H' s'.heap/\Heap.FlyingW B outer ea C a0 s'.heap∧
 Cov H' B/\(∀b o,s.heap.get? b=some o->b∉frs outer->∃o',B.get? b=some o')/\E C none H'
def Qg6(X:Cx)(H0:Hp)(A0:LAd)(hs:List (V×D×List Addr))(U:En)(C:Value)(ea:Addr)(s':Shared):Prop:=∃pins σ H F,Rel X.K H0 A0 hs U F σ H∧
 ((∃sg args,Inv X pins σ H sg/\Heap.MadeExcOf sg.heap s'.heap ea C args/\s'.os=sg.os/\s'.gens=sg.gens)∨
  ∃B a0,Inv X pins σ H s'/\Heap.FlyingW B X.stack ea C a0 s'.heap/\Cov H B/\(∀b o,X.s₀.heap.get? b=some o->b∉X.fs->∃o',B.get? b=some o')/\∀p∈X.pn++pins,∃o,B.get? p.1=some o)
def QtG(I:Inv X pins σ H s)(hx:X.ex=[])(e:X.s₀.heap.get? b=some o)(hb:b∉X.fs):(∃o',s.heap.get? b=some o')/\b∉frs X.stack:=by
 refine⟨I.base.there b o e (by rw[hx];simp),λz=>?_⟩;rcases Zk.mp (I.Qf4 b z)with q | q
 .have h1:=Zr e;have h2:=I.ok.above;rw[q]at h1;exact absurd (Zz h1 h2) (ZV _)
 .exact hb q
def Qly{X:Cx}(ok:X.Ok){b:Addr}{o:Obj}(e:X.s₀.heap.get? b=some o)(hb:b∈X.fs):∀vs,o.data≠ .fields vs:=by
 obtain⟨_,o',e',h⟩:=ok.Qd0.mem hb;rw[e]at e';cases e';exact h
def Qph(I:Inv X pins σ H s)(hx:X.ex=[]):∃B:Heap,B.StaysIn s.heap/\s.heap.FunFrames B X.stack/\Cov H B/\(∀b o,X.s₀.heap.get? b=some o->b∉X.fs->∃o',B.get? b=some o')/\∀p∈X.pn++pins,∃o,B.get? p.1=some o:=by
 refine⟨PySem.W.hideAll s.heap (frs X.stack),λb o e=>PySem.W.of_hideAll _ e,PySem.W.funFrames_hide I.stack λenv he a ha=>Zba.mpr ⟨env,he,ha⟩,λb u e=>?_,λb o e hb=>?_,λp hp=>?_⟩
 .obtain⟨o,ho⟩:=Qv5 (I.hok b u e);exact⟨o,Zbq _ ho λz=>by rw[I.Qmd b z]at e;cases e⟩
 .obtain⟨⟨o',h1⟩,h2⟩:=QtG I hx e hb;exact⟨o',Zbq _ h1 h2⟩
 .obtain⟨e,_,ne,nf,_⟩:=I.pin p hp;exact⟨_,Zbq _ e λz=>(Zk.mp (I.Qf4 _ z)).elim ne nf⟩
def Qo9{X:Cx}{P:Program}{w:World}{E:XK}{H0:Hp}{A0:LAd}{hs:List (V×D×List Addr)}{U:En}{C:Value}{ea:Addr}{s':Shared}{env:Env}{outer:List Env}{Er:Value->Shared->Prop}
  (hp:X.prog=P) (hw:X.w=w) (hx:X.ex=[]) (hst:X.stack=env::outer) (hfs:X.outer=outer) (hen:X.env=env) (hf:env.frame=some X.env.locals) (T:Qg6 X H0 A0 hs U C ea s')
  (hE:∀H,QU H0 H->E C none H):wpAny (model P w) X.A (leaving env (.ref ea)) (λ_ s''=>CXR P w outer X.H₀ X.s₀ E (.ref ea) s'') Er s':=by
 subst hp hw hfs;obtain⟨pins,σ,H,F,rel,⟨sg,args,I,hm,ho,hg⟩ | ⟨B,a0,I,fl,cov,old,_⟩⟩:=T
 .obtain⟨B,b1,b2,cov,old,_⟩:=Qph I hx;rw[hst]at b2;have hfr:=I.ok.frames;rw[hst]at hfr;refine wpAny_leaves_madeW hfr hf b1 b2 hm λh' t fl _ _ up=>?_;have up':sg.heap.UpToSlots h':=(Heap.UpToSlots.of_keeps hm.keeps).trans up;have hb:=I.base;rw[hx]at hb;exact⟨ea,C,H,B,_,rfl,ho.trans I.os,hg▸I.bare,Qog hb b1 fl.1 up' old (λb o e hb=>Qly I.ok e hb) I.ok.frf,QmL I.hok b1 fl.1 cov,fl,cov,old,hE H rel.same⟩
 .have hfr:=I.ok.frames;rw[hst]at hfr fl;refine wpAny_leaves_onW hfr hf fl λh' fl' up=>?_;have hb:=I.base;rw[hx]at hb;exact⟨ea,C,H,B,_,rfl,I.os,I.bare,Qog hb fl.1 fl'.1 up old (λb o e hb=>Qly I.ok e hb) I.ok.frf,QmL I.hok fl.1 fl'.1 cov,fl',cov,old,hE H rel.same⟩
noncomputable abbrev DX:=En->Option (Str×En)
def ClsAt(K:Fgg)(x:Str)(C:Addr):Prop:=PySem.W.nsIn K mainGlobals x=some (some (.ref C))
def cRz(X:Cx)(H0:Hp)(A0:LAd)(fx:DX)(σ:L2.St)(H:Hp):Prop:=∃U hs F x U',Rel X.K H0 A0 hs U F σ H/\fx U=some (x,U')/\∀C ea s',ClsAt X.K x C->Qg6 X H0 A0 hs U' (.ref C) ea s'->X.xe (.ref ea) s'
noncomputable def tRz(X:Cx)(H0:Hp)(A0:LAd)(fx:DX):TS:=λ_ σ H=>cRz X H0 A0 fx σ H
noncomputable def eRz(X:Cx)(H0:Hp)(A0:LAd)(fx:DX):TE:=λσ H _=>cRz X H0 A0 fx σ H
def Rz(X:Cx)(st:Stmt)(fx:DX):Prop:=∀H0 A0,PS X st (tRz X H0 A0 fx)
def RzS(X:Cx)(sts:List Stmt)(fx:DX):Prop:=∀H0 A0,PSs X sts (tRz X H0 A0 fx)
def RzE(X:Cx)(e:Expr)(fx:DX):Prop:=∀H0 A0,PE X e (eRz X H0 A0 fx)
noncomputable def xNo:DX:=λ_=>none
noncomputable def QbB(x:Str)(fs:DA):DX:=λU=>(fs U).bind λr=>if r.ds.length<=1 then some (x,U)else none
noncomputable def QaX(n:Nat)(xd:List D->Option Str)(fs:DA):DX:=λU=>(fs U).bind λr=>if r.ds.length=n then(xd r.ds).map λc=>(c,U)else none
noncomputable def xIf(g:DT)(fa fb:DX):DX:=λU=>(g U).bind λb=>if b=true then fa U else fb U
noncomputable def QM(f:DS)(fx fr:DX):DX:=λU=>match f U with
 | some (.nx U')=>fr U'
 | some _=>none
 | none=>fx U
noncomputable def Qe2(t:Tg)(fb:DS)(fx:DX):List D->DX
 | [],_=>none
 | d::ds,U=>(Qbv t d U).bind λU1=>match fb U1 with
  | some (.nx U2)=>Qe2 t fb fx ds U2
  | some (.ct U2)=>Qe2 t fb fx ds U2
  | some _=>none
  | none=>fx U1
noncomputable def Qfo(fi:DI)(t:Tg)(fb:DS)(fx:DX):DX:=λU=>(fi U).bind λir=>Qe2 t fb fx ir.items (QaV ir.M U)
noncomputable def spX(K:Fgg)(n:Nat)(xd:List D->Option Str):Sp:=λvs H _ E=>∃ds L x,Rps K H ds vs L/\ds.length=n/\xd ds=some x/\∀C H',ClsAt K x C->QU H H'->E (.ref C) none H'
def Qym{K:Fgg}{n:Nat}{xd:List D->Option Str}{ps:List Str}(hn:ps.length=n):∀vs H Q E,spX K n xd vs H Q E->vs.length=ps.length:=λvs H Q E ⟨ds,L,x,r,hl,_⟩=>by rw[hn,← hl,r.length]
section
variable {X:Cx}{st:Stmt}{sts:List Stmt}{e:Expr}{es:List Expr}{fs:DA}{f:DS}{fx fr fy:DX}{g:DT}{pos p np cpos:Pos}{x:Str}{k n:Nat}{fa:Addr}{fd:FuncData}{ps:List Str}{xd:List D->Option Str}
def Qgg:Rz X st xNo:=λH0 A0 pins s σ H Dd I ⟨U,hs,F,x,U',rel,e,q⟩=>by cases e
def Qxz:RzS X [] xNo:=λH0 A0 pins s σ H Dd I ⟨U,hs,F,x,U',rel,e,q⟩=>by cases e
def Qg6.hold(h:Qg6 X H0 A0 (ts++hs) U C ea s'):Qg6 X H0 A0 hs U C ea s':=by
 obtain⟨pins,σ,H,F,rel,q⟩:=h;exact⟨pins,σ,H,F,rel.Qn9,q⟩
def Qw9(Fk:QcJ X.prog X.w X.K X.mg X.base (CXR X.prog X.w) k fa fd ps (spX X.K n xd))(hr:Qbg k X.A)(hg:Gl X x)(hm:X.mg x=some (.ref fa))(hk:PySem.W.keepIn X.K (.ref fa)=true)(hb:Binds X.K fd ps [])(hx:X.ex=[])(hn:ps.length=n)
  (ha:SA X (e::es) fs) (hdb:(x == ("__debug__" :Str))=false) (he:starEach (e::es) X.env=(false,eval e X.env)::starEach es X.env) (hpl:(backTo pos (starEach es X.env)).any (·.1)=false):
  RzE X (.Call (.Name x p) (e::es) [] pos) (QaX n xd fs):=λH0 A0 pins s σ H Q I Z=>by
 obtain⟨U,hs,F,c,U',rel,ex,q⟩:=Z;refine Ql ex λra e1 ex=>?_;split at ex
 .rename_i hl;obtain⟨c',e2,e3⟩:=Zf.mp ex;cases e3;refine wpAny_Call_Name_kw (QeC I hg hm ?_ hdb);refine Zcd (h₀:=X.base) I.ok.mod.kin hk (thn (ha H0 A0 pos pins s σ H (λvs H1=>∃G,Qsj X.K U F H H1 ra vs G) I ⟨U,hs,F,ra,rel,e1,λvs H1 G p1=>⟨G,p1⟩⟩) λus s1 ⟨vs,H1,I1,rv,G,p1⟩=>⟨I1.kIn,?_⟩) he hpl;have hlen:(us++[]).length=ps.length:=by rw[Zad,← rv.length,← p1.rp.length,hl,hn]
  have hbb:=hb s1 us I1.kIn hlen;rw[Zad]at hbb;refine wpAny_call (codeAny_mono (Fk.run X.A X.stack s1 H1 ⟨us,[]⟩ us vs (λ_ _=>False) (λc' _ H'=>∃C,c'= .ref C/\ClsAt X.K c C/\QU H1 H') hr I1.QvR hbb rv ⟨ra.ds,G,c,p1.rp,hl,e2,λC H' hC sm=>⟨C,rfl,hC,sm⟩⟩) λr s' hq=>?_);cases r with
  | error ev=>
   obtain⟨ea,C',H',B,a0,rfl,os,bare,un,hok,fl,cov,old,C,rfl,hC,sm⟩:=hq;exact q C ea s' hC ⟨pins,σ,H',F,(rel.ext p1.same).ext sm,.inr ⟨B,a0,I1.QwL os un hok bare (λb z=>absurd z ⋯),fl,cov,λb o eb hbf=>by
    obtain⟨⟨o',h1⟩,h2⟩:=QtG I1 hx eb hbf;exact old b o' h1 h2,λp hp=>by
    obtain⟨e,_,ne,nf,_⟩:=I1.pin p hp;exact old _ _ e λz=>(Zk.mp (I1.Qf4 _ z)).elim ne nf⟩⟩
  | ok fl=>
   cases fl with
   | ret u=>obtain⟨v,H',_,_,_,_,_,z⟩:=hq;exact z.elim
   | next=>exact False.elim hq
   | brk=>exact False.elim hq
   | cont=>exact False.elim hq
 .cases ex
def QxY(h:RzE X e fx)(hs:swapsWith e none pos.line X.env=pure false):Rz X (.Expr e pos) fx:=λH0 A0=>QmC (h H0 A0) hs
def QAO(h:RzE X e fx):Rz X (.Return (some e) pos) fx:=λH0 A0=>Qus (h H0 A0)
def QAm{i:Nat}(hN:X.N.Nodup)(h1:X.N[i]? =some x)(h2:Loc X.env.scope x)(h3:X.fn x=true∨X.env.scope.names.lookup x=some .local)(h:RzE X e fx)(hs:swapsWith e (some (.Name x p)) pos.line X.env=pure false):Rz X (.Assign [.Name x p] e pos) fx:=λH0 A0=>Qhl hN h1 h2 (h H0 A0) hs h3
def QB6(hc:ST X c g)(ha:RzS X a fx)(hb:RzS X b fy):Rz X (.If c a b pos) (xIf g fx fy):=λH0 A0=>(QwV (hc H0 A0) (ha H0 A0) (hb H0 A0)).mono λDd σ H Z=>by
 obtain⟨U,hs,F,x,U',rel,e,q⟩:=Z;refine Ql e λc e1 e=>?_;refine⟨U,hs,F,c,rel,e1,λH1 s1=>?_⟩;cases c with
 | true=>exact Qsg ⟨U,hs,F,x,U',rel.ext s1,e,q⟩
 | false=>exact Qsk ⟨U,hs,F,x,U',rel.ext s1,e,q⟩
def QBZ{t u:TS}(h1:PS X st t)(h2:PS X st u):PS X st (λDd σ H=>t Dd σ H∨u Dd σ H):=λpins s σ H Dd I q=>q.elim (h1 pins s σ H Dd I) (h2 pins s σ H Dd I)
def QzN(h1:PSs X sts t)(h2:PSs X sts u):PSs X sts (λDd σ H=>t Dd σ H∨u Dd σ H):=λpins s σ H Dd I q=>q.elim (h1 pins s σ H Dd I) (h2 pins s σ H Dd I)
def Qwx(h1:S1 X st f)(h2:Rz X st fx)(h3:RzS X sts fr):RzS X (st::sts) (QM f fx fr):=λH0 A0=>(QfP (QBZ (h1 H0 A0) (h2 H0 A0)) (h3 H0 A0)).mono λDd σ H Z=>by
 obtain⟨U,hs,F,x,U',rel,e,q⟩:=Z;unfold QM at e;split at e
 .rename_i U1 e1;exact .inl ⟨U,hs,F,_,rel,e1,λσ' H' F' rel'=>⟨U1,hs,F',x,U',rel',e,q⟩⟩
 .cases e
 .exact .inr ⟨U,hs,F,x,U',rel,e,q⟩
def Qz4(hp:PassesOwn (model X.prog X.w) X.A X.env X.xe)(hc:X.calm=true)(hi:SI X tg iter fi)(hg:SG X tg t)(hb:SS X body f)(hbx:RzS X body fx)(hs:∀x,foldedSetIterable iter X.env x=pure x):
  Rz X (.For tg iter body [] pos) (Qfo fi t f fx):=λH0 A0=>(Qul hp hc (hi H0 A0) (hg H0 A0) (QzN (hb H0 A0) (hbx H0 A0)) hs).mono λDd σ H Z=>by
 obtain⟨U,hs,F,c,U',rel,e,q⟩:=Z;refine Ql e λir e1 e=>?_;refine⟨U,hs,F,ir,rel,e1,λJ H1 ts s1 wk hts ow hz=>?_⟩;have rel1:Rel X.K H0 A0 (ts++hs) (QaV ir.M U) F σ H1:=((rel.ext s1).weak (Qa9 ir.M U)).hold λt ht=>⟨(hts t ht).1,Shr.of rel (hts t ht).2⟩;refine⟨λi m σ' H'=>m=ir.items.length-i/\i<=ir.items.length/\∃Ui Fi,Rel X.K H0 A0 (ts++hs) Ui Fi σ' H'/\Qe2 t f fx (ir.items.drop i) Ui=some (c,U'),⟨_,rfl,Zaa _,_,F,rel1,by simpa using e⟩,?_⟩;rintro i m σ' H' ⟨rfl,hi',Ui,Fi,reli,ei⟩;have held:Qmb X.K H' ts:=λt ht=>(reli.held t (Zd _ ht)).1;by_cases hlt:i<ir.items.length
 .rw[Zaf hlt]at ei;unfold Qe2 at ei;refine Ql ei λU1 eb ei=>?_;refine .inr ⟨wk.go i H' hlt held,λσ2 H2=>∃U2 F2,Rel X.K H0 A0 (ts++hs) U2 F2 σ2 H2/\Qe2 t f fx (ir.items.drop (i+1)) U2=some (c,U'),λσ2 H2 ⟨U2,F2,rel2,e2⟩=>⟨_,⋯,rfl,hlt,U2,F2,rel2,e2⟩,λx H2 hy=>?_⟩;obtain⟨s2,G0,rp0,hG0⟩:=wk.yld i ir.items[i] H' x H2 (by simp[hlt]) held hy;have shr:Shr H0 A0 Ui Fi G0:=λa ha=>by
   obtain⟨t,ht,hat⟩:=hG0 a ha;exact⟨(reli.held t (Zd _ ht)).2 a hat,λj d ej hj=>(reli.own j d ej).2.2.2.2 t (Zd _ ht) a hj hat⟩
  refine⟨Ui,ts++hs,Fi,ir.items[i],G0,U1,reli.ext s2,rp0,shr,eb,λσ3 F3 rel3 _ _=>?_⟩;split at ei
  .rename_i U2 eo;exact .inl ⟨U1,ts++hs,F3,_,rel3,eo,λσ4 H4 F4 rel4=>⟨U2,F4,rel4,ei⟩⟩
  .rename_i U2 eo;exact .inl ⟨U1,ts++hs,F3,_,rel3,eo,λσ4 H4 F4 rel4=>⟨U2,F4,rel4,ei⟩⟩
  .cases ei
  .exact .inr ⟨U1,ts++hs,F3,c,U',rel3,ei,λC ea s' hC T=>q C ea s' hC T.hold⟩
 .have hn:i=ir.items.length:= ⋯
  subst hn;rw[Zcu]at ei;cases ei
end
noncomputable abbrev QDr:List Value:=[.type "ValueError",.type "Exception",.type "BaseException",.type "object"]
structure QiS (K:Fgg) (x:Str):Prop where
 ex:∃C,ClsAt K x C/\PySem.W.excIn K C QDr "ValueError.__new__" =true
def Qu9{K:Fgg}{C:Addr}{bmB:List Value}{newId:String}(q:PySem.W.excIn K C bmB newId=true){h:Heap}(X:K.In h):∃bm N nm qn bs hdct sn sub ab col dd k0 k1 k2 k3 k5 mN,
  h.get? C=some (excClassObj nm qn C N bs bm hdct sn sub ab col dd k0 k1 k2 k3 k5 newId)/\h.Ns N mN/\mN "__init__" =none/\OwnTail h bmB bm:=by
 rw[PySem.W.excIn.eq_def]at q;split at q
 case h_2=>cases q
 rename_i dd cd sl ho;split at q
 case h_2=>cases q
 rename_i C1 bm k0 k1 k2 k3 nid k5 em es;simp only[Zp,beq_iff_eq,Zau]at q;obtain⟨⟨⟨⟨⟨z1,z2⟩,nodel⟩,tl⟩,okN⟩,noInit⟩:=q;subst z1 z2;have hget:=X _ _ ho;have hsl:sl= #[k0,k1,k2,k3,some (.builtin nid),k5]:=Array.ext' es;rw[hsl]at hget;refine⟨bm,cd.ns,cd.name,cd.qualname,cd.bases,cd.hasDict,cd.slotNames,cd.subclasses,cd.abstract,cd.collection,dd,k0,k1,k2,k3,k5,_,?_,.of_isNs (PySem.W.isNs_of_in X okN),PySem.W.nsMap_none_of_in X okN noInit,PySem.W.tail_of_in X tl⟩;rw[hget];cases cd with
 | mk c1 c2 c3 c4 c5 c6 c7 c8 c9 c10 c11=>
  dsimp only at em nodel;rw[em,nodel]
section
variable {X:Cx}{e:Expr}{fs:DA}{x:Str}{np cpos pos:Pos}
def Qvs(hc:X.calm=true)(hg:Gl X x)(hk:QiS X.K x)(hdb:(x == ("__debug__" :Str))=false)(ha:SA X [e] fs)(he:starEach [e] X.env=(false,eval e X.env)::starEach [] X.env):
  Rz X (.Raise (some (.Call (.Name x np) [e] [] cpos)) none pos) (QbB x fs):=λH0 A0 pins s σ H Dd I Z=>by
 obtain⟨U,hs,F,c,U',rel,ex,q⟩:=Z;refine Ql ex λra e1 e2=>?_;split at e2
 case isFalse=>cases e2
 rename_i hl;cases e2;obtain⟨C,hC,hq⟩:=hk.ex;obtain⟨bm,N,nm,qn,bs,hdct,sn,sub,ab,col,dd,k0,k1,k2,k3,k5,mN,o1,o2,o3,o4⟩:=Qu9 hq I.ok.mod.kin;have hm:X.mg x=some (.ref C):=ZaV I.ok.mod.kin I.ok.mod.glob hC
 refine wpAny_Raise_call_subT (C:=C) (nm:=nm) (q:=qn) (N:=N) (bs:=bs) (bm:=bm) (hdct:=hdct) (sn:=sn) (sub:=sub) (ab:=ab) (col:=col) (dd:=dd) (k0:=k0) (k1:=k1) (k2:=k2) (k3:=k3) (k5:=k5)
  PySem.F.excBase_ValueError (mN:=mN) (o4.hasType PySem.F.excBase_ValueError.hasBase) (I.ok.hd hc) (by rw[he];rfl) o3 (QeC I hg hm ⟨rfl,?_⟩ hdb)
 have hargs:=ha H0 A0 cpos pins s σ H (λvs H1=>∃G,Qsj X.K U F H H1 ra vs G) I ⟨U,hs,F,ra,rel,e1,λvs H1 G p1=>⟨G,p1⟩⟩;rw[he]at hargs ⊢;refine Calls.evalArgs_plain (thn hargs λus s2 ⟨vs,H1,I1,rv,G,p1⟩=>⟨rfl,?_,I1.bk _ _ o1,o2.keeps I1.bk,o4.keeps I1.bk,λh' ea hm=>?_⟩)
 .show us.length<=sizeLine;rw[← rv.length,← p1.rp.length];exact ZN hl ∅
 .exact q C ea _ hC ⟨pins,σ,H1,F,rel.ext p1.same,.inl ⟨s2,us,I1,hm,rfl,rfl⟩⟩
end
structure ThX where
 Γx:List (Str×(Nat×(List D->Option Str)))
 cls:List Str
structure XOk (X:Cx) (YX:ThX):Prop where
 ex:X.ex=[]
 stk:X.stack=X.env::X.outer
 fr:X.env.frame=some X.env.locals
 fx:∀x r,look x YX.Γx=some r->∃k f fd ps,QcJ X.prog X.w X.K X.mg X.base (CXR X.prog X.w) k f fd ps (spX X.K r.1 r.2)/\Qbg k X.A/\X.mg x=some (.ref f)/\PySem.W.keepIn X.K (.ref f)=true/\Binds X.K fd ps []/\ps.length=r.1
 cl:∀x∈YX.cls,QiS X.K x
noncomputable def xcE(n:Nat)(Y:Th)(YX:ThX)(e:Expr):DX:=match e with
 | .Call (.Name x _) (a::as) [] _=>if Y.gl x then(match look x YX.Γx with
  | some r=>(match Qb2 n Y (a::as)with | some fs=>QaX r.1 r.2 fs | none=>xNo)
  | none=>xNo)else xNo
 | _=>xNo
noncomputable def xbE(n:Nat)(Y:Th)(YX:ThX)(e:Expr):DX:=
 xcE n Y YX e
noncomputable def xlE(n:Nat)(Y:Th)(YX:ThX)(e:Expr):DX:=match e with
 | .Call (.Name x _) [.ListComp _ [⟨tg,iter,_,0⟩] scope _] [] _=>match QgJ (inner Y scope) tg with
  | some t=>if x= "sorted" /\Y.gl x=true/\QiU Y scope t=true then xcE n Y YX iter else xNo
  | none=>xNo
 | e=>xbE n Y YX e
noncomputable def Qwv:List Expr->Option Str
 | [e]=>Qcv e
 | _=>none
def QnL{e:Expr}{x:Str}{G:Expr->Prop}(h:Qcv e=some x)(g:∀p,G (.Name x p)):G e:=by
 cases e with
 | Name z p=>cases h;exact g p
 | _=>exact nn h
noncomputable def QB2:Expr->Option (Str×Expr)
 | .Call f as kw _=>match kw with
  | _::_=>none
  | []=>match as with
   | []=>none
   | a::as=>match as with
    | _::_=>none
    | []=>(Qcv f).map λx=>(x,a)
 | _=>none
mutual
noncomputable def Qsb(n:Nat)(Y:Th)(YX:ThX)(st:Stmt):Option DX:=match n with
 | 0=>none
 | n+1=>match st with
  | .Raise v c _=>match c with
   | some _=>none
   | none=>v.bind λe=>(QB2 e).bind λq=>if Y.gl q.1 && YX.cls.contains q.1 then(Qb2 n Y [q.2]).map λfs=>QbB q.1 fs else none
  | .Expr e _=>some (xcE n Y YX e)
  | .Return v _=>match v with
   | none=>some xNo
   | some e=>some (xlE n Y YX e)
  | .Assign ts e _=>match Qwv ts with
   | none=>some xNo
   | some x=>(Y.Qct x).map λ_=>xcE n Y YX e
  | .If c a b _=>(Qbo n Y c).bind λg=>(Qfb n Y YX a).bind λfa=>(Qfb n Y YX b).map λfb=>xIf g fa fb
  | .For tg iter body els _=>match els with
   | _::_=>some xNo
   | []=>(QgJ Y tg).bind λt=>(QhA n Y tg iter).bind λfi=>(QaW n Y body).bind λfb=>(Qfb n Y YX body).map λfx=>Qfo fi t fb fx
  | _=>some xNo
noncomputable def Qfb(n:Nat)(Y:Th)(YX:ThX)(sts:List Stmt):Option DX:=match n with
  | 0=>none
  | n+1=>match sts with
    | []=>some xNo
    | st::r=>
     if hop (st::r)=true then some xNo else
     (Qjw n Y st).bind λf=>(Qsb n Y YX st).bind λfx=>(Qfb n Y YX r).map λfr=>QM f fx fr
end
section
variable {X:Cx}{Y:Th}{YX:ThX}
def Qgd{e:Expr}:RzE X e xNo:=λH0 A0 pins s σ H Q I ⟨U,hs,F,x,U',rel,e,q⟩=>by cases e
def QlT{n:Nat}(ok:Qaf X Y)(xk:XOk X YX)(e:Expr):RzE X e (xcE n Y YX e)/\(xcE n Y YX e≠xNo->∃x p a as pos,e= .Call (.Name x p) (a::as) [] pos):=by
 unfold xcE;split
 .rename_i x p a as pos;refine⟨?_,λ_=>⟨x,p,a,as,pos,rfl⟩⟩;split
  .rename_i hg;obtain⟨g1,g2,g3⟩:=QcK ok.toCtxB hg;split
   .rename_i r hr;split
    .rename_i fs hfs;obtain⟨k,f,fd,ps,F1,F2,F3,F4,F5,F6⟩:=xk.fx x r hr;obtain⟨s1,s2⟩:=callArgs (X:=X) hfs rfl pos;exact Qw9 F1 F2 g1 F3 F4 F5 xk.ex F6 ((Qcn n).A X Y _ fs ok hfs) g2 s1 s2
    .exact Qgd
   .exact Qgd
  .exact Qgd
 .exact⟨Qgd,λh=>absurd rfl h⟩
def Qzx{n:Nat}(ok:Qaf X Y)(xk:XOk X YX)(e:Expr):RzE X e (xbE n Y YX e):=
 (QlT ok xk e).1
def QzY{n:Nat}(ok:Qaf X Y)(xk:XOk X YX)(e:Expr):RzE X e (xlE n Y YX e):=by
 unfold xlE;split
 .rename_i x p elt tg iter ifs scope lp pos;split
  .rename_i t ht;split
   .rename_i hc;obtain⟨rfl,hg,hco⟩:=hc;obtain⟨h1,h2⟩:=QlT (n:=n) ok xk iter;by_cases z:xcE n Y YX iter=xNo
    .rw[z];exact Qgd
    .obtain⟨y,p2,a,as,pos2,rfl⟩:=h2 z;obtain⟨S,_,_⟩:=QkC ok hco;obtain⟨g1,_,_⟩:=QcK ok.toCtxB hg;exact λH0 A0 pins s σ H Q I q=>Qf5 (r:=λ_ _ _=>False) (λ_ _ _ _ _ _ _ _ _ z=>z.elim) g1 (ok.mg _ nofun) PyProof.Rows.boot_sorted (Qbh (Qmj (g:=λ_ _ _ _=>False) (tc:=λ_ _ _=>False) (te:=λ_ _ _=>False) ok.calm S (QtP (h1 H0 A0)) (λcl C fp s3 H3=>⟨λ_ _ _ _ _ _ _ _ _ z=>z.elim,λ_ _ _ _ _ _ z=>z.elim,λ_ _ _ _ _ _ z=>z.elim⟩) (λ_=>rfl)) Qde rfl) ∅ ∅ rfl rfl pins s σ H Q I q
   .exact Qgd
  .exact Qgd
 .exact Qzx ok xk _
structure QAq (n:Nat):Prop where
 X:∀X Y YX st f,Qaf X Y->XOk X YX->Qsb n Y YX st=some f->Rz X st f
 Xs:∀X Y YX sts f,Qaf X Y->XOk X YX->Qfb n Y YX sts=some f->RzS X sts f
def QAG{n:Nat}(ih:QAq n):∀X Y YX st f,Qaf X Y->XOk X YX->Qsb (n+1) Y YX st=some f->Rz X st f:=by
 intro X Y YX st f ok xk h;have hN:X.N.Nodup:=by rw[ok.N];exact ok.nd
 cases st with
 | Raise v c pos=>
  cases c with
  | some _=>exact nn h
  | none=>
   refine Ql (show v.bind _=some _ from h) λe he h=>?_;cases he;refine Ql h λq hq h'=>?_;clear h;split at h'
   .rename_i hc;simp only[Zp]at hc;refine mapR h' λfs h1=>?_;clear h';obtain⟨g1,g2,g3⟩:=QcK ok.toCtxB hc.1;obtain⟨s1,s2⟩:=callArgs (X:=X) h1 rfl pos;cases e with
    | Call fn as kw cp=>
     rcases kw with _ | ⟨k1,k2⟩
     .rcases as with _ | ⟨a,_ | ⟨a2,as⟩⟩
      .cases hq
      .obtain⟨x,hx,rfl⟩:=Zf.mp (show(Qcv fn).map _=some q from hq);exact QnL (G:=λt=>Rz X (.Raise (some (.Call t [a] [] cp)) none pos) (QbB x fs)) hx λnp=>Qvs ok.calm g1 (xk.cl x (by simpa using hc.2)) g2 ((Qcn n).A X Y _ fs ok h1) s1
      .cases hq
     .cases hq
    | _=>exact nomatch (show(none:Option (Str×Expr))=some _ from hq)
   .cases h'
 | Expr e pos=>
  cases(show some (xcE n Y YX e)=some f from h);obtain⟨h1,h2⟩:=QlT (n:=n) ok xk e;by_cases hz:xcE n Y YX e=xNo
  .rw[hz];exact Qgg
  .obtain⟨x,p,a,as,pos',rfl⟩:=h2 hz;exact QxY h1 rfl
 | Return v pos=>
  cases v with
  | none=>cases(show some xNo=some f from h);exact Qgg
  | some e=>cases(show some (xlE n Y YX e)=some f from h);exact QAO (QzY (n:=n) ok xk e)
 | Assign ts e pos=>
  rcases ts with _ | ⟨t,_ | ⟨t2,ts⟩⟩
  .cases(show some xNo=some f from h);exact Qgg
  .cases t with
   | Name x p=>
    refine mapR (show(Y.Qct x).map _=some f from h) λi hi=>?_;obtain⟨g1,g2,g3⟩:=Qc8 ok.toCtxB hi;obtain⟨h1,h2⟩:=QlT (n:=n) ok xk e;by_cases hz:xcE n Y YX e=xNo
    .rw[hz];exact Qgg
    .obtain⟨x,p,a,as,pos',rfl⟩:=h2 hz;exact QAm hN g1 g2 g3 h1 (QdU rfl)
   | _=>cases(show some xNo=some f from h);exact Qgg
  .cases(show some xNo=some f from h);exact Qgg
 | If c a b pos=>
  refine Ql (show(Qbo n Y c).bind _=some f from h) λg h1 h=>?_;exact bindR h λfa fb h2 h3=>QB6 ((Qcn n).T X Y c g ok h1) (ih.Xs X Y YX a fa ok xk h2) (ih.Xs X Y YX b fb ok xk h3)
 | For tg iter body els pos=>
  cases els with
  | cons _ _=>cases(show some xNo=some f from h);exact Qgg
  | nil=>
   refine Ql (show(QgJ Y tg).bind _=some f from h) λt h1 h=>?_;refine Ql h λfi h2 h=>?_;refine bindR h λfb fx h3 h4=>?_;obtain⟨i1,i2⟩:=(Qcn n).I X Y tg iter fi ok h2;exact Qz4 ok.pass ok.calm i1 (QlR ok h1) ((QjG n).Ss X Y body fb ok h3) (ih.Xs X Y YX body fx ok xk h4) i2
 | _=>cases(show some xNo=some f from h);exact Qgg
def QrC:∀n,QAq n
 | 0=>⟨λ_ _ _ _ _ _ _ h=>(nn h),λ_ _ _ _ _ _ _ h=>(nn h)⟩
 | n+1=>by
  have ih:=QrC n;refine⟨QAG ih,λX Y YX sts f ok xk h=>?_⟩;cases sts with
  | nil=>cases(show some xNo=some f from h);exact Qxz
  | cons st r=>
   change(if hop (st::r)=true then some xNo else _)=some f at h;split at h
   .cases h;exact λH0 A0 pins s σ H D I q=>by
     obtain⟨U,hs,F,x,U',rel,e,_⟩:=q;cases e
   refine Ql (show(Qjw n Y st).bind _=some f from h) λfs h1 h=>?_;exact bindR h λfx fr h2 h3=>Qwx ((QjG n).S X Y st fs ok h1) (ih.X X Y YX st fx ok xk h2) (ih.Xs X Y YX r fr ok xk h3)
end
noncomputable def Qag(k:Nat)(f:DX):List D->Option Str:=λds=>(f (QaS k ds)).map (·.1)
section
variable (P:Program) (w:World) (K:Fgg) (mg:Str->Option Value) (base:Heap)
def Qhe(k:Nat)(x:Str)(r:Nat×(List D->Option Str)):Prop:=∃f fd ps,QcJ P w K mg base (CXR P w) k f fd ps (spX K r.1 r.2)/\mg x=some (.ref f)/\PySem.W.keepIn K (.ref f)=true/\Binds K fd ps []/\ps.length=r.1
def Qfe(k:Nat)(Γx:List (Str×(Nat×(List D->Option Str)))):Prop:=∀x r,look x Γx=some r->Qhe P w K mg base k x r
end
section
variable {P:Program}{w:World}{K:Fgg}{mg:Str->Option Value}{base:Heap}
def Qfe.nil{k:Nat}:Qfe P w K mg base k []:=λx r h=>by cases h
def Qhe.mono{j k:Nat}{x:Str}{r:Nat×(List D->Option Str)}(h:Qhe P w K mg base j x r)(hk:j<=k):Qhe P w K mg base k x r:=by
 obtain⟨f,fd,ps,h1,h2⟩:=h;exact⟨f,fd,ps,h1.mono hk,h2⟩
def Qfe.mono{j k:Nat}{Γ:List (Str×(Nat×(List D->Option Str)))}(t:Qfe P w K mg base j Γ)(hk:j<=k):Qfe P w K mg base k Γ:=λx r e=>(t x r e).mono hk
def Qfe.cons{k:Nat}{Γ:List (Str×(Nat×(List D->Option Str)))}{x:Str}{r:Nat×(List D->Option Str)}(t:Qfe P w K mg base k Γ)(h:Qhe P w K mg base (k+1) x r):Qfe P w K mg base (k+1) ((x,r)::Γ):=λy q e=>by
 unfold look at e;split at e
 .rename_i z;cases e;subst z;exact h
 .exact(t y q e).mono (ZaE _)
def QbH.up{j k:Nat}{Γ:List (Str×FnR)}(t:QbH P w K mg base j Γ)(hk:j<=k):QbH P w K mg base k Γ:=λx r e=>(t x r e).mono hk
def Qdz{h:Heap}{x:Str}{st:Stmt}{ps:List Str}{k n:Nat}{Γ:List (Str×FnR)}{Γx:List (Str×(Nat×(List D->Option Str)))}{cls:List Str}{cs:List (Str×Int)}{g:DX}(X:K.In h)(G:h.Ns mainGlobals mg)(F:Fact K x st)(S:QbR (namesOf (Qn st)) ps (Qn st))(B:QaD x st ps)(M:Qd4 mg cs)(tab:QbH P w K mg base k Γ)(tabx:Qfe P w K mg base k Γx)
  (hcl:∀x∈cls,QiS K x) (hc:Qfb n (Qei st Γ cs) ⟨Γx,cls⟩ (QaT st)=some g):Qhe P w K mg base (k+1) x (ps.length,Qag (namesOf (Qn st)).length g):=by
 obtain⟨f,fd,Fn,a⟩:=F.ex;refine⟨f,fd,ps,?_,ZaV X G a,Fn.kp,Fn.binds (B ·),rfl⟩;obtain⟨oc,od,kV,doc,pm,an,cdv,ct,osl,rfl,lk,hcd⟩:=Fn.ex;refine QwS lk hcd S (Qym rfl) λA outer s H vs Q E hr hsp=>?_;obtain⟨ds,L,y,rps,hl,hd,hE⟩:=hsp;have ok:Qaf (QdC (CXR P w) P w K mg base (namesOf (Qn st)) x (Qn st) f cdv A outer s H E) (Qei st Γ cs):=Qq2 (CX:=CXR P w) (E:=E) S M tab hr PassesOwn.leaving;have xk:XOk (QdC (CXR P w) P w K mg base (namesOf (Qn st)) x (Qn st) f cdv A outer s H E) ⟨Γx,cls⟩:=⟨rfl,rfl,rfl,λz r e=>by
  obtain⟨f',fd',ps',h1,h2,h3,h4,h5⟩:=tabx z r e;exact⟨k,f',fd',ps',h1,hr,h2,h3,h4,h5⟩,hcl⟩
 refine⟨_,(QrC n).Xs _ _ _ _ g ok xk hc H L,?_⟩;obtain⟨F0,rel⟩:=Qgi (N:=namesOf (Qn st)) rps;obtain⟨⟨y',U'⟩,e1,e2⟩:=Zf.mp hd;cases e2;exact⟨_,[],F0,y',U',rel,e1,λC ea s' hC T=>Qo9 rfl rfl rfl rfl rfl rfl rfl T λH' sm=>hE C H' hC sm⟩
end
end HS
namespace HS
open PySem PySem.Spec L2 PyProof.Rows
section
variable {X:Cx}{pins:List (Addr×Obj)}{σ:L2.St}{H:Hp}{s s':Shared}{B:Heap}
def Qna{h h':Heap}{c:Addr}{v:Option Value}(up:h.UpToSlots h')(z:h.IsCell c v):h'.IsCell c v:=by
 obtain⟨o,e,d⟩:=z;obtain⟨sl,e'⟩:=up c o e λvs q=>by rw[d]at q;cases q
 exact⟨_,e',d⟩
def QkY(I:Inv X pins σ H s)(ho:s'.os=s.os)(hg:AllBare s'.gens)(hx:X.ex=[])(b1:B.StaysIn s.heap)(b2:B.StaysIn s'.heap)(up:s.heap.UpToSlots s'.heap)(cov:Cov H B)
  (old:∀b o,X.s₀.heap.get? b=some o->b∉X.fs->∃o',B.get? b=some o') (pb:∀p∈X.pn++pins,∃o,B.get? p.1=some o):Inv X pins σ H s' where
 ok:=I.ok
 os:=ho.trans I.os
 bare:=hg
 base:=by
  have hb:=I.base;rw[hx]at hb ⊢;exact Qog hb b1 b2 up old (λb o e hb=>Qly I.ok e hb) I.ok.frf
 loc:=by
  obtain⟨m,hn,hl⟩:=I.loc;refine⟨m,up.ns hn,λi x v e1 e2 e3=>?_⟩;obtain⟨u,r,q⟩:=hl i x v e1 e2 e3;refine⟨u,r,?_⟩;rcases q with q | ⟨k,c,e,z⟩
  .exact .inl q
  .exact .inr ⟨k,c,e,Qna up z⟩
 cell:=λx c e=>by
  obtain⟨v,z⟩:=I.cell x c e;exact⟨v,Qna up z⟩
 free:=I.free
 freeC:=I.freeC
 pin:=λp hp=>by
  obtain⟨e,n,ne,nf,d⟩:=I.pin p hp;obtain⟨o,eo⟩:=pb p hp;have:=b1 _ _ eo;rw[e]at this;cases this;exact⟨b2 _ _ eo,n,ne,nf,d⟩
 hok:=QmL I.hok b1 b2 cov
 len:=I.len
def Qxe{ea C:Addr}{a0:Value}(I:Inv X pins σ H s)(hx:X.ex=[])(fl:Heap.FlyingW B X.stack ea (.ref C) a0 s.heap)(cov:Cov H B)(old:∀b o,X.s₀.heap.get? b=some o->b∉X.fs->∃o',B.get? b=some o')
  (pb:∀p∈X.pn++pins,∃o,B.get? p.1=some o):H ea=none/\Inv X pins σ (upd H ea (.ext (QdR ea C))) s:=by
 obtain⟨oe,vs,he,hc,hd,_⟩:=fl.first
 have ne:∀{b o},B.get? b=some o->b≠ea:=λ{b o} e z=>by rw[z,fl.2.1]at e;cases e
 have hn:H ea=none:=by
  cases q:H ea with
  | none=>rfl
  | some u=>obtain⟨o,e⟩:=cov ea u q;exact absurd rfl (ne e)
 have nd:∀{b o},s.heap.get? b=some o->(∀vs,o.data≠ .fields vs)->b≠ea:=λ{b o} e h z=>by
  rw[z,he]at e;cases e;exact h vs hd
 have tr:∀b u,H b=some u->upd H ea (.ext (QdR ea C)) b=some u:=λb u e=>by
  obtain⟨o,eo⟩:=cov b u e;rw[QP (ne eo)];exact e
 refine⟨hn,I.ok,I.os,I.bare,⟨I.base.keep,I.base.slot,λb o e n hxx=>?_,I.base.there,λb xs q=>tr _ _ (I.base.tups b xs q),λb o u q=>tr _ _ (I.base.frzs b o u q),λb ps q=>?_⟩,I.loc,I.cell,?_,λx c e=>?_,λp hp=>?_,λb u e=>?_,I.len⟩
 .rw[QP]
  .exact I.base.free b o e n hxx
  .by_cases hb:b∈X.fs
   .obtain⟨sl,e1⟩:=I.base.slot b o e n hb hxx;exact nd e1 λvs q=>Qly I.ok e hb vs q
   .obtain⟨o',e1⟩:=old b o e hb;exact ne e1
 .obtain⟨more,q⟩:=I.base.tbls b ps q;exact⟨more,tr _ _ q⟩
 .rw[QP]
  .exact I.free
  .obtain⟨m,⟨o,es,ep,e,d,_⟩,_⟩:=I.loc;exact nd e λvs q=>by rw[d]at q;cases q
 .rw[QP]
  .exact I.freeC x c e
  .obtain⟨v,o,eo,d⟩:=I.cell x c e;exact nd eo λvs q=>by rw[d]at q;cases q
 .obtain⟨e,n,ne',nf,d⟩:=I.pin p hp;obtain⟨o,eo⟩:=pb p hp;exact⟨e,by rw[QP (ne eo)];exact n,ne',nf,d⟩
 .by_cases hb:b=ea
  .subst hb;rw[QaL]at e;cases e;refine⟨⟨oe,vs,he,hc,hd⟩,⟨oe,he⟩,λh1 h2 ⟨o,w,e1,e2,e3⟩ k=>⟨o,w,k _ e1,e2,e3⟩⟩
  .rw[QP hb]at e;exact(I.hok b u e).QeG (λc v _ q=>q) (λc q=>tr _ _ q) λc xs q=>tr _ _ q
def QlC{M:Model}{A:Around}{E:Value->Shared->Prop}{i:Nat}{x:Str}{pos:Pos}{Q:Unit->Shared->Prop}(I:Inv X pins σ H s)(hN:X.N.Nodup)(hi:X.N[i]? =some x)(hx:X.env.scope.names.lookup x=some .local)
  (h:∀s',Inv X pins (σ.set i none) H s'->Q () s'):wpAny M A (do bindName X.env x .none;unbindBehindTheSuite X.env x pos) Q E s:=by
 refine wpAny_bind (wpAny_bindName (QhQ (v:= .non) I hN hi (.inl hx) rfl (λs1 I1=>?_) (.inr hx)));have hcls:(X.env.scope.kind == .class || (X.env.scope.kind == .module && X.env.locals != X.env.globals))=false:=by rw[I.ok.kind];rfl
 have hiσ:i<σ.length:=by rw[I.len];exact(Ze.mp hi).1
 obtain⟨m,hn,hl⟩:=id I1.loc;obtain⟨u,_,q⟩:=hl i x .non hi (Zw hiσ) (.inl hx);have hm:m x=some u:=by
  rcases q with⟨_,e⟩ | ⟨k,_⟩
  .exact e
  .have hx':X.env.kindOf x=some .local :=hx;rcases k with k | k<;>rw[hx']at k<;>cases k
 unfold unbindBehindTheSuite;refine wpAny_onRaise (wpAny_unbindName_local hx hn hm hcls λh' u' hn' hs=>h _ ?_);have cne:=I1.cne;obtain⟨oL,_,_,hoL,_⟩:=id hn;refine⟨I1.ok,I1.os,I1.bare,⟨λb o e n hb hx=>?_,λb o e n hb hx=>?_,I1.base.free,λb o e hx=>?_,I1.base.tups,I1.base.frzs,I1.base.tbls⟩,⟨_,hn',λj y v' e1 e2 e3=>?_⟩,λy c e=>?_,I1.free,I1.freeC,λp hp=>?_,λb ob e=>?_,by simpa using I1.len⟩
 .exact(hs.2 b (ZH (Zz (Zr e) I.ok.above))).trans (I1.base.keep b o e n hb hx)
 .obtain⟨sl,e1⟩:=I1.base.slot b o e n hb hx;exact⟨sl,(hs.2 b (ZH (Zz (Zr e) I.ok.above))).trans e1⟩
 .obtain⟨o',e1⟩:=I1.base.there b o e hx;exact⟨o',(hs.2 b (ZH (Zz (Zr e) I.ok.above))).trans e1⟩
 .by_cases hj:j=i
  .subst hj;rw[Zw hiσ]at e2;cases e2
  .rw[Zm (Ne.symm hj)]at e2;have e2':(σ.set i (some V.non))[j]? =some (some v'):=by rw[Zm (Ne.symm hj)];exact e2
   obtain⟨u1,r1,q1⟩:=hl j y v' e1 e2' e3;refine⟨u1,r1,?_⟩;rcases q1 with⟨k,e⟩ | ⟨k,c,e,z⟩
   .refine .inl ⟨k,?_⟩;have:y≠x:=λe=>hj (Qkh hN e1 (e▸hi));simp[this,e]
   .exact .inr ⟨k,c,e,z.sameBut hs (cne y c e)⟩
 .obtain⟨w',z⟩:=I1.cell y c e;exact⟨w',z.sameBut hs (cne y c e)⟩
 .obtain⟨e,n,ne,nf,d⟩:=I1.pin p hp;exact⟨(hs.2 p.1 ne).trans e,n,ne,nf,d⟩
 .refine(I1.hok b ob e).QeG (λc w' hc q=>(hs.2 c ?_).trans q) (λ_ q=>q) λ_ _ q=>q;rintro rfl;have hfree:=I1.free;rcases hc with rfl | hc
  .rw[hfree]at e;cases e
  .rw[hfree]at hc;cases hc
end
noncomputable abbrev inH(X:Cx)(ea:Addr):Cx:={X with A:=X.A.mark (some (.ref ea)),calm:=false,xe:=λ_ _=>False}
def Fly(X:Cx)(pins:List (Addr×Obj))(H:Hp)(ea C:Addr)(s:Shared):Prop:=∃B a0,Heap.FlyingW B X.stack ea (.ref C) a0 s.heap/\Cov H B/\(∀b o,X.s₀.heap.get? b=some o->b∉X.fs->∃o',B.get? b=some o')/\∀p∈X.pn++pins,∃o,B.get? p.1=some o
section
variable {X:Cx}{pins:List (Addr×Obj)}{σ:L2.St}{H:Hp}{s s':Shared}{B:Heap}{ea C:Addr}
def _root_.L2.Inv.inH(I:Inv X pins σ H s):Inv (HS.inH X ea) pins σ H s:=
 ⟨⟨I.ok.mod,I.ok.kind,I.ok.glob,I.ok.blt,I.ok.above,I.ok.inj,I.ok.has,I.ok.cab,λz=>(by cases z),I.ok.frames,I.ok.stk,I.ok.exf,I.ok.bs,I.ok.bsz,I.ok.noex,I.ok.exfs,I.ok.Qd0,I.ok.frf⟩,I.os,I.bare,I.base,I.loc,I.cell,I.free,I.freeC,I.pin,I.hok,I.len⟩
def _root_.L2.Inv.QgC(ok:X.Ok)(I:Inv (HS.inH X ea) pins σ H s):Inv X pins σ H s:=⟨ok,I.os,I.bare,I.base,I.loc,I.cell,I.free,I.freeC,I.pin,I.hok,I.len⟩
def Qp2{E:Value->Shared->Prop}{Qk:Shared->Prop}{H0:Hp}{A0:LAd}{hs:List (V×D×List Addr)}{U:En}(T:Qg6 X H0 A0 hs U (.ref C) ea s')(hx:X.ex=[])(hst:X.stack=X.env::X.outer)(hf:X.env.frame=some X.env.locals)
  (k:∀pins σ H F s'',Rel X.K H0 A0 hs U F σ H->Inv X pins σ H s''->Fly X pins H ea C s''->Qk s''):
  wpAny (model X.prog X.w) X.A (noteFrame (.ref ea) X.env) (λ_ s₂=>wpAny (model X.prog X.w) X.A (setFlight (.ref ea) none) (λ_ s₃=>Qk s₃) E s₂) E s':=by
 obtain⟨pins,σ,H,F,rel,⟨sg,args,I,hm,ho,hg⟩ | ⟨B,a0,I,fl,cov,old,pb⟩⟩:=T
 .obtain⟨B,b1,b2,cov,old,pb⟩:=Qph I hx;have hfr:=I.ok.frames;rw[hst]at hfr b2;obtain⟨t,he,htn,ht⟩:=hm.there;have fresh:B.get? ea=none:=by
   cases q:B.get? ea with
   | none=>rfl
   | some o=>have:=b1 _ _ q;rw[hm.new]at this;cases this
  have note:∀Q:Unit->Shared->Prop,(∀h',Heap.NotedW B (X.env::X.outer) ea (.ref C) (.ref t) (rawInt X.env.locals) s'.heap h'->Q () {s' with heap:=h'})->wpAny (model X.prog X.w) X.A (noteFrame (.ref ea) X.env) Q E s':=λQ hq=>by
   unfold noteFrame;simp only[hf];refine wpAny_bind (wpAny_field (x:= .none) he rfl rfl ?_);rw[if_neg ∅];exact wpAny_entryW (a0:= .ref t) hfr (b2.of_keeps λb o hb _=>⟨o,hm.keeps b o hb,rfl⟩) hf he (λb o hb=>hm.keeps b o (b1 b o hb)) fresh rfl (by show 1<6;decide) rfl hq
  refine note _ λh1 Z=>?_;obtain⟨n1,n2,n3,n4⟩:=Z;refine wpAny_landsW (s:={s' with heap:=h1}) (L:=X.env.locals) ⟨n1,fresh,n2,n3⟩ λh2 fl up=>?_;have up':sg.heap.UpToSlots h2:=((Heap.UpToSlots.of_keeps hm.keeps).trans n4).trans up;refine k pins σ H F _ rel (QkY I ho (by show AllBare s'.gens;rw[hg];exact I.bare) hx b1 fl.1 up' cov old pb) ⟨B,_,by rw[hst];exact fl,cov,old,pb⟩
 .have hfr:=I.ok.frames;rw[hst]at hfr fl;refine wpAny_looks_onW hfr hf fl λh1 hd up1=>?_;refine wpAny_landsW (s:={s' with heap:=h1}) hd λh2 fl2 up2=>?_;exact k pins σ H F _ rel (QkY I rfl I.bare hx fl.1 fl2.1 (up1.trans up2) cov old pb) ⟨B,a0,by rw[hst];exact fl2,cov,old,pb⟩
def Qsn(K:Fgg)(sub:Str->Str->Option Bool):Prop:=∀x y b,sub x y=some b->∃C c,ClsAt K x C/\PySem.W.KtsName K y c/\PySem.W.exmOne K (.ref C) c=some b
def Qsu{E:Value->Shared->Prop}{y:Str}{c:Value}{np:Pos}{Q:Value->Shared->Prop}(I:Inv X pins σ H s)(hg:Gl X y)(hdb:(y == ("__debug__" :Str))=false)(k:PySem.W.KtsName X.K y c)(h:Q c s):wpAny (model X.prog X.w) X.A (eval (.Name y np) X.env) Q E s:=by
 rcases k with k | ⟨k1,k2,k3⟩
 .exact QeC I hg (ZaV I.ok.mod.kin I.ok.mod.glob k) h hdb
 .exact QcS I hg (PySem.W.mg_none_of I.ok.mod.kin I.ok.mod.glob k1) k2 h k3 hdb
def QiE{K:Fgg}{x:Str}{C C':Addr}(a:ClsAt K x C)(b:ClsAt K x C'):C=C':=by
 unfold ClsAt at a b;rw[a]at b;exact Value.ref.inj (Option.some.inj (Option.some.inj b))
def Rel.QmQ{K:Fgg}{H0:Hp}{A0:LAd}{hs:List (V×D×List Addr)}{U:En}{F:Nat->List Addr}{i:Nat}(r:Rel K H0 A0 hs U F σ H):Rel K H0 A0 hs (U.set i none) F (σ.set i none) H:=by
 have w:=r.weak (Qiv (U:=U) i);refine⟨by simpa using r.len,λj d b e=>?_,w.own,w.src,w.held,w.same⟩;obtain⟨v,h1,h2⟩:=w.val j d b e;refine⟨v,?_,h2⟩;by_cases hj:i=j
 .subst hj;exfalso;by_cases hl:i<U.length
  .rw[Zw hl]at e;cases e
  .rw[Zt (by simp;omega)]at e;cases e
 .rw[Zm hj];exact h1
noncomputable def QBi(i:Nat):Out->Out
 | .nx U=> .nx (U.set i none)
 | .bk U=> .bk (U.set i none)
 | .ct U=> .ct (U.set i none)
 | .rt d fr=> .rt d fr
noncomputable abbrev Hd:=Str×Option Nat×DS
noncomputable def Qoh(sub:Str->Str->Option Bool)(x:Str)(U:En):List Hd->Option Out
 | []=>none
 | h::r=>(sub x h.1).bind λb=>if b=true then(match h.2.1 with
  | none=>h.2.2 U
  | some i=>(h.2.2 (U.set i (some (.exc x,true)))).map (QBi i))else Qoh sub x U r
noncomputable def QfN(f:DS)(fx:DX)(sub:Str->Str->Option Bool)(hl:List Hd):DS:=λU=>match f U with
 | some o=>some o
 | none=>(fx U).bind λq=>Qoh sub q.1 q.2 hl
inductive QgF (X:Cx):List ExceptHandler->List Hd->Prop
 | nil:QgF X [] []
 | bare {y:Str}{np pos:Pos}{b₀:Stmt}{suite:List Stmt}{r:List ExceptHandler}{hr:List Hd}{f:DS}(hg:Gl X y) (hdb:(y == ("__debug__" :Str))=false) (hS:∀ea,SS (inH X ea) (b₀::suite) f) (t:QgF X r hr):
   QgF X (.ExceptHandler (some (.Name y np)) none (b₀::suite) pos::r) ((y,none,f)::hr)
 | as {y n:Str}{np pos:Pos}{b₀:Stmt}{suite:List Stmt}{r:List ExceptHandler}{hr:List Hd}{f:DS}{i:Nat}(hg:Gl X y) (hdb:(y == ("__debug__" :Str))=false) (hi:X.N[i]? =some n) (hl:X.env.scope.names.lookup n=some .local) (hS:∀ea,SS (inH X ea) (b₀::suite) f) (t:QgF X r hr):
   QgF X (.ExceptHandler (some (.Name y np)) (some n) (b₀::suite) pos::r) ((y,some i,f)::hr)
def _root_.L2.SP.QgC{Dd:Ends}{f:Flow}(ok:X.Ok)(h:SP (HS.inH X ea) pins Dd f s):SP X pins Dd f s:=by
 cases f with
 | next=>obtain⟨σ',H',I,q⟩:=h;exact⟨σ',H',I.QgC ok,q⟩
 | brk=>obtain⟨σ',H',I,q⟩:=h;exact⟨σ',H',I.QgC ok,q⟩
 | cont=>obtain⟨σ',H',I,q⟩:=h;exact⟨σ',H',I.QgC ok,q⟩
 | ret u=>obtain⟨v,σ',H',I,r,q⟩:=h;exact⟨v,σ',H',I.QgC ok,r,q⟩
def QtI{sub:Str->Str->Option Bool}{x:Str}{H0:Hp}{A0:LAd}{hs:List (V×D×List Addr)}{U:En}{Dd:Ends}{o:Out}(hN:X.N.Nodup)(hx:X.ex=[])(hsub:Qsn X.K sub)(hC:ClsAt X.K x C):
  ∀{hds:List ExceptHandler}{hl:List Hd},QgF X hds hl->∀{F:Nat->List Addr}{σ:L2.St}{H:Hp}{s:Shared},Inv X pins σ H s->Rel X.K H0 A0 hs U F σ H->Fly X pins H ea C s->Qoh sub x U hl=some o->Fits X.K H0 A0 hs Dd o→
   wpAny (model X.prog X.w) X.A (handleBy (.ref ea) X.env hds) (SP X pins Dd) X.xe s:=by
 intro hds hl h
 have test:∀{y:Str}{np pos:Pos}{nm:Option Str}{b₀:Stmt}{suite:List Stmt}{r:List ExceptHandler}{b:Bool}{σ:L2.St}{H:Hp}{s:Shared},Gl X y->(y == ("__debug__" :Str))=false->sub x y=some b->Inv X pins σ H s->Fly X pins H ea C s→
   (b=true->codeAny (model X.prog X.w) (X.A.mark (some (.ref ea))) (.handlers (.ref ea) [.ExceptHandler none nm (b₀::suite) pos] X.env) (λr s₂=>match r with
     | .ok f=>(match nm with
      | none=>SP X pins Dd f s₂
      | some n=>wpAny (model X.prog X.w) X.A (do bindName X.env n .none;unbindBehindTheSuite X.env n pos) (λ_ s₃=>SP X pins Dd f s₃) X.xe s₂)
     | .error x=>cameBackBy (model X.prog X.w) X.A X.env X.xe x s₂) s)→
   (b=false->wpAny (model X.prog X.w) X.A (handleBy (.ref ea) X.env r) (SP X pins Dd) X.xe s)->wpAny (model X.prog X.w) X.A (handleBy (.ref ea) X.env (.ExceptHandler (some (.Name y np)) nm (b₀::suite) pos::r)) (SP X pins Dd) X.xe s:=by
  intro y np pos nm b₀ suite r b σ H s hg hdb e1 I fly ht hf;obtain⟨C',c,k1,k2,k3⟩:=hsub x y b e1;cases QiE hC k1;obtain⟨B,a0,fl,_⟩:=fly;obtain⟨ob,hob,hc⟩:=fl.there;have LT:PySem.W.Looks (model X.prog X.w) s.heap (typeOf (.ref ea)) (.ref C):=hc▸(PySem.W.Looks.ld hob).andThen .now;refine wpAny_handleBy_cons (codeAny_handlers_test (Qsu (X:=HS.inH X ea) (I.inH (ea:=ea)) hg hdb k2 ((PySem.W.exm_one I.kIn LT k3).here ?_))) (by intro q;cases q);cases b with
  | true=>exact ht rfl
  | false=>exact hf rfl
 induction h with
 | nil=>intro F σ H s I rel fly e q;cases e
 | @bare y np pos b₀ suite r hr f hg hdb hS t ih=>
  intro F σ H s I rel fly e q;refine Ql e λb e1 e=>?_;refine test hg hdb e1 I fly (λhb=>?_) λhb=>?_
  .subst hb;rw[if_pos rfl]at e;obtain⟨B,a0,fl,cov,old,pb⟩:=fly;refine codeAny_handlers_suite (lands_againW fl λh' fl' up=>?_);have I1:=QkY (s':={s with heap:=h'}) I rfl I.bare hx fl.1 fl'.1 up cov old pb;exact wpAny_mono (hS ea H0 A0 pins _ σ H Dd (I1.inH (ea:=ea)) ⟨U,hs,F,o,rel,e,q⟩) (λf s2 hq=>SP.QgC I.ok hq) λ_ _ z=>z.elim
  .subst hb;rw[if_neg Zam]at e;exact ih I rel fly e q
 | @as y n np pos b₀ suite r hr f i hg hdb hi hl hS t ih=>
  intro F σ H s I rel fly e q;refine Ql e λb e1 e=>?_;refine test hg hdb e1 I fly (λhb=>?_) λhb=>?_
  .subst hb;rw[if_pos rfl]at e;obtain⟨o1,e2,e3⟩:=Zf.mp e;subst e3;obtain⟨B,a0,fl,cov,old,pb⟩:=fly;refine codeAny_handlers_suite_as (lands_againW fl λh' fl' up=>?_);have I1:=QkY (s':={s with heap:=h'}) I rfl I.bare hx fl.1 fl'.1 up cov old pb;obtain⟨hn,I2⟩:=Qxe I1 hx fl' cov old pb;have sm:QU H (upd H ea (.ext (QdR ea C))):=λb u eb=>by rw[QP (λz=>by rw[z,hn]at eb;cases eb)];exact eb
   refine QhQ (X:=HS.inH X ea) (v:= .ref ea) (I2.inH (ea:=ea)) hN hi (.inl hl) rfl (λs3 I3=>?_) (.inr hl);obtain⟨F',rel'⟩:=(rel.ext sm).QC6 (i:=i) (d:= .exc x) (v:= .ref ea) (by rw[Rp];exact⟨⟨ea,rfl,C,hC,QaL⟩,rfl⟩) rfl;refine wpAny_mono (hS ea H0 A0 pins _ _ _ ⟨λσ' H'=>Dd.nx (σ'.set i none) H',Dd.rt,λσ' H'=>Dd.bk (σ'.set i none) H',λσ' H'=>Dd.ct (σ'.set i none) H'⟩ I3 ⟨_,hs,F',o1,rel',e2,?_⟩) (λf s4 hq=>?_) λ_ _ z=>z.elim
   .cases o1 with
    | nx U1=>exact λσ' H' F' rel'=>q _ _ _ rel'.QmQ
    | bk U1=>exact λσ' H' F' rel'=>q _ _ _ rel'.QmQ
    | ct U1=>exact λσ' H' F' rel'=>q _ _ _ rel'.QmQ
    | rt d fr=>exact q
   .cases f with
    | next=>obtain⟨σ',H',I4,q4⟩:=hq;exact QlC (I4.QgC I.ok) hN hi hl λs5 I5=>⟨_,H',I5,q4⟩
    | brk=>obtain⟨σ',H',I4,q4⟩:=hq;exact QlC (I4.QgC I.ok) hN hi hl λs5 I5=>⟨_,H',I5,q4⟩
    | cont=>obtain⟨σ',H',I4,q4⟩:=hq;exact QlC (I4.QgC I.ok) hN hi hl λs5 I5=>⟨_,H',I5,q4⟩
    | ret u=>obtain⟨v,σ',H',I4,r4,q4⟩:=hq;exact QlC (I4.QgC I.ok) hN hi hl λs5 I5=>⟨v,_,H',I5,r4,q4⟩
  .subst hb;rw[if_neg Zam]at e;exact ih I rel fly e q
noncomputable abbrev Cx.chg(X:Cx)(xe:Value->Shared->Prop)(pn:List (Addr×Obj)):Cx:={X with xe:=xe,pn:=pn}
def _root_.L2.Inv.chg{xe:Value->Shared->Prop}(I:Inv X pins σ H s):Inv (Cx.chg X xe (X.pn++pins)) [] σ H s:=
 ⟨⟨I.ok.mod,I.ok.kind,I.ok.glob,I.ok.blt,I.ok.above,I.ok.inj,I.ok.has,I.ok.cab,I.ok.hd,I.ok.frames,I.ok.stk,I.ok.exf,I.ok.bs,I.ok.bsz,I.ok.noex,I.ok.exfs,I.ok.Qd0,I.ok.frf⟩,I.os,I.bare,I.base,I.loc,I.cell,I.free,I.freeC,λp hp=>I.pin p (by simpa using hp),I.hok,I.len⟩
def _root_.L2.Inv.QlQ{xe:Value->Shared->Prop}{pins':List (Addr×Obj)}(ok:X.Ok)(I:Inv (Cx.chg X xe (X.pn++pins)) pins' σ H s):Inv X pins σ H s:=
 ⟨ok,I.os,I.bare,I.base,I.loc,I.cell,I.free,I.freeC,λp hp=>I.pin p (Zd _ hp),I.hok,I.len⟩
def Qz3{sub:Str->Str->Option Bool}{body:List Stmt}{h₀:ExceptHandler}{hds:List ExceptHandler}{hl:List Hd}{f:DS}{fx:DX}{pos:Pos}(hN:X.N.Nodup)(hx:X.ex=[])(hst:X.stack=X.env::X.outer)(hf:X.env.frame=some X.env.locals)(hsub:Qsn X.K sub)
  (hb:∀xe pn,PassesOwn (model X.prog X.w) X.A X.env xe->SS (Cx.chg X xe pn) body f/\RzS (Cx.chg X xe pn) body fx) (hh:QgF X (h₀::hds) hl):S1 X (.Try body (h₀::hds) [] [] pos) (QfN f fx sub hl):=λH0 A0 pins s σ H Dd I=>exK λU hs F o rel e q=>by
 refine wpAny_Try_except ?_;have pass:PassesOwn (model X.prog X.w) X.A X.env (λe s₁=>wpAny (model X.prog X.w) X.A (noteFrame e X.env) (λ_ s₂=>wpAny (model X.prog X.w) X.A (setFlight e none) (λ_ s₃=>wpAny (model X.prog X.w) X.A (handleBy e X.env (h₀::hds)) (SP X pins Dd) X.xe s₃) X.xe s₂) X.xe s₁):=PassesOwn.looking;obtain⟨b1,b2⟩:=hb _ (X.pn++pins) pass;unfold QfN at e;split at e
 .rename_i o' eo;cases e;refine thn (b1 H0 A0 [] s σ H Dd I.chg ⟨U,hs,F,o,rel,eo,q⟩) λfl s1 hq=>?_;cases fl with
  | next=>obtain⟨σ',H',I1,q1⟩:=hq;exact wpAny_execs_nil ⟨σ',H',I1.QlQ I.ok,q1⟩
  | brk=>obtain⟨σ',H',I1,q1⟩:=hq;exact⟨σ',H',I1.QlQ I.ok,q1⟩
  | cont=>obtain⟨σ',H',I1,q1⟩:=hq;exact⟨σ',H',I1.QlQ I.ok,q1⟩
  | ret u=>obtain⟨v,σ',H',I1,r1,q1⟩:=hq;exact⟨v,σ',H',I1.QlQ I.ok,r1,q1⟩
 .obtain⟨⟨x,U'⟩,e1,e⟩:=bind1 e;refine thn (b2 H0 A0 [] s σ H ⟨λ_ _=>False,λ_ _=>False,λ_ _=>False,λ_ _=>False⟩ I.chg ⟨U,hs,F,x,U',rel,e1,λC ea s' hC T=>?_⟩) λfl s1 hq=>?_
  .refine Qp2 (X:=Cx.chg X _ (X.pn++pins)) (E:=X.xe) (Qk:=λs₃=>wpAny (model X.prog X.w) X.A (handleBy (.ref ea) X.env (h₀::hds)) (SP X pins Dd) X.xe s₃) T hx hst hf λpins' σ' H' F' s'' rel' I' fly=>?_;obtain⟨B,a0,fl,cov,old,pb⟩:=fly;exact QtI hN hx hsub hC hh (I'.QlQ I.ok) rel' ⟨B,a0,fl,cov,old,λp hp=>pb p (Zd _ hp)⟩ e q
  .cases fl with
   | next=>obtain⟨σ',H',I1,q1⟩:=hq;exact q1.elim
   | brk=>obtain⟨σ',H',I1,q1⟩:=hq;exact q1.elim
   | cont=>obtain⟨σ',H',I1,q1⟩:=hq;exact q1.elim
   | ret u=>obtain⟨v,σ',H',I1,r1,q1⟩:=hq;exact q1.elim
end
end HS
namespace HS
open PySem PySem.Spec L2 PyProof.Rows PySem.W
structure QhR (K:Frag) (C:Addr):Prop where
 cl:(clsIn K C).isSome=true
 ga:findIn K (.ref C) "__getattribute__" =some (some (.builtin "BaseException.__getattribute__"))
 hk:findIn K (.ref C) "__getattr__" =some none
 ca:findIn K (.ref C) "__class__" =some (some (.builtin "object.__class__"))
 mo:mroIn K C (.type "object")=some true
 be:subIn K (.ref C) (.type "BaseException")=some true
section
variable {prog:Program}{w:World}{A:Around}{E:Value->Shared->Prop}{s:Shared}{K:Frag}{a C:Addr}
def QiF{M:Model}{h:Heap}(x:QdR a C h):Looks M h (typeOf (.ref a)) (.ref C):=by
 obtain⟨o,vs,e,c,_⟩:=x;exact c▸(Looks.ld e).andThen .now
def Qyu{R:Result->Shared->Prop}{tp:Value}(z:QhR K C)(X:K.In s.heap)(x:QdR a C s.heap)(h:R (.ok (.ret (.ref C))) s):
  codeAny (model prog w) A (.call (.builtin "getset_descriptor.__get__") ⟨[.builtin "object.__class__",.ref a,tp],[]⟩) R s:=by
 obtain⟨hh,g,dr,t,os⟩:=s;have T0:=QiF (M:=model prog w) x;have T1:=looks_mroIn (M:=model prog w) X z.mo
 refine codeAny_call_builtin KF.slot_gs.plain KF.entry_gs
  (KF.slot_gs.check _ _ _ _ _ _ _ _ KF.type_class (KF.args_gs _ _ _) ?_)
 unfold Builtin.«getset_descriptor.__get__» Builtin.Getset_descriptor.descrGet;rw[dga_obj];refine wpAny_bind (wpAny_pure ?_)
 unfold Builtin.Getset_descriptor.descrGetter Builtin.Getset_descriptor.descrCheckInstance
  Builtin.Getset_descriptor.descrNameAndClass isInstance
 simp only[KF.owner_class]
 repeat lk
 refine⟨Code.quiet_builtin _ nofun,
  codeAny_builtin KF.entry_class ?_⟩
 unfold Builtin.«object.__class__» shownTypeOf;repeat lk
 exact h
def QtH{tk:Tok}{Q:Fin->Shared->Prop}(z:QhR K C)(X:K.In s.heap)(x:QdR a C s.heap)(h:Q (.done (.ret (.ref C))) s):
  wpAny (model prog w) A (Builtin.«object.__getattribute__» ⟨[.ref a,.str "__class__" tk],[]⟩) Q E s:=by
 obtain⟨hh,g,dr,t,os⟩:=s;have T0:=QiF (M:=model prog w) x;have T1:=looks_findIn (M:=model prog w) X z.ca;have f5:=F.typeOf_object_class;have f6:=F.slot_gs_get.lookup;have f7:=F.slot_gs_set.lookup;obtain⟨o,vs,hx,hc,hd⟩:=id x;have hT5:(⟨hh,g,dr,t,os⟩:Shared).TypeIs (.builtin "object.__class__") "getset_descriptor" :=f5
 repeat (any_goals (first | assumption | (with_reducible refine wpAny_loadPart_at hx ?_;rw[hc]) | with_reducible refine T1.at ?_ | wp_step))
 refine Qyu z X x ?_
 repeat (any_goals (first | assumption | wp_step))
def Qt5{M:Model}{nameV:Value}{Q:Unit->Shared->Prop}(z:QhR K C)(X:K.In s.heap)(x:QdR a C s.heap)(h:Q () s):wpAny M A (checkBuiltinCall "BaseException.__getattribute__" ⟨[.ref a,nameV],[]⟩) Q E s:=by
 obtain⟨hh,g,dr,t,os⟩:=s;have k1:builtinKind "BaseException.__getattribute__" =some .slot:= nofun
 have k2:splitId "BaseException.__getattribute__" =some ("BaseException","__getattribute__"):= nofun
 have T0:=QiF (M:=M) x;have T1:=looks_subIn (M:=M) X z.be;have T2:Looks M hh (isInstance (.ref a) (.type "BaseException")) true:=T0.andThen T1;have k3:=F.args_bexc_ga (.ref a) nameV;simp only[checkBuiltinCall,k1,k2];refine wpAny_bind (T2.at ?_);rw[if_neg ∅];have k4:Q () ⟨hh,g,dr,t,os⟩:=h
 repeat (any_goals (first | assumption | wp_step))
def QzB{tk:Tok}{Q:Value->Shared->Prop}(z:QhR K C)(X:K.In s.heap)(x:QdR a C s.heap)(h:Q (.ref C) s):wpAny (model prog w) A (getAttrBy (.ref a) (.str "__class__" tk) false) Q E s:=by
 obtain⟨hh,g,dr,t,os⟩:=s;have T0:=QiF (M:=model prog w) x;have T1:=looks_findIn (M:=model prog w) X z.ga;have T2:=looks_findIn (M:=model prog w) X z.hk;have f3:=PySem.F.attr_ValueError.ga.bind (.ref a);have n2:(Value.builtin "BaseException.__getattribute__" == Value.builtin "object.__getattribute__")=false:= nofun
 have n1:(onTheHeap (Value.ref C) && Value.builtin "BaseException.__getattribute__" == Value.builtin "object.__getattribute__")=false:=by rw[n2];rfl
 obtain⟨o,vs,hx,hc,hd⟩:=id x
 repeat (any_goals (first | assumption | (with_reducible refine wpAny_loadPart_at hx ?_;rw[hc]) | with_reducible refine T1.at ?_ | with_reducible refine T2.at ?_ | wp_step))
 refine codeAny_call_builtin PySem.F.attr_ValueError.ga.plain F.entry_bexc_ga (Qt5 z X x (QtH z X x ?_));have k4:Q (.ref C) ⟨hh,g,dr,t,os⟩:=h
 repeat (any_goals (first | assumption | wp_step))
def QvY{Q:Option Value->Shared->Prop}(z:QhR K C)(X:K.In s.heap)(x:QdR a C s.heap)(h:Q (some (.ref C)) {s with toks:=s.toks+1}):wpAny (model prog w) A (getAttr? (.ref a) "__class__") Q E s:=by
 obtain⟨hh,g,dr,t,os⟩:=s;have k4:Q (some (.ref C)) ⟨hh,g,dr,t+1,os⟩:=h;have X':K.In (⟨hh,g,dr,t+1,os⟩:Shared).heap:=X;have x':QdR a C (⟨hh,g,dr,t+1,os⟩:Shared).heap:=x;unfold getAttr? getAttrBy?
 repeat (any_goals (first | assumption | with_reducible apply QzB z X' x' | wp_step))
def Qob(z:QhR K C):KitX K (.ref a) (.ref C) (QdR a C) where
 ty:=λ_ _ _ x=>QiF x
 it:=λ_ _ X _=>by
  have h0:=z.cl;unfold clsIn at h0;split at h0
  .rename_i ho;intro A' Q' E' s' k q;unfold isType loadHead;refine wpAny_bind ?_;exact wpAny_loadPart (k _ _ (X _ _ ho)) (wpAny_pure q)
  .cases h0
 ne:=λh tp dd its n sl X htp=>by
  have h0:=z.cl;refine Bool.eq_false_iff.mpr λq=>?_;obtain rfl:C=tp:=Value.ref.inj (beq_iff_eq.mp q);unfold clsIn at h0;split at h0
  .rename_i ho;have e:=X _ _ ho;rw[htp]at e;cases e
  .cases h0
 ca:=λX x k=>QvY z X x k
end
end HS
namespace HS
open PySem PySem.Spec L2 PyProof.Rows
def Qx3(K:Fgg)(x y:Str)(b:Bool):Prop:=∃C c,ClsAt K x C/\PySem.W.KtsName K y c/\PySem.W.exmOne K (.ref C) c=some b/\PySem.W.kitOne K (.ref C) c=some b/\QhR K C
def QbY(K:Fgg)(sub:Str->Str->Option Bool):Prop:=∀x y b,sub x y=some b->Qx3 K x y b
def QbY.ok{K:Fgg}{sub:Str->Str->Option Bool}(h:QbY K sub):Qsn K sub:=λx y b e=>by
 obtain⟨C,c,h1,h2,h3,_⟩:=h x y b e;exact⟨C,c,h1,h2,h3⟩
noncomputable def vC:Value->V
 | .ref a=> .ref a
 | .type n=> .ty n
 | _=> .non
def Qtf{K:Fgg}{C:Addr}{c:Value}{b:Bool}(h:PySem.W.kitOne K (.ref C) c=some b):RelV (vC c) c:=by
 cases c with
 | ref a=>exact rfl
 | type n=>exact rfl
 | _=>
  unfold PySem.W.kitOne at h;split at h
  .rename_i q;have:=beq_iff_eq.mp q;cases this
  .cases h
noncomputable def anyS(sub:Str->Str->Option Bool)(x:Str):List Str->Option Bool
 | []=>some false
 | y::r=>(sub x y).bind λb=>(anyS sub x r).map λd=>b || d
noncomputable def QeD(sub:Str->Str->Option Bool)(ys:List Str)(fa:DE):DE:=λU=>(fa U).bind λr=>match r.d with
 | .exc x=>(anyS sub x ys).map λb=>⟨.bl b,true,[]⟩
 | _=>none
section
variable {X:Cx}{a:Expr}{fa:DE}{p p2 pos:Pos}{sub:Str->Str->Option Bool}
def QCK(K:Fgg):List V->Hp->VK->Prop:=λxs H Q=>∃C a y,xs=[.ref a,y]/\H a=some (.ext (QdR a C))/\QhR K C∧
 ((∃c b,y=vC c/\PySem.W.kitOne K (.ref C) c=some b/\Q (.bl b) H)∨∃tp cs b,y= .ref tp/\H tp=some (.tup (cs.map vC))/\(∀c∈cs,RelV (vC c) c)/\PySem.W.kitAny K (.ref C) cs=some b/\Q (.bl b) H)
def QoS{v:V}{c c':Value}(hv:v=vC c)(h:RelV (vC c) c)(h':RelV v c'):c'=c:=by
 subst hv;cases c with
 | ref a=>exact h'
 | type n=>exact h'
 | none=>cases h';rfl
 | _=>cases h
def Qpj:∀{cs:List Value}{us:List Value},(∀c∈cs,RelV (vC c) c)->QB (cs.map vC) us->us=cs
 | [],_,_,.nil=>rfl
 | c::cs,_,h,.cons r t=>by
  rw[QoS rfl (h c Zi) r,Qpj (λc hc=>h c (Zb _ hc)) t]
def Qvp:Qb7 X (.builtin "isinstance") (QCK X.K):=by
 intro pins s σ H xs us Q I r h;obtain⟨C,a,y,rfl,hH,z,h⟩:=h;obtain⟨u,w,rfl,ru,rw'⟩:=vals2 r;cases(show u=Value.ref a from ru);have xo:QdR a C s.heap:=(show Qca X.prog X.w H s.heap a (.ext (QdR a C))from I.hok a _ hH).1;rcases h with⟨c,b,rfl,k,q⟩ | ⟨tp,cs,b,rfl,ht,hr,k,q⟩
 .cases QoS rfl (Qtf k) rw';exact ZaR (Qob z) I.kIn xo k (λz=>nomatch z) λtk=>⟨.bl b,H,I.tok _,rfl,q⟩
 .cases(show w=Value.ref tp from rw');obtain⟨_,its,rv,o,e1,e2,n,e3⟩:=(show Qca X.prog X.w H s.heap tp (.tup (cs.map vC))from I.hok tp _ ht);have hits:=Qpj hr rv;subst hits;obtain⟨oc,od,odat,osl⟩:=o;dsimp only at e2 e3;subst e2 e3;exact PySem.W.kia_tup (Qob z) I.kIn xo e1 k (λz=>nomatch z) λtk=>⟨.bl b,H,I.tok _,rfl,q⟩
def QAa{y:Str}{c:Value}{np:Pos}(hg:Gl X y)(hdb:(y == ("__debug__" :Str))=false)(k:PySem.W.KtsName X.K y c)(hr:RelV (vC c) c):PE X (.Name y np) (tC (vC c)):=λpins s σ H Q I h=>Qsu I hg hdb k ⟨vC c,H,I,hr,h⟩
def Qzb{y:Str}(hsub:QbY X.K sub)(hg:Gl X "isinstance")(hm:X.mg "isinstance" =none)(hy:Gl X y)(hdb:(y == ("__debug__" :Str))=false)(ha:SE X a fa)(he:starEach [a,.Name y p2] X.env=(false,eval a X.env)::starEach [.Name y p2] X.env):
  SE X (.Call (.Name "isinstance" p) [a,.Name y p2] [] pos) (QeD sub [y] fa):=λH0 A0 pins s σ H Q I=>exK λU hs F r' rel e q=>by
 refine Ql e λr e1 e=>?_;split at e
 .rename_i x hd;obtain⟨b,eb,rfl⟩:=Zf.mp e;have eb':sub x y=some b:=by
   unfold anyS at eb;refine Ql eb λb' h1 h2=>?_;cases b' with
   | true=>cases h2;exact h1
   | false=>cases h2;exact h1
  obtain⟨C,c,k1,k2,k3,k4,k5⟩:=hsub x y b eb';refine Qf5 Qvp hg hm ZbW (Qbh (ha H0 A0) (Qbh (QAa hy hdb k2 (Qtf k4)) Qde) he) ∅ ∅ he (by rfl) pins s σ H Q I ?_;refine⟨U,hs,F,r,rel,e1,λv H1 G p=>?_⟩;have rp:=p.rp;rw[hd,Rp]at rp;obtain⟨⟨ea,rfl,C',hC',hH⟩,rfl⟩:=rp;cases QiE k1 hC';exact⟨C,ea,_,rfl,hH,k5,.inl ⟨c,b,rfl,k4,q _ H1 [] (.flat p.same .QbD)⟩⟩
 .cases e
end
structure Qcs (k:Nat) (A:Around):Prop where
 dp:A.depth+3*k+5<recursionLimit
 un:A.units+16*k+200<cLine
def QCs{k:Nat}{A:Around}(r:Qbg k A):Qcs k A:=⟨r.dp,r.un⟩
def Qcs.mono{j k:Nat}{A:Around}(r:Qcs k A)(h:j<=k):Qcs j A:=⟨by have:=r.dp;omega,by have:=r.un;omega⟩
def Qcs.deeper{k:Nat}{A:Around}(r:Qcs (k+1) A)(env:Env):Qcs k (A.deeper env):=
 ⟨by have:=r.dp;show A.depth+1+3*k+5<_;omega,by have:=r.un;show A.units+3+16*k+200<_;omega⟩
def Qcs.units{k:Nat}{A:Around}(r:Qcs k A):A.units+64<cLine:=by have:=r.un;omega
def Qcs.mark{k:Nat}{A:Around}{v:Option Value}(r:Qcs k A):Qcs k (A.mark v):=⟨r.dp,r.un⟩
structure FnH (P:Program) (w:World) (K:Fgg) (mg:Str->Option Value) (base:Heap) (k:Nat) (f:Addr) (fd:FuncData) (ps:List Str) (sp:Sp):Prop where
 len:∀vs H Q E,sp vs H Q E->vs.length=ps.length
 run:∀(A:Around) (outer:List Env) (s:Shared) (H:Hp) (args:Args) (us:List Value) (vs:List V) (Q:VK) (E:XK),Qcs k A->Qot P w K mg base A outer s H->BindsTo s fd args (ps.zip us)->QB vs us->sp vs H Q E→
  codeAny (model P w) A (.call (.ref f) args) (CR CX0 outer P w H s Q E) s
section
variable {P:Program}{w:World}{K:Fgg}{mg:Str->Option Value}{base:Heap}
def FnH.mono{j k:Nat}{f:Addr}{fd:FuncData}{ps:List Str}{sp:Sp}(F:FnH P w K mg base j f fd ps sp)(h:j<=k):FnH P w K mg base k f fd ps sp:=⟨F.len,λA outer s H args us vs Q E hr=>F.run A outer s H args us vs Q E (hr.mono h)⟩
def QwZ{x qual:Str}{st:Stmt}{f:Addr}{fd:FuncData}{N ps:List Str}{k:Nat}{sp:Sp}(F:Fun K x qual st f fd)(S:QbR N ps (Qn st))(len:∀vs H Q E,sp vs H Q E->vs.length=ps.length)
  (hbody:∀(cdv:Value) (A:Around) (outer:List Env) (s:Shared) (H:Hp) (vs:List V) (Q:VK) (E:XK),Qcs k (A.deeper (envOfC qual (Qn st) s.heap.objs.size f cdv))->sp vs H Q E→
   ∃t,PSs (QdC CX0 P w K mg base N qual (Qn st) f cdv A outer s H E).nox (QaT st) t/\t {nx:=λ_ H'=>Q .non H',rt:=Q} (start N vs) H):FnH P w K mg base (k+1) f fd ps sp:=by
 obtain⟨oc,od,kV,doc,pm,an,cdv,ct,osl,rfl,lk,hcd⟩:=F.ex;refine⟨len,λA outer s H args us vs Q E hr e0 hb r hsp=>?_⟩;have hl:=len _ _ _ _ hsp;have KX:K.In s.heap:=e0.mod.kin.keeps λb o e=>(e0.bs b o e).1;have lim:s.heap.NoLimit:=e0.mod.nolimit.keeps λb o e=>(e0.bs b o e).1;have hkind:∀y∈ps.zip us,(Qn st).names.lookup y.1=some .local ∨((Qn st).names.lookup y.1=some .cell/\((cellsFrom (s.heap.objs.size+1) (Qn st).names []).lookup y.1).isSome=true):=λZ hy=>by
  obtain⟨n,v⟩:=Z;rcases S.par n (ZbU hy).1 with q | q
  .exact .inl q
  .exact .inr ⟨q,Zbz _ _ _ (.inl q)⟩
 refine codeAny_call_function (by have:=hr.dp;omega) (KX _ _ lk) rfl S.co S.gen rfl (PySem.W.codeRec_of KX hcd) (hb _ _ _ _ ?_);refine wpAny_newFunctionEnv_cells S.kind hkind λenv he s1 x=>?_;subst he;refine⟨lim.keeps x.toInCall.keep,codeAny_func ?_⟩;obtain⟨t,ht,hq⟩:=hbody cdv A outer s H vs Q E (hr.deeper _) hsp;have I:Inv (QdC CX0 P w K mg base N qual (Qn st) f cdv A outer s H E) [] (start N vs) H s1:=Qm7 S e0 hl r x;refine wpAny_mono (ht.nox [] s1 (start N vs) H _ I hq) (λfl s' hs=>?_) λe s' hs=>hs
 have fin:∀{σ':L2.St}{H':Hp}{v:V}{u:Value},Inv (QdC CX0 P w K mg base N qual (Qn st) f cdv A outer s H E) [] σ' H' s'->RelV v u->Q v H'->CE outer P w H s Q u s':=
  λ{σ' H' v u} J rv q=>⟨v,H',J.os,J.bare,J.base,J.hok,rv,q⟩
 cases fl with
 | ret u=>obtain⟨v,σ',H',J,rv,q⟩:=hs;exact fin J rv q
 | next=>obtain⟨σ',H',J,q⟩:=hs;exact fin (v:=V.non) (u:=Value.none) J rfl q
 | brk=>obtain⟨_,_,_,q⟩:=hs;exact False.elim q
 | cont=>obtain⟨_,_,_,q⟩:=hs;exact False.elim q
end
section
variable {X:Cx}{e:Expr}{es:List Expr}{fs:DA}{pos p:Pos}{x:Str}{n k:Nat}{f:Addr}{fd:FuncData}{ps:List Str}{den:Den}
def Qu2(Fk:FnH X.prog X.w X.K X.mg X.base k f fd ps (spV X.K n den))(hr:Qcs k X.A)(hg:Gl X x)(hm:X.mg x=some (.ref f))(hk:PySem.W.keepIn X.K (.ref f)=true)(hb:Binds X.K fd ps [])
  (ha:SA X (e::es) fs) (hdb:(x == ("__debug__" :Str))=false) (he:starEach (e::es) X.env=(false,eval e X.env)::starEach es X.env) (hpl:(backTo pos (starEach es X.env)).any (·.1)=false):
  SE X (.Call (.Name x p) (e::es) [] pos) (Qm n den [] fs):=λH0 A0=>by
 intro pins s σ H Q I h;have h:=Qip (X:=X) (dvs:=[]) (λH=>by simp[Rps]) h;refine wpAny_Call_Name_kw (QeC I hg hm ?_ hdb);refine Zcd (h₀:=X.base) I.ok.mod.kin hk (thn (ha H0 A0 pos pins s σ H _ I h) λus s1 ⟨vs,H1,I1,r,q⟩=>⟨I1.kIn,?_⟩) he hpl;have r2:QB (vs++[]) (us++[]):=by rw[Zad,Zad];exact r
 have hl:(us++[]).length=ps.length:=by rw[← r2.length];exact Fk.len _ _ _ _ q
 refine wpAny_call (codeAny_mono (Fk.run X.A X.stack s1 H1 ⟨us,[]⟩ (us++[]) (vs++[]) Q E0 hr I1.QvR (hb s1 us I1.kIn hl) r2 q) λr s' hq=>?_);cases r with
 | error ev=>exact Qr1 pins σ H1 s1 ev s' I1 hq
 | ok fl=>
  cases fl with
  | ret u=>exact I1.after hq
  | next=>exact False.elim hq
  | brk=>exact False.elim hq
  | cont=>exact False.elim hq
end
def Qgc(X:Cx)(hΓ:List (Str×FnR)):Prop:=∀x r,look x hΓ=some r->∃k f fd ps,FnH X.prog X.w X.K X.mg X.base k f fd ps (spV X.K r.n r.den)/\Qcs k X.A/\X.mg x=some (.ref f)/\PySem.W.keepIn X.K (.ref f)=true/\Binds X.K fd ps []
def Qgc.inH{X:Cx}{hΓ:List (Str×FnR)}{ea:Addr}(h:Qgc X hΓ):Qgc (HS.inH X ea) hΓ:=λx r e=>by
 obtain⟨k,f,fd,ps,h1,h2,h3⟩:=h x r e;exact⟨k,f,fd,ps,h1,h2.mark,h3⟩
section
variable (P:Program) (w:World) (K:Fgg) (mg:Str->Option Value) (base:Heap)
def Qg4(k:Nat)(x:Str)(r:FnR):Prop:=∃f fd ps,FnH P w K mg base k f fd ps (spV K r.n r.den)/\mg x=some (.ref f)/\PySem.W.keepIn K (.ref f)=true/\Binds K fd ps []
def QeL(k:Nat)(Γ:List (Str×FnR)):Prop:=∀x r,look x Γ=some r->Qg4 P w K mg base k x r
end
section
variable {P:Program}{w:World}{K:Fgg}{mg:Str->Option Value}{base:Heap}
def QeL.nil{k:Nat}:QeL P w K mg base k []:=λx r h=>by cases h
def Qg4.mono{j k:Nat}{x:Str}{r:FnR}(h:Qg4 P w K mg base j x r)(hk:j<=k):Qg4 P w K mg base k x r:=by
 obtain⟨f,fd,ps,h1,h2⟩:=h;exact⟨f,fd,ps,h1.mono hk,h2⟩
def QeL.mono{j k:Nat}{Γ:List (Str×FnR)}(t:QeL P w K mg base j Γ)(hk:j<=k):QeL P w K mg base k Γ:=λx r e=>(t x r e).mono hk
def QeL.cons{k:Nat}{Γ:List (Str×FnR)}{x:Str}{r:FnR}(t:QeL P w K mg base k Γ)(h:Qg4 P w K mg base (k+1) x r):QeL P w K mg base (k+1) ((x,r)::Γ):=λy q e=>by
 unfold look at e;split at e
 .rename_i z;cases e;subst z;exact h
 .exact(t y q e).mono (ZaE _)
end
def QB7{X:Cx}{hΓ:List (Str×FnR)}{k:Nat}(hr:Qbg k X.A)(t:QeL X.prog X.w X.K X.mg X.base k hΓ):Qgc X hΓ:=λz r e=>by
 obtain⟨f',fd',ps',h1,h2⟩:=t z r e;exact⟨k,f',fd',ps',h1,QCs hr,h2⟩
noncomputable def QzC:Const->Option DE
 | .bool b=>some (dC (.bl b))
 | .int i=>some (dC (.int i))
 | _=>none
noncomputable def QCZ:List Expr->Option (Expr×Expr)
 | [a,y]=>some (a,y)
 | _=>none
noncomputable def QAH(Y:Th):Expr->Option (List Str)
 | .Name y _=>if Y.gl y=true then some [y]else none
 | _=>none
mutual
noncomputable def Qdt(n:Nat)(Y:Th)(sub:Str->Str->Option Bool)(hΓ:List (Str×FnR))(e:Expr):Option DE:=match n with
 | 0=>none
 | n+1=>match e with
  | .Name x _=>(Y.slot x).map Qh
  | .Constant v _ _=>QzC v
  | .UnaryOp o a _=>match o with
   | .Not=>(Qdt n Y sub hΓ a).map QrS
   | _=>none
  | .BoolOp o es p=>match es with
   | []=>none
   | a::r=>match r with
    | []=>Qdt n Y sub hΓ a
    | b::r=>match o with
     | .And=>(Qdt n Y sub hΓ a).bind λfa=>(Qdt n Y sub hΓ (.BoolOp .And (b::r) p)).map λfb=>QhP fa fb
     | .Or=>none
  | .BinOp a o b _=>match o with
   | .Add=>(Qdt n Y sub hΓ a).bind λfa=>(Qdt n Y sub hΓ b).map λfb=>QA fa fb
   | _=>none
  | .Call f as kw _=>match kw with
   | _::_=>none
   | []=>(Qcv f).bind λx=>if Y.gl x=true then if x= "isinstance" then(QCZ as).bind λp=>(QAH Y p.2).bind λys=>(Qdt n Y sub hΓ p.1).map λfa=>QeD sub ys fa
    else match as with
     | []=>none
     | a::as=>(look x hΓ).bind λr=>(QgW n Y sub hΓ (a::as)).map λfs=>Qm r.n r.den [] fs
    else none
  | .List es _=>(QgW n Y sub hΓ es).map QE
  | _=>none
noncomputable def QgW(n:Nat)(Y:Th)(sub:Str->Str->Option Bool)(hΓ:List (Str×FnR))(es:List Expr):Option DA:=match n with
 | 0=>none
 | n+1=>match es with
  | []=>some Qb
  | e::es=>(Qdt n Y sub hΓ e).bind λfa=>(QgW n Y sub hΓ es).map λfs=>Qa fa fs
end
def QnX{n:Nat}{Y:Th}{sub:Str->Str->Option Bool}{hΓ:List (Str×FnR)}{e:Expr}{f:DE}(h:Qdt n Y sub hΓ e=some f)(es:List Expr)(env:Env):starEach (e::es) env=(false,eval e env)::starEach es env:=by
 cases n with
 | zero=>exact nn h
 | succ n=>cases e<;>first | rfl | exact nn h
def Qpf:∀{n:Nat}{Y:Th}{sub:Str->Str->Option Bool}{hΓ:List (Str×FnR)}{es:List Expr}{fs:DA},QgW n Y sub hΓ es=some fs->∀(pos:Pos) (env:Env),(backTo pos (starEach es env)).any (·.1)=false
 | 0,_,_,_,_,_,h,_,_=>nomatch (show(none:Option DA)=some _ from h)
 | n+1,_,_,_,[],_,h,_,_=>rfl
 | n+1,_,_,_,e::es,_,h,pos,env=>by
  refine Ql (show Option.bind _ _=some _ from h) λfa h1 h=>?_;refine mapR (M:=λ_=>(backTo pos (starEach (e::es) env)).any (·.1)=false) h λfs' h2=>?_;rw[QnX h1];have:=Qpf h2 pos env;simpa[backTo]using this
def QBF{X:Cx}{n:Nat}{Y:Th}{sub:Str->Str->Option Bool}{hΓ:List (Str×FnR)}{a:Expr}{as:List Expr}{fs:DA}(h:QgW n Y sub hΓ (a::as)=some fs)(pos:Pos):
  starEach (a::as) X.env=(false,eval a X.env)::starEach as X.env/\(backTo pos (starEach as X.env)).any (·.1)=false:=by
 cases n with
 | zero=>exact nn h
 | succ n=>
  refine Ql (show Option.bind _ _=some _ from h) λfa h1 h=>?_;exact mapR (M:=λ_=>starEach (a::as) X.env=(false,eval a X.env)::starEach as X.env/\(backTo pos (starEach as X.env)).any (·.1)=false) h λfs' h2=>⟨QnX h1 _ _,Qpf h2 pos X.env⟩
def QCR{X:Cx}{Y:Th}{sub:Str->Str->Option Bool}{a e:Expr}{fa:DE}{ys:List Str}{p pos:Pos}(ok:CtxB X Y)(hs:QbY X.K sub)(g1:Y.gl "isinstance" =true)(h:QAH Y e=some ys)(ha:SE X a fa)(he:starEach [a,e] X.env=(false,eval a X.env)::starEach [e] X.env):SE X (.Call (.Name "isinstance" p) [a,e] [] pos) (QeD sub ys fa):=by
 obtain⟨a1,a2,a3⟩:=QcK ok g1;cases e with
 | Name y p2=>
  change(if Y.gl y=true then some [y]else none)=some ys at h;split at h
  .rename_i g2;cases h;obtain⟨b1,b2,b3⟩:=QcK ok g2;exact Qzb hs a1 (ok.mg _ nofun) b1 b2 ha he
  .cases h
 | _=>exact nomatch (show(none:Option (List Str))=some _ from h)
structure Qzp (n:Nat):Prop where
 E:∀X Y sub hΓ e f,CtxB X Y->QbY X.K sub->Qgc X hΓ->Qdt n Y sub hΓ e=some f->SE X e f
 A:∀X Y sub hΓ es f,CtxB X Y->QbY X.K sub->Qgc X hΓ->QgW n Y sub hΓ es=some f->SA X es f
def QAJ{n:Nat}(ih:Qzp n)(X:Cx)(Y:Th)(sub:Str->Str->Option Bool)(hΓ:List (Str×FnR))(e:Expr)(f:DE)(ok:CtxB X Y)(hs:QbY X.K sub)(hu:Qgc X hΓ)(h:Qdt (n+1) Y sub hΓ e=some f):SE X e f:=by
 have ihE:=λe f=>ih.E X Y sub hΓ e f ok hs hu;cases e with
 | Name x p=>exact mapR (show Option.map _ _=some _ from h) λi h1=>QtT (Qhf ok h1)
 | Constant v k p=>
  change QzC v=some f at h;cases v with
  | bool b=>cases h;exact QkL QwH (λ_ _=> .QbD) rfl
  | int i=>cases h;exact QkL QtC (λ_ _=> .int_mk) rfl
  | _=>exact nn h
 | UnaryOp o a p=>
  cases o with
  | Not=>exact mapR (show Option.map _ _=some _ from h) λfa h1=>Qta (ihE _ fa h1)
  | _=>exact nn h
 | BoolOp o es p=>
  cases es with
  | nil=>exact nn h
  | cons a r=>
   cases r with
   | nil=>exact QoB (ihE _ f h)
   | cons b r=>
    cases o with
    | And=>exact bindR h λfa fb h1 h2=>Qtu (ihE _ fa h1) (ihE _ fb h2)
    | Or=>exact nn h
 | BinOp a o b p=>
  cases o with
  | Add=>exact bindR h λfa fb h1 h2=>QsZ (ihE _ fa h1) (ihE _ fb h2)
  | _=>exact nn h
 | Call fn as kw p=>
  cases kw with
  | cons _ _=>exact nn h
  | nil=>
   refine Ql (show(Qcv fn).bind _=some _ from h) λx hx h=>QnL (G:=λt=>SE X (.Call t as [] p) f) hx λnp=>?_;split at h
   .rename_i hg;split at h
    .rename_i hi;subst hi;refine Ql h λq hq h=>?_;rcases as with _ | ⟨a,_ | ⟨y,_ | ⟨z,as⟩⟩⟩
     .cases hq
     .cases hq
     .cases hq;exact bindR h λys fa h1 h2=>QCR ok hs hg h1 (ihE _ fa h2) (QnX h2 _ _)
     .cases hq
    .cases as with
     | nil=>cases h
     | cons a as=>
      refine Ql h λr hr h=>?_;refine mapR h λfs h1=>?_;obtain⟨a1,a2,a3⟩:=QcK ok hg;obtain⟨k,f,fd,ps,F1,F2,F3,F4,F5⟩:=hu _ r hr;obtain⟨s1,s2⟩:=QBF (X:=X) h1 _;exact Qu2 F1 F2 a1 F3 F4 F5 (ih.A X Y sub hΓ _ fs ok hs hu h1) a2 s1 s2
   .cases h
 | List es p=>exact mapR (show Option.map _ _=some _ from h) λfs h1=>Qug (ih.A X Y sub hΓ _ fs ok hs hu h1)
 | _=>exact nn h
def QlG:∀n,Qzp n
 | 0=>⟨λ_ _ _ _ _ _ _ _ _ h=>(nn h),λ_ _ _ _ _ _ _ _ _ h=>(nn h)⟩
 | n+1=>⟨QAJ (QlG n),λX Y sub hΓ es f ok hs hu h=>by
  cases es with
  | nil=>cases(show some Qb=some f from h);exact Qjf
  | cons e es=>exact bindR h λfa fs h1 h2=>QfE ((QlG n).E X Y sub hΓ _ fa ok hs hu h1) ((QlG n).A X Y sub hΓ _ fs ok hs hu h2) (QnX h1 _ _)⟩
noncomputable def QsK(Y:Th)(sub:Str->Str->Option Bool)(hΓ:List (Str×FnR))(st:Stmt):Option DS:=match st with
 | .Assign ts e _=>(Qwv ts).bind λx=>(Y.Qct x).bind λi=>if Qjk e=false/\QfD e=true then(Qdt 20 Y sub hΓ e).map λfa=>Qy i fa else none
 | .Return v _=>v.bind λe=>(Qdt 20 Y sub hΓ e).map λfa=>QH fa
 | _=>none
def Quz{X:Cx}{Y:Th}{sub:Str->Str->Option Bool}{hΓ:List (Str×FnR)}{st:Stmt}{f:DS}(ok:CtxB X Y)(hs:QbY X.K sub)(hu:Qgc X hΓ)(h:QsK Y sub hΓ st=some f):S1 X st f:=by
 cases st with
 | Assign ts e p=>
  refine Ql (show(Qwv ts).bind _=some _ from h) λx hx h'=>?_;clear h;rcases ts with _ | ⟨t,_ | ⟨t2,ts⟩⟩
  .cases hx
  .refine QnL (G:=λt=>S1 X (.Assign [t] e p) f) hx λq=>?_;refine Ql h' λi hi h=>?_;split at h
   .rename_i hc;refine mapR h λfa h1=>?_;obtain⟨a1,a2,a3⟩:=Qc8 ok hi;exact Qlu λH0 A0=>Qhl (by rw[ok.N];exact ok.nd) a1 a2 ((QlG 20).E X Y sub hΓ _ fa ok hs hu h1 H0 A0) (QdU hc.2) a3
   .cases h
  .cases hx
 | Return v p=>
  refine Ql (show v.bind _=some _ from h) λe he h=>?_;cases he;exact mapR h λfa h1=>Qt4 ((QlG 20).E X Y sub hΓ _ fa ok hs hu h1)
 | _=>exact nn h
noncomputable def Qi0(Y:Th)(sub:Str->Str->Option Bool)(hΓ:List (Str×FnR)):List Stmt->Option DS
 | []=>some Qj
 | st::r=>(QsK Y sub hΓ st).bind λf=>(Qi0 Y sub hΓ r).map λg=>Qc f g
def Qin{X:Cx}{Y:Th}{sub:Str->Str->Option Bool}{hΓ:List (Str×FnR)}(ok:CtxB X Y)(hs:QbY X.K sub)(hu:Qgc X hΓ):∀(sts:List Stmt) (f:DS),Qi0 Y sub hΓ sts=some f->SS X sts f
 | [],f,h=>by cases(show some Qj=some f from h);exact QsQ
 | st::r,f,h=>bindR h λf g h1 h2=>Qqe (Quz ok hs hu h1) (Qin ok hs hu r g h2)
noncomputable def hd1(Y:Th)(y:Str)(f:DS):Option Str->Option Hd
 | none=>some (y,none,f)
 | some nm=>if look nm Y.sc=some .local then(Y.Qct nm).map λi=>(y,some i,f)else none
noncomputable def Qoi(Y:Th)(sub:Str->Str->Option Bool)(hΓ:List (Str×FnR)):List ExceptHandler->Option (List Hd)
 | []=>some []
 | .ExceptHandler t nm bs _::r=>match bs with
  | []=>none
  | b::bs=>t.bind λt=>(Qcv t).bind λy=>if Y.gl y=true then(Qi0 Y sub hΓ (b::bs)).bind λf=>(hd1 Y y f nm).bind λq=>(Qoi Y sub hΓ r).map λl=>q::l else none
def Qu4{X:Cx}{Y:Th}{ea:Addr}(ok:CtxB X Y):CtxB (inH X ea) Y:=⟨ok.N,ok.nd,ok.lc,ok.ce,ok.fe,ok.gl,ok.units,ok.mg,ok.cs⟩
def Qnu{X:Cx}{Y:Th}{sub:Str->Str->Option Bool}{hΓ:List (Str×FnR)}(ok:CtxB X Y)(hs:QbY X.K sub)(hu:Qgc X hΓ):∀(hds:List ExceptHandler) (hl:List Hd),Qoi Y sub hΓ hds=some hl->QgF X hds hl
 | [],f,h=>by cases(show some []=some f from h);exact .nil
 | .ExceptHandler t nm bs p::r,l,h=>by
  cases bs with
  | nil=>exact nomatch (show(none:Option (List Hd))=some _ from h)
  | cons b bs=>
   refine Ql (show t.bind _=some _ from h) λt ht h=>?_;cases ht;refine Ql h λy hy h=>QnL (G:=λt=>QgF X (.ExceptHandler (some t) nm (b::bs) p::r) l) hy λnp=>?_;split at h
   .rename_i hc;obtain⟨g1,g2,_⟩:=QcK ok hc;refine Ql h λf h1 h=>?_;refine bindR h λq l hq h2=>?_;have hS:=λea=>Qin (Qu4 (ea:=ea) ok) hs hu.inH _ f h1;have tl:=Qnu ok hs hu r l h2;cases nm with
    | none=>cases(show some (y,none,f)=some q from hq);exact .bare g1 g2 hS tl
    | some nm=>
     change(if look nm Y.sc=some .local then(Y.Qct nm).map λi=>(y,some i,f)else none)=some q at hq;split at hq
     .rename_i hn;refine mapR (M:=λq=>QgF X (.ExceptHandler (some (.Name y np)) (some nm) (b::bs) p::r) (q::l)) hq λi hi=>?_;obtain⟨a1,a2,a3⟩:=Qc8 ok hi;exact .as g1 g2 a1 (ok.lc nm hn) hS tl
     .cases hq
   .cases h
noncomputable def Qwr(n:Nat)(Y:Th)(YX:ThX)(sub:Str->Str->Option Bool)(hΓ:List (Str×FnR))(st:Stmt):Option DS:=match st with
 | .Try body (h::hs) [] [] _=>(QaW n Y body).bind λf=>(Qfb n Y YX body).bind λfx=>(Qoi Y sub hΓ (h::hs)).map λhl=>QfN f fx sub hl
 | _=>none
def QyJ{X:Cx}{Y:Th}{xe:Value->Shared->Prop}{pn:List (Addr×Obj)}(ok:Qaf X Y)(ht:∀st,Y.tr st=none)(hp:PassesOwn (model X.prog X.w) X.A X.env xe):Qaf (Cx.chg X xe pn) Y:=
 ⟨⟨ok.N,ok.nd,ok.lc,ok.ce,ok.fe,ok.gl,ok.units,ok.mg,ok.cs⟩,ok.calm,hp,ok.fns,λst f h=>by rw[ht st]at h;cases h⟩
def Qy9{X:Cx}{Y:Th}{YX:ThX}{sub:Str->Str->Option Bool}{hΓ:List (Str×FnR)}{n:Nat}{st:Stmt}{f:DS}(ok:Qaf X Y)(ht:∀st,Y.tr st=none)(xk:XOk X YX)(hs:QbY X.K sub)(hu:Qgc X hΓ)(h:Qwr n Y YX sub hΓ st=some f):S1 X st f:=by
 unfold Qwr at h;split at h
 .rename_i body h0 hds pos;refine Ql h λfb h1 h=>?_;obtain⟨fx,hl,h2,h3,rfl⟩:=Qb0 h;have hN:X.N.Nodup:=by rw[ok.N];exact ok.nd
  refine Qz3 hN xk.ex xk.stk xk.fr hs.ok (λxe pn hp=>?_) (Qnu ok.toCtxB hs hu _ hl h3);have ok':=QyJ (pn:=pn) ok ht hp;have xk':XOk (Cx.chg X xe pn) YX:=⟨xk.ex,xk.stk,xk.fr,xk.fx,xk.cl⟩;exact⟨(QjG n).Ss _ _ _ fb ok' h1,(QrC n).Xs _ _ _ _ fx ok' xk' h2⟩
 .cases h
noncomputable def thT(n:Nat)(st:Stmt)(Γ:List (Str×FnR))(cs:List (Str×Int))(YX:ThX)(sub:Str->Str->Option Bool)(hΓ:List (Str×FnR)):Th:={Qei st Γ cs with tr:=Qwr n (Qei st Γ cs) YX sub hΓ}
section
variable {P:Program}{w:World}{K:Fgg}{mg:Str->Option Value}{base:Heap}
def Qq8{h:Heap}{x:Str}{st:Stmt}{ps:List Str}{k n m:Nat}{Γ:List (Str×FnR)}{Γx:List (Str×(Nat×(List D->Option Str)))}{cls:List Str}{cs:List (Str×Int)}{sub:Str->Str->Option Bool}{hΓ:List (Str×FnR)}{g:DS}(X:K.In h)(G:h.Ns mainGlobals mg)(F:Fact K x st)(S:QbR (namesOf (Qn st)) ps (Qn st))(B:QaD x st ps)(M:Qd4 mg cs)(tab:QbH P w K mg base k Γ)(tabx:Qfe P w K mg base k Γx)
  (hcl:∀x∈cls,QiS K x) (hs:QbY K sub) (tabh:QeL P w K mg base k hΓ) (hc:QaW n (thT m st Γ cs ⟨Γx,cls⟩ sub hΓ) (QaT st)=some g):Known P w K mg base (k+1) x ⟨ps.length,[],Qx (namesOf (Qn st)).length g⟩:=by
 obtain⟨f,fd,Fn,a⟩:=F.ex;refine⟨f,fd,ps,?_,ZaV X G a,Fn.kp,λm hm=>⟨[],[],Fn.binds (B ·),.nil,λH=>by simp[Rps]⟩⟩;refine Fn.ok S (Qmt rfl) λcdv A outer s H vs Q E hr h=>?_;obtain⟨ds,L,d,fr,rps,hl,hd,q⟩:=h;have ok:=QtF (P:=P) (w:=w) (K:=K) (base:=base) (qual:=x) (f:=f) (outer:=outer) (H:=H) (E:=E) S M tab hr;have xk:XOk (QdC CX0 P w K mg base (namesOf (Qn st)) x (Qn st) f cdv A outer s H E).nox ⟨Γx,cls⟩:=⟨rfl,rfl,rfl,λz r e=>by
  obtain⟨f',fd',ps',h1,h2,h3,h4,h5⟩:=tabx z r e;exact⟨k,f',fd',ps',h1,hr,h2,h3,h4,h5⟩,hcl⟩
 have ok2:Qaf (QdC CX0 P w K mg base (namesOf (Qn st)) x (Qn st) f cdv A outer s H E).nox (thT m st Γ cs ⟨Γx,cls⟩ sub hΓ):=
  ⟨⟨ok.N,ok.nd,ok.lc,ok.ce,ok.fe,ok.gl,ok.units,ok.mg,ok.cs⟩,ok.calm,ok.pass,ok.fns,λst' f' h'=>Qy9 ok (λ_=>rfl) xk hs (QB7 hr tabh) h'⟩
 refine⟨_,(QjG n).Ss _ _ _ g ok2 hc H L,?_⟩;obtain⟨F0,rel⟩:=Qgi (N:=namesOf (Qn st)) rps;unfold Qx at hd;refine Ql hd λo ho hd=>?_;refine⟨_,[],F0,o,rel,ho,?_⟩;cases o with
 | nx U=>
  cases hd;exact λσ H' F' rel'=>q .non H' [] ⟨rel'.same,.QlI,λa ha=>by simp at ha,λ_=>⟨ZaK,rfl,λa ha=>by simp at ha⟩⟩
 | bk U=>cases hd
 | ct U=>cases hd
 | rt d' fr'=>
  cases hd;exact λv H' G r=>q v H' G r
def QyB{h:Heap}{x:Str}{st:Stmt}{ps:List Str}{k:Nat}{cs:List (Str×Int)}{sub:Str->Str->Option Bool}{hΓ:List (Str×FnR)}{g:DS}(X:K.In h)(G:h.Ns mainGlobals mg)(F:Fact K x st)(S:QbR (namesOf (Qn st)) ps (Qn st))(B:QaD x st ps)(M:Qd4 mg cs)
  (hs:QbY K sub) (tabh:QeL P w K mg base k hΓ) (hc:Qi0 (Qei st [] cs) sub hΓ (QaT st)=some g):Qg4 P w K mg base (k+1) x ⟨ps.length,[],Qx (namesOf (Qn st)).length g⟩:=by
 obtain⟨f,fd,Fn,a⟩:=F.ex;refine⟨f,fd,ps,?_,ZaV X G a,Fn.kp,Fn.binds (B ·)⟩;refine QwZ Fn S (Qmt rfl) λcdv A outer s H vs Q E hr h=>?_;obtain⟨ds,L,d,fr,rps,hl,hd,q⟩:=h
 have ok:CtxB (QdC CX0 P w K mg base (namesOf (Qn st)) x (Qn st) f cdv A outer s H E).nox (Qei st [] cs):=
  ⟨rfl,S.nd,λx h=>by rw[Qbc]at h;exact h,λx h=>by rw[Qbc]at h;exact⟨h,rfl⟩,λx h=>by rw[Qbc]at h;exact absurd rfl (S.nofree _ (Zah h)),λx h=>by rw[Qbc]at h;exact h,hr.units,M.bn,M.cs⟩
 refine⟨_,Qin ok hs (λz r e=>by
   obtain⟨f',fd',ps',h1,h2⟩:=tabh z r e;exact⟨k,f',fd',ps',h1,hr,h2⟩) _ g hc H L,?_⟩
 obtain⟨F0,rel⟩:=Qgi (N:=namesOf (Qn st)) rps;unfold Qx at hd;refine Ql hd λo ho hd=>?_;refine⟨_,[],F0,o,rel,ho,?_⟩;cases o with
 | nx U=>
  cases hd;exact λσ H' F' rel'=>q .non H' [] ⟨rel'.same,.QlI,λa ha=>by simp at ha,λ_=>⟨ZaK,rfl,λa ha=>by simp at ha⟩⟩
 | bk U=>cases hd
 | ct U=>cases hd
 | rt d' fr'=>
  cases hd;exact λv H' G r=>q v H' G r
end
end HS
namespace HS
open PySem PySem.Spec L2 PyProof.Rows
section
variable {K:Fgg}{x y:Str}{C C':Addr}{v:Bool}
def Qyy(a:PySem.W.nsIn K mainGlobals x=some (some (.ref C)))(b:PySem.W.excIn K C [.type "ValueError",.type "Exception",.type "BaseException",.type "object"] "ValueError.__new__" =true):QiS K x:=⟨⟨C,a,b⟩⟩
def XK1(K:Fgg)(x:Str):Prop:=∃C,ClsAt K x C/\QhR K C
def QBB(a:PySem.W.nsIn K mainGlobals x=some (some (.ref C)))(h1:PySem.W.isClsIn K C=true)(h2:PySem.W.findIn K (.ref C) "__getattribute__" =some (some (.builtin "BaseException.__getattribute__")))(h3:PySem.W.findIn K (.ref C) "__getattr__" =some none)
  (h4:PySem.W.findIn K (.ref C) "__class__" =some (some (.builtin "object.__class__"))) (h5:PySem.W.mroIn K C (.type "object")=some true) (h6:PySem.W.subIn K (.ref C) (.type "BaseException")=some true):XK1 K x:=⟨C,a,h1,h2,h3,h4,h5,h6⟩
def QnT(K:Fgg)(x y:Str)(b:Bool):Prop:=∃C c,ClsAt K x C/\PySem.W.KtsName K y c/\PySem.W.exmOne K (.ref C) c=some b/\PySem.W.kitOne K (.ref C) c=some b
def QvD(a:PySem.W.nsIn K mainGlobals x=some (some (.ref C)))(b:PySem.W.nsIn K mainGlobals y=some (some (.ref C')))(c:PySem.W.exmOne K (.ref C) (.ref C')=some v)(d:PySem.W.kitOne K (.ref C) (.ref C')=some v):QnT K x y v:=⟨C,_,a,.inl b,c,d⟩
def QxO(a:PySem.W.nsIn K mainGlobals x=some (some (.ref C)))(b:PySem.W.nsIn K mainGlobals "ValueError" =some none)(c:PySem.W.exmOne K (.ref C) (.type "ValueError")=some v)(d:PySem.W.kitOne K (.ref C) (.type "ValueError")=some v):QnT K x "ValueError" v:=
 ⟨C,_,a,.inr ⟨b,PyProof.Rows.Boot.«ValueError»,∅⟩,c,d⟩
def Qma(K:Fgg)(x:Str):List (Str×Bool)->Prop
 | []=>True
 | q::r=>QnT K x q.1 q.2/\Qma K x r
def SubL(K:Fgg):List (Str×List (Str×Bool))->Prop
 | []=>True
 | q::r=>(XK1 K q.1/\Qma K q.1 q.2)/\SubL K r
noncomputable def QwN(tab:List (Str×List (Str×Bool))):Str->Str->Option Bool:=λx y=>(look x tab).bind λr=>look y r
def QkA{α:Type}:∀{x:Str}{l:List (Str×α)}{a:α},look x l=some a->(x,a)∈l
 | x,[],a,h=>by cases h
 | x,(y,b)::r,a,h=>by
  unfold look at h;split at h
  .rename_i e;cases h;subst e;exact Zi
  .exact Zb _ (QkA h)
def Qma.mem:∀{r:List (Str×Bool)},Qma K x r->∀q∈r,QnT K x q.1 q.2
 | [],_,q,h=>by simp at h
 | p::r,h,q,hq=>by
  rcases Zk.mp hq with rfl | hq
  .exact h.1
  .exact Qma.mem h.2 q hq
def SubL.mem:∀{t:List (Str×List (Str×Bool))},SubL K t->∀q∈t,XK1 K q.1/\Qma K q.1 q.2
 | [],_,q,h=>by simp at h
 | p::r,h,q,hq=>by
  rcases Zk.mp hq with rfl | hq
  .exact h.1
  .exact SubL.mem h.2 q hq
def Qyb{tab:List (Str×List (Str×Bool))}(h:SubL K tab):QbY K (QwN tab):=λx y b e=>by
 refine Ql e λr h1 h2=>?_;obtain⟨⟨C,k1,k2⟩,k3⟩:=h.mem _ (QkA h1);obtain⟨C',c,m1,m2,m3,m4⟩:=k3.mem _ (QkA h2);cases QiE k1 m1;exact⟨C,c,k1,m2,m3,m4,k2⟩
def QA6(K:Fgg):List Str->Prop
 | []=>True
 | x::r=>QiS K x/\QA6 K r
def QqN:∀{l:List Str},QA6 K l->∀x∈l,QiS K x
 | [],_,x,h=>by simp at h
 | y::l,h,x,hx=>by
  rcases Zk.mp hx with rfl | hx
  .exact h.1
  .exact QqN h.2 x hx
end
end HS
namespace HS
open PySem L2
noncomputable def pairD(p:Int×Int):D:= .tup [.int p.1,.int p.2]
noncomputable def Qv8(p:Int×Int×Bool):D:= .tup [.int p.1,.int p.2.1,.bl p.2.2]
noncomputable def Qp(ns:List Int):D:= .lst (ns.map .int)
noncomputable def Qr(ps:Lpp):D:= .lst (ps.map pairD)
noncomputable def Qd(m:Int)(R L:Lpp):D:= .tup [.int m,Qr R,Qr L]
def QbK{α:Type}{f:α->D}(h:∀a,(f a).flat=true):∀l:List α,Qar (l.map f)=true
 | []=>rfl
 | a::l=>by simp[Qar,h a,QbK h l]
@[simp] theorem QCJ(i:Int):(D.int i).flat=true:=rfl
@[simp] theorem QDt(i:Bool):(D.bl i).flat=true:=rfl
@[simp] theorem QCW:D.non.flat=true:=rfl
@[simp] theorem QDs(x:Str):(D.str x).flat=true:=rfl
@[simp] theorem QCG(xs:List D):(D.lst xs).flat=false:=rfl
@[simp] theorem QC8(xs:List D):(D.tup xs).flat=Qar xs:=rfl
@[simp] theorem QCv:Qar []=true:=rfl
@[simp] theorem QBW(d:D)(ds:List D):Qar (d::ds)=(d.flat && Qar ds):=rfl
@[simp] theorem QCw(p:Int×Int):(pairD p).flat=true:=rfl
@[simp] theorem QDc(p:Int×Int×Bool):(Qv8 p).flat=true:=rfl
@[simp] theorem QCy(ns:List Int):(Qp ns).flat=false:=rfl
@[simp] theorem QBI(ns:Lpp):(Qr ns).flat=false:=rfl
@[simp] theorem QBs(ps:Lpp):Qar (ps.map pairD)=true:=QbK (λ_=>rfl) _
@[simp] theorem QBX(ps:List (Int×Int×Bool)):Qar (ps.map Qv8)=true:=QbK (λ_=>rfl) _
@[simp] theorem Qrw(ns:List Int):Qar (ns.map .int)=true:=QbK (λ_=>rfl) _
@[simp] theorem QsM(xs ys:List D):Qar (xs++ys)=(Qar xs && Qar ys):=Qga xs ys
def Run(f:DS)(U:En)(Q:Out->Prop):Prop:=∃o,f U=some o/\Q o
def Nx(Q:En->Prop):Out->Prop
 | .nx U=>Q U
 | _=>False
def Rt(Q:D->Bool->Prop):Out->Prop
 | .rt d fr=>Q d fr
 | _=>False
def Run.mono(h:Run f U Q)(m:∀o,Q o->Q' o):Run f U Q':=let ⟨o,h1,h2⟩:=h;⟨o,h1,m o h2⟩
def Qq(h:Q (.nx U)):Run Qj U Q:=⟨_,rfl,h⟩
def run_seq(h:Run f U (Nx λU'=>Run g U' Q)):Run (Qc f g) U Q:=by
 obtain⟨o,h1,h2⟩:=h;cases o with
 | nx U'=>
  obtain⟨o',h3,h4⟩:=h2;exact⟨o',by simp[Qc,h1,h3],h4⟩
 | _=>exact False.elim h2
def QC(h:Run f U λo=>match o with | .nx U'=>Run g U' Q | o=>Q o):Run (Qc f g) U Q:=by
 obtain⟨o,h1,h2⟩:=h;cases o with
 | nx U'=>
  obtain⟨o',h3,h4⟩:=h2;exact⟨o',by simp[Qc,h1,h3],h4⟩
 | bk U'=>exact⟨_,by simp[Qc,h1],h2⟩
 | ct U'=>exact⟨_,by simp[Qc,h1],h2⟩
 | rt d fr=>exact⟨_,by simp[Qc,h1],h2⟩
def Qat(h:fa U=some r)(q:Q (.nx (asg i r U))):Run (Qy i fa) U Q:=⟨_,by simp[Qy,h],q⟩
def QbP(h:fa U=some r)(q:Q (.rt r.d (r.norm.fr && decide r.norm.M.Nodup))):Run (QH fa) U Q:=⟨_,by simp[QH,h],q⟩
def QL(h:g U=some b)(q1:b=true->Run f1 U Q)(q2:b=false->Run f2 U Q):Run (sIf g f1 f2) U Q:=by
 cases b with
 | true=>obtain⟨o,h1,h2⟩:=q1 rfl;exact⟨o,by simp[sIf,h,h1],h2⟩
 | false=>obtain⟨o,h1,h2⟩:=q2 rfl;exact⟨o,by simp[sIf,h,h1],h2⟩
def Q2(h:Run f (QaS k ds) (Rt λd' fr'=>d'=d/\fr'=fr)):Qx k f ds=some (d,fr):=by
 obtain⟨o,h1,h2⟩:=h;unfold Qx;cases o with
 | rt d' fr'=>obtain⟨rfl,rfl⟩:=h2;rw[h1];rfl
 | _=>exact False.elim h2
def Qn8{α:Type}{t:Tg}{fb:DS}{toD:α->D}{Q:Out->Prop}(I:Nat->En->Prop):∀(xs ys:List α) (U:En),I ys.length U→
  (∀i x U,(ys++xs)[i]? =some x->ys.length<=i->I i U->∃U1,Qbv t (toD x) U=some U1/\Run fb U1 λo=>match o with | .nx U2=>I (i+1) U2 | .ct U2=>I (i+1) U2 | .bk U2=>Q (.nx U2) | .rt d fr=>Q (.rt d fr))→
  (∀U,I (ys++xs).length U->Q (.nx U))->Run (Qdw t fb (xs.map toD)) U Q
 | [],ys,U,h0,_,fin=>⟨_,rfl,fin U (by simpa using h0)⟩
 | x::xs,ys,U,h0,turn,fin=>by
  obtain⟨U1,h1,o,h2,h3⟩:=turn ys.length x U ⋯ (Zs _) h0;have next:∀U2,I (ys.length+1) U2->Run (Qdw t fb (xs.map toD)) U2 Q:=λU2 hi=>
   Qn8 I xs (ys++[x]) U2 (by simpa using hi) (λi y U' e hl=>turn i y U' (by simpa using e) (by simp at hl;omega)) (λU' h=>fin U' (by simpa using h))
  cases o with
  | nx U2=>obtain⟨o',e1,e2⟩:=next U2 h3;exact⟨o',by simp[Qdw,h1,h2,e1],e2⟩
  | ct U2=>obtain⟨o',e1,e2⟩:=next U2 h3;exact⟨o',by simp[Qdw,h1,h2,e1],e2⟩
  | bk U2=>exact⟨_,by simp[Qdw,h1,h2],h3⟩
  | rt d fr=>exact⟨_,by simp[Qdw,h1,h2],h3⟩
def QaA{α:Type}{fi:DI}{t:Tg}{fb:DS}{toD:α->D}{U:En}{ir:IR}{Q:Out->Prop}(xs:List α)(I:Nat->En->Prop)(h:fi U=some ir)(hx:ir.items=xs.map toD)(h0:I 0 (QaV ir.M U))
  (turn:∀i x U,xs[i]? =some x->I i U->∃U1,Qbv t (toD x) U=some U1/\Run fb U1 λo=>match o with | .nx U2=>I (i+1) U2 | .ct U2=>I (i+1) U2 | .bk U2=>Q (.nx U2) | .rt d fr=>Q (.rt d fr))
  (fin:∀U,I xs.length U->Q (.nx U)):Run (QaH fi t fb) U Q:=by
 obtain⟨o,h1,h2⟩:=Qn8 (t:=t) (fb:=fb) (toD:=toD) (Q:=Q) I xs [] (QaV ir.M U) h0 (λi x U e _=>turn i x U (by simpa using e)) (λU h=>fin U (by simpa using h));exact⟨o,by simp[QaH,h,hx,h1],h2⟩
def Qnh{α:Type}{t:Tg}{ft:DT}{fe:DE}{Uc:En}{toD:α->D}{keep:α->Bool}{out:α->D}:∀(xs:List α) (acc:List D),
  (∀x∈xs,∃U1,Qbv t (toD x) Uc=some U1/\ft U1=some (keep x)/\(keep x=true->∃r,fe U1=some r/\r.d=out x/\r.norm.fr=true))→
  (xs.map toD).foldlM (Qgk t ft fe Uc) (acc,true)=some (acc++(xs.filter keep).map out,true)
 | [],acc,_=>by simp
 | x::xs,acc,h=>by
  obtain⟨U1,h1,h2,h3⟩:=h x Zi;have ih:=λacc=>Qnh xs acc (λy hy=>h y (Zb _ hy));cases hk:keep x with
  | false=>
   have e:Qgk t ft fe Uc (acc,true) (toD x)=some (acc,true):=by simp[Qgk,h1,h2,hk]
   simp[Zct,e,ih,hk]
  | true=>
   obtain⟨r,h4,h5,h6⟩:=h3 hk;have e:Qgk t ft fe Uc (acc,true) (toD x)=some (acc++[out x],true):=by simp[Qgk,h1,h2,hk,h4,h5,h6]
   simp[Zct,e,ih,hk]
def Qc1{α:Type}{fi:DI}{t:Tg}{cap:List (Option Nat)}{ft:DT}{fe:DE}{U:En}{ir:IR}{toD:α->D}{keep:α->Bool}{out:α->D}(xs:List α)(h:fi U=some ir)(hx:ir.items=xs.map toD)
  (turn:∀x∈xs,∃U1,Qbv t (toD x) (Qfv cap U)=some U1/\ft U1=some (keep x)/\(keep x=true->∃r,fe U1=some r/\r.d=out x/\r.norm.fr=true)):
  QO fi t cap ft fe U=some ⟨.lst ((xs.filter keep).map out),true,[]⟩:=by
 unfold QO;rw[h,Za,hx,Qnh xs [] turn];simp
def Qa1{α:Type}{fi:DI}{t:Tg}{cap:List (Option Nat)}{fe:DE}{U:En}{ir:IR}{toD:α->D}{out:α->D}(xs:List α)(h:fi U=some ir)(hx:ir.items=xs.map toD)
  (turn:∀x∈xs,∃U1,Qbv t (toD x) (Qfv cap U)=some U1/\∃r,fe U1=some r/\r.d=out x/\r.norm.fr=true):
  QO fi t cap QaR fe U=some ⟨.lst (xs.map out),true,[]⟩:=by
 have:=Qc1 (keep:=λ_=>true) (ft:=QaR) xs h hx (cap:=cap) (t:=t) (fe:=fe) (out:=out) λx hx=>by
  obtain⟨U1,h1,h2⟩:=turn x hx;exact⟨U1,h1,rfl,λ_=>h2⟩
 rw[this,ZbY.mpr λ_ _=>rfl]
@[simp] theorem QCH(d:D):R.norm ⟨d,true,[]⟩=⟨d,true,[]⟩:=by unfold R.norm;split<;>rfl
@[simp] theorem Qbu(i:Nat)(d:D)(U:En):asg i ⟨d,true,[]⟩ U=U.set i (some (d,true)):=by unfold asg;simp[kill]
def rsa{i:Nat}{fa:DE}{g:DS}{U:En}{d:D}{Q:Out->Prop}(h:fa U=some ⟨d,true,[]⟩)(q:Run g (U.set i (some (d,true))) Q):Run (Qc (Qy i fa) g) U Q:=run_seq (Qat h (by rw[Qbu];exact q))
def Qeq{n k k1:Nat}(h:(List.range n)[k]? =some k1):k<n/\k=k1:=by
 obtain⟨h1,h2⟩:=Ze.mp h;simp at h1 h2;exact⟨h1,h2⟩
def QoW{i:Nat}{d:D}{fr:Bool}{M:List Nat}{U:En}(h:d.flat=true):asg i ⟨d,fr,M⟩ U=U.set i (some (d,true)):=by
 unfold asg R.norm;simp[h,kill]
def Q3{i:Nat}{U:En}{d:D}{b:Bool}(h:U[i]? =some (some (d,b))):Qh i U=some (if d.flat then⟨d,true,[]⟩else if b then⟨d,true,[i]⟩else⟨d,false,[]⟩):=by
 unfold Qh;rw[h];dsimp only;split
 .simp_all
 .split<;>simp_all
def QzW{i:Nat}{U:En}{n:Int}{b:Bool}(h:U[i]? =some (some (.int n,b))):Qh i U=some (reI n):=by rw[Q3 h];rfl
@[simp] theorem QeI(d:D)(U:En):dC d U=some ⟨d,true,[]⟩:=rfl
def QY{g:D->D->Option D}{fa fb:DE}{U:En}{ra rb:R}{d:D}(ha:fa U=some ra)(hb:fb U=some rb)(h:g ra.d rb.d=some d):dOp g fa fb U=some ⟨d,true,[]⟩:=by simp[dOp,ha,hb,h]
def Qo{fa:DE}{fs:DA}{U:En}{r:R}{rs:RA}(ha:fa U=some r)(hs:fs U=some rs):Qa fa fs U=some ⟨r.d::rs.ds,r.fr && rs.fr,r.M++rs.M⟩:=by simp[Qa,ha,hs]
@[simp] theorem QI(U:En):Qb U=some ⟨[],true,[]⟩:=rfl
noncomputable def vf(d:D)(b:Bool)(i:Nat):R:=if d.flat then⟨d,true,[]⟩else if b then⟨d,true,[i]⟩else⟨d,false,[]⟩
@[simp] theorem QDv(d:D)(b:Bool)(i:Nat):(vf d b i).d=d:=by unfold vf;split;rfl;split<;>rfl
@[simp] theorem QuK(i j:Int)(h:0<=j):Qim i j=i % j:=by unfold Qim;rw[if_pos h]
@[simp] theorem Qu5(i j:Int)(h:0<=j):QgE i j=i / j:=by unfold QgE;rw[if_pos h]
def QfG{i j:Int}(h:i.natAbs<2^64):Qec i j=true:=by unfold Qec;simp[h]
def Qjs{i j:Int}(h:j.natAbs<2^64):Qec i j=true:=by unfold Qec;simp[h]
def QqK{i j:Int}(h1:Builtin.Int.intBits i<=2^20)(h2:Builtin.Int.intBits j<=2^20):Qec i j=true:=by
 unfold Qec;rw[decide_eq_true h1,decide_eq_true h2,Bool.and_self,Bool.or_true]
def Qfx:(sizeLine:Nat)=16777216:=sizeLine_eq
noncomputable def Qe(m:Nat)(f:Mt1):D:= .lst ((List.range m).map λi=> .int (f i))
noncomputable def Q9(m n:Nat)(f:Mt2):D:= .lst ((List.range m).map λi=>Qe n (f i))
@[simp] theorem QDq(m:Nat)(f:Mt1):(Qe m f).flat=false:=rfl
@[simp] theorem QDp(m n:Nat)(f:Mt2):(Q9 m n f).flat=false:=rfl
@[simp] theorem QCx(m:Nat)(f:Mt1):Qar ((List.range m).map λi=>D.int (f i))=true:=QbK (f:=λi=>D.int (f i)) (λ_=>rfl) _
noncomputable def up(f:Mt1)(i:Nat)(v:Int):Nat->Int:=λj=>if j=i then v else f j
noncomputable def up2(f:Mt2)(i j:Nat)(v:Int):Nat->Nat->Int:=λk=>if k=i then up (f k) j v else f k
def QdV{n:Nat}{i:Int}(h0:0<=i)(h:i<n):ixN n i=some i.toNat:=by
 unfold ixN;rw[if_pos ⋯,if_pos ⋯]
def QfC{α:Type}{xs:List α}{i:Int}(h0:0<=i)(h:i<xs.length):atI xs i=xs[i.toNat]? :=by
 unfold atI;rw[QdV h0 h];rfl
def Qff{α:Type}{m:Nat}{f:Nat->α}{i:Nat}{v:α}:((List.range m).map f).set i v=(List.range m).map λj=>if j=i then v else f j:=by
 apply Zaj;intro k;rw[Zci];simp only[Zc,ZF,Zh];by_cases hk:k<m
 .rw[ZL hk];by_cases e:i=k
  .subst e;simp[hk]
  .simp[e,Ne.symm e]
 .rw[Zt (by simp;omega)];by_cases e:i=k
  .subst e;simp[hk]
  .simp[e]
def QqJ{m:Nat}{f:Mt1}{i:Nat}{v:Int}:((List.range m).map λj=>D.int (f j)).set i (.int v)=(List.range m).map λj=>D.int (up f i v j):=by
 rw[Qff];congr 1;funext j;unfold up;split<;>rfl
def QqW{m:Nat}{f:Mt1}{i:Int}(h0:0<=i)(h:i<m):atI ((List.range m).map λj=>D.int (f j)) i=some (.int (f i.toNat)):=by
 rw[QfC h0 (by simpa using h),Zh,ZL ⋯];rfl
def QqB{m n:Nat}{f:Mt2}{i:Int}(h0:0<=i)(h:i<m):atI ((List.range m).map λj=>Qe n (f j)) i=some (Qe n (f i.toNat)):=by
 rw[QfC h0 (by simpa using h),Zh,ZL ⋯];rfl
def Qf2{x m:Nat}{f:Mt1}{fi fa:DE}{U:En}{i:Int}{v:Int}{ri ra:R}{Q:Out->Prop}(hx:U[x]? =some (slT (Qe m f)))(hi:fi U=some ri)(ei:ri.d= .int i)(ha:fa U=some ra)(ea:ra.d= .int v)(h0:0<=i)(h:i<m)
  (q:Q (.nx (U.set x (slT (Qe m (up f i.toNat v)))))):Run (Qb3 x Qak fi fa) U Q:=by
 refine⟨_,?_,q⟩;have hn:ra.norm=(reI v):=by unfold R.norm;rw[ea];rfl
 unfold Qb3;rw[ha,Za,hx];simp only[Qak,Za,hi,ei,Qc5,Qe,Zc,ZF,QdV h0 h,hn,ea,Qb4,QqJ];simp[kill]
def Qoo{g:D->D->Option D}{x m n:Nat}{f:Mt2}{fp fi fa:DE}{U:En}{i j w:Int}{rp ri ra:R}{Q:Out->Prop}(hx:U[x]? =some (slT (Q9 m n f)))(hp:fp U=some rp)(ep:rp.d= .int i)(hi:fi U=some ri)(ei:ri.d= .int j)(ha:fa U=some ra)
  (h0:0<=i) (h:i<m) (k0:0<=j) (k:j<n) (hg:g (.int (f i.toNat j.toNat)) ra.d=some (.int w)) (q:Q (.nx (U.set x (slT (Q9 m n (up2 f i.toNat j.toNat w)))))):Run (Qgs g x (QjD Qak fp) fi fa) U Q:=by
 refine⟨_,?_,q⟩;have hj:((List.range n).map λk=>D.int (f i.toNat k))[j.toNat]? =some (.int (f i.toNat j.toNat)):=by rw[Zh,ZL ⋯];rfl
 have hd:Qc5 (Q9 m n f) [i]=some (Qe n (f i.toNat)):=by
  simp only[Qc5,Q9,D.items,Za,QqB h0 h]
 have hu:Qb4 [i] (Q9 m n f) (.lst (((List.range n).map λk=>D.int (f i.toNat k)).set j.toNat (.int w)))=Q9 m n (up2 f i.toNat j.toNat w):=by
  simp only[Qb4,Q9,Zc,ZF,QdV h0 h,QqJ];rw[Qff];congr 2;funext k;unfold up2;split
  .rename_i e;subst e;rfl
  .rfl
 unfold Qgs;rw[hx];simp only[QjD,Qak,Za,hp,ep,List.nil_append,hi,ei,hd,Qe,Zc,ZF,QdV k0 k,hj,ha,hg,ZT];rw[hu]
def Qbi{n:Nat}(h:fa U=some r)(e:r.d= .int n)(hn:n<=16777216):Qan fa U=some ⟨(List.range n).map λ(k:Nat)=> .int (k:Int),[]⟩:=by
 unfold Qan;rw[h,Za,e];dsimp only;rw[if_pos ⟨⋯,⋯⟩];simp[QiY]
def Qmq{α:Type}(x:α):∀n:Nat,(List.replicate n [x]).flatten=(List.range n).map λ_=>x
 | 0=>rfl
 | n+1=>by
  rw[Zab,Zao,Qmq x n,ZbD,Zv,ZO];rfl
def Qtd{n:Nat}(h:fb U=some r)(e:r.d= .int n)(hn:n<=16777216):QaE (QE (Qa (dC (.int z)) Qb)) fb U=some (reT (Qe n (λ_=>z))):=by
 have h1:QE (Qa (dC (.int z)) Qb) U=some (reT (.lst [.int z])):=rfl;unfold QaE;rw[h1,Za,h,Za,e];dsimp only;rw[if_pos ⟨by simp[Qfx];omega,⋯,⋯,rfl⟩];simp only[Zl,Qmq];rfl
noncomputable def QmP:DS:=(Qc (Qy 2 (QO (QT vv0) (.tp [1,2]) [none,none,none] QaR (Qal (Qa vv1 (Qa vv2 Qb))))) (Qc (Qy 3 (QO (QT vv0) (.tp [1,2]) [none,none,none] QaR (Qal (Qa vv2 (Qa vv1 Qb))))) (Qc (QH (QA (QA vv2 vv3) (dList (Qa vv1 Qb)))) Qj)))
def Qq6(ha:fa U=some ra)(ea:ra.d=Qr A)(hb:fb U=some rb)(eb:rb.d=Qr B)(hl:A.length+B.length<=16777216):QA fa fb U=some (reT (Qr (A++B))):=by
 unfold QA;rw[ha,Za,hb,Za,ea,eb];simp only[Qr,Zc,Qfx,if_pos hl,Qaq];simp
def Qu7(h:fs U=some rs)(e:rs.ds=[Qr A])(_:True=True):dList fs U=some (reT (Qr A)):=by
 unfold dList;rw[h,Za,e];simp[Qr,Qaq]
def QK(h:fa U=some r)(q:Q r.d (r.norm.fr && decide r.norm.M.Nodup)):Run (Qc (QH fa) g) U (Rt Q):=QC (QbP h q)
def Qns{R L:Lpp}(hl:R.length+R.length+L.length<=16777216):Qx 4 QmP [Qr R,Qr L]=slT (Qr (R++R.map Prod.swap++L)):=by
 refine Q2 ?_;refine run_seq (Qat (Qa1 R rfl rfl λx _=>⟨[none,slI x.1,slI x.2],rfl,⟨pairD x,true,[]⟩,rfl,rfl,rfl⟩) ?_);refine run_seq (Qat (Qa1 R rfl rfl λx _=>⟨[none,slI x.1,slI x.2],rfl,⟨pairD x.swap,true,[]⟩,rfl,rfl,rfl⟩) ?_);have e1:(R.map λx=>pairD x.swap)=(R.map Prod.swap).map pairD:=by simp[ZO,Function.comp_def]
 rw[e1];exact QK (Qq6 (Qq6 rfl rfl rfl rfl (by simpa using(by omega:R.length+R.length<=16777216))) rfl (Qu7 rfl rfl rfl) rfl (by simpa using hl)) ⟨rfl,rfl⟩
def Qt(h:fs U=some r)(hd:den (r.ds++dfl)=some (d,true))(hl:r.ds.length+dfl.length=n):Qm n den dfl fs U=some ⟨d,true,[]⟩:=by
 unfold Qm;rw[h,Za,if_pos hl,hd];simp
def Qbb(h:fa U=some r)(e:r.d= .lst xs):QT fa U=some ⟨xs,r.M⟩:=by
 unfold QT;rw[h,Za,e]
noncomputable def stepT(m:Nat)(f:Mt2)(s:Int×Int):Nat->Nat->Int:=
 let f1:=if s.1<m then up2 f s.1.toNat s.1.toNat (f s.1.toNat s.1.toNat-1)else f
 if s.1<m/\s.2<m then up2 f1 s.1.toNat s.2.toNat (f1 s.1.toNat s.2.toNat+1)else f1
noncomputable def Qw(m:Nat)(S:Lpp):Nat->Nat->Int:=S.foldl (stepT m) λ_ _=>0
noncomputable def Qf1(QcB:Den):DS:=(Qc (Qy 1 (Qdh (Qf vv0 kk0))) (Qc (Qy 2 (QO (Qan vv1) (.nm 1) [none,none,some 1] QaR (QaE (QE (Qa kk0 Qb)) vv2))) (Qc (QaH (QT (Qm 2 QcB [] (Qa (Qf vv0 kk1) (Qa (Qf vv0 kk2) Qb)))) (.tp [3,4]) (Qc (sIf (Qs (dOp gLt vv3 vv1)) (Qc (Qgs Qa6 2 (QjD Qak vv3) vv3 kk1) Qj) Qj) (Qc (sIf (QdQ (Qs (dOp gLt vv3 vv1)) (Qs (dOp gLt vv4 vv1))) (Qc (Qgs (gI λi j=>some (.int (i+j))) 2 (QjD Qak vv3) vv4 kk1) Qj) Qj) Qj))) (Qc (QH vv2) Qj))))
def QuW{QcB:Den}{m:Nat}{R L S:Lpp}(hm:m<=16777216)(hs:QcB [Qr R,Qr L]=slT (Qr S))(hS:∀s∈S,0<=s.1/\0<=s.2):Qx 5 (Qf1 QcB) [Qd m R L]=slT (Q9 m m (Qw m S)):=by
 refine Q2 ?_;refine run_seq (Qat rfl ?_);refine run_seq (Qat (Qa1 (List.range m) (Qbi rfl rfl hm) rfl λx _=>⟨[none,slI x,slI m],rfl,_,Qtd rfl rfl hm,rfl,rfl⟩) ?_);refine run_seq (QaA S (λi U=>∃j1 j2,U=[slF (Qd m R L),slI m,slT (Q9 m m (Qw m (S.take i))),j1,j2]) (ir:=⟨S.map pairD,[]⟩) ?_ rfl ⟨none,none,rfl⟩ ?_ ?_)
 .exact Qbb (Qt (r:=⟨[Qr R,Qr L],false,[]⟩) rfl hs rfl) rfl
 .rintro i s U hi ⟨j1,j2,rfl⟩;refine⟨_,rfl,?_⟩;obtain⟨s1,s2⟩:=hS s (ZC hi);refine run_seq (Run.mono (Q:=Nx λU=>U=[slF (Qd m R L),slI m,slT (Q9 m m (if s.1<m then up2 (Qw m (S.take i)) s.1.toNat s.1.toNat (Qw m (S.take i) s.1.toNat s.1.toNat-1)else Qw m (S.take i))),slI s.1,slI s.2]) ?_ ?_)
  .refine QL rfl (λh=>?_) (λh=>?_)
   .have h:=of_decide_eq_true h;rw[if_pos h];exact run_seq (Qoo rfl rfl rfl rfl rfl rfl s1 h s1 h rfl (Qq rfl))
   .have h:=of_decide_eq_false h;rw[if_neg h];exact Qq rfl
  .intro o ho;cases o with
   | nx U=>
    subst ho;have fin:Qw m (S.take (i+1))=stepT m (Qw m (S.take i)) s:=by
     unfold Qw;rw[Zcj,hi,ZbE];rfl
    refine run_seq (Run.mono (Q:=Nx λU=>U=[slF (Qd m R L),slI m,slT (Q9 m m (stepT m (Qw m (S.take i)) s)),slI s.1,slI s.2]) ?_ ?_)
    .refine QL (b:=decide (s.1<m/\s.2<m)) ?_ (λh=>?_) (λh=>?_)
     .by_cases h:s.1<(m:Int)
      .simp[QdQ,Qs,dOp,Qh,gLt,gI,D.tru,h]
      .simp[QdQ,Qs,dOp,Qh,gLt,gI,D.tru,h]
     .have h:=of_decide_eq_true h;refine run_seq (Qoo rfl rfl rfl rfl rfl rfl s1 h.1 s2 h.2 rfl (Qq ?_));unfold stepT;rw[if_pos h];rfl
     .have h:=of_decide_eq_false h;refine Qq ?_;unfold stepT;rw[if_neg h];rfl
    .intro o ho;cases o with
     | nx U=>
      subst ho;exact Qq ⟨_,_,by rw[fin]⟩
     | _=>exact False.elim ho
   | _=>exact False.elim ho
 .rintro U ⟨j1,j2,rfl⟩;rw[ZaY];exact QK rfl ⟨rfl,rfl⟩
noncomputable def hit(i j:Nat)(s:Int×Int):Int:=(if s.1=i/\s.2=j then 1 else 0)-(if s.1=i/\i=j then 1 else 0)
def QqD:up2 f a b v i j=if i=a/\j=b then v else f i j:=by
 unfold up2 up;by_cases h1:i=a
 .by_cases h2:j=b
  .simp[h1,h2]
  .simp[h1,h2]
 .simp[h1]
def Qs6(hi:i<m)(hj:j<m)(h1:0<=s.1)(h2:0<=s.2):stepT m f s i j=f i j+hit i j s:=by
 unfold stepT hit;have e1:(s.1=(i:Int))↔(i=s.1.toNat):= ⋯
 have e2:(s.2=(j:Int))↔(j=s.2.toNat):= ⋯
 simp only[e1,e2];by_cases c1:s.1<(m:Int)
 .by_cases c2:s.2<(m:Int)
  .simp only[c1,c2,and_self,if_true,QqD];generalize s.1.toNat=a;generalize s.2.toNat=b;by_cases d1:i=a
   .subst d1;by_cases d2:j=b
    .subst d2;by_cases d3:i=j
     .subst d3;simp
     .have d4:¬j=i:=λz=>d3 z.symm;simp[d3,d4]
    .by_cases d3:i=j
     .subst d3;simp[d2];omega
     .have d4:¬j=i:=λz=>d3 z.symm;simp[d2,d3,d4]
   .simp[d1]
  .have d2:¬(j=s.2.toNat):= ⋯
   simp only[c1,c2,and_false,if_false,if_true,QqD,d2];generalize s.1.toNat=a;by_cases d1:i=a
   .subst d1;by_cases d3:i=j
    .subst d3;simp;omega
    .have d4:¬j=i:=λz=>d3 z.symm;simp[d3,d4]
   .simp[d1]
 .have d1:¬(i=s.1.toNat):= ⋯
  simp[c1,d1]
def Qnq(hi:i<m)(hj:j<m):∀(S:Lpp) (f:Mt2),(∀s∈S,0<=s.1/\0<=s.2)->S.foldl (stepT m) f i j=f i j+(S.map (hit i j)).sum
 | [],f,_=>by simp
 | s::S,f,h=>by
  obtain⟨h1,h2⟩:=h s Zi;rw[ZbV,Qnq hi hj S _ (λt ht=>h t (Zb _ ht)),Qs6 hi hj h1 h2,Zv,ZQ];omega
def QcO(hi:i<m)(hj:j<m)(h:∀s∈S,0<=s.1/\0<=s.2):Qw m S i j=(S.map (hit i j)).sum:=by
 unfold Qw;rw[Qnq hi hj S _ h];simp
noncomputable def isI(i:Nat)(a:Int):Int:=if a=i then 1 else 0
noncomputable def Q1(R L:Lpp)(i:Nat):Int:=(R.map λr=>isI i r.1+isI i r.2).sum+(L.map λl=>isI i l.1).sum
def sum_neg(S:Lpp)(i:Nat)(h:∀s∈S,s.1≠s.2):(S.map (hit i i)).sum= -(S.map λs=>isI i s.1).sum:=by
 induction S with
 | nil=>rfl
 | cons s S ih=>
  rw[Zv,ZQ,ih λt ht=>h t (Zb _ ht),Zv,ZQ];have hn:=h s Zi;unfold hit isI;by_cases e:s.1=(i:Int)
  .have:¬(s.2=(i:Int)):=λz=>hn (e.trans z.symm);simp[e,this];omega
  .simp[e]
noncomputable def Qi(R L:Lpp):List (Int×Int):=R++R.map Prod.swap++L
def QmY(R L:Lpp)(i:Nat):((Qi R L).map λs=>isI i s.1).sum=Q1 R L i:=by
 unfold Qi Q1;rw[ZK,ZK,Zbt,Zbt];have:(R.map λr=>isI i r.1+isI i r.2).sum=(R.map λs=>isI i s.1).sum+((R.map Prod.swap).map λs=>isI i s.1).sum:=by
  induction R with
  | nil=>rfl
  | cons r R ih=>simp only[Zv,ZQ,ih,Zcn];omega
 omega
def Good(m:Nat)(s:Int×Int):Prop:=0<=s.1/\0<=s.2/\s.1<=m/\s.2<=m/\s.1≠s.2
def Qbl{m:Nat}{R L:Lpp}(hR:∀s∈R,Good m s)(hL:∀s∈L,Good m s):∀s∈Qi R L,Good m s:=λs hs=>by
 unfold Qi at hs;rcases ZJ.mp hs with hs | hs
 .rcases ZJ.mp hs with hs | hs
  .exact hR s hs
  .obtain⟨t,ht,rfl⟩:=ZI.mp hs;obtain⟨h1,h2,h3,h4,h5⟩:=hR t ht;exact⟨h2,h1,h4,h3,λz=>h5 z.symm⟩
 .exact hL s hs
def QgY(d:Den):Prop:=∀(m:Nat) (R L:Lpp),m<=1000->R.length+R.length+L.length<=1000000->(∀s∈R,Good m s)->(∀s∈L,Good m s)->d [Qd m R L]=some (Q9 m m (Qw m (Qi R L)),true)
def Qyq:QgY (Qx 5 (Qf1 (Qx 4 QmP))):=λm R L hm hl hR hL=>by
 refine QuW ⋯ (Qns ⋯) λs hs=>?_;obtain⟨h1,h2,_⟩:=Qbl hR hL s hs;exact⟨h1,h2⟩
noncomputable def Qj6(Qas:Den):DS:=(Qc (QH (QO (Qbs (Qm 1 Qas [] (Qa vv0 Qb))) (.tp [1,2]) [none,none,none] QaR (dOp Qa6 kk0 (Qf vv2 vv1)))) Qj)
def Qlr{α:Type}(m:Nat)(f:Nat->D):Qc4 ((List.range m).map f)=(List.range m).map λi=> .tup [.int i,f i]:=by
 apply Zaj;intro k;unfold Qc4;simp only[Zh,ZbS,Zcy];by_cases hk:k<m
 .rw[ZL hk];rfl
 .rw[Zt (by simp;omega)];rfl
def QvJ{d:Den}(hd:QgY d){m:Nat}{R L:Lpp}(hm:m<=1000)(hl:R.length+R.length+L.length<=1000000)(hR:∀s∈R,Good m s)(hL:∀s∈L,Good m s):Qx 1 (Qj6 d) [Qd m R L]=slT (Qe m (Q1 R L)):=by
 refine Q2 ?_;refine QK (Qa1 (toD:=λ(i:Nat)=> .tup [.int i,Qe m (Qw m (Qi R L) i)]) (out:=λ(i:Nat)=> .int (Q1 R L i)) (ir:=⟨Qc4 ((List.range m).map λi=>Qe m (Qw m (Qi R L) i)),[]⟩) (List.range m) ?_ ?_ λi hi=>?_) ⟨rfl,rfl⟩
 .unfold Qbs;rw[Qt (n:=1) (fs:=Qa (Qh 0) Qb) (U:=QaS 1 [Qd m R L]) (dfl:=[]) (r:=⟨[Qd m R L],false,[]⟩) rfl (hd m R L hm hl hR hL) rfl];rfl
 .exact Qlr (α:=Nat) m _
 .have hi:=Zj.mp hi;refine⟨[none,slI i,slF (Qe m (Qw m (Qi R L) i))],rfl,reI (0-Qw m (Qi R L) i i),?_,?_,rfl⟩
  .have e:Qf (Qh 2) (Qh 1) [none,slI (i:Int),slF (Qe m (Qw m (Qi R L) i))]=some (reI (Qw m (Qi R L) i i)):=by
    show((D.items (Qe m (Qw m (Qi R L) i))).bind λxs=>(atI xs (i:Int)).map λd=>(HS.R.norm ⟨d,false,[]⟩))=_;unfold Qe;rw[show D.items (.lst ((List.range m).map λj=>D.int (Qw m (Qi R L) i j)))=some ((List.range m).map λj=>D.int (Qw m (Qi R L) i j))from rfl,Za,QqW ⋯ ⋯];rfl
   exact QY (rfl) e rfl
  .have g:=Qbl hR hL;rw[QcO hi hi λs hs=>⟨(g s hs).1,(g s hs).2.1⟩,sum_neg _ i λs hs=>(g s hs).2.2.2.2,QmY];show D.int (0- -(Q1 R L i))=_;rw[show(0:Int)- -(Q1 R L i)=Q1 R L i by omega]
def QeQ(a b:Int):deq (.int a) (.int b)=decide (a=b):=by
 show PyData.eqv (.int a) (.int b)=_;unfold PyData.eqv;exact Bool.beq_eq_decide_eq a b
def Qe7(ha:fa U=some ra)(ea:ra.d= .int a)(hb:fb U=some rb)(eb:rb.d= .int b):dOp gEq fa fb U=some (reT (.bl (decide (a=b)))):=by
 refine QY ha hb ?_;rw[ea,eb];show some (D.bl (deq (.int a) (.int b)))=_;rw[QeQ]
def QdF(ha:fa U=some ra)(ea:ra.d= .int a)(hb:fb U=some rb)(eb:rb.d= .int b):dOp gNe fa fb U=some (reT (.bl (!decide (a=b)))):=by
 refine QY ha hb ?_;rw[ea,eb];show some (D.bl (!deq (.int a) (.int b)))=_;rw[QeQ]
def QBt(ha:fa U=some (reT (.bl a)))(hb:fb U=some (reT (.bl b))):dOr fa fb U=some (reT (.bl (a || b))):=by
 unfold dOr;rw[ha];cases a<;>simp[D.tru,hb]
def Qo4(ha:fa U=some (reT (.bl a)))(hb:fb U=some (reT (.bl b))):QhP fa fb U=some (reT (.bl (a && b))):=by
 unfold QhP;rw[ha];cases a<;>simp[D.tru,hb]
def Qz(ha:fa U=some r)(e:r.d= .bl b):Qs fa U=some b:=by
 unfold Qs;rw[ha,Za,e];rfl
def Qa4(h:g U=some b):QbG g U=some (!b):=by unfold QbG;rw[h];rfl
def QbU(ha:g1 U=some a)(hb:g2 U=some b):bOr g1 g2 U=some (a || b):=by
 unfold bOr;rw[ha];cases a<;>simp[hb]
def QfA(ha:g1 U=some a)(hb:g2 U=some b):QdQ g1 g2 U=some (a && b):=by
 unfold QdQ;rw[ha];cases a<;>simp[hb]
def QcW(ha:fa U=some ra)(ea:ra.d= .int a)(hb:fb U=some rb)(eb:rb.d= .int b)(h:Qec a b=true):QaE fa fb U=some (reI (a*b)):=by
 unfold QaE;rw[ha,Za,hb,Za,ea,eb];simp[h]
def Qac(ha:fa U=some ra)(ea:ra.d= .int a)(hb:fb U=some rb)(eb:rb.d= .int b):QA fa fb U=some (reI (a+b)):=by
 unfold QA;rw[ha,Za,hb,Za,ea,eb]
def QaI(ha:fa U=some ra)(ea:ra.d= .int a)(hb:fb U=some rb)(eb:rb.d= .int b)(h:0<b):dOp QaC fa fb U=some (reI (a % b)):=by
 refine QY ha hb ?_;rw[ea,eb];show(if b≠0 then some (D.int (Qim a b))else none)=_;rw[if_pos ⋯,QuK _ _ ⋯]
def Qlc(ha:fa U=some ra)(ea:ra.d= .int a)(hb:fb U=some rb)(eb:rb.d= .int b)(h:0<b)(h2:b<2^64):dOp QbV fa fb U=some (reI (a / b)):=by
 refine QY ha hb ?_;rw[ea,eb];have:QeV b=true:=by
  unfold QeV;have h3:b.natAbs<2^8000:=Zz (by omega:b.natAbs<2^64) (ZaU ∅ ∅);simp only[Zp,decide_eq_true_eq];exact⟨⋯,h3⟩
 show(if QeV b=true then some (D.int (QgE a b))else none)=_;rw[if_pos this,Qu5 _ _ ⋯]
def Qkd(h:fa U=some r):Qdh fa U=some ⟨r.d,false,r.M⟩:=by unfold Qdh;rw[h];rfl
def QyS{fa fb:DE}{U:En}{ra rb:R}{m:Nat}{f:Mt1}{i:Int}(ha:fa U=some ra)(ea:ra.d=Qe m f)(hb:fb U=some rb)(eb:rb.d= .int i)(h0:0<=i)(h:i<m):Qf fa fb U=some (reI (f i.toNat)):=by
 unfold Qf;rw[ha,Za,hb,Za,ea,eb];simp only[Qe,D.items,Za,QqW h0 h,ZT];rfl
def QlU{fa fb:DE}{U:En}{ra rb:R}{ns:List Int}{i:Int}{v:Int}(ha:fa U=some ra)(ea:ra.d= .lst (ns.map .int))(hb:fb U=some rb)(eb:rb.d= .int i)(h0:0<=i)(h:ns[i.toNat]? =some v):Qf fa fb U=some (reI v):=by
 have hl:i<ns.length:=by have:=(Ze.mp h).1;omega
 unfold Qf;rw[ha,Za,hb,Za,ea,eb];simp only[D.items,Za];rw[QfC h0 (by simpa using hl),Zh,h];rfl
noncomputable def QmK:DS:=(Qc (sIf (Qs (dOp gLt vv1 (dBf Q6 (Qa vv0 Qb)))) (Qc (QH (Qf vv0 vv1)) Qj) Qj) (Qc (QH kk0) Qj))
def QiB(d:Den):Prop:=∀(ns:List Int) (k:Nat),d [.lst (ns.map .int),.int k]=some (.int (ns.getD k 0),true)
def Qy1:QiB (Qx 2 QmK):=λns k=>by
 refine Q2 ?_;refine QC (QL (b:=decide ((k:Int)<ns.length)) ?_ (λh=>?_) (λh=>?_))
 .refine Qz (QY (rb:=reI ns.length) rfl ?_ rfl) rfl;show some (HS.R.mk (.int ((ns.map D.int).length:Int)) true [])=_;rw[Zc]
 .have h:=of_decide_eq_true h;have hk:k<ns.length:= ⋯
  have e:ns[k]? =some (ns.getD k 0):=by rw[ZS,Zq hk];rfl
  exact QC (QbP (QlU rfl rfl rfl rfl ⋯ (by simpa using e)) ⟨rfl,rfl⟩)
 .have h:=of_decide_eq_false h;have e:ns.getD k 0=0:=by rw[ZS,Zt ⋯];rfl
  rw[e];exact Qq (QK rfl ⟨rfl,rfl⟩)
noncomputable def Qpi:DS:=(Qc (QH (QhP (Qmz "int" vv0) (QrS (Qmz "bool" vv0)))) Qj)
def Qmu(d:Den):Prop:=∀i:Int,d [.int i]=some (.bl true,true)
def QuR:Qmu (Qx 1 Qpi):=λi=>rfl
noncomputable def QbW(t k:Int):Int:=(t+17)*(k*k+7*k+11)*69621 % 2147483647
noncomputable def Qfq(m t k:Int):Int:=if QbW t k % (k+1)<k then(QbW t k % (k+1)+t) % m else m
noncomputable def Qfp(m t kind:Int)(k:Int):Int×Int×Bool:=((k+t) % m,Qfq m t k,decide (kind=2) || (decide (kind=3) && decide (QbW t k / 64 % 2=1)))
noncomputable def Qcr(m:Nat)(t kind:Int):List (Int×Int×Bool):=(List.range m).map λ(k:Nat)=>Qfp m t kind k
def GoodW(m:Nat)(w:Int×Int×Bool):Prop:=Good m (w.1,w.2.1)/\(w.2.2=true->w.1<m)
noncomputable def QCq(W:List (Int×Int×Bool)):D:= .lst (W.map Qv8)
@[simp] theorem QB0(W:List (Int×Int×Bool)):(QCq W).flat=false:=rfl
def Quo{a x n:Int}(h1:0<x)(h2:x<n):(a+x) % n≠a % n:=λh=>by
 have h3:(a+x-a) % n=0:=Int.emod_eq_emod_iff_emod_sub_eq_zero.mp h;rw[show a+x-a=x by omega,Zck ⋯ h2]at h3;omega
def Qsy{m:Nat}{t kind:Int}{k:Nat}(hk:k<m):GoodW m (Qfp m t kind k):=by
 have hm:(0:Int)<m:= ⋯
 have h1:=ZP ((k:Int)+t) (by omega:(m:Int)≠0);have h2:=ZR ((k:Int)+t) hm;unfold Qfp Qfq;split
 .rename_i hlt;have h3:=ZP (QbW t k) (by omega:((k:Int)+1)≠0);have h4:=ZP (QbW t k % (k+1)+t) (by omega:(m:Int)≠0);have h5:=ZR (QbW t k % (k+1)+t) hm;refine⟨⟨h1,h4,by dsimp only;omega,by dsimp only;omega,?_⟩,λ_=>by dsimp only;omega⟩;dsimp only;have h6:=Quo (a:=QbW t k % (k+1)+t) (x:=k-QbW t k % (k+1)) (n:=m) ⋯ ⋯;rw[show QbW t k % (k+1)+t+(k-QbW t k % (k+1))=k+t by omega]at h6;exact h6
 .exact⟨⟨h1,by dsimp only;omega,by dsimp only;omega,by dsimp only;omega,by dsimp only;omega⟩,λ_=>by dsimp only;omega⟩
def Ql7(hx:U[x]? =some (slT (.lst xs)))(ha:fa U=some r)(hf:r.d.flat=true)(hl:xs.length<16777216)(q:Q (.nx (U.set x (slT (.lst (xs++[r.d])))))):Run (Qb5 x Qak fa) U Q:=by
 refine⟨_,?_,q⟩;have hn:r.norm=⟨r.d,true,[]⟩:=by unfold HS.R.norm;rw[if_pos hf]
 unfold Qb5;rw[hx];simp only[Qak,Za,ha,Qc5,Qn0,hn,Qb4,kill,Qfx];simp[hl]
def Run.nx(h:Run f U (Nx Q))(m:∀U,Q U->Q' U):Run f U (Nx Q'):=h.mono λo ho=>by
 cases o with
 | nx U=>exact m U ho
 | _=>exact ho.elim
def QaO(h:Run f U (Nx P))(k:∀U',P U'->Run g U' Q):Run (Qc f g) U Q:=run_seq (h.nx k)
noncomputable def QdD(c:Int):Int:=c*48271 % 2147483647
noncomputable def mStart(m c:Int):Int:=QdD c % (m+1)
noncomputable def QuU(m c:Int):Int:=(mStart m c+1+QdD c / 9 % m) % (m+1)
noncomputable def Qel(m kind c:Int):Int×Int×Bool:=(mStart m c,QuU m c,decide (mStart m c<m) && (decide (kind=2) || (decide (kind=3) && decide (QdD c / 72 % 3=1))))
def QsP{m:Nat}(hm:0<m)(kind c:Int):GoodW m (Qel m kind c):=by
 have h1:=ZP (QdD c) (by omega:(m:Int)+1≠0);have h2:=ZR (QdD c) (by omega:(0:Int)<m+1);have h3:=ZP (QdD c / 9) (by omega:(m:Int)≠0);have h4:=ZR (QdD c / 9) (by omega:(0:Int)<m);have h5:=ZP (mStart m c+1+QdD c / 9 % m) (by omega:(m:Int)+1≠0);have h6:=ZR (mStart m c+1+QdD c / 9 % m) (by omega:(0:Int)<m+1);have h7:=Quo (a:=mStart m c) (x:=1+QdD c / 9 % m) (n:=(m:Int)+1) ⋯ ⋯;rw[← Int.add_assoc,show mStart m c % ((m:Int)+1)=mStart m c from Zck h1 h2]at h7;refine⟨⟨h1,h5,?_,?_,λz=>h7 z.symm⟩,λh=>?_⟩
 .show mStart m c<=m;unfold mStart;omega
 .show QuU m c<=m;unfold QuU;omega
 .have:(Qel m kind c).2.2=(decide (mStart m c<m) && (decide (kind=2) || (decide (kind=3) && decide (QdD c / 72 % 3=1)))):=rfl;rw[this,Zp,decide_eq_true_eq]at h;exact h.1
noncomputable def Qcz(w:Int×Int×Bool):Int×Int:=(if w.2.1<w.1 then w.2.1 else w.1,if w.2.1>w.1 then w.2.1 else w.1)
noncomputable def Qck(w:Int×Int×Bool):Int×Int:=(w.1,w.2.1)
noncomputable def QeO(W:List (Int×Int×Bool)):List (Int×Int):=(W.filter λw=> !w.2.2).map Qcz
noncomputable def QfL(W:List (Int×Int×Bool)):List (Int×Int):=(W.filter λw=>w.2.2).map Qck
def Qle{m:Nat}{W:List (Int×Int×Bool)}(h:∀w∈W,GoodW m w):∀s∈QeO W,Good m s/\s.1<s.2:=λs hs=>by
 obtain⟨w,hw,rfl⟩:=ZI.mp hs;obtain⟨⟨h1,h2,h3,h4,h5⟩,_⟩:=h w (ZA.mp hw).1;simp only at h1 h2 h3 h4 h5;unfold Qcz Good;simp only;split<;>split<;>omega
def QlS{m:Nat}{W:List (Int×Int×Bool)}(h:∀w∈W,GoodW m w):∀s∈QfL W,Good m s/\s.1<m:=λs hs=>by
 obtain⟨w,hw,rfl⟩:=ZI.mp hs;obtain⟨h1,h2⟩:=h w (ZA.mp hw).1;exact⟨h1,h2 (by simpa using(ZA.mp hw).2)⟩
def QtN(W:List (Int×Int×Bool)):(QeO W).length<=W.length:=by unfold QeO;rw[Zc];exact ZaN _ _
def Qs4(W:List (Int×Int×Bool)):(QfL W).length<=W.length:=by unfold QfL;rw[Zc];exact ZaN _ _
def QvP{fa:DE}{U:En}{r:R}{ns:List Int}{a b:Int}(h:fa U=some r)(e:r.d= .lst (ns.map .int)):∃cs:List Int,cs.length<=ns.length/\Qad fa (QS (dC (.int a))) (QS (dC (.int b))) U=some (reT (.lst (cs.map .int))):=by
 refine⟨(ns.drop (HT.sIx ns.length 0 (some a))).take (HT.sIx ns.length ns.length (some b)-HT.sIx ns.length 0 (some a)),by rw[ZY,ZaB];omega,?_⟩;unfold Qad QS;rw[h,Za,e];simp only[QeI,Za,cutD,Qaq,Zc,← Zco,← Zbi,Qrw,if_true]
def QuO{m:Nat}{t kind:Int}:∀w∈Qcr m t kind,GoodW m w:=λw hw=>by
 obtain⟨k,hk,rfl⟩:=ZI.mp hw;exact Qsy (Zj.mp hk)
def QoL(m:Nat)(t kind:Int):(Qcr m t kind).length=m:=by simp[Qcr]
def QbC:up f i v k=if k=i then v else f k:=rfl
def Qaz{fa:DE}{U:En}{r:R}{m:Int}{R L:Lpp}(h:fa U=some r)(e:r.d=Qd m R L):
  Qf fa (dC (.int 0)) U=some (reI m)/\Qf fa (dC (.int 1)) U=some ⟨Qr R,r.fr,r.M⟩/\Qf fa (dC (.int 2)) U=some ⟨Qr L,r.fr,r.M⟩:=by
 unfold Qf;rw[h];simp only[Za,e,QeI];exact⟨rfl,rfl,rfl⟩
def QpA{α:Type}{g:α->Int}{xs:List α}{i:Nat}{x:α}(h:xs[i]? =some x):((xs.take (i+1)).map g).sum=((xs.take i).map g).sum+g x:=by
 rw[Zcj,h,ZK,Zbt];simp
def Qbp(h:fa U=some r)(e:r.d= .lst xs):dBf Q6 (Qa fa Qb) U=some (reI xs.length):=by
 unfold dBf;rw[Qo h (QI _),Za];simp[e,Q6]
def Quk(n:Nat)(ps:Lpp):(Qr ps).sim (n+2)=true:=by
 unfold Qr;simp only[D.sim,Zca,ZZ];intro p _;cases n<;>rfl
def QsT(ha:fa U=some ra)(ea:ra.d=d)(hb:fb U=some rb)(eb:rb.d=d)(hs:d.sim 8=true):dOp gNe fa fb U=some (reT (.bl false)):=by
 refine QY ha hb ?_;rw[ea,eb];unfold gNe;rw[hs,QuT hs];rfl
def Qux(ha:fa U=some ra)(hb:fb U=some rb)(h1:ra.d.sim 8=true)(h2:rb.d.sim 8=true):dOp gEq fa fb U=some (reT (.bl (deq ra.d rb.d))):=by
 refine QY ha hb ?_;unfold gEq;rw[h1,h2];rfl
def QoP(d:Den):Prop:=∀(m:Nat) (R L:Lpp),m<=1000->R.length+R.length+L.length<=1000000->(∀s∈R,Good m s)->(∀s∈L,Good m s)->d [Qd m R L]=some (Qe m (Q1 R L),true)
def Qw0(h:QgY d):QoP (Qx 1 (Qj6 d)):=λm R L h1 h2 h3 h4=>QvJ h h1 h2 h3 h4
def QAc(xs:List D):deq (.lst xs) (.lst [])=xs.isEmpty:=by cases xs<;>rfl
def QC9(n:Nat)(ns:List Int):(Qp ns).sim (n+1)=true:=by
 unfold Qp;simp only[D.sim,Zca,ZZ];intro p _;cases n<;>rfl
def Esc(m:Nat)(W:List (Int×Int×Bool)):Prop:=∀A:Nat->Prop,(∃p,p<m/\A p)->∃w∈W,w.1<m/\A w.1.toNat/\(w.2.1=m∨¬A w.2.1.toNat)
def Esc.mono{m:Nat}{W W':List (Int×Int×Bool)}(h:Esc m W)(s:∀w∈W,w∈W'):Esc m W':=λA hA=>let ⟨w,hw,r⟩:=h A hA;⟨w,s w hw,r⟩
noncomputable def QaJ(m:Nat)(g:Mt1):Int:=((List.range m).map g).sum
def Qcd(m:Nat)(g:Mt1):QaJ (m+1) g=QaJ m g+g m:=by
 unfold QaJ;rw[ZaA,ZK,Zbt];simp
def Qcm(h:∀i,i<m->f i=g i):QaJ m f=QaJ m g:=by
 unfold QaJ;rw[ZM λi hi=>h i (Zj.mp hi)]
def Qeo(m:Nat)(f g:Mt1):QaJ m (λi=>f i+g i)=QaJ m f+QaJ m g:=by
 induction m with
 | zero=>rfl
 | succ m ih=>rw[Qcd,Qcd,Qcd,ih];omega
def Qvv(m:Nat)(f:Mt1):QaJ m (λi=> -f i)= -QaJ m f:=by
 induction m with
 | zero=>rfl
 | succ m ih=>rw[Qcd,Qcd,ih];omega
def Qcj(m:Nat):QaJ m (λ_=>0)=0:=by
 induction m with
 | zero=>rfl
 | succ m ih=>rw[Qcd,ih];rfl
def Qc2(hp:p<m)(v:Int)(f:Mt1):QaJ m (λi=>(if i=p then v else 0)*f i)=v*f p:=by
 induction m with
 | zero=>omega
 | succ m ih=>
  rw[Qcd];by_cases h:p=m
  .subst h;rw[if_pos rfl,Qcm (g:=λ_=>0) λi hi=>by rw[if_neg ⋯];simp,Qcj];simp
  .rw[ih ⋯,if_neg (λz=>h z.symm)];simp
noncomputable def Qbr(m:Nat)(T:Mt2)(f c:Mt1):Nat->Int:=λj=>f j+QaJ m λi=>c i*T i j
def Ql8(h:∀i,i<m->f i=g i):Qe m f=Qe m g:=by
 unfold Qe;congr 1;refine ZM λi hi=>?_;rw[h i (Zj.mp hi)]
noncomputable def QdM:DS:=(Qc (QaH (QT vv1) (.nm 2) (Qc (sIf (Qs (dOp gNe (dBf Q6 (Qa vv2 Qb)) (Qf vv0 kk0))) (Qc Qu Qj) Qj) Qj)) Qj)
def QkX(d:Den):Prop:=∀(m:Nat) (R L:Lpp) (fs:List (Nat->Int)),d [Qd m R L,.lst (fs.map λf=>Qe m f)]=some (.non,true)
def Qxt:QkX (Qx 3 QdM):=λm R L fs=>by
 have key:Run QdM (QaS 3 [Qd m R L,.lst (fs.map λf=>Qe m f)]) (Nx λ_=>True):=by
  refine run_seq (QaA fs (λ_ U=>∃j2,U=[slF (Qd m R L),slF (.lst (fs.map λf=>Qe m f)),j2]) rfl rfl ⟨none,rfl⟩ ?_ ?_)
  .rintro i f U _ ⟨j2,rfl⟩;refine⟨_,rfl,?_⟩;refine run_seq (QL (b:=false) (Qz (QdF (Qbp rfl rfl) rfl (Qaz rfl rfl).1 rfl) ⋯) (λh=>by cases h) (λ_=>Qq (Qq ⟨_,rfl⟩)))
  .rintro U ⟨j2,rfl⟩;exact Qq trivial
 obtain⟨o,h1,h2⟩:=key;unfold Qx;rw[h1];cases o with
 | nx U=>rfl
 | _=>exact h2.elim
def Qcp(h:fa U=some r)(q:Q (.nx U)):Run (Qaj fa) U Q:=⟨_,by simp[Qaj,h],q⟩
def Qr6(f g:Nat->D):Qd6 ((List.range m).map f) ((List.range m).map g)=(List.range m).map λi=> .tup [f i,g i]:=by
 generalize List.range m=l
 induction l with
 | nil=>rfl
 | cons n ns ih=>unfold Qd6 at ih ⊢;simp only[Zv,List.zip_cons_cons,ih]
def Qky(h:fs U=some rs)(e:rs.ds=[Qe m f]):dList fs U=some (reT (Qe m f)):=by
 unfold dList;rw[h,Za,e];simp[Qe,Qaq]
def QqT(ha:fa U=some ra)(ea:ra.d= .lst ((List.range m).map f))(hb:fb U=some rb)(eb:rb.d= .lst ((List.range m).map g)):QcP fa fb U=some ⟨(List.range m).map λi=> .tup [f i,g i],ra.M++rb.M⟩:=by
 unfold QcP;rw[ha,Za,hb,Za,ea,eb];simp only[Qr6]
def Qyf(i j:Nat)(s:Int×Int):(hit i j s).natAbs<=1:=by unfold hit;split<;>split<;>decide
def QgD(i j:Nat):∀S:List (Int×Int),((S.map (hit i j)).sum).natAbs<=S.length
 | []=>by simp
 | s::S=>by
  have:=QgD i j S;have:=Qyf i j s;rw[Zv,ZQ,Zy];omega
end HS
namespace HS
open PySem PySem.Spec L2
def Ap(f:DS)(fx:DX):Prop:=∀U,fx U≠none->f U=none
def ApF(d:Den)(xd:List D->Option Str):Prop:=∀ds,xd ds≠none->d ds=none
def QaK{f:DS}:Ap f xNo:=λU h=>absurd rfl h
def QR{x:Str}{fs:DA}:Ap Qu (QbB x fs):=λU h=>rfl
def Qah{f g:DS}{fx gx:DX}(a:Ap f fx)(b:Ap g gx):Ap (Qc f g) (QM f fx gx):=λU h=>by
 unfold QM at h;unfold Qc;split at h
 .rename_i U' e;rw[e];exact b U' h
 .exact absurd rfl h
 .rename_i e;rw[e];rfl
def QaY{c:DT}{f g:DS}{fx gx:DX}(a:Ap f fx)(b:Ap g gx):Ap (sIf c f g) (xIf c fx gx):=λU h=>by
 unfold xIf at h;unfold sIf;cases e:c U with
 | none=>rfl
 | some v=>
  rw[e,Za]at h;rw[Za];cases v with
  | true=>rw[if_pos rfl]at h ⊢;exact a U h
  | false=>rw[if_neg Zam]at h ⊢;exact b U h
def Qau{fi:DI}{t:Tg}{fb:DS}{fx:DX}(a:Ap fb fx):Ap (QaH fi t fb) (Qfo fi t fb fx):=λU h=>by
 unfold Qfo at h;unfold QaH;cases e:fi U with
 | none=>rfl
 | some ir=>
  rw[e,Za]at h;rw[Za];clear e;revert h;generalize ir.items=ds;generalize QaV ir.M U=U0
  induction ds generalizing U0 with
  | nil=>exact λh=>absurd rfl h
  | cons d ds ih=>
   intro h;unfold Qe2 at h;unfold Qdw;cases e1:Qbv t d U0 with
   | none=>rfl
   | some U1=>
    rw[e1,Za]at h;rw[Za];split at h
    .rename_i U2 e2;rw[e2,Za];exact ih U2 h
    .rename_i U2 e2;rw[e2,Za];exact ih U2 h
    .exact absurd rfl h
    .rename_i e2;rw[e2];rfl
def Ql2{n:Nat}{d:Den}{xd:List D->Option Str}{fs:DA}(a:ApF d xd){U:En}(h:QaX n xd fs U≠none):Qm n d [] fs U=none:=by
 unfold QaX at h;unfold Qm;cases e:fs U with
 | none=>rfl
 | some r=>
  rw[e,Za]at h;rw[Za];split at h
  .rename_i hl;rw[if_pos (by simpa using hl),Zad,a r.ds (λz=>h (by rw[z];rfl))];rfl
  .exact absurd rfl h
def QQ{n:Nat}{d:Den}{xd:List D->Option Str}{fs:DA}(a:ApF d xd):Ap (Qaj (Qm n d [] fs)) (QaX n xd fs):=λU h=>by unfold Qaj;rw[Ql2 a h];rfl
def Qap{n i:Nat}{d:Den}{xd:List D->Option Str}{fs:DA}(a:ApF d xd):Ap (Qy i (Qm n d [] fs)) (QaX n xd fs):=λU h=>by unfold Qy;rw[Ql2 a h];rfl
def Qfu{k:Nat}{f:DS}{fx:DX}(a:Ap f fx):ApF (Qx k f) (Qag k fx):=λds h=>by
 unfold Qag at h;unfold Qx;rw[a _ λz=>h (by rw[z];rfl)];rfl
def Qd2(f:DX)(U:En)(x:Str):Prop:=∃U',f U=some (x,U')
def Qew{x:Str}{fs:DA}{U:En}{r:RA}(h:fs U=some r)(hl:r.ds.length<=1):Qd2 (QbB x fs) U x:=⟨U,by unfold QbB;rw[h,Za,if_pos hl]⟩
def Qcy{n:Nat}{xd:List D->Option Str}{fs:DA}{U:En}{r:RA}{x:Str}(h:fs U=some r)(hl:r.ds.length=n)(hx:xd r.ds=some x):Qd2 (QaX n xd fs) U x:=⟨U,by unfold QaX;rw[h,Za,if_pos hl,hx];rfl⟩
def Qfw{g:DT}{fa fb:DX}{b:Bool}{U:En}{x:Str}(h:g U=some b)(q1:b=true->Qd2 fa U x)(q2:b=false->Qd2 fb U x):Qd2 (xIf g fa fb) U x:=by
 cases b with
 | true=>obtain⟨o,h1⟩:=q1 rfl;exact⟨o,by simp[xIf,h,h1]⟩
 | false=>obtain⟨o,h1⟩:=q2 rfl;exact⟨o,by simp[xIf,h,h1]⟩
def Q7{f:DS}{fx fr:DX}{U:En}{x:Str}(a:Ap f fx)(q:Qd2 fx U x):Qd2 (QM f fx fr) U x:=by
 obtain⟨o,h⟩:=q;exact⟨o,by unfold QM;rw[a U (by rw[h];exact λz=>by cases z)];exact h⟩
def Qb6{f:DS}{fx fr:DX}{U:En}{x:Str}(h:Run f U (Nx λU'=>Qd2 fr U' x)):Qd2 (QM f fx fr) U x:=by
 obtain⟨o,h1,h2⟩:=h;cases o with
 | nx U'=>obtain⟨o,h3⟩:=h2;exact⟨o,by unfold QM;rw[h1];exact h3⟩
 | _=>exact h2.elim
def Qs5{α:Type}{fi:DI}{t:Tg}{fb:DS}{fx:DX}{toD:α->D}{U:En}{ir:IR}{c:Str}(a:Ap fb fx)(xs:List α)(I:Nat->En->Prop)(k:Nat)(hk:k<xs.length)(h:fi U=some ir)(hx:ir.items=xs.map toD)(h0:I 0 (QaV ir.M U))
  (turn:∀i x U,i<k->xs[i]? =some x->I i U->∃U1,Qbv t (toD x) U=some U1/\Run fb U1 (Nx λU2=>I (i+1) U2))
  (here:∀x U,xs[k]? =some x->I k U->∃U1,Qbv t (toD x) U=some U1/\Qd2 fx U1 c):Qd2 (Qfo fi t fb fx) U c:=by
 unfold Qd2 Qfo;rw[h,Za,hx];clear h hx;have gen:∀(n:Nat) (i:Nat) (U:En),k-i=n->i<=k->I i U->∃U',Qe2 t fb fx ((xs.drop i).map toD) U=some (c,U'):=by
  intro n
  induction n with
  | zero=>
   intro i U e hi hI;obtain rfl:i=k:= ⋯
   rw[Zaf hk,Zv];unfold Qe2;obtain⟨U1,e1,U2,e2⟩:=here xs[i] U (by simp[hk]) hI;refine⟨U2,?_⟩;rw[e1,Za,a U1 (by rw[e2];exact λz=>by cases z)];exact e2
  | succ n ih=>
   intro i U e hi hI;have hlt:i<xs.length:= ⋯
   rw[Zaf hlt,Zv];unfold Qe2;obtain⟨U1,e1,o,e2,e3⟩:=turn i xs[i] U ⋯ (by simp[hlt]) hI;cases o with
   | nx U2=>
    obtain⟨U',e4⟩:=ih (i+1) U2 ⋯ ⋯ e3;exact⟨U',by rw[e1,Za,e2];exact e4⟩
   | _=>exact e3.elim
 have:=gen (k-0) 0 _ rfl (Zaa _) h0;simpa using this
def Qbw{k:Nat}{f:DX}{ds:List D}{x:Str}(h:Qd2 f (QaS k ds) x):Qag k f ds=some x:=by
 obtain⟨U,e⟩:=h;unfold Qag;rw[e];rfl
def QoX{f:DS}{fx:DX}{sub:Str->Str->Option Bool}{y:Str}{h:DS}{r:List Hd}{x:Str}{U U':En}{Q:Out->Prop}(a:Ap f fx)(e:fx U=some (x,U'))(hs:sub x y=some true)(q:Run h U' Q):Run (QfN f fx sub ((y,none,h)::r)) U Q:=by
 obtain⟨o,h1,h2⟩:=q;refine⟨o,?_,h2⟩;unfold QfN;rw[a U (by rw[e];exact λz=>by cases z)];dsimp only;rw[e,Za];unfold Qoh;rw[hs,Za,if_pos rfl];exact h1
def Qvf{f:DS}{fx:DX}{sub:Str->Str->Option Bool}{y:Str}{i:Nat}{h:DS}{r:List Hd}{x:Str}{U U':En}{Q:Out->Prop}(a:Ap f fx)(e:fx U=some (x,U'))(hs:sub x y=some true)(q:Run h (U'.set i (some (.exc x,true))) λo=>Q (QBi i o)):Run (QfN f fx sub ((y,some i,h)::r)) U Q:=by
 obtain⟨o,h1,h2⟩:=q;refine⟨_,?_,h2⟩;unfold QfN;rw[a U (by rw[e];exact λz=>by cases z)];dsimp only;rw[e,Za];unfold Qoh;rw[hs,Za,if_pos rfl];dsimp only;rw[h1];rfl
noncomputable def QeY:DX:=(QM (QaH (QT vv1) (.nm 2) (Qc (sIf (Qs (dOp gNe (dBf Q6 (Qa vv2 Qb)) (Qf vv0 kk0))) (Qc Qu Qj) Qj) Qj)) (Qfo (QT vv1) (.nm 2) (Qc (sIf (Qs (dOp gNe (dBf Q6 (Qa vv2 Qb)) (Qf vv0 kk0))) (Qc Qu Qj) Qj) Qj) (QM (sIf (Qs (dOp gNe (dBf Q6 (Qa vv2 Qb)) (Qf vv0 kk0))) (Qc Qu Qj) Qj) (xIf (Qs (dOp gNe (dBf Q6 (Qa vv2 Qb)) (Qf vv0 kk0))) (QM Qu (QbB "NoRow" (Qa (dC (.str "a row has one number for each place of the net, a full row one more")) Qb)) xNo) xNo) xNo)) xNo)
local macro_rules | `(tactic|ac_rfl)=> `(tactic|repeat (first | exact QaK | exact QR | assumption | apply Qah | apply QaY | apply Qau | apply QQ | apply Qap | apply ap_ret))
def Qxv:ApF (Qx 3 QdM) (Qag 3 QeY):=Qfu (by unfold QdM QeY;ac_rfl)
def QrK(xd:List D->Option Str):Prop:=∀(m:Int) (R L:Lpp) (xs:List (List D)) (k:Nat),k<xs.length->(∀i x,i<k->xs[i]? =some x->(x.length:Int)=m)->(∀x,xs[k]? =some x->(x.length:Int)≠m)->xd [Qd m R L,.lst (xs.map .lst)]=some "NoRow"
def QwC:QrK (Qag 3 QeY):=λm R L xs k hk h1 h2=>by
 refine Qbw (Q7 (Qau (by ac_rfl)) (Qs5 (by ac_rfl) (toD:=λx=> .lst x) xs (λ_ U=>∃j2,U=[slF (Qd m R L),slF (.lst (xs.map .lst)),j2]) k hk (ir:=⟨xs.map .lst,[]⟩) rfl rfl ⟨none,rfl⟩ ?_ ?_))
 .rintro i x U hi hx ⟨j2,rfl⟩;refine⟨_,rfl,?_⟩;refine run_seq (QL (b:=false) (Qz (QdF (Qbp (xs:=x) (r:=reF (.lst x)) rfl rfl) rfl (Qaz (m:=m) (R:=R) (L:=L) (r:=reF (Qd m R L)) rfl rfl).1 rfl) (by simp[h1 i x hi hx])) (λh=>by cases h) (λ_=>Qq (Qq ⟨_,rfl⟩)))
 .rintro x U hx ⟨j2,rfl⟩;refine⟨_,rfl,?_⟩;refine Q7 (by ac_rfl) (Qfw (b:=true) (Qz (QdF (Qbp (xs:=x) (r:=reF (.lst x)) rfl rfl) rfl (Qaz (m:=m) (R:=R) (L:=L) (r:=reF (Qd m R L)) rfl rfl).1 rfl) (by simp[h2 x hx])) (λ_=>?_) (λh=>by cases h));exact Q7 QR (Qew rfl (Zs _))
end HS
namespace HS
open PySem L2
structure Qbz (m:Nat) (R L:Lpp):Prop where
 ex:∃W,Esc m W/\(∀w∈W,GoodW m w)/\W.length<=200/\R=QeO W/\L=QfL W
def Qbz.good{m:Nat}{R L:Lpp}(h:Qbz m R L):(∀s∈R,Good m s)/\(∀s∈L,Good m s)/\R.length<=200/\L.length<=200/\(∀s∈R,s.1<s.2)/\∀s∈L,s.1<m:=by
 obtain⟨W,_,h2,h3,rfl,rfl⟩:=h.ex;exact⟨λs hs=>(Qle h2 s hs).1,λs hs=>(QlS h2 s hs).1,ZN (QtN W) h3,ZN (Qs4 W) h3,λs hs=>(Qle h2 s hs).2,λs hs=>(QlS h2 s hs).2⟩
def QoZ(hx:U[x]? =some (slT (Qr A)))(ha:fa U=some r)(hf:r.d=pairD p)(hl:A.length<16777216)(q:Q (.nx (U.set x (slT (Qr (A++[p])))))):Run (Qb5 x Qak fa) U Q:=by
 refine Ql7 (xs:=A.map pairD) hx ha (by rw[hf];rfl) (by simpa using hl) ?_;rw[hf];unfold Qr at q;rw[ZK]at q;exact q
def QmV{α:Type}(m:Nat)(g:Nat->α->Int):∀S:List α,QaJ m (λj=>(S.map (g j)).sum)=(S.map λs=>QaJ m λj=>g j s).sum
 | []=>by simp[Qcj]
 | s::S=>by
  simp only[Zv,ZQ];rw[Qeo,QmV m g S]
def QqG{α:Type}(c:Int)(f:α->Int):∀S:List α,c*(S.map f).sum=(S.map λs=>c*f s).sum
 | []=>by simp
 | s::S=>by simp only[Zv,ZQ,ZaZ,QqG c f S]
structure TP (m:Nat) (T:Mt2):Prop where
 neg:∀p,p<m->T p p<0
 pos:∀i j,i<m->j<m->i≠j->0<=T i j
 bnd:∀i j,i<m->j<m->(T i j).natAbs<2^64
 wt:∃w:Nat->Int,(∀j,0<=w j)/\∀i,i<m->QaJ m (λj=>T i j*w j)<= -1
inductive Leg (m:Nat) (T:Mt2) (f:Mt1):(Nat->Int)->Prop where
 | nil:Leg m T f λ_=>0
 | step {c:Mt1}{p:Nat}{t:Int}:Leg m T f c->p<m->0<=t->t*(0-T p p)<=Qbr m T f c p->Leg m T f (up c p (c p+t))
def Stb(m:Nat)(T:Mt2)(g:Mt1):Prop:=∀p,p<m->g p<0-T p p
def Leg.nonneg(h:Leg m T f c):∀i,0<=c i:=by
 induction h with
 | nil=>intro i;exact Zak _
 | step _ _ ht _ ih=>
  intro i;unfold up;split
  .have:=ih ‹Nat›;rename_i p _ _ _ _ _;have:=ih p;omega
  .exact ih i
def QfK(h:∀i,i<m->f i<=g i):QaJ m f<=QaJ m g:=by
 induction m with
 | zero=>exact Zak _
 | succ m ih=>
  rw[Qcd,Qcd];have:=ih λi hi=>h i ⋯;have:=h m ⋯;omega
def Leg.least(tp:TP m T)(h:Leg m T f c)(h0:∀i,i<m->0<=c' i)(hs:Stb m T (Qbr m T f c')):∀i,i<m->c i<=c' i:=by
 induction h with
 | nil=>exact h0
 | @step c p t _ hp ht hle ih=>
  intro i hi;unfold up;split
  .rename_i e;subst e;have key:Qbr m T f c i+(c' i-c i)*T i i<=Qbr m T f c' i:=by
    unfold Qbr;have e1:QaJ m (λk=>c k*T k i)+(c' i-c i)*T i i=QaJ m (λk=>c k*T k i+(if k=i then c' i-c i else 0)*T k i):=by rw[Qeo,Qc2 hi]
    have e2:QaJ m (λk=>c k*T k i+(if k=i then c' i-c i else 0)*T k i)<=QaJ m (λk=>c' k*T k i):=by
     refine QfK λk hk=>?_;by_cases hki:k=i
     .subst hki;rw[if_pos rfl,← ZaI];rw[show c k+(c' k-c k)=c' k by omega];exact Zak _
     .rw[if_neg hki,Zaq,ZaH];exact ZbO (ih k hk) (tp.pos k i hk hi hki)
    omega
   have h1:=hs i hi;have h2:=tp.neg i hi;by_cases hlt:c i+t<=c' i
   .exact hlt
   .exfalso;have h3:(c' i-c i+1)<=t:= ⋯
    have h4:(c' i-c i+1)*(0-T i i)<=t*(0-T i i):=ZbO h3 ⋯;have h5:(c' i-c i+1)*(0-T i i)=(0-T i i)-(c' i-c i)*T i i:=by rw[ZaI,ZaJ,Int.mul_sub,Zay];omega
    omega
  .exact ih i hi
def Qui(I:Nat->En->Prop)(step:∀n U,I n U->∃b,g U=some b/\(b=false->Q (.nx U))/\(b=true->Run fb U λo=>match o with | .nx U2=>∃n',n'<n/\I n' U2 | .ct U2=>∃n',n'<n/\I n' U2 | .bk U2=>Q (.nx U2) | .rt d fr=>Q (.rt d fr))):
  ∀(n:Nat) (U:En),I n U->Run (QdH g fb) U Q:=by
 intro n
 induction n using Nat.strongRecOn with
 | _ n ih=>
  intro U h;obtain⟨b,hb,hf,ht⟩:=step n U h;unfold Run;rw[Qt9,hb,Za];cases b with
  | false=>exact⟨_,⋯,hf rfl⟩
  | true=>
   obtain⟨o,ho,hq⟩:=ht rfl;rw[if_pos rfl,ho,Za];cases o with
   | nx U2=>obtain⟨n',hn,hI⟩:=hq;exact ih n' hn U2 hI
   | ct U2=>obtain⟨n',hn,hI⟩:=hq;exact ih n' hn U2 hI
   | bk U2=>exact⟨_,rfl,hq⟩
   | rt d fr=>exact⟨_,rfl,hq⟩
def Qa0{i:Nat}(ha:fa U=some ra)(ea:ra.d=Qe m f)(hb:fb U=some rb)(eb:rb.d= .int i)(h:i<m):Qf fa fb U=some (reI (f i)):=by
 have:=QyS ha ea hb eb ⋯ ⋯;rw[Zl]at this;exact this
def Qo6(m:Nat)(S:Lpp):Prop:=∀A:Nat->Prop,(∃p,p<m/\A p)->∃s∈S,s.1<m/\A s.1.toNat/\(s.2=m∨¬A s.2.toNat)
def Qno(h:Esc m W):Qo6 m (Qi (QeO W) (QfL W)):=λA hA=>by
 obtain⟨w,hw,h1,h2,h3⟩:=h A hA;refine⟨(w.1,w.2.1),?_,h1,h2,h3⟩;unfold Qi;cases e:w.2.2 with
 | true=>exact Zg _ (ZI.mpr ⟨w,ZA.mpr ⟨hw,e⟩,rfl⟩)
 | false=>
  have hr:Qcz w∈QeO W:=ZI.mpr ⟨w,ZA.mpr ⟨hw,by simp[e]⟩,rfl⟩;by_cases hlt:w.2.1<w.1
  .refine Zd _ (Zg _ (ZI.mpr ⟨Qcz w,hr,?_⟩));unfold Qcz;rw[if_pos hlt,if_neg ⋯];rfl
  .refine Zd _ (Zd _ ?_);have:Qcz w=(w.1,w.2.1):=by
    unfold Qcz;rw[if_neg hlt];by_cases hgt:w.2.1>w.1
    .rw[if_pos hgt]
    .rw[if_neg hgt];rw[show w.2.1=w.1 by omega]
   rw[← this];exact hr
inductive Rk (m:Nat) (S:Lpp):Nat->Nat->Prop where
 | pit {s:Int×Int}{n:Nat}:s∈S->s.2=m->Rk m S (n+1) s.1.toNat
 | step {s:Int×Int}{k n:Nat}:s∈S->s.2≠m->Rk m S k s.2.toNat->k<n->Rk m S n s.1.toNat
def QoM{P:Nat->Prop}(h:∃n,P n):∃n,P n/\∀k,k<n->¬P k:=by
 obtain⟨n,hn⟩:=h
 induction n using Nat.strongRecOn with
 | _ n ih=>
  by_cases h:∃k,k<n/\P k
  .obtain⟨k,hk,h⟩:=h;exact ih k hk h
  .exact⟨n,hn,λk hk hx=>h ⟨k,hk,hx⟩⟩
def QBY(he:Qo6 m S):∀p,p<m->∃n,Rk m S n p:=λp hp=>by
 by_cases h:∃n,Rk m S n p
 .exact h
 .exfalso;obtain⟨s,hs,h1,h2,h3⟩:=he (λp=>¬ ∃n,Rk m S n p) ⟨p,hp,h⟩;by_cases e:s.2=m
  .exact h2 ⟨1,.pit hs e⟩
  .rcases h3 with h3 | h3
   .exact e h3
   .have:∃n,Rk m S n s.2.toNat:=ZW λz=>h3 z;obtain⟨k,hk⟩:=this;exact h2 ⟨k+1,.step hs e hk ⋯⟩
def Qw3{m:Nat}{S:Lpp}(hg:∀s∈S,Good m s)(he:Qo6 m S):∃r:Nat->Nat,r m=0/\∀p,p<m->∃s∈S,s.1=p/\r s.2.toNat<r p:=by
 have h:∀p,∃n,(p<m->Rk m S n p/\∀k,k<n->¬Rk m S k p)/\(p=m->n=0):=λp=>by
  by_cases hp:p<m
  .obtain⟨n,hn⟩:=QoM (QBY he p hp);exact⟨n,λ_=>hn,λz=> ⋯⟩
  .exact⟨0,λz=>absurd z hp,λ_=>rfl⟩
 obtain⟨r,hr⟩:=Zcv h;refine⟨r,(hr m).2 rfl,λp hp=>?_⟩;have h1:=((hr p).1 hp).1;generalize r p=n at h1;cases h1 with
 | @pit s n hs e=>
  obtain⟨g1,g2,g3,g4,g5⟩:=hg s hs;exact⟨s,hs,⋯,by rw[e,Zl,(hr m).2 rfl];omega⟩
 | @step s k n hs e hk hkn=>
  obtain⟨g1,g2,g3,g4,g5⟩:=hg s hs;refine⟨s,hs,⋯,?_⟩;have hl:s.2.toNat<m:= ⋯
  have:=((hr s.2.toNat).1 hl).2 k;have:¬k<r s.2.toNat:=λz=>this z hk;omega
def QoK(r:Nat->Nat):∀m:Nat,∃N,∀p,p<=m->r p<=N
 | 0=>⟨r 0,λp hp=>by rw[show p=0 by omega];exact Zs _⟩
 | m+1=>by
  obtain⟨N,hN⟩:=QoK r m;refine⟨N+r (m+1),λp hp=>?_⟩;by_cases e:p=m+1
  .subst e;omega
  .have:=hN p ⋯;omega
def Qup(hi:i<m)(g:Good m s)(w:Mt1)(hw:w m=0):QaJ m (λj=>hit i j s*w j)=if s.1=i then w s.2.toNat-w i else 0:=by
 obtain⟨g1,g2,g3,g4,g5⟩:=g;by_cases h:s.1=i
 .rw[if_pos h];have e:QaJ m (λj=>hit i j s*w j)=QaJ m (λj=>(if j=s.2.toNat then 1 else 0)*w j+(if j=i then-1 else 0)*w j):=Qcm λj _=>by
   have:hit i j s=(if j=s.2.toNat then 1 else 0)+(if j=i then-1 else 0):=by
    unfold hit;by_cases a:s.2=j
    .by_cases b:i=j
     .rw[if_pos ⟨h,a⟩,if_pos ⟨h,b⟩,if_pos ⋯,if_pos b.symm];omega
     .rw[if_pos ⟨h,a⟩,if_neg (λz=>b z.2),if_pos ⋯,if_neg (λz=>b z.symm)];omega
    .by_cases b:i=j
     .rw[if_neg (λz=>a z.2),if_pos ⟨h,b⟩,if_neg ⋯,if_pos b.symm];omega
     .rw[if_neg (λz=>a z.2),if_neg (λz=>b z.2),if_neg ⋯,if_neg (λz=>b z.symm)];omega
   rw[this,ZaI]
  rw[e,Qeo,Qc2 hi];by_cases hm:s.2.toNat<m
  .rw[Qc2 hm];omega
  .have e2:QaJ m (λj=>(if j=s.2.toNat then 1 else 0)*w j)=0:=by
    rw[Qcm λj hj=>by rw[if_neg ⋯,Zaq],Qcj]
   rw[e2,show s.2.toNat=m by omega,hw];omega
 .rw[if_neg h];rw[Qcm (g:=λ_=>0) λj hj=>by
   unfold hit;rw[if_neg (λz=>h z.1),if_neg (λz=>h z.1)];rw[Int.sub_self,Zaq],Qcj]
def Qk7{α:Type}{g:α->Int}{X:Int}:∀S:List α,(∀s∈S,g s<=X)->(S.map g).sum<=S.length*X
 | [],_=>by simp
 | a::S,h=>by
  have h1:=h a ⋯;have h2:=Qk7 S λs hs=>h s (by simp[hs]);simp only[Zv,ZQ,Zy,ZcB,ZaI];rw[show((1:Nat):Int)*X=X by simp];omega
def QkT{α:Type}{g:α->Int}{X Y:Int}:∀(S:List α),(∀s∈S,g s<=X)->(∃s∈S,g s<=Y)->(S.map g).sum<=S.length*X-X+Y
 | [],_,h=>by obtain⟨s,hs,_⟩:=h;exact absurd hs ⋯
 | a::S,h,h2=>by
  obtain⟨s,hs,hy⟩:=h2;have hb:∀s∈S,g s<=X:=λs hs=>h s (by simp[hs]);simp only[Zv,ZQ,Zy,ZcB,ZaI];rw[show((1:Nat):Int)*X=X by simp];rcases Zk.mp hs with e | hs
  .subst e;have:=Qk7 S hb;omega
  .have:=QkT S hb ⟨s,hs,hy⟩;have:=h a ⋯;omega
def QhW{α:Type}{g:α->Int}:∀S:List α,(∀s∈S,0<=g s)->0<=(S.map g).sum
 | [],_=>by simp
 | a::S,h=>by
  have h1:=h a ⋯;have h2:=QhW S λs hs=>h s (by simp[hs]);simp only[Zv,ZQ];omega
def Qv4{m:Nat}{S:Lpp}(hg:∀s∈S,Good m s)(he:Qo6 m S)(hl:S.length<2^60):TP m (Qw m S):=by
 have hn:∀s∈S,0<=s.1/\0<=s.2:=λs hs=>⟨(hg s hs).1,(hg s hs).2.1⟩;have pos:∀i j,i<m->j<m->i≠j->0<=Qw m S i j:=λi j hi hj hij=>by
  rw[QcO hi hj hn];refine QhW S λs _=>?_;unfold hit;rw[if_neg (λz=>hij z.2) (c:=s.1=i/\i=j)];split<;>omega
 obtain⟨r,r0,hr⟩:=Qw3 hg he;obtain⟨N,hN⟩:=QoK r m;have M1:1<=S.length+1:= ⋯
 have wt:∃w:Nat->Int,(∀j,0<=w j)/\∀i,i<m->QaJ m (λj=>Qw m S i j*w j)<= -1:=by
  refine⟨λv=>(((S.length+1)^N:Nat):Int)-(((S.length+1)^(N-r v):Nat):Int),λj=>?_,λi hi=>?_⟩
  .have:=ZaU M1 (Nat.sub_le N (r j));show(0:Int)<=(((S.length+1)^N:Nat):Int)-(((S.length+1)^(N-r j):Nat):Int);omega
  .generalize hw:(λv=>(((S.length+1)^N:Nat):Int)-(((S.length+1)^(N-r v):Nat):Int))=w;have hw':∀v,w v=(((S.length+1)^N:Nat):Int)-(((S.length+1)^(N-r v):Nat):Int):=λv=>by rw[← hw]
   have wm:w m=0:=by rw[hw',r0,ZbF];omega
   have e:QaJ m (λj=>Qw m S i j*w j)=(S.map λs=>if s.1=(i:Int)then w s.2.toNat-w i else 0).sum:=by
    rw[Qcm (g:=λj=>(S.map λs=>hit i j s*w j).sum) λj hj=>by
     rw[QcO hi hj hn,Zcb,QqG];congr 1;exact ZM λs _=>Zcb _ _]
    rw[QmV m (λj s=>hit i j s*w j) S];congr 1;exact ZM λs hs=>Qup hi (hg s hs) w wm
   rw[e];obtain⟨s0,hs0,e0,hlt⟩:=hr i hi;generalize hX:(((S.length+1)^(N-r i):Nat):Int)=X;have X1:1<=X:=by
    have:0<(S.length+1)^(N-r i):=Nat.pow_pos ⋯;omega
   have key:=QkT (Y:=X-(S.length+1)*X) S (λs _=>by
    show(if s.1=i then w s.2.toNat-w i else 0)<=X;split
    .rw[hw',hw' i,hX];have:0<=(((S.length+1)^(N-r s.2.toNat):Nat):Int):=Int.natCast_nonneg _;omega
    .omega) ⟨s0,hs0,by
    show(if s0.1=i then w s0.2.toNat-w i else 0)<=_;rw[if_pos e0,hw',hw' i,hX];have hb:=hN i ⋯;have h1:(S.length+1)^(N-r i+1)<=(S.length+1)^(N-r s0.2.toNat):=ZaU M1 ⋯;rw[Nat.pow_succ]at h1;have h2:((((S.length+1)^(N-r i)*(S.length+1):Nat)):Int)<=(((S.length+1)^(N-r s0.2.toNat):Nat):Int):=by exact_mod_cast h1
    rw[Int.natCast_mul,hX,Zcb,show((S.length+1:Nat):Int)=(S.length:Int)+1 by omega]at h2;omega⟩
   have:((S.length:Int)+1)*X=S.length*X+X:=by rw[ZaI,ZaJ]
   omega
 refine⟨λp hp=>?_,pos,λi j hi hj=>?_,wt⟩
 .obtain⟨w,w0,hw⟩:=wt;have h1:=hw p hp;by_cases hneg:Qw m S p p<0
  .exact hneg
  .exfalso;have:0<=QaJ m (λj=>Qw m S p j*w j):=by
    have:=QfK (f:=λ_=>0) (g:=λj=>Qw m S p j*w j) λj hj=>by
     by_cases e:p=j
     .subst e;exact Zce ⋯ (w0 _)
     .exact Zce (pos p j hp hj e) (w0 _)
    rw[Qcj]at this;exact this
   omega
 .rw[QcO hi hj hn];have:=QgD i j S;omega
def Qbz.tp{m:Nat}{R L:Lpp}(h:Qbz m R L):TP m (Qw m (Qi R L)):=by
 have hg:=h.good;refine Qv4 (Qbl hg.1 hg.2.1) ?_ ?_
 .obtain⟨W,h1,_,_,rfl,rfl⟩:=h.ex;exact Qno h1
 .unfold Qi;simp only[Zo,Zc];omega
def Qbz.neg{m:Nat}{R L:Lpp}(h:Qbz m R L){i:Nat}(hi:i<m):0-Qw m (Qi R L) i i=Q1 R L i:=by
 have hg:=h.good;have hs:=Qbl hg.1 hg.2.1;rw[QcO hi hi (λs z=>⟨(hs s z).1,(hs s z).2.1⟩),sum_neg _ _ (λs z=>(hs s z).2.2.2.2),QmY];omega
def Qbz.QoV{m:Nat}{R L:Lpp}(h:Qbz m R L){i:Nat}(hi:i<m):0<Q1 R L i:=by
 have:=h.neg hi;have:=h.tp.neg i hi;omega
def Qnr(m:Nat)(f:Mt1):Qe m f= .lst (((List.range m).map f).map D.int):=by
 unfold Qe;rw[ZO];rfl
def QqF:∀{ns:List Int},ns≠[]->∃m,Qks ns=some m
 | [],h=>absurd rfl h
 | [n],_=>⟨n,rfl⟩
 | n::k::r,_=>by
  obtain⟨m,hm⟩:=QqF (ns:=k::r) ⋯;exact⟨if m<n then m else n,by simp only[Qks,hm,ZT]⟩
def QqR:∀{ns:List Int},ns≠[]->∃m,Qkf ns=some m
 | [],h=>absurd rfl h
 | [n],_=>⟨n,rfl⟩
 | n::k::r,_=>by
  obtain⟨m,hm⟩:=QqR (ns:=k::r) ⋯;exact⟨if n<m then m else n,by simp only[Qkf,hm,ZT]⟩
def QsY(h:0<m)(f:Mt1):(List.range m).map f≠[]:=by
 intro z;have:=congrArg List.length z;simp at this;omega
def Qqg(m0:0<m)(f:Mt1):∃v,(∃i,i<m/\v=f i)/\(∀i,i<m->v<=f i)/\∀{fa:DE}{U:En}{r:R},fa U=some r->r.d=Qe m f->dBf Qc7 (Qa fa Qb) U=some (reI v):=by
 obtain⟨v,hv⟩:=QqF (QsY m0 f);obtain⟨h1,h2⟩:=Qjr hv;refine⟨v,?_,λi hi=>h2 _ (ZI.mpr ⟨i,Zj.mpr hi,rfl⟩),λ{fa U r} h e=>?_⟩
 .obtain⟨i,hi,e⟩:=ZI.mp h1;exact⟨i,Zj.mp hi,e.symm⟩
 .unfold dBf;rw[Qo h (QI _),Za];simp only[e,Qnr,Qc7,Qdk,Za,hv,ZT]
def Qqt(m0:0<m)(f:Mt1):∃v,(∃i,i<m/\v=f i)/\(∀i,i<m->f i<=v)/\∀{fa:DE}{U:En}{r:R},fa U=some r->r.d=Qe m f->dBf QeS (Qa fa Qb) U=some (reI v):=by
 obtain⟨v,hv⟩:=QqR (QsY m0 f);obtain⟨h1,h2⟩:=Qji hv;refine⟨v,?_,λi hi=>h2 _ (ZI.mpr ⟨i,Zj.mpr hi,rfl⟩),λ{fa U r} h e=>?_⟩
 .obtain⟨i,hi,e⟩:=ZI.mp h1;exact⟨i,Zj.mp hi,e.symm⟩
 .unfold dBf;rw[Qo h (QI _),Za];simp only[e,Qnr,QeS,Qdk,Za,hv,ZT]
noncomputable def Qdn(Qa7:Den):DS:=(Qc (Qaj (Qm 2 Qa7 [] (Qa vv0 (Qa vv1 Qb)))) (Qc (QaH (QT vv1) (.nm 2) (Qc (sIf (Qs (dOp gLt (dBf Qc7 (Qa vv2 Qb)) kk0)) (Qc Qu Qj) Qj) Qj)) Qj))
def Qmv(d:Den):Prop:=∀(m:Nat) (R L:Lpp) (fs:List (Nat->Int)),0<m->(∀f∈fs,∀j,j<m->0<=f j)->d [Qd m R L,.lst (fs.map λf=>Qe m f)]=some (.non,true)
def Qu1(hn:QkX dn):Qmv (Qx 3 (Qdn dn)):=λm R L fs m0 hf=>by
 have key:Run (Qdn dn) (QaS 3 [Qd m R L,.lst (fs.map λf=>Qe m f)]) (Nx λ_=>True):=by
  refine run_seq (Qcp (Qt rfl (hn m R L fs) rfl) ?_);refine run_seq (QaA fs (λ_ U=>∃j2,U=[slF (Qd m R L),slF (.lst (fs.map λf=>Qe m f)),j2]) rfl rfl ⟨none,rfl⟩ ?_ ?_)
  .rintro i f U hi ⟨j2,rfl⟩;refine⟨_,rfl,?_⟩;obtain⟨v,⟨q,hq,e⟩,_,hv⟩:=Qqg m0 f;have h0:=hf f (ZC hi) q hq;refine run_seq (QL (b:=false) (Qz (QY (hv rfl rfl) rfl rfl) ?_) (λh=>by cases h) (λ_=>Qq (Qq ⟨_,rfl⟩)));show D.bl _=_;rw[decide_eq_false ⋯]
  .rintro U ⟨j2,rfl⟩;exact Qq trivial
 obtain⟨o,h1,h2⟩:=key;unfold Qx;rw[h1];cases o with
 | nx U=>rfl
 | _=>exact h2.elim
structure Told (m:Nat) (T:Mt2) (f c:Mt1):Prop where
 leg:Leg m T f c
 pos:∀j,j<m->0<=Qbr m T f c j
 stb:Stb m T (Qbr m T f c)
def Qwp{m:Nat}{t kind:Int}:Esc m (Qcr m t kind):=λA Z=>by
 obtain⟨p,hp,hA⟩:=Z;have ex:∃j:Nat,j<m/\A (((j:Int)+t) % m).toNat:=by
  have h1:=ZP ((p:Int)-t) (by omega:(m:Int)≠0);have h2:=ZR ((p:Int)-t) (by omega:(0:Int)<m);refine⟨(((p:Int)-t) % m).toNat,⋯,?_⟩;have e:(((((p:Int)-t) % m).toNat:Int)+t) % m=p:=by
   rw[ZaG h1,Int.emod_add_emod,Int.sub_add_cancel];exact Zck ⋯ ⋯
  rw[e,Zl];exact hA
 obtain⟨j,⟨hj,hAj⟩,hmin⟩:=QoM ex;have s1:=ZP ((j:Int)+t) (by omega:(m:Int)≠0);have s2:=ZR ((j:Int)+t) (by omega:(0:Int)<m);refine⟨Qfp m t kind j,ZI.mpr ⟨j,Zj.mpr hj,rfl⟩,?_,hAj,?_⟩
 .exact s2
 .show Qfq m t j=m∨¬A (Qfq m t j).toNat
  unfold Qfq;split
  .rename_i h;have n1:=ZP (QbW t j) (by omega:(j:Int)+1≠0);right;intro z;refine hmin (QbW t j % ((j:Int)+1)).toNat ⋯ ⟨⋯,?_⟩;rw[ZaG n1];exact z
  .exact .inl rfl
noncomputable def QhB(m:Nat)(f:Mt1):Nat->Int:=λi=>if i<m then f i else 0
def Qir(ha:fa U=some ra)(ea:ra.d=Qe m f)(hm:m<=1000):QA fa (QE (Qa (dC (.int 0)) Qb)) U=some (reT (Qe (m+1) (QhB m f))):=by
 have e:Qe (m+1) (QhB m f)= .lst (((List.range m).map λi=>D.int (f i))++[.int 0]):=by
  unfold Qe;rw[ZaA,ZK];congr 2
  .refine ZM λi hi=>?_;unfold QhB;rw[if_pos (Zj.mp hi)]
  .show [D.int (QhB m f m)]=_;unfold QhB;rw[if_neg ⋯]
 rw[e];unfold QA;rw[ha,Za];show(Option.bind (some (reT (.lst [.int 0]):HS.R)) _)=_;rw[Za,ea];simp only[Qe,Zc,ZF,Qfx];rw[if_pos (by simp;omega)];simp[Qaq]
def QvA:((List.range i).map λk=>D.int (g k))++[.int v]=(List.range (i+1)).map λk=>D.int (up g i v k):=by
 rw[ZaA,ZK];congr 1
 .refine ZM λk hk=>?_;have:=Zj.mp hk;unfold up;rw[if_neg ⋯]
 .show _=[D.int (up g i v i)];unfold up;rw[if_pos rfl]
def Qvz(hx:U[x]? =some (slT (Qe i g)))(ha:fa U=some r)(e:r.d= .int v)(hl:i<16777216)(q:Q (.nx (U.set x (slT (Qe (i+1) (up g i v)))))):Run (Qb5 x Qak fa) U Q:=by
 refine Ql7 (xs:=(List.range i).map λk=>D.int (g k)) hx ha (by rw[e];rfl) (by simpa using hl) ?_;rw[e,QvA];exact q
def Qzd{m:Nat}(h:fa U=some r)(e:r.d=Qe m f):dBf Q6 (Qa fa Qb) U=some (reI m):=by
 rw[Qbp h e];simp
def Qej(h:fs U=some rs)(hl:rs.ds.length<=64):QE fs U=some ⟨.lst rs.ds,rs.fr,rs.M⟩:=by
 unfold QE;rw[h,Za,if_pos hl]
def QiJ{n:Nat}{d:Den}{xd:List D->Option Str}{fs:DA}{U:En}{r:RA}{x:Str}(a:ApF d xd)(h:fs U=some r)(hl:r.ds.length=n)(hx:xd r.ds=some x):QM (Qaj (Qm n d [] fs)) (QaX n xd fs) xNo U=some (x,U):=by
 have e:QaX n xd fs U=some (x,U):=by unfold QaX;rw[h,Za,if_pos hl,hx];rfl
 unfold QM;rw[QQ a U (by rw[e];exact λz=>by cases z)];exact e
def QAF{sub:Str->Str->Option Bool}{ys:List Str}{fa:DE}{U:En}{x:Str}{b:Bool}(h:fa U=some ⟨.exc x,true,[]⟩)(hs:anyS sub x ys=some b):QeD sub ys fa U=some (reT (.bl b)):=by
 unfold QeD;rw[h,Za];dsimp only;rw[hs];rfl
def any_cons{sub:Str->Str->Option Bool}{x y:Str}{ys:List Str}{b c:Bool}(h:sub x y=some b)(t:anyS sub x ys=some c):anyS sub x (y::ys)=some (b || c):=by
 unfold anyS;rw[h,Za,t];rfl
noncomputable def Qg(l:List Nat):D:= .lst (l.map λ(p:Nat)=> .int (p:Int))
def Qjy:∀{l:List Nat},l.Nodup->(∀o∈l,o<m)->(l.map g).sum=QaJ m λo=>if o∈l then g o else 0
 | [],_,_=>by
  rw[Qcm (g:=λ_=>0) λi _=>by rw[if_neg ⋯],Qcj];rfl
 | a::l,nd,h=>by
  have nd':=Zan.mp nd;rw[Zv,ZQ,Qjy nd'.2 λo ho=>h o (by simp[ho])];have e:=Qc2 (m:=m) (p:=a) (h a ⋯) 1 g;rw[show g a=1*g a by rw[ZaJ],← e,← Qeo];refine Qcm λo _=>?_;by_cases ho:o=a
  .subst ho;rw[if_pos rfl,if_neg nd'.1,if_pos ⋯];omega
  .rw[if_neg ho];by_cases hl:o∈l
   .rw[if_pos hl,if_pos (by simp[hl])];omega
   .rw[if_neg hl,if_neg (by simp[ho,hl])];omega
def Qyg{m:Nat}{g:Mt1}{l k:List Nat}(hl:l.Nodup)(hk:k.Nodup)(sub:∀o∈l,o∈k)(hm:∀o∈k,o<m)(pos:∀o∈k,0<=g o):(l.map g).sum<=(k.map g).sum:=by
 rw[Qjy hl λo ho=>hm o (sub o ho),Qjy hk hm];refine QfK λo _=>?_;by_cases h:o∈l
 .rw[if_pos h,if_pos (sub o h)];exact Zak _
 .rw[if_neg h];by_cases h2:o∈k
  .rw[if_pos h2];exact pos o h2
  .rw[if_neg h2];exact Zak _
def Qwt{m:Nat}{R:Lpp}(hR:∀s∈R,Good m s){i j:Nat}(hi:i<m)(hj:j<m)(hij:i≠j):Qw m (Qi R []) i j=Qw m (Qi R []) j i:=by
 have gS:=Qbl (L:=[]) hR (λs hs=>absurd hs ⋯);have hn:∀s∈Qi R [],0<=s.1/\0<=s.2:=λs hs=>⟨(gS s hs).1,(gS s hs).2.1⟩;rw[QcO hi hj hn,QcO hj hi hn];unfold Qi;rw[Zad,ZK,ZK,ZaS,ZaS,ZO,ZO];have e:∀i j:Nat,i≠j->∀s:Int×Int,(hit i j ∘ Prod.swap) s=hit j i s:=λi j h s=>by
  unfold hit;simp only[Function.comp,Zcn,ZcF];rw[if_neg (λz=>h z.2) (c:=s.2=i/\i=j),if_neg (λz=>h z.2.symm) (c:=s.1=j/\j=i)];congr 1;by_cases a:s.2=i
  .by_cases b:s.1=j
   .rw[if_pos ⟨a,b⟩,if_pos ⟨b,a⟩]
   .rw[if_neg (λz=>b z.2),if_neg (λz=>b z.1)]
  .rw[if_neg (λz=>a z.1),if_neg (λz=>a z.2)]
 rw[ZM λs _=>e i j hij s,ZM λs _=>e j i (λz=>hij z.symm) s];omega
noncomputable def Qax(T:Mt2)(p:Nat)(l:List Nat):Int:=((l.filter λo=>decide (o≠p)).map (T p)).sum
noncomputable def Qay(T:Mt2)(a:Mt1)(l:List Nat):List Nat:=l.filter λp=>decide (Qax T p l<=a p)
noncomputable def QcM(T:Mt2)(a:Mt1)(l:List Nat):List Nat:=l.filter λp=> !(Qay T a l).contains p
def Qvm(tp:TP m T)(sym:∀i j,i<m->j<m->i≠j->T i j=T j i)(h:Told m T f c)(nd:l.Nodup)(ne:l≠[])(hl:∀p∈l,p<m/\0<c p):Qay T (Qbr m T f c) l≠[]:=λz=>by
 have hno:∀p∈l,Qbr m T f c p<Qax T p l:=λp hp=>by
  have:¬p∈Qay T (Qbr m T f c) l:=by rw[z];simp
  unfold Qay at this;rw[ZA]at this;by_cases h2:Qax T p l<=Qbr m T f c p
  .exact absurd ⟨hp,by rw[decide_eq_true h2]⟩ this
  .omega
 have key:=h.leg.least tp (c':=λi=>c i-(if i∈l then 1 else 0)) (λi hi=>by
  have:=h.leg.nonneg i;show 0<=c i-(if i∈l then 1 else 0);split
  .have:=(hl i ‹_›).2;omega
  .omega) (λj hj=>by
  have e:Qbr m T f (λi=>c i-(if i∈l then 1 else 0)) j=Qbr m T f c j-QaJ m λi=>if i∈l then T i j else 0:=by
   unfold Qbr;have e1:(λi=>(c i-(if i∈l then 1 else 0))*T i j)=λi=>c i*T i j+ -(if i∈l then T i j else 0):=by
    funext i;rw[Int.sub_mul];split<;>omega
   rw[e1,Qeo,Qvv];omega
  rw[e];have hs:=h.stb j hj;by_cases hjl:j∈l
  .have hn:=hno j hjl;have e2:(QaJ m λi=>if i∈l then T i j else 0)=Qax T j l+T j j:=by
    unfold Qax;rw[Qjy (m:=m) (nd.filter _) λo ho=>(hl o (ZA.mp ho).1).1];have e3:=Qc2 (m:=m) (p:=j) hj 1 (λi=>T j i);rw[show T j j=1*T j j by rw[ZaJ],← e3,← Qeo];refine Qcm λi hi=>?_;by_cases hij:i=j
    .subst hij;rw[if_pos hjl,if_pos rfl,if_neg ⋯];omega
    .rw[if_neg hij];by_cases hil:i∈l
     .rw[if_pos hil,if_pos (ZA.mpr ⟨hil,by simpa using hij⟩),sym i j hi hj hij];omega
     .rw[if_neg hil,if_neg (λz=>hil (ZA.mp z).1)];omega
   rw[e2];omega
  .have:0<=QaJ m λi=>if i∈l then T i j else 0:=by
    have:=QfK (m:=m) (f:=λ_=>0) (g:=λi=>if i∈l then T i j else 0) λi hi=>by
     show(0:Int)<=if i∈l then T i j else 0;split
     .refine tp.pos i j hi hj λe=>?_;subst e;exact hjl ‹_›
     .exact Zak _
    rw[Qcj]at this;exact this
   omega)
 cases l with
 | nil=>exact ne rfl
 | cons p l=>
  have:=key p (hl p ⋯).1;have:c p<=c p-(if p∈p::l then 1 else 0):=this;rw[if_pos ⋯]at this;omega
def Qhn{fa fb:DE}{U:En}{ra rb:R}{m n:Nat}{f:Mt2}{i:Int}(ha:fa U=some ra)(ea:ra.d=Q9 m n f)(hb:fb U=some rb)(eb:rb.d= .int i)(h0:0<=i)(h:i<m):Qf fa fb U=some ⟨Qe n (f i.toNat),ra.fr,ra.M⟩:=by
 unfold Qf;rw[ha,Za,hb,Za,ea,eb];simp only[Q9,D.items,Za,QqB h0 h,ZT];rfl
noncomputable def Qsp:DS:=(Qc (QH (dOp gEq (dBf Q6 (Qa (Qf vv0 kk2) Qb)) kk0)) Qj)
def Qjn(d:Den):Prop:=∀(m:Int) (R L:Lpp),d [Qd m R L]=some (.bl (decide ((L.length:Int)=0)),true)
def QuV:Qjn (Qx 1 Qsp):=λm R L=>by
 refine Q2 ?_;refine QK (Qe7 (Qbp (Qaz (r:=reF (Qd m R L)) rfl rfl).2.2 rfl) rfl rfl rfl) ⟨?_,rfl⟩;simp
def Qri(l:List Nat):Qar (l.map λ(p:Nat)=>D.int (p:Int))=true:=QbK (λ_=>rfl) l
def Qdo(l:List Nat):Qg l= .lst ((l.map λ(p:Nat)=>(p:Int)).map D.int):=by unfold Qg;rw[ZO];rfl
def Qy2{fa:DE}{U:En}{r:R}{ns:List Int}(h:fa U=some r)(e:r.d= .lst (ns.map D.int)):dBf QeX (Qa fa Qb) U=some (reI ns.sum):=by
 unfold dBf;rw[Qo h (QI _),Za];simp only[e,QeX,Qdk,ZT]
noncomputable def QnC:DS:=(Qc (QH (dBf QeX (Qa (QO (QT vv2) (.nm 1) [none,none,some 1,some 0] (Qs (dOp gNe vv1 vv2)) (Qf vv3 vv1)) Qb))) Qj)
def Ql9(d:Den):Prop:=∀(m:Nat) (t:Mt1) (p:Nat) (l:List Nat),(∀o∈l,o<m)->d [Qe m t,.int p,Qg l]=some (.int (((l.filter λo=>decide (o≠p)).map t).sum),true)
def QwD:Ql9 (Qx 3 QnC):=λm t p l hl=>by
 refine Q2 ?_
 have e:=Qc1 (fi:=QT (Qh 2)) (t:= .nm 1) (cap:=[none,none,some 1,some 0]) (ft:=Qs (dOp gNe (Qh 1) (Qh 2))) (fe:=Qf (Qh 3) (Qh 1)) (U:=[slF (Qe m t),slI p,slF (Qg l)])
  (toD:=λ(o:Nat)=> .int (o:Int)) (keep:=λo=>decide (o≠p)) (out:=λ(o:Nat)=> .int (t o)) l (Qbb (r:=reF (Qg l)) rfl rfl) rfl λo ho=>by
   refine⟨[none,slI o,slI p,slF (Qe m t)],rfl,?_,λ_=>⟨_,Qa0 (m:=m) (f:=t) (i:=o) (ra:=reF (Qe m t)) rfl rfl rfl rfl (hl o ho),rfl,rfl⟩⟩;refine(Qz (QdF (a:=o) (b:=p) rfl rfl rfl rfl) rfl).trans ?_;congr 1;by_cases h:o=p
   .subst h;simp
   .simp[h];omega
 refine QK (Qy2 (ns:=(l.filter λo=>decide (o≠p)).map t) e ?_) ⟨rfl,rfl⟩;show D.lst _=D.lst _;rw[ZO];rfl
noncomputable def Qda(QbF:Den):DS:=(Qc (sIf (QbG (Qs (Qm 1 QbF [] (Qa vv0 Qb)))) (Qc Qu Qj) Qj) Qj)
def QeE(d:Den):Prop:=∀(m:Nat) (R:Lpp),d [Qd m R []]=some (.non,true)
def QuP(hp:Qjn dp):QeE (Qx 1 (Qda dp)):=λm R=>by
 have key:Run (Qda dp) (QaS 1 [Qd m R []]) (Nx λ_=>True):=by
  refine run_seq (QL (b:=false) (Qa4 (b:=true) (Qz (b:=true) (Qt (r:=⟨[Qd m R []],false,[]⟩) rfl (hp m R []) rfl) rfl)) (λh=>by cases h) (λ_=>Qq (Qq trivial)))
 obtain⟨o,h1,h2⟩:=key;unfold Qx;rw[h1];cases o with
 | nx U=>rfl
 | _=>exact h2.elim
def QyL{o:Nat}{l:List Nat}:(l.map λ(p:Nat)=>D.int (p:Int)).any (λy=>deq y (.int o))=l.contains o:=by
 induction l with
 | nil=>rfl
 | cons a l ih=>
  rw[Zv,ZcG,ih,QeQ,List.contains_cons];congr 1;by_cases h:a=o
  .subst h;simp
  .rw[decide_eq_false ⋯];exact(beq_eq_false_iff_ne.mpr (λz=>h z.symm)).symm
def QkI(n:Nat)(l:List Nat):(Qg l).sim (n+1)=true:=by
 unfold Qg;simp only[D.sim,Zca,ZZ];intro p _;cases n<;>rfl
def Qf7{o:Nat}(ha:fa U=some ra)(ea:ra.d= .int o)(hb:fb U=some rb)(eb:rb.d=Qg l):dOp (gIn neg) fa fb U=some (reT (.bl (if neg then !l.contains o else l.contains o))):=by
 refine QY ha hb ?_;rw[ea,eb];have:(D.int (o:Int)).sim 8=true:=rfl;show(if(D.int (o:Int)).sim 8 && (Qg l).sim 8 then some (D.bl (if neg then !((l.map λ(p:Nat)=>D.int (p:Int)).any λy=>deq y (.int o))else(l.map λ(p:Nat)=>D.int (p:Int)).any λy=>deq y (.int o)))else none)=_;rw[this,QkI 7 l,QyL];rfl
noncomputable def QcD:Option Int->D
 | none=> .non
 | some i=> .int i
@[simp] theorem Qom(o:Option Int):(QcD o).flat=true:=by cases o<;>rfl
noncomputable def Qae(m:Nat)(F:Nat->Option Int):D:= .lst ((List.range m).map λi=>QcD (F i))
@[simp] theorem QDi(m:Nat)(F:Nat->Option Int):(Qae m F).flat=false:=rfl
@[simp] theorem Qt7(m:Nat)(F:Nat->Option Int):Qar ((List.range m).map λi=>QcD (F i))=true:=QbK (f:=λi=>QcD (F i)) (λ_=>Qom _) _
noncomputable def upO(F:Nat->Option Int)(i:Nat)(v:Option Int):Nat->Option Int:=λj=>if j=i then v else F j
def Qzh{m:Nat}{F:Nat->Option Int}{i:Int}(h0:0<=i)(h:i<m):atI ((List.range m).map λj=>QcD (F j)) i=some (QcD (F i.toNat)):=by
 rw[QfC h0 (by simpa using h),Zh,ZL ⋯];rfl
def QsF(h:d.flat=true):HS.R.norm ⟨d,fr,M⟩=⟨d,true,[]⟩:=by unfold HS.R.norm;rw[if_pos h]
def Qqs{fa fb:DE}{U:En}{ra rb:R}{m:Nat}{F:Nat->Option Int}{i:Int}(ha:fa U=some ra)(ea:ra.d=Qae m F)(hb:fb U=some rb)(eb:rb.d= .int i)(h0:0<=i)(h:i<m):Qf fa fb U=some ⟨QcD (F i.toNat),true,[]⟩:=by
 unfold Qf;rw[ha,Za,hb,Za,ea,eb];simp only[Qae,D.items,Za,Qzh h0 h,ZT,QsF (Qom _)]
def QoY{x m:Nat}{F:Nat->Option Int}{fi fa:DE}{U:En}{i v:Int}{ri ra:R}{Q:Out->Prop}(hx:U[x]? =some (slT (Qae m F)))(hi:fi U=some ri)(ei:ri.d= .int i)(ha:fa U=some ra)(ea:ra.d= .int v)(h0:0<=i)(h:i<m)
  (q:Q (.nx (U.set x (slT (Qae m (upO F i.toNat (some v))))))):Run (Qb3 x Qak fi fa) U Q:=by
 refine⟨_,?_,q⟩;have hn:ra.norm=(reI v):=by unfold HS.R.norm;rw[ea];rfl
 have hs:((List.range m).map λj=>QcD (F j)).set i.toNat (.int v)=(List.range m).map λj=>QcD (upO F i.toNat (some v) j):=by
  rw[Qff];congr 1;funext j;unfold upO;split<;>rfl
 unfold Qb3;rw[ha,Za,hx];simp only[Qak,Za,hi,ei,Qc5,Qae,Zc,ZF,QdV h0 h,hn,ea,Qb4,hs];simp[kill]
def QtE{m n:Nat}{F:Nat->Option Int}(h:n<=m):cutD ((List.range m).map λi=>QcD (F i)) none (some (n:Int))=(List.range n).map λi=>QcD (F i):=by
 unfold cutD;simp only[Zc,ZF,HT.Qf8,HT.Qju,ZcD,ZbF,Zbh h];rw[← Zbi,List.take_range,Zbh h]
def Qy4{fa fb:DE}{U:En}{ra rb:R}{m n:Nat}{F:Nat->Option Int}(ha:fa U=some ra)(ea:ra.d=Qae m F)(hb:fb U=some rb)(eb:rb.d= .int n)(h:n<=m):Qad fa QZ (QS fb) U=some (reT (Qae n F)):=by
 unfold Qad QZ QS;rw[ha,Za,hb,ea];simp only[Za,eb,Qae,QtE h,Qaq,Qt7,if_true]
def QqS{n:Nat}(h:fb U=some r)(e:r.d= .int n)(hn:n<=16777216):QaE (QE (Qa (dC .non) Qb)) fb U=some (reT (Qae n (λ_=>none))):=by
 have h1:QE (Qa (dC .non) Qb) U=some (reT (.lst [.non])):=rfl;unfold QaE;rw[h1,Za,h,Za,e];dsimp only;rw[if_pos ⟨by simp[Qfx];omega,⋯,⋯,rfl⟩];simp only[Zl,Qmq];rfl
def QxK(o:Option Int)(t:Int):deq (QcD o) (.int t)=decide (o=some t):=by
 cases o with
 | none=>rfl
 | some a=>
  show deq (.int a) (.int t)=_;rw[QeQ];by_cases h:a=t<;>simp[h]
def QxS(n:Nat)(o:Option Int):(QcD o).sim n=true:=by cases o<;>cases n<;>rfl
noncomputable def Qcb(t:Int)(F:Nat->Option Int)(s:Int×Int):Nat->Option Int:=if F s.1.toNat=none/\F s.2.toNat=some t then upO F s.1.toNat (some (t+1))else F
noncomputable def Qai(S:Lpp)(F:Nat->Option Int):Nat->Nat->Option Int
 | 0=>F
 | t+1=>S.foldl (Qcb t) (Qai S F t)
noncomputable def QqO(QcB:Den):DS:=(Qc (Qy 3 (QA (QaE (QE (Qa (dC .non) Qb)) vv0) (QE (Qa kk0 Qb)))) (Qc (Qy 4 (Qm 2 QcB [] (Qa vv1 (Qa vv2 Qb)))) (Qc (QaH (Qan vv0) (.nm 5) (Qc (QaH (QT vv4) (.tp [6,7]) (Qc (sIf (QdQ (Qs (dOp (QgV false) (Qf vv3 vv6) (dC .non))) (Qs (dOp gEq (Qf vv3 vv7) vv5))) (Qc (Qb3 3 Qak vv6 (QA vv5 kk1)) Qj) Qj) Qj)) Qj)) (Qc (QH (Qad vv3 QZ (QS vv0))) Qj))))
noncomputable def Qaw(m:Nat):Nat->Option Int:=λi=>if i=m then some 0 else none
def QyV:D.lst (((List.range m).map λ_=>D.non)++[.int 0])=Qae (m+1) (Qaw m):=by
 unfold Qae;rw[ZaA,ZK];congr 2
 .refine ZM λi hi=>?_;have:=Zj.mp hi;unfold Qaw;rw[if_neg ⋯];rfl
 .simp[Qaw,QcD]
def QlW(d:Den):Prop:=∀(m:Nat) (R L:Lpp),0<m->m<=1000->R.length+R.length+L.length<=1000000->(∀s∈R,Good m s)->(∀s∈L,Good m s)->d [.int m,Qr R,Qr L]=some (Qae m (Qai (Qi R L) (Qaw m) m),true)
def Qu8{ds:Den}(hs:∀R L:List (Int×Int),R.length+R.length+L.length<=1000000->ds [Qr R,Qr L]=slT (Qr (Qi R L))):QlW (Qx 8 (QqO ds)):=λm R L m0 hm hl hR hL=>by
 have gS:=Qbl hR hL;refine Q2 ?_;refine run_seq (Qat (r:=reT (Qae (m+1) (Qaw m))) ?_ ?_)
 .unfold QA;rw[QqS (n:=m) (r:=reI m) rfl rfl ⋯];show(if((List.range m).map λi=>D.non).length+[D.int 0].length<=sizeLine then some (Qaq (((List.range m).map λi=>D.non)++[D.int 0]) [])else none)=_;rw[if_pos (by simp[Qfx];omega)];unfold Qaq;rw[if_pos (by rw[QsM];simp[QbK (f:=λ_:Nat=>D.non) (λ_=>rfl)]),QyV]
 rw[Qbu];refine rsa (Qt (r:=⟨[Qr R,Qr L],false,[]⟩) rfl (hs R L hl) rfl) ?_;refine QaO (P:=λU=>∃j5 j6 j7 b,U=[slI m,slF (Qr R),slF (Qr L),slT (Qae (m+1) (Qai (Qi R L) (Qaw m) m)),some (Qr (Qi R L),b),j5,j6,j7]) ?_ ?_
 .refine QaA (List.range m) (λi U=>∃j5 j6 j7 b,U=[slI m,slF (Qr R),slF (Qr L),slT (Qae (m+1) (Qai (Qi R L) (Qaw m) i)),some (Qr (Qi R L),b),j5,j6,j7]) (Qbi (n:=m) (r:=reI m) rfl rfl ⋯) rfl ⟨none,none,none,true,rfl⟩ ?_ ?_
  .rintro i k U hi ⟨j5,j6,j7,b,rfl⟩;have hk:i<m/\i=k:=by
    obtain⟨h1,h2⟩:=Ze.mp hi;simp at h1 h2;exact⟨h1,h2⟩
   obtain⟨hk,rfl⟩:=hk;refine⟨_,rfl,?_⟩;refine run_seq (g:=Qj) (Run.mono (Q:=Nx λU=>∃j6 j7,U=[slI m,slF (Qr R),slF (Qr L),slT (Qae (m+1) (Qai (Qi R L) (Qaw m) (i+1))),slF (Qr (Qi R L)),slI i,j6,j7]) ?_ ?_)
   .refine QaA (toD:=pairD) (Qi R L) (λj U=>∃j6 j7,U=[slI m,slF (Qr R),slF (Qr L),slT (Qae (m+1) (((Qi R L).take j).foldl (Qcb i) (Qai (Qi R L) (Qaw m) i))),slF (Qr (Qi R L)),slI i,j6,j7]) (ir:=⟨(Qi R L).map pairD,if b=true then [4]else []⟩) ?_ rfl ⟨j6,j7,?_⟩ ?_ ?_
    .have:=Qbb (Q3 (i:=4) (d:=Qr (Qi R L)) (b:=b) (U:=[slI m,slF (Qr R),slF (Qr L),slT (Qae (m+1) (Qai (Qi R L) (Qaw m) i)),some (Qr (Qi R L),b),slI i,j6,j7]) rfl) (xs:=(Qi R L).map pairD) (by cases b<;>rfl);cases b<;>exact this
    .cases b<;>rfl
    .rintro j s U hj ⟨j6,j7,rfl⟩;obtain⟨s1,s2,s3,s4,s5⟩:=gS s (ZC hj);have c1:s.1<((m+1:Nat):Int):= ⋯
     have c2:s.2<((m+1:Nat):Int):= ⋯
     refine⟨_,rfl,?_⟩;generalize eF:((Qi R L).take j).foldl (Qcb i) (Qai (Qi R L) (Qaw m) i)=F;have step:((Qi R L).take (j+1)).foldl (Qcb i) (Qai (Qi R L) (Qaw m) i)=Qcb i F s:=by
      rw[Zcj,hj,ZbE,eF];rfl
     have e6:=Qqs (fa:=Qh 3) (fb:=Qh 6) (F:=F) (m:=m+1) (i:=s.1) (ra:=⟨Qae (m+1) F,true,[3]⟩) (U:=[slI m,slF (Qr R),slF (Qr L),slT (Qae (m+1) F),slF (Qr (Qi R L)),slI i,slI s.1,slI s.2]) rfl rfl rfl rfl s1 c1;have e7:=Qqs (fa:=Qh 3) (fb:=Qh 7) (F:=F) (m:=m+1) (i:=s.2) (ra:=⟨Qae (m+1) F,true,[3]⟩) (U:=[slI m,slF (Qr R),slF (Qr L),slT (Qae (m+1) F),slF (Qr (Qi R L)),slI i,slI s.1,slI s.2]) rfl rfl rfl rfl s2 c2;have t1:Qs (dOp (QgV false) (Qf (Qh 3) (Qh 6)) (dC .non)) [slI m,slF (Qr R),slF (Qr L),slT (Qae (m+1) F),slF (Qr (Qi R L)),slI i,slI s.1,slI s.2]=some (decide (F s.1.toNat=none)):=by
      refine Qz (QY e6 (rb:=⟨.non,true,[]⟩) rfl (d:= .bl (decide (F s.1.toNat=none))) ?_) rfl;cases F s.1.toNat<;>rfl
     have t2:Qs (dOp gEq (Qf (Qh 3) (Qh 7)) (Qh 5)) [slI m,slF (Qr R),slF (Qr L),slT (Qae (m+1) F),slF (Qr (Qi R L)),slI i,slI s.1,slI s.2]=some (decide (F s.2.toNat=some (i:Int))):=by
      have:=Qux e7 (fb:=Qh 5) (rb:=reI i) rfl (QxS 8 _) rfl;refine Qz this ?_;show D.bl (deq (QcD (F s.2.toNat)) (.int i))=_;rw[QxK]
     refine run_seq (QL (b:=decide (F s.1.toNat=none/\F s.2.toNat=some (i:Int))) ?_ (λh=>?_) (λh=>?_))
     .exact(QfA t1 t2).trans (by rw[Bool.decide_and])
     .have h:=of_decide_eq_true h;refine run_seq (QoY (i:=s.1) (v:=i+1) (F:=F) (m:=m+1) rfl rfl rfl (Qac (a:=(i:Int)) (b:=1) rfl rfl rfl rfl) rfl s1 c1 (Qq (Qq ⟨slI s.1,slI s.2,?_⟩)));rw[step];unfold Qcb;rw[if_pos h];rfl
     .have h:=of_decide_eq_false h;refine Qq (Qq ⟨slI s.1,slI s.2,?_⟩);rw[step];unfold Qcb;rw[if_neg h];rfl
    .rintro U ⟨j6,j7,rfl⟩;rw[ZaY];exact⟨j6,j7,rfl⟩
   .intro o ho;cases o with
    | nx U=>
     obtain⟨j6,j7,rfl⟩:=ho;exact Qq ⟨_,_,_,false,rfl⟩
    | _=>exact ho.elim
  .rintro U ⟨j5,j6,j7,b,rfl⟩;rw[ZF];exact⟨j5,j6,j7,b,rfl⟩
 rintro U ⟨j5,j6,j7,b,rfl⟩;exact QK (Qy4 (m:=m+1) (n:=m) (Q3 (d:=Qae (m+1) (Qai (Qi R L) (Qaw m) m)) (b:=true) rfl) rfl rfl rfl ⋯) ⟨rfl,rfl⟩
noncomputable def QX(T:Mt2)(h:Mt1)(m:Nat):Nat->List Nat
 | 0=>List.range m
 | k+1=>QcM T h (QX T h m k)
noncomputable def Qao(T:Mt2)(h:Mt1)(m:Nat):Nat->Nat->Option Int
 | 0,_=>none
 | k+1,p=>if p∈Qay T h (QX T h m k)then some ((k:Int)+1)else Qao T h m k p
def Qdv:∀k,(QX T h m k).Nodup
 | 0=>Zbp
 | k+1=>(Qdv k).filter _
def Qc9:p∈QcM T h l↔p∈l/\p∉Qay T h l:=by
 unfold QcM;rw[ZA];simp
def Qcf:p∈Qay T h l↔p∈l/\Qax T p l<=h p:=by
 unfold Qay;rw[ZA];simp
def QhJ(hkj:k<=j)(hp:p∈QX T h m j):p∈QX T h m k:=by
 induction j with
 | zero=>rw[show k=0 by omega];exact hp
 | succ j ih=>
  by_cases e:k=j+1
  .rw[e];exact hp
  .exact ih ⋯ (Qc9.mp hp).1
def QdB(hp:p∈QX T h m k):p<m:=Zj.mp (QhJ (Zaa k) hp)
def QdW:∀k p,p<m->(Qao T h m k p=none↔p∈QX T h m k)
 | 0,p,hp=>⟨λ_=>Zj.mpr hp,λ_=>rfl⟩
 | k+1,p,hp=>by
  show(if p∈Qay T h (QX T h m k)then some ((k:Int)+1)else Qao T h m k p)=none↔p∈QcM T h (QX T h m k);rw[Qc9];by_cases hr:p∈Qay T h (QX T h m k)
  .rw[if_pos hr];exact⟨λz=>(by cases z),λz=>absurd hr z.2⟩
  .rw[if_neg hr,QdW k p hp];exact⟨λz=>⟨z,hr⟩,λz=>z.1⟩
def Qe5:∀k p t,Qao T h m k p=some t->∃j:Nat,j<k/\t=(j:Int)+1/\p∈QX T h m j/\p∉QX T h m (j+1)/\Qax T p (QX T h m j)<=h p
 | 0,_,_,e=>by cases e
 | k+1,p,t,e=>by
  unfold Qao at e;by_cases hr:p∈Qay T h (QX T h m k)
  .rw[if_pos hr]at e;cases e;exact⟨k,⋯,rfl,(Qcf.mp hr).1,λz=>(Qc9.mp z).2 hr,(Qcf.mp hr).2⟩
  .rw[if_neg hr]at e;obtain⟨j,h1,h2⟩:=Qe5 k p t e;exact⟨j,⋯,h2⟩
def Qla(pos:∀i j,i<m->j<m->i≠j->0<=T i j)(hp:p<m)(hl:l.Nodup)(hk:k.Nodup)(hm:∀o∈k,o<m)(sub:∀o∈l,o∈k):Qax T p l<=Qax T p k:=by
 unfold Qax;refine Qyg (m:=m) (hl.filter _) (hk.filter _) (λo ho=>?_) (λo ho=>hm o (ZA.mp ho).1) (λo ho=>pos p o hp (hm o (ZA.mp ho).1) λe=>?_)
 .obtain⟨h1,h2⟩:=ZA.mp ho;exact ZA.mpr ⟨sub o h1,h2⟩
 .have:=(ZA.mp ho).2;simp at this;exact this e.symm
def Qi1(pos:∀i j,i<m->j<m->i≠j->0<=T i j)(hg:∀j,j<m->h j<=g j):∀k p,p∈QX T g m k->p∈QX T h m k
 | 0,p,hp=>hp
 | k+1,p,hp=>by
  obtain⟨h1,h2⟩:=Qc9.mp hp;have h3:=Qi1 pos hg k p h1;refine Qc9.mpr ⟨h3,λz=>h2 (Qcf.mpr ⟨h1,?_⟩)⟩;have h4:=(Qcf.mp z).2;have h5:=hg p (QdB h1);have h6:=Qla pos (QdB h1) (Qdv (T:=T) (h:=g) (m:=m) k) (Qdv (T:=T) (h:=h) (m:=m) k) (λo ho=>QdB ho) (λo ho=>Qi1 pos hg k o ho);omega
noncomputable def QlO(QN:Den)(QaU:Den)(Qas:Den)(QaM:Den):DS:=(Qc (Qaj (Qm 1 QN [] (Qa vv0 Qb))) (Qc (Qaj (Qm 2 QaU [] (Qa vv0 (Qa (QE (Qa vv1 Qb)) Qb)))) (Qc (Qy 2 (Qm 1 Qas [] (Qa vv0 Qb))) (Qc (Qy 3 (QaE (QE (Qa (dC .non) Qb)) (Qf vv0 kk0))) (Qc (Qy 4 (Qgh (Qf vv0 kk0))) (Qc (QaH (Qdy kk1 (QA (Qf vv0 kk0) kk1)) (.nm 5) (Qc (Qy 7 (QO (QT vv4) (.nm 1) [none,none,some 4,some 1,some 2] (Qs (dOp gGe (Qf vv3 vv1) (Qm 3 QaM [] (Qa (Qf vv4 vv1) (Qa vv1 (Qa vv2 Qb)))))) vv1)) (Qc (QaH (QT vv7) (.nm 6) (Qc (Qb3 3 Qak vv6 vv5) Qj)) (Qc (Qy 4 (QO (QT vv4) (.nm 1) [none,none,some 7] (Qs (dOp (gIn true) vv1 vv2)) vv1)) Qj)))) (Qc (QH vv3) Qj)))))))
def Qm1{fa fb:DE}{U:En}{ra rb:R}{i j:Int}{n:Nat}(ha:fa U=some ra)(ea:ra.d= .int i)(hb:fb U=some rb)(eb:rb.d= .int j)(hn:(n:Int)=j-i)(hl:n<=16777216)(h1: -(2^62)<=i)(h2:i<2^61):Qdy fa fb U=some ⟨(List.range n).map λ(k:Nat)=> .int (i+k),[]⟩:=by
 unfold Qdy;rw[ha,Za,hb,Za,ea,eb];show(if j-i<=16777216/\_ then _ else _)=_;rw[if_pos ⟨⋯,⋯,⋯,⋯,⋯⟩,show(j-i).toNat=n by omega];rfl
def Qjg(d:Den):Prop:=∀(m:Nat) (R:Lpp) (h:Mt1),0<m->m<=1000->R.length<=1000->(∀s∈R,Good m s)->(∀j,j<m->0<=h j)->d [Qd m R [],Qe m h]=some (Qae m (Qao (Qw m (Qi R [])) h m m),true)
def QqL{n:Nat}(h:fa U=some r)(e:r.d= .int n)(hn:n<=1000000):Qgh fa U=some (reT (Qg (List.range n))):=by
 unfold Qgh;rw[h,Za,e];show(if 0<=(n:Int)/\(n:Int)<=1000000 then some (HS.R.mk (.lst ((List.range (n:Int).toNat).map λ(k:Nat)=> .int (k:Int))) true [])else none)=_;rw[if_pos ⟨⋯,⋯⟩,Zl];rfl
def Qyt(h:∀i,i<m->F i=G i):Qae m F=Qae m G:=by
 unfold Qae;congr 1;exact ZM λi hi=>by rw[h i (Zj.mp hi)]
def Qyc(hp:QeE dp)(hh:Qmv dh)(ht:QgY dt)(ha:Ql9 da):Qjg (Qx 8 (QlO dp dh dt da)):=λm R h m0 hm hRl hR hpos=>by
 have htoll:=ht m R [] hm (by simp;omega) hR (λs hs=>absurd hs ⋯);have hneed:=hh m R [] [h] m0 (λg hg' j hj=>by rw[ZE.mp hg'];exact hpos j hj);generalize Qw m (Qi R [])=T at *;refine Q2 ?_;refine run_seq (Qcp (Qt (r:=⟨[Qd m R []],false,[]⟩) rfl (hp m R) rfl) ?_);refine run_seq (Qcp (Qt (r:=⟨[Qd m R [],.lst [Qe m h]],false,[]⟩) rfl hneed rfl) ?_);refine rsa (Qt (r:=⟨[Qd m R []],false,[]⟩) rfl htoll rfl) ?_;refine rsa (QqS (n:=m) (r:=reI m) rfl rfl ⋯) ?_;refine rsa (QqL (n:=m) (r:=reI m) rfl rfl ⋯) ?_;refine QaO (P:=λU=>∃j4 j5 j6 j7,U=[slF (Qd m R []),slF (Qe m h),slT (Q9 m m T),slT (Qae m (Qao T h m m)),j4,j5,j6,j7]) ?_ ?_
 .refine QaA (toD:=λ(k:Nat)=> .int (1+(k:Int))) (List.range m) (λk U=>∃j5 j6 j7,U=[slF (Qd m R []),slF (Qe m h),slT (Q9 m m T),slT (Qae m (Qao T h m k)),slT (Qg (QX T h m k)),j5,j6,j7]) (Qm1 (n:=m) (i:=1) (j:=(m:Int)+1) rfl rfl (Qac (a:=m) (b:=1) rfl rfl rfl rfl) rfl ⋯ ⋯ ∅ ∅) rfl ⟨none,none,none,rfl⟩ ?_ ?_
  .rintro k k' U hk ⟨j5,j6,j7,rfl⟩;obtain⟨hkm,rfl⟩:=Qeq hk;refine⟨_,rfl,?_⟩;generalize el:QX T h m k=l;have hl:∀p∈l,p<m:=λp hp=>by rw[← el]at hp;exact QdB hp
   have enext:QX T h m (k+1)=QcM T h l:=by rw[← el];rfl
   have efire:∀p,Qao T h m (k+1) p=if p∈Qay T h l then some ((k:Int)+1)else Qao T h m k p:=λp=>by rw[← el];rfl
   rw[enext];refine run_seq (Qat (r:=reT (Qg (Qay T h l))) ?_ ?_)
   .refine Qc1 (fi:=QT (Qh 4)) (t:= .nm 1) (cap:=[none,none,some 4,some 1,some 2]) (ft:=Qs (dOp gGe (Qf (Qh 3) (Qh 1)) (Qm 3 da [] (Qa (Qf (Qh 4) (Qh 1)) (Qa (Qh 1) (Qa (Qh 2) Qb)))))) (fe:=Qh 1) (U:=[slF (Qd m R []),slF (Qe m h),slT (Q9 m m T),slT (Qae m (Qao T h m k)),slT (Qg l),slI (1+(k:Int)),j6,j7])
     (toD:=λ(p:Nat)=> .int (p:Int)) (keep:=λp=>decide (Qax T p l<=h p)) (out:=λ(p:Nat)=> .int (p:Int)) l (Qbb (r:=⟨Qg l,true,[4]⟩) rfl rfl) rfl λp hp=>⟨[none,slI p,slF (Qg l),slF (Qe m h),slF (Q9 m m T)],rfl,?_,λ_=>⟨_,rfl,rfl,rfl⟩⟩
    have hpm:=hl p hp;refine Qz (QY (d:= .bl (decide (Qax T p l<=h p))) (Qa0 (m:=m) (f:=h) (i:=p) (ra:=reF (Qe m h)) rfl rfl rfl rfl hpm) (Qt (Qo (Qhn (m:=m) (n:=m) (f:=T) (i:=p) (ra:=reF (Q9 m m T)) rfl rfl rfl rfl ⋯ ⋯) (rs:=⟨[.int p,Qg l],false,[]⟩) rfl) (ha m (T (p:Int).toNat) p l λo ho=>hl o ho) rfl) ?_) rfl;show some (D.bl (decide (((l.filter λo=>decide (o≠p)).map (T (p:Int).toNat)).sum<=h p)))=_;rw[Zl];rfl
   rw[Qbu];refine QaO (P:=λU=>∃j6 b7,U=[slF (Qd m R []),slF (Qe m h),slT (Q9 m m T),slT (Qae m (Qao T h m (k+1))),slT (Qg l),slI (1+(k:Int)),j6,some (Qg (Qay T h l),b7)]) ?_ ?_
   .refine QaA (toD:=λ(p:Nat)=> .int (p:Int)) (Qay T h l) (λi U=>∃F j6,(∀p,F p=if p∈(Qay T h l).take i then some ((k:Int)+1)else Qao T h m k p)/\U=[slF (Qd m R []),slF (Qe m h),slT (Q9 m m T),slT (Qae m F),slT (Qg l),slI (1+(k:Int)),j6,slF (Qg (Qay T h l))]) (Qbb (r:=⟨Qg (Qay T h l),true,[7]⟩) rfl rfl) rfl ⟨Qao T h m k,j6,λp=>⋯,rfl⟩ ?_ ?_
    .rintro i p U hi ⟨F,j6,hF,rfl⟩;have hpm:=hl p (Qcf.mp (ZC hi)).1;refine⟨_,rfl,run_seq (QoY (m:=m) (F:=F) (i:=p) (v:=1+(k:Int)) rfl rfl rfl rfl rfl ⋯ ⋯ (Qq ⟨_,_,λq=>?_,rfl⟩))⟩;have etake:(Qay T h l).take (i+1)=(Qay T h l).take i++[p]:=by
      rw[ZbG,hi];rfl
     rw[etake];unfold upO;rw[Zl];by_cases hq:q=p
     .subst hq;rw[if_pos rfl,if_pos ⋯];congr 1;omega
     .rw[if_neg hq,hF q];by_cases h2:q∈(Qay T h l).take i
      .rw[if_pos h2,if_pos (Zd _ h2)]
      .rw[if_neg h2,if_neg (λz=>by
        rcases ZJ.mp z with z | z
        .exact h2 z
        .exact hq (ZE.mp z))]
    .rintro U ⟨F,j6,hF,rfl⟩;rw[ZaY]at hF;refine⟨j6,false,?_⟩;rw[Qyt (F:=F) (G:=Qao T h m (k+1)) λp _=>by rw[hF p,efire p]]
   rintro U ⟨j6,b7,rfl⟩;refine run_seq (Qat (r:=reT (Qg (QcM T h l))) ?_ (Qq ?_))
   .refine Qc1 (fi:=QT (Qh 4)) (t:= .nm 1) (cap:=[none,none,some 7]) (ft:=Qs (dOp (gIn true) (Qh 1) (Qh 2))) (fe:=Qh 1)
     (toD:=λ(p:Nat)=> .int (p:Int)) (keep:=λp=> !(Qay T h l).contains p) (out:=λ(p:Nat)=> .int (p:Int)) l (Qbb (r:=⟨Qg l,true,[4]⟩) rfl rfl) rfl λp hp=>⟨[none,slI p,slF (Qg (Qay T h l))],by cases b7<;>rfl,Qz (Qf7 (neg:=true) (o:=p) (l:=Qay T h l) rfl rfl (rb:=reF (Qg (Qay T h l))) rfl rfl) rfl,λ_=>⟨_,rfl,rfl,rfl⟩⟩
   rw[Qbu];exact⟨_,_,_,rfl⟩
  .rintro U ⟨j5,j6,j7,rfl⟩;rw[ZF];exact⟨_,_,_,_,rfl⟩
 rintro U ⟨j4,j5,j6,j7,rfl⟩;exact QK (r:=⟨Qae m (Qao T h m m),true,[3]⟩) rfl ⟨rfl,rfl⟩
def QqE[Decidable A](hx:0<=x):∀{l:List Nat},l.Nodup->(l.map λ(o:Nat)=>if A/\x=(o:Int)then(1:Int)else 0).sum=if A/\x.toNat∈l then 1 else 0
 | [],_=>by simp
 | a::l,nd=>by
  have nd':=Zan.mp nd;rw[Zv,ZQ,QqE hx nd'.2];by_cases hA:A
  .by_cases h:x=a
   .have:x.toNat=a:= ⋯
    rw[if_pos ⟨hA,h⟩,if_neg (λz=>nd'.1 (this▸z.2)),if_pos ⟨hA,by simp[this]⟩];rfl
   .have:¬x.toNat=a:= ⋯
    rw[if_neg (λz=>h z.2)];by_cases h2:x.toNat∈l
    .rw[if_pos ⟨hA,h2⟩,if_pos ⟨hA,by simp[h2]⟩];rfl
    .rw[if_neg (λz=>h2 z.2),if_neg (λz=>by rcases Zk.mp z.2 with e | e;exact this e;exact h2 e)];rfl
  .rw[if_neg (λz=>hA z.1),if_neg (λz=>hA z.1),if_neg (λz=>hA z.1)];rfl
def Qm0{β:Type}:∀S:List β,(S.map λ_=>(0:Int)).sum=0
 | []=>rfl
 | _::S=>by rw[Zv,ZQ,Qm0 S];rfl
def QiW{α β:Type}(g:α->β->Int):∀(l:List α) (S:List β),(l.map λo=>(S.map (g o)).sum).sum=(S.map λs=>(l.map λo=>g o s).sum).sum
 | [],S=>(Qm0 S).symm
 | a::l,S=>by
  rw[Zv,ZQ,QiW g l S];clear QiW
  induction S with
  | nil=>rfl
  | cons s S ih=>simp only[Zv,ZQ]at ih ⊢;omega
noncomputable def QG(p:Nat)(l:List Nat)(s:Int×Int):Int:=if(s.1=p/\s.2.toNat∈l)∨(s.2=p/\s.1.toNat∈l)then 1 else 0
def Qe8{m:Nat}{R:Lpp}(hR:∀s∈R,Good m s){p:Nat}(hp:p<m){l:List Nat}(nd:l.Nodup)(hl:∀o∈l,o<m)(hpl:p∉l):(l.map (Qw m (Qi R []) p)).sum=(R.map (QG p l)).sum:=by
 have gS:=Qbl (L:=[]) hR (λs hs=>absurd hs ⋯);have hn:∀s∈Qi R [],0<=s.1/\0<=s.2:=λs hs=>⟨(gS s hs).1,(gS s hs).2.1⟩;have e1:l.map (Qw m (Qi R []) p)=l.map λo=>((Qi R []).map (hit p o)).sum:=ZM λo ho=>QcO hp (hl o ho) hn;rw[e1,QiW (λo s=>hit p o s) l (Qi R [])];have e2:(Qi R []).map (λs=>(l.map λo=>hit p o s).sum)=(Qi R []).map λs=>if s.1=(p:Int)/\s.2.toNat∈l then(1:Int)else 0:=ZM λs hs=>by
  rw[← QqE (hn s hs).2 nd];congr 1;refine ZM λo ho=>?_;unfold hit;rw[if_neg (λz=>hpl (z.2▸ho)) (c:=s.1=p/\p=o)];omega
 rw[e2];unfold Qi;rw[Zad,ZK,ZaS,ZO];clear e1 e2 hn gS
 induction R with
 | nil=>rfl
 | cons s R ih=>
  have hs:=hR s ⋯;obtain⟨h1,h2,h3,h4,h5⟩:=hs;have ih:=ih λs hs=>hR s (by simp[hs]);simp only[Zv,ZQ,Function.comp,Zcn,ZcF]at ih ⊢;have:(if s.1=p/\s.2.toNat∈l then(1:Int)else 0)+(if s.2=p/\s.1.toNat∈l then 1 else 0)=QG p l s:=by
   unfold QG;by_cases a:s.1=p/\s.2.toNat∈l
   .rw[if_pos a,if_neg (λz=>h5 (a.1.trans z.1.symm)) (c:=s.2=p/\s.1.toNat∈l),if_pos (Or.inl a)];rfl
   .by_cases b:s.2=p/\s.1.toNat∈l
    .rw[if_neg a,if_pos b,if_pos (Or.inr b)];rfl
    .rw[if_neg a,if_neg b,if_neg (λz=>z.elim a b)];rfl
  omega
noncomputable def Qkp:DS:=(Qc (Qy 3 kk0) (Qc (QaH (QT (Qf vv0 kk1)) (.tp [4,5]) (Qc (sIf (bOr (QdQ (Qs (dOp gEq vv4 vv1)) (Qs (dOp (gIn false) vv5 vv2))) (QdQ (Qs (dOp gEq vv5 vv1)) (Qs (dOp (gIn false) vv4 vv2)))) (Qc (Qy 3 (QA vv3 kk1)) Qj) Qj) Qj)) (Qc (QH vv3) Qj)))
def Qml(d:Den):Prop:=∀(m:Nat) (R L:Lpp) (p:Nat) (l:List Nat),(∀s∈R,Good m s)->d [Qd m R L,.int p,Qg l]=some (.int ((R.map (QG p l)).sum),true)
def QrT:Qml (Qx 6 Qkp):=λm R L p l hR=>by
 refine Q2 ?_;refine rsa (d:= .int 0) rfl ?_;refine QaO (P:=λU=>∃j4 j5,U=[slF (Qd m R L),slI p,slF (Qg l),slI ((R.map (QG p l)).sum),j4,j5]) ?_ ?_
 .refine QaA (toD:=pairD) R (λi U=>∃v j4 j5,v=((R.take i).map (QG p l)).sum/\U=[slF (Qd m R L),slI p,slF (Qg l),slI v,j4,j5]) (ir:=⟨R.map pairD,[]⟩) (Qbb (Qaz (m:=m) (R:=R) (L:=L) (Q3 (d:=Qd m R L) (b:=false) rfl) rfl).2.1 rfl) rfl ⟨0,none,none,⋯,rfl⟩ ?_ ?_
  .rintro i s U hi ⟨v,j4,j5,hv,rfl⟩;obtain⟨h1,h2,h3,h4,h5⟩:=hR s (ZC hi);refine⟨_,rfl,?_⟩;have ein:∀(x:Int) (b:Nat),0<=x->[slF (Qd m R L),slI p,slF (Qg l),slI v,slI s.1,slI s.2][b]? =some (slI x)->dOp (gIn false) (Qh b) (Qh 2) [slF (Qd m R L),slI p,slF (Qg l),slI v,slI s.1,slI s.2]=some (reT (.bl (l.contains x.toNat))):=λx b hx hb=>Qf7 (neg:=false) (o:=x.toNat) (l:=l) (QzW hb) (by rw[ZaG hx]) (rb:=reF (Qg l)) rfl rfl;refine run_seq (QL (b:=decide ((s.1=p/\s.2.toNat∈l)∨(s.2=p/\s.1.toNat∈l))) ((QbU (QfA (Qz (Qe7 (a:=s.1) (b:=p) rfl rfl rfl rfl) rfl) (Qz (ein s.2 5 h2 rfl) rfl)) (QfA (Qz (Qe7 (a:=s.2) (b:=p) rfl rfl rfl rfl) rfl) (Qz (ein s.1 4 h1 rfl) rfl))).trans ?_) (λh=>?_) (λh=>?_))
   .congr 1;simp only[List.contains_eq_mem,Bool.decide_or,Bool.decide_and]
   .have h:=of_decide_eq_true h;refine run_seq (Qat (Qac (a:=v) (b:=1) rfl rfl rfl rfl) (Qq (Qq ?_)));rw[Qbu];refine⟨v+1,_,_,?_,rfl⟩;rw[QpA hi,← hv];unfold QG;rw[if_pos h]
   .have h:=of_decide_eq_false h;refine Qq (Qq ⟨v,_,_,?_,rfl⟩);rw[QpA hi,← hv];unfold QG;rw[if_neg h,ZaH]
  .rintro U ⟨v,j4,j5,hv,rfl⟩;rw[ZaY]at hv;subst hv;exact⟨_,_,rfl⟩
 rintro U ⟨j4,j5,rfl⟩;exact QK (r:=reI ((R.map (QG p l)).sum)) rfl ⟨rfl,rfl⟩
def QuJ{l:List Nat}{n:Nat}:cutD (l.map λ(p:Nat)=>D.int (p:Int)) (some (n:Int)) none=(l.drop n).map λ(p:Nat)=>D.int (p:Int):=by
 unfold cutD;simp only[Zc,HT.Qf8,HT.Qju,ZbF];rw[← Zco,← Zbi];congr 1;by_cases h:n<=l.length
 .rw[Zbh h,Zbd ⋯]
 .rw[Nat.min_eq_right ⋯,Zbg ⋯,Zbg ⋯];simp
def Qy6{fa fb:DE}{U:En}{ra rb:R}{l:List Nat}{n:Nat}(ha:fa U=some ra)(ea:ra.d=Qg l)(hb:fb U=some rb)(eb:rb.d= .int n):Qad fa (QS fb) QZ U=some (reT (Qg (l.drop n))):=by
 unfold Qad QZ QS;simp only[ha,hb,Za,ea,eb,Qg,QuJ,Qaq,Qri,if_true]
def QA7(ha:fa U=some ra)(ea:ra.d= .int x)(hb:fb U=some rb)(eb:rb.d=pairD s):dOp (gIn false) fa fb U=some (reT (.bl (decide (s.1=x) || decide (s.2=x)))):=by
 refine QY ha hb ?_;rw[ea,eb];show some (D.bl ([D.int s.1,D.int s.2].any λy=>deq y (.int x)))=_;rw[ZcG,ZcG,List.any_nil,QeQ,QeQ,Bool.or_false]
def QsX{m:Nat}{R:Lpp}(hR:∀s∈R,Good m s)(p:Nat):((R.filter λs=>decide (s.1=(p:Int)) || decide (s.2=(p:Int))).length:Int)=Q1 R [] p:=by
 unfold Q1;rw[show(([]:Lpp).map λl=>isI p l.1).sum=0 from rfl,ZaH]
 induction R with
 | nil=>rfl
 | cons s R ih=>
  obtain⟨h1,h2,h3,h4,h5⟩:=hR s ⋯;have ih:=ih λs hs=>hR s (by simp[hs]);rw[Zv,ZQ,← ih];unfold isI;by_cases a:s.1=p
  .have b:¬s.2=p:=λz=>h5 (a.trans z.symm);rw[Zcw (by simp[a]),Zy,if_pos a,if_neg b];omega
  .by_cases b:s.2=p
   .rw[Zcw (by simp[b]),Zy,if_neg a,if_pos b];omega
   .rw[List.filter_cons_of_neg (by simp[a,b]),if_neg a,if_neg b];omega
noncomputable def Qpc(w:Int×Int×Bool):Int×Int×Bool:=(w.1,w.2.1,false)
def QmR(he:Esc m W)(hg:∀w∈W,GoodW m w)(hl:W.length<=200):Qbz m (W.map Qcz) []:=by
 refine⟨W.map Qpc,λA hA=>?_,λw hw=>?_,by rw[Zc];exact hl,?_,?_⟩
 .obtain⟨w,h1,h2⟩:=he A hA;exact⟨Qpc w,ZI.mpr ⟨w,h1,rfl⟩,h2⟩
 .obtain⟨w',h1,rfl⟩:=ZI.mp hw;exact⟨(hg w' h1).1,λz=>by cases z⟩
 .unfold QeO;rw[ZbY.mpr λw hw=>by obtain⟨w',_,rfl⟩:=ZI.mp hw;rfl,ZO];rfl
 .unfold QfL;rw[Zcz.mpr λw hw=>by obtain⟨w',_,rfl⟩:=ZI.mp hw;simp[Qpc]];rfl
def QyO(ha:fa U=some ra)(ea:ra.d= .int a)(hb:fb U=some rb)(eb:rb.d= .int b):dBf Qgm (Qa fa (Qa fb Qb)) U=some (reI (if b<a then b else a)):=by
 unfold dBf;rw[Qo ha (Qo hb (QI _)),Za];simp only[ea,eb,Qgm,ZT]
noncomputable def Qia(Q4:Den):DS:=(Qc (Qy 1 (QA kk1 (dOp QaC (Qm 2 Q4 [] (Qa vv0 (Qa kk0 Qb))) kk8))) (Qc (Qy 2 (dOp QaC (Qm 2 Q4 [] (Qa vv0 (Qa kk1 Qb))) Qt6)) (Qc (Qy 3 (QE Qb)) (Qc (QaH (Qan vv1) (.nm 4) (Qc (Qy 5 (dOp QaC (QaE (QaE (QA vv2 QCz) (QA (QA (QaE vv4 vv4) (QaE kk7 vv4)) QC2)) Qqw) Qi8)) (Qc (Qy 6 (Qdh vv1)) (Qc (sIf (Qs (dOp gLt (dOp QaC vv5 (QA vv4 kk1)) vv4)) (Qc (Qy 6 (dOp QaC (QA (dOp QaC vv5 (QA vv4 kk1)) vv2) vv1)) Qj) Qj) (Qc (Qb5 3 Qak (Qal (Qa (dOp QaC (QA vv4 vv2) vv1) (Qa vv6 Qb)))) Qj))))) (Qc (QaH (QT (Qad vv0 (QS kk2) (QS QAz))) (.nm 7) (Qc (Qy 5 (dOp QaC (QaE vv7 Qya) Qi8)) (Qc (Qy 8 (dOp QaC vv5 (QA vv1 kk1))) (Qc (Qb5 3 Qak (Qal (Qa vv8 (Qa (dOp QaC (QA (QA vv8 kk1) (dOp QaC (dOp QbV vv5 kk9) vv1)) (QA vv1 kk1)) Qb)))) Qj)))) (Qc (sIf (Qs (dOp gEq (dOp QaC vv2 kk2) kk1)) (Qc (Qy 3 (Qij vv3 (Qcx kk1))) Qj) Qj) (Qc (QH (Qal (Qa vv1 (Qa (QO (QT vv3) (.nm 1) [none,none] QaR (Qal (Qa (dBf Qc7 (Qa vv1 Qb)) (Qa (dBf QeS (Qa vv1 Qb)) Qb)))) (Qa (QE Qb) Qb))))) Qj)))))))
def Qoq(d:Den):Prop:=∀ns:List Int,ns.length<=63->∃(m:Nat) (R:Lpp),d [.lst (ns.map .int)]=some (Qd m R [],true)/\0<m/\m<=8/\Qbz m R []
noncomputable def prs(W:List (Int×Int×Bool)):List (Int×Int):=W.map Qck
def Qwa{fa:DE}{U:En}{r:R}{s:Int×Int}(h:fa U=some r)(e:r.d=pairD s):dBf Qc7 (Qa fa Qb) U=some (reI (if s.2<s.1 then s.2 else s.1)):=by
 unfold dBf;rw[Qo h (QI _),Za];simp only[e,pairD,Qc7];rfl
def QvH{fa:DE}{U:En}{r:R}{s:Int×Int}(h:fa U=some r)(e:r.d=pairD s):dBf QeS (Qa fa Qb) U=some (reI (if s.1<s.2 then s.2 else s.1)):=by
 unfold dBf;rw[Qo h (QI _),Za];simp only[e,pairD,QeS];rfl
def QtX{x:Nat}{A:Lpp}{U:En}{b:Bool}(h:U[x]? =some (some (Qr A,b))):Qij (Qh x) (Qcx (dC (.int 1))) U=some (reT (Qr A.reverse)):=by
 unfold Qij;rw[Q3 h,Za];have e:(if(Qr A).flat=true then HS.R.mk (Qr A) true []else if b=true then HS.R.mk (Qr A) true [x]else HS.R.mk (Qr A) false []).d=Qr A:=by cases b<;>rfl
 rw[e];show some (Qaq (A.map pairD).reverse _)=_;rw[← Zcx];unfold Qaq;rw[if_pos (QbK (λ_=>rfl) _)];rfl
def Qyn{dc:Den}(hc:QiB dc):Qoq (Qx 9 (Qia dc)):=λns hl=>by
 have b1:=ZP (ns.getD 0 0) (by decide:(8:Int)≠0);have b2:=ZR (ns.getD 0 0) (by decide:(0:Int)<8);obtain⟨m,em⟩:∃m:Nat,(m:Int)=1+ns.getD 0 0 % 8:=⟨(1+ns.getD 0 0 % 8).toNat,⋯⟩;have m0:0<m:= ⋯
 have m8:m<=8:= ⋯
 have t1:=ZP (ns.getD 1 0) (by decide:(1000003:Int)≠0);have t2:=ZR (ns.getD 1 0) (by decide:(0:Int)<1000003);generalize et:ns.getD 1 0 % 1000003=t at t1 t2;have key:Run (Qia dc) (QaS 9 [.lst (ns.map .int)]) (Rt λd fr=>∃R,d=Qd m R []/\fr=true/\Qbz m R []):=by
  have cell:∀(U:En) (k:Nat),U[0]? =some (slF (.lst (ns.map .int)))->Qm 2 dc [] (Qa (Qh 0) (Qa (dC (.int k)) Qb)) U=some (reI (ns.getD k 0)):=λU k h0=>by
   refine Qt (Qo (Q3 h0) (Qo (QeI _ _) (QI _))) ?_ rfl;exact hc ns k
  refine rsa (Qac (a:=1) rfl rfl (QaI (b:=8) (cell _ 0 rfl) rfl rfl rfl ∅) rfl) ?_;rw[← em];refine rsa (QaI (b:=1000003) (cell _ 1 rfl) rfl rfl rfl ∅) ?_;rw[et];refine rsa (d:=Qr []) rfl ?_;refine QaO (P:=λU=>∃j4 j5 j6,U=[slF (.lst (ns.map .int)),slI m,slI t,slT (Qr (prs (Qcr m t 0))),j4,j5,j6,none,none]) ?_ ?_
  .refine QaA (toD:=λ(k:Nat)=> .int (k:Int)) (List.range m) (λi U=>∃j4 j5 j6,U=[slF (.lst (ns.map .int)),slI m,slI t,slT (Qr (prs ((List.range i).map λ(k:Nat)=>Qfp m t 0 k))),j4,j5,j6,none,none]) (Qbi (n:=m) (r:=reI m) rfl rfl ⋯) rfl ⟨none,none,none,rfl⟩ ?_ ?_
   .rintro i k U hi ⟨j4,j5,j6,rfl⟩;have hk:i<m/\i=k:=by
     obtain⟨h1,h2⟩:=Ze.mp hi;simp at h1 h2;exact⟨h1,h2⟩
    obtain⟨hk,rfl⟩:=hk;refine⟨_,rfl,?_⟩;have n1:(t+17).natAbs<2^64:= ⋯
    have n2:(69621:Int).natAbs<2^64:= ∅
    refine run_seq (Qat (r:=reI (QbW t i)) ?_ ?_)
    .exact QaI (QcW (QcW (Qac (a:=t) (b:=17) rfl rfl rfl rfl) rfl (Qac (Qac (QcW (a:=(i:Int)) (b:=i) rfl rfl rfl rfl (QfG ⋯)) rfl (QcW (a:=7) (b:=(i:Int)) rfl rfl rfl rfl (QfG ∅)) rfl) rfl (QeI (.int 11) _) rfl) rfl (QfG n1)) rfl (QeI (.int 69621) _) rfl (Qjs n2)) rfl (QeI (.int 2147483647) _) rfl ∅
    .rw[Qbu];refine run_seq (Qat (r:=reF (.int m)) rfl ?_);rw[QoW rfl];refine QaO (P:=λU=>U=[slF (.lst (ns.map .int)),slI m,slI t,slT (Qr (prs ((List.range i).map λ(k:Nat)=>Qfp m t 0 k))),slI i,slI (QbW t i),slI (Qfq m t i),none,none]) ?_ ?_
     .have e1:∀(U:En),U=[slF (.lst (ns.map .int)),slI m,slI t,slT (Qr (prs ((List.range i).map λ(k:Nat)=>Qfp m t 0 k))),slI i,slI (QbW t i),slI m,none,none]->dOp QaC (Qh 5) (QA (Qh 4) (dC (.int 1))) U=some (reI (QbW t i % (i+1))):=by
       rintro U rfl;exact QaI (a:=QbW t i) (b:=(i:Int)+1) rfl rfl (Qac (a:=(i:Int)) (b:=1) rfl rfl rfl rfl) rfl ⋯
      refine QL (b:=decide (QbW t i % (i+1)<i)) (Qz (QY (e1 _ rfl) rfl rfl) rfl) (λh=>?_) (λh=>?_)
      .have h:=of_decide_eq_true h;refine run_seq (Qat (QaI (a:=QbW t i % (i+1)+t) (b:=m) (Qac (a:=QbW t i % (i+1)) (b:=t) (e1 _ rfl) rfl rfl rfl) rfl rfl rfl ⋯) (Qq ?_));rw[Qbu];unfold Qfq;rw[if_pos h];rfl
      .have h:=of_decide_eq_false h;refine Qq ?_;unfold Qfq;rw[if_neg h];rfl
     rintro U rfl;refine run_seq (QoZ (A:=prs ((List.range i).map λ(k:Nat)=>Qfp m t 0 k)) (p:=Qck (Qfp m t 0 i)) (r:=⟨pairD (Qck (Qfp m t 0 i)),true,[]⟩) rfl ?_ rfl (by simp[prs];omega) (Qq ⟨slI i,slI (QbW t i),slI (Qfq m t i),?_⟩))
     .have e2:dOp QaC (QA (Qh 4) (Qh 2)) (Qh 1) [slF (.lst (ns.map .int)),slI m,slI t,slT (Qr (prs ((List.range i).map λ(k:Nat)=>Qfp m t 0 k))),slI i,slI (QbW t i),slI (Qfq m t i),none,none]=some (reI ((i+t) % m)):=
       QaI (a:=(i:Int)+t) (b:=m) (Qac (a:=(i:Int)) (b:=t) rfl rfl rfl rfl) rfl rfl rfl ⋯
      unfold Qal;refine(congrArg (λz=>Option.bind z _) (Qo e2 (Qo (r:=reI (Qfq m t i)) rfl (QI _)))).trans ?_;rfl
     .show _=[slF (.lst (ns.map .int)),slI m,slI t,slT (Qr (prs ((List.range (i+1)).map λ(k:Nat)=>Qfp m t 0 k))),slI i,slI (QbW t i),slI (Qfq m t i),none,none];unfold prs;rw[ZaA,ZK,ZK];rfl
   .rintro U ⟨j4,j5,j6,rfl⟩;rw[ZF];exact⟨_,_,_,rfl⟩
  rintro U ⟨j4,j5,j6,rfl⟩;obtain⟨cs,hcs,esl⟩:=QvP (a:=2) (b:=26) (fa:=Qh 0) (ns:=ns) (U:=[slF (.lst (ns.map .int)),slI m,slI t,slT (Qr (prs (Qcr m t 0))),j4,j5,j6,none,none]) rfl rfl;refine QaO (P:=λU=>∃j5 j6 j7 j8 j4,U=[slF (.lst (ns.map .int)),slI m,slI t,slT (Qr (prs (Qcr m t 0++cs.map (Qel m 0)))),j4,j5,j6,j7,j8]) ?_ ?_
  .refine QaA (toD:=D.int) cs (λi U=>∃j5 j7 j8,U=[slF (.lst (ns.map .int)),slI m,slI t,slT (Qr (prs (Qcr m t 0++(cs.take i).map (Qel m 0)))),j4,j5,j6,j7,j8]) (Qbb esl rfl) rfl ⟨j5,none,none,?_⟩ ?_ ?_
   .rw[List.take_zero,Zaw,Zad];rfl
   .rintro i c U hi ⟨j5,j7,j8,rfl⟩;have hil:i<cs.length:=(Ze.mp hi).1;refine⟨_,rfl,?_⟩;refine rsa (QaI (b:=2147483647) (QcW (a:=c) (b:=48271) rfl rfl rfl rfl (Qjs ∅)) rfl rfl rfl ∅) ?_;refine rsa (QaI (a:=QdD c) (b:=(m:Int)+1) rfl rfl (Qac (a:=(m:Int)) (b:=1) rfl rfl rfl rfl) rfl ⋯) ?_;refine run_seq (QoZ (A:=prs (Qcr m t 0++(cs.take i).map (Qel m 0))) (p:=Qck (Qel m 0 c)) (r:=⟨pairD (Qck (Qel m 0 c)),true,[]⟩) rfl ?_ rfl (by simp[prs,QoL];omega) (Qq ⟨slI (QdD c),slI c,slI (mStart m c),?_⟩))
    .unfold Qal;refine(congrArg (λz=>Option.bind z _) (Qo (r:=reI (mStart m c)) rfl (Qo (QaI (a:=mStart m c+1+QdD c / 9 % m) (b:=(m:Int)+1) (Qac (Qac (a:=mStart m c) (b:=1) rfl rfl rfl rfl) rfl (QaI (a:=QdD c / 9) (b:=m) (Qlc (a:=QdD c) (b:=9) rfl rfl rfl rfl ∅ ∅) rfl rfl rfl ⋯) rfl) rfl (Qac (a:=(m:Int)) (b:=1) rfl rfl rfl rfl) rfl ⋯) (QI _)))).trans ?_;rfl
    .have et:cs.take (i+1)=cs.take i++[c]:=by rw[ZbG,hi];rfl
     rw[et];have ep:prs (Qcr m t 0++(cs.take i++[c]).map (Qel m 0))=prs (Qcr m t 0++(cs.take i).map (Qel m 0))++[Qck (Qel m 0 c)]:=by
      unfold prs;simp only[ZK,ZaT,Zv,Zaw]
     rw[ep];rfl
   .rintro U ⟨j5,j7,j8,rfl⟩;rw[ZaY];exact⟨_,_,_,_,_,rfl⟩
  rintro U ⟨j5,j6,j7,j8,j4,rfl⟩;have hbase:∀w∈Qcr m t 0++cs.map (Qel m 0),GoodW m w:=λw hw=>by
   rcases ZJ.mp hw with h | h
   .exact QuO w h
   .obtain⟨c,_,rfl⟩:=ZI.mp h;exact QsP m0 0 c
  have hlen:(Qcr m t 0++cs.map (Qel m 0)).length<=200:=by rw[Zo,QoL,Zc];omega
  refine QaO (P:=λU=>∃W b,(∀w∈Qcr m t 0,w∈W)/\(∀w∈W,GoodW m w)/\W.length<=200/\U=[slF (.lst (ns.map .int)),slI m,slI t,some (Qr (prs W),b),j4,j5,j6,j7,j8]) ?_ ?_
  .refine QL (Qz (Qe7 (b:=1) (QaI (a:=t) (b:=2) rfl rfl rfl rfl ∅) rfl rfl rfl) rfl) (λ_=>?_) (λ_=>?_)
   .refine run_seq (Qat (QtX (x:=3) (A:=prs (Qcr m t 0++cs.map (Qel m 0))) rfl) (Qq ?_));rw[Qbu];refine⟨(Qcr m t 0++cs.map (Qel m 0)).reverse,true,λw hw=>List.mem_reverse.mpr (Zd _ hw),λw hw=>hbase w (List.mem_reverse.mp hw),by rw[ZaW];exact hlen,?_⟩;unfold prs;rw[Zcx];rfl
   .exact Qq ⟨_,true,λw hw=>Zd _ hw,hbase,hlen,rfl⟩
  rintro U ⟨W,b,w1,w2,w3,rfl⟩
  have er:=Qa1 (fi:=QT (Qh 3)) (t:= .nm 1) (cap:=[none,none]) (fe:=Qal (Qa (dBf Qc7 (Qa (Qh 1) Qb)) (Qa (dBf QeS (Qa (Qh 1) Qb)) Qb))) (U:=[slF (.lst (ns.map .int)),slI m,slI t,some (Qr (prs W),b),j4,j5,j6,j7,j8])
   (toD:=λw=>pairD (Qck w)) (out:=λw=>pairD (Qcz w)) W (Qbb (Q3 rfl) (by cases b<;>rfl)) (by show List.map pairD (W.map Qck)=_;rw[ZO];rfl) λw _=>⟨[none,some (pairD (Qck w),true)],rfl,⟨pairD (Qcz w),true,[]⟩,by
    unfold Qal;refine(congrArg (λz=>Option.bind z _) (Qo (Qwa (s:=Qck w) (r:=⟨pairD (Qck w),true,[]⟩) rfl rfl) (Qo (QvH (s:=Qck w) (r:=⟨pairD (Qck w),true,[]⟩) rfl rfl) (QI _)))).trans ?_;rfl,rfl,rfl⟩
  refine QK (r:=reT (Qd m (W.map Qcz) [])) ?_ ⟨W.map Qcz,rfl,rfl,QmR (Qwp.mono w1) w2 w3⟩;unfold Qal;refine(congrArg (λz=>Option.bind z _) (Qo (r:=reI m) rfl (Qo er (Qo (r:=reT (.lst [])) rfl (QI _))))).trans ?_;show some _=some _;congr 2;unfold Qd Qr;rw[ZO];rfl
 obtain⟨o,h1,h2⟩:=key;cases o with
 | rt d fr=>
  obtain⟨R,rfl,rfl,h3⟩:=h2;exact⟨m,R,by unfold Qx;rw[h1];rfl,m0,m8,h3⟩
 | _=>exact h2.elim
noncomputable def QnI(Qea:Den):DS:=(Qc (QH (Qm 3 Qea [] (Qa vv0 (Qa vv1 (Qa (Qgh (QA (Qf vv0 kk0) kk1)) Qb))))) Qj)
def QjO(p:Nat)(l:List Nat)(s:Int×Int):0<=QG p l s/\QG p l s<=1:=by unfold QG;split<;>omega
def Qwb{T:Mt2}{h:Mt1}{m:Nat}{k p:Nat}(hp:p<m){j:Nat}(hj:j<=k):p∈QX T h m j↔(Qao T h m k p=none∨∃t,Qao T h m k p=some t/\(j:Int)+1<=t):=by
 cases e:Qao T h m k p with
 | none=>exact⟨λ_=> .inl rfl,λ_=>QhJ hj ((QdW k p hp).mp e)⟩
 | some t=>
  obtain⟨i,h1,h2,h3,h4,_⟩:=Qe5 k p t e;constructor
  .intro z;refine .inr ⟨t,rfl,?_⟩;by_cases hh:j<=i
   .omega
   .exact absurd (QhJ (show i+1<=j by omega) z) h4
  .rintro(z | ⟨t',z,hz⟩)
   .cases z
   .cases z;exact QhJ (show j<=i by omega) h3
def Qn3{T:Mt2}{h:Mt1}{l:List Nat}:QcM T h l=l∨(QcM T h l).length<l.length:=by
 by_cases e:(QcM T h l).length<l.length
 .exact .inr e
 .left;unfold QcM at e ⊢;have h1:=ZaN (λp=> !(Qay T h l).contains p) l;rw[ZbY];intro a ha;have h2:=List.length_filter_eq_length_iff.mp (Nat.le_antisymm (ZaN _ l) (Nat.le_of_not_lt e));exact h2 a ha
def Qoz{T:Mt2}{h:Mt1}{m:Nat}:∀k,QX T h m (k+1)=QX T h m k∨(QX T h m (k+1)).length+(k+1)<=m
 | 0=>by
  rcases Qn3 (T:=T) (h:=h) (l:=QX T h m 0)with e | e
  .exact .inl e
  .right;have:(QX T h m 0).length=m:=ZF;show(QcM T h (QX T h m 0)).length+1<=m;omega
 | k+1=>by
  rcases Qoz (T:=T) (h:=h) (m:=m) k with e | e
  .left;show QcM T h (QX T h m (k+1))=QX T h m (k+1);rw[e];exact e
  .rcases Qn3 (T:=T) (h:=h) (l:=QX T h m (k+1))with e2 | e2
   .exact .inl e2
   .right;show(QcM T h (QX T h m (k+1))).length+(k+1+1)<=m;omega
def Qv0{T:Mt2}{h:Mt1}{m p:Nat}(hp:p∈QX T h m m):h p<Qax T p (QX T h m m):=by
 have hm:0<m:=Zbc (Zaa _) (QdB hp);have key:QX T h m (m+1)=QX T h m m:=by
  rcases Qoz (T:=T) (h:=h) (m:=m) m with e | e
  .exact e
  .omega
 have h1:p∈QcM T h (QX T h m m):=by
  show p∈QX T h m (m+1);rw[key];exact hp
 have h2:=(Qc9.mp h1).2;by_cases h3:Qax T p (QX T h m m)<=h p
 .exact absurd (Qcf.mpr ⟨hp,h3⟩) h2
 .omega
def QrW{m:Nat}{s:Int×Int}(g:Good m s){p:Nat}{l:List Nat}:QG p (l.filter λo=>decide (o≠p)) s=QG p l s:=by
 obtain⟨g1,g2,g3,g4,g5⟩:=g;unfold QG;have e1:(s.1=p/\s.2.toNat∈l.filter λo=>decide (o≠p))↔(s.1=p/\s.2.toNat∈l):=by
  rw[ZA];constructor
  .rintro⟨a,b,_⟩;exact⟨a,b⟩
  .rintro⟨a,b⟩;exact⟨a,b,decide_eq_true ⋯⟩
 have e2:(s.2=p/\s.1.toNat∈l.filter λo=>decide (o≠p))↔(s.2=p/\s.1.toNat∈l):=by
  rw[ZA];constructor
  .rintro⟨a,b,_⟩;exact⟨a,b⟩
  .rintro⟨a,b⟩;exact⟨a,b,decide_eq_true ⋯⟩
 simp only[e1,e2]
def Qj8{m:Nat}{R:Lpp}(hR:∀s∈R,Good m s){p:Nat}(hp:p<m){l:List Nat}(nd:l.Nodup)(hl:∀o∈l,o<m):Qax (Qw m (Qi R [])) p l=(R.map (QG p l)).sum:=by
 unfold Qax;rw[Qe8 hR hp (nd.filter _) (λo ho=>hl o (ZA.mp ho).1) (λz=>by have:=(ZA.mp z).2;simp at this),ZM λs hs=>QrW (hR s hs)]
def Qk2{m:Nat}{R:Lpp}(hR:∀s∈R,Good m s)(p:Nat):(R.map (QG p (List.range (m+1)))).sum=Q1 R [] p:=by
 unfold Q1;rw[Zaw,ZbH,ZaH];congr 1;refine ZM λs hs=>?_;obtain⟨g1,g2,g3,g4,g5⟩:=hR s hs;unfold QG isI;have e1:s.2.toNat∈List.range (m+1):=Zj.mpr ⋯;have e2:s.1.toNat∈List.range (m+1):=Zj.mpr ⋯;by_cases a:s.1=p
 .have b:¬s.2=p:= ⋯
  simp[a,b,e1,e2]
 .by_cases b:s.2=p
  .simp[a,b,e1,e2]
  .simp[a,b,e1,e2]
def QmG(d:Den):Prop:=∀(m:Nat) (R L:Lpp) (p:Nat),m<=1000->(∀s∈R,Good m s)->d [Qd m R L,.int p]=some (.int (Q1 R [] p),true)
def QuE{dr:Den}(hr:Qml dr):QmG (Qx 2 (QnI dr)):=λm R L p hm hR=>by
 refine Q2 (QK (Qt (Qo (r:=reF (Qd m R L)) rfl (Qo (r:=reI p) rfl (Qo (QqL (n:=m+1) (Qac (a:=m) (b:=1) (Qaz (m:=m) (R:=R) (L:=L) (Q3 (d:=Qd m R L) (b:=false) rfl) rfl).1 rfl rfl rfl) rfl ⋯) (QI _)))) (hr m R L p (List.range (m+1)) hR) rfl) ⟨?_,rfl⟩);show D.int _=D.int _;rw[Qk2 hR p]
def Qmk:∀bs:List Bool,Qkw (bs.map D.bl)=some bs
 | []=>rfl
 | b::bs=>by
  show Option.bind (some b) (λi=>(Qkw (bs.map D.bl)).map λr=>i::r)=_;rw[Qmk bs];rfl
def Qye{fa:DE}{U:En}{r:R}{m:Nat}{g:Nat->Bool}(h:fa U=some r)(e:r.d= .lst ((List.range m).map λi=> .bl (g i))):dBf QjF (Qa fa Qb) U=some (reT (.bl ((List.range m).all g))):=by
 unfold dBf;rw[Qo h (QI _),Za];have:((List.range m).map λi=>D.bl (g i))=(((List.range m).map g).map D.bl):=by rw[ZO];rfl
 simp only[e,QjF,this,Qmk,ZT];rw[Zca];rfl
def Qxp(n m:Nat)(F:Nat->Option Int):(Qae m F).sim (n+1)=true:=by
 unfold Qae;simp only[D.sim,Zca,ZZ];intro p _;show(QcD (F p)).sim n=true;cases F p<;>cases n<;>rfl
def QxB{m:Nat}{F:Nat->Option Int}:((List.range m).map λi=>QcD (F i)).any (λy=>deq y .non)=(List.range m).any λi=>(F i).isNone:=by
 rw[List.any_map];congr 1;funext i;show deq (QcD (F i)) .non=(F i).isNone;cases F i<;>rfl
def Qi4{neg:Bool}{fb:DE}{U:En}{rb:R}{m:Nat}{F:Nat->Option Int}(hb:fb U=some rb)(eb:rb.d=Qae m F):dOp (gIn neg) (dC .non) fb U=some (reT (.bl (if neg then !((List.range m).any λi=>(F i).isNone)else(List.range m).any λi=>(F i).isNone))):=by
 refine QY (ra:=⟨.non,true,[]⟩) rfl hb ?_;rw[eb];show(if D.non.sim 8 && (Qae m F).sim 8 then some (D.bl (if neg then !(((List.range m).map λi=>QcD (F i)).any λy=>deq y .non)else((List.range m).map λi=>QcD (F i)).any λy=>deq y .non))else none)=_;rw[Qxp 7 m F,QxB];rfl
noncomputable def Qnz(QcR:Den)(Qe1:Den):DS:=(Qc (Qy 2 (Qm 2 QcR [] (Qa vv0 (Qa vv1 Qb)))) (Qc (Qy 3 (dBf QjF (Qa (QO (QcP vv1 (Qm 1 Qe1 [] (Qa vv0 Qb))) (.tp [1,2]) [none,none,none] QaR (dOp gLt vv1 vv2)) Qb))) (Qc (QH (QhP vv3 (dOp (gIn true) (dC .non) vv2))) Qj)))
noncomputable def QcE(R:Lpp)(m:Nat)(h:Mt1)(F:Nat->Option Int):Bool:=(List.range m).all (λj=>decide (h j<Q1 R [] j)) && !((List.range m).any λi=>(F i).isNone)
def Qjz(d:Den):Prop:=∀(m:Nat) (R:Lpp) (h:Mt1),0<m->m<=1000->R.length<=1000->(∀s∈R,Good m s)->(∀j,j<m->0<=h j)->d [Qd m R [],Qe m h]=some (.bl (QcE R m h (Qao (Qw m (Qi R [])) h m m)),true)
def QvB{df ds:Den}(hf:Qjg df)(hs:QoP ds):Qjz (Qx 4 (Qnz df ds)):=λm R h m0 hm hRl hR hpos=>by
 have ef:=hf m R h m0 hm hRl hR hpos;have es:=hs m R [] hm (by simp;omega) hR (λs hs=>absurd hs ⋯);generalize Qao (Qw m (Qi R [])) h m m=F at *;refine Q2 ?_;refine rsa (Qt (r:=⟨[Qd m R [],Qe m h],false,[]⟩) rfl ef rfl) ?_
 have ec:=Qa1 (fi:=QcP (Qh 1) (Qm 1 ds [] (Qa (Qh 0) Qb))) (t:= .tp [1,2]) (cap:=[none,none,none]) (fe:=dOp gLt (Qh 1) (Qh 2)) (U:=[slF (Qd m R []),slF (Qe m h),slT (Qae m F),none])
  (toD:=λ(i:Nat)=> .tup [.int (h i),.int (Q1 R [] i)]) (out:=λ(i:Nat)=> .bl (decide (h i<Q1 R [] i))) (List.range m) (QqT (ra:=reF (Qe m h)) rfl rfl (Qt (r:=⟨[Qd m R []],false,[]⟩) rfl es rfl) rfl) rfl λi _=>⟨[none,slI (h i),slI (Q1 R [] i)],rfl,reT (.bl (decide (h i<Q1 R [] i))),rfl,rfl,rfl⟩
 refine rsa (Qye (m:=m) (g:=λi=>decide (h i<Q1 R [] i)) ec rfl) ?_;exact QK (Qo4 (a:=(List.range m).all λj=>decide (h j<Q1 R [] j)) (b:= !((List.range m).any λi=>(F i).isNone)) rfl (Qi4 (neg:=true) (m:=m) (F:=F) (rb:=⟨Qae m F,true,[2]⟩) rfl rfl)) ⟨rfl,rfl⟩
noncomputable def QdX(Qa7:Den)(x_need_rows:List D->Option Str):DX:=(QM (Qaj (Qm 2 Qa7 [] (Qa vv0 (Qa vv1 Qb)))) (QaX 2 x_need_rows (Qa vv0 (Qa vv1 Qb))) (QM (QaH (QT vv1) (.nm 2) (Qc (sIf (Qs (dOp gLt (dBf Qc7 (Qa vv2 Qb)) kk0)) (Qc Qu Qj) Qj) Qj)) (Qfo (QT vv1) (.nm 2) (Qc (sIf (Qs (dOp gLt (dBf Qc7 (Qa vv2 Qb)) kk0)) (Qc Qu Qj) Qj) Qj) (QM (sIf (Qs (dOp gLt (dBf Qc7 (Qa vv2 Qb)) kk0)) (Qc Qu Qj) Qj) (xIf (Qs (dOp gLt (dBf Qc7 (Qa vv2 Qb)) kk0)) (QM Qu (QbB "NoHeap" (Qa (dC (.str "a heap has no number below 0")) Qb)) xNo) xNo) xNo)) xNo))
local macro_rules | `(tactic|ac_rfl)=> `(tactic|repeat (first | exact QaK | exact QR | assumption | apply Qah | apply QaY | apply Qau | apply QQ | apply Qap | apply ap_ret))
def Qvg{dn:Den}{xn:List D->Option Str}(h:ApF dn xn):ApF (Qx 3 (Qdn dn)) (Qag 3 (QdX dn xn)):=Qfu (by unfold Qdn QdX;ac_rfl)
structure Qo7 (xd:List D->Option Str):Prop where
 row:∀(m:Int) (R L:Lpp) (xs:List D),(xs.length:Int)≠m->xd [Qd m R L,.lst [.lst xs]]=some "NoRow"
 heap:∀(m:Nat) (R L:Lpp) (f:Mt1) (j:Nat),j<m->f j<0->xd [Qd m R L,.lst [Qe m f]]=some "NoHeap"
def Qtl{dn:Den}{xn:List D->Option Str}(h:ApF dn xn)(hn:QkX dn)(hx:QrK xn):Qo7 (Qag 3 (QdX dn xn)) where
 row:=λm R L xs hm=>by
  refine Qbw (Q7 (QQ h) (Qcy (r:=⟨[Qd m R L,.lst [.lst xs]],_,_⟩) rfl rfl ?_));exact hx m R L [xs] 0 ⋯ (λi x hi e=> ⋯) (λx e=>by cases e;exact hm)
 heap:=λm R L f j hj hf=>by
  obtain⟨v,_,hle,hv⟩:=Qqg (by omega:0<m) f;have h0:=hle j hj;refine Qbw (Qb6 (Qcp (Qt (r:=⟨[Qd m R L,.lst [Qe m f]],false,[]⟩) rfl (hn m R L [f]) rfl) ?_));refine Q7 (Qau (by ac_rfl)) (Qs5 (by ac_rfl) (toD:=λf=>Qe m f) [f] (λ_ U=>U=[slF (Qd m R L),slF (.lst [Qe m f]),none]) 0 ⋯ (ir:=⟨[Qe m f],[]⟩) rfl rfl rfl (λi x U hi=>absurd hi ⋯) ?_);rintro x U hx rfl;cases hx;refine⟨_,rfl,?_⟩;refine Q7 (by ac_rfl) (Qfw (b:=true) (Qz (QY (rb:=reI 0) (d:= .bl (decide (v<0))) (hv (r:=reF (Qe m f)) rfl rfl) rfl rfl) ?_) (λ_=>Q7 QR (Qew rfl (Zs _))) (λh=>by cases h));show D.bl _=_;rw[decide_eq_true ⋯]
noncomputable def Qek(QbF:Den):DX:=(QM (sIf (QbG (Qs (Qm 1 QbF [] (Qa vv0 Qb)))) (Qc Qu Qj) Qj) (xIf (QbG (Qs (Qm 1 QbF [] (Qa vv0 Qb)))) (QM Qu (QbB "NotPlain" (Qa (dC (.str "this is told of nets without lanes alone")) Qb)) xNo) xNo) xNo)
def QvQ{dp:Den}:ApF (Qx 1 (Qda dp)) (Qag 1 (Qek dp)):=Qfu (by unfold Qda Qek;ac_rfl)
def Qi9(xd:List D->Option Str):Prop:=∀(m:Int) (R L:Lpp),L≠[]->xd [Qd m R L]=some "NotPlain"
def Qth{dp:Den}(hp:Qjn dp):Qi9 (Qag 1 (Qek dp)):=λm R L hL=>by
 have:decide ((L.length:Int)=0)=false:=decide_eq_false (by cases L with | nil=>exact absurd rfl hL | cons a l=>simp;omega);refine Qbw (Q7 (by ac_rfl) (Qfw (b:=true) (Qa4 (b:=false) (Qz (b:=false) (Qt (r:=⟨[Qd m R L],false,[]⟩) rfl (hp m R L) rfl) ?_)) (λ_=>Q7 QR (Qew rfl (Zs _))) (λh=>by cases h)));show D.bl _=_;rw[this]
noncomputable def Qlq(QaM:Den)(Qas:Den)(QaU:Den)(QN:Den)(x_need_heaps:List D->Option Str)(x_need_plain:List D->Option Str):DX:=(QM (Qaj (Qm 1 QN [] (Qa vv0 Qb))) (QaX 1 x_need_plain (Qa vv0 Qb)) (QM (Qaj (Qm 2 QaU [] (Qa vv0 (Qa (QE (Qa vv1 Qb)) Qb)))) (QaX 2 x_need_heaps (Qa vv0 (Qa (QE (Qa vv1 Qb)) Qb))) (QM (Qy 2 (Qm 1 Qas [] (Qa vv0 Qb))) xNo (QM (Qy 3 (QaE (QE (Qa (dC .non) Qb)) (Qf vv0 kk0))) xNo (QM (Qy 4 (Qgh (Qf vv0 kk0))) xNo (QM (QaH (Qdy kk1 (QA (Qf vv0 kk0) kk1)) (.nm 5) (Qc (Qy 7 (QO (QT vv4) (.nm 1) [none,none,some 4,some 1,some 2] (Qs (dOp gGe (Qf vv3 vv1) (Qm 3 QaM [] (Qa (Qf vv4 vv1) (Qa vv1 (Qa vv2 Qb)))))) vv1)) (Qc (QaH (QT vv7) (.nm 6) (Qc (Qb3 3 Qak vv6 vv5) Qj)) (Qc (Qy 4 (QO (QT vv4) (.nm 1) [none,none,some 7] (Qs (dOp (gIn true) vv1 vv2)) vv1)) Qj)))) (Qfo (Qdy kk1 (QA (Qf vv0 kk0) kk1)) (.nm 5) (Qc (Qy 7 (QO (QT vv4) (.nm 1) [none,none,some 4,some 1,some 2] (Qs (dOp gGe (Qf vv3 vv1) (Qm 3 QaM [] (Qa (Qf vv4 vv1) (Qa vv1 (Qa vv2 Qb)))))) vv1)) (Qc (QaH (QT vv7) (.nm 6) (Qc (Qb3 3 Qak vv6 vv5) Qj)) (Qc (Qy 4 (QO (QT vv4) (.nm 1) [none,none,some 7] (Qs (dOp (gIn true) vv1 vv2)) vv1)) Qj))) (QM (Qy 7 (QO (QT vv4) (.nm 1) [none,none,some 4,some 1,some 2] (Qs (dOp gGe (Qf vv3 vv1) (Qm 3 QaM [] (Qa (Qf vv4 vv1) (Qa vv1 (Qa vv2 Qb)))))) vv1)) xNo (QM (QaH (QT vv7) (.nm 6) (Qc (Qb3 3 Qak vv6 vv5) Qj)) (Qfo (QT vv7) (.nm 6) (Qc (Qb3 3 Qak vv6 vv5) Qj) (QM (Qb3 3 Qak vv6 vv5) xNo xNo)) (QM (Qy 4 (QO (QT vv4) (.nm 1) [none,none,some 7] (Qs (dOp (gIn true) vv1 vv2)) vv1)) xNo xNo)))) (QM (QH vv3) xNo xNo)))))))
def Qy0{dp dh dt da:Den}{xh xp:List D->Option Str}(h1:ApF dh xh)(h2:ApF dp xp):ApF (Qx 8 (QlO dp dh dt da)) (Qag 8 (Qlq da dt dh dp xh xp)):=Qfu (by unfold QlO Qlq;ac_rfl)
structure QnZ (xd:List D->Option Str):Prop where
 plain:∀(m:Int) (R L:Lpp) (xs:List D),L≠[]->xd [Qd m R L,.lst xs]=some "NotPlain"
 row:∀(m:Nat) (R:Lpp) (xs:List D),xs.length≠m->xd [Qd m R [],.lst xs]=some "NoRow"
 heap:∀(m:Nat) (R:Lpp) (f:Mt1) (j:Nat),j<m->f j<0->xd [Qd m R [],Qe m f]=some "NoHeap"
def Qv2{dp dh dt da:Den}{xh xp:List D->Option Str}(h1:ApF dh xh)(h2:ApF dp xp)(hp:QeE dp)(hx:Qo7 xh)(px:Qi9 xp):QnZ (Qag 8 (Qlq da dt dh dp xh xp)) where
 plain:=λm R L xs hL=>Qbw (Q7 (QQ h2) (Qcy (r:=⟨[Qd m R L],_,_⟩) rfl rfl (px m R L hL)))
 row:=λm R xs hl=>by
  refine Qbw (Qb6 (Qcp (Qt (r:=⟨[Qd m R []],false,[]⟩) rfl (hp m R) rfl) ?_));exact Q7 (QQ h1) (Qcy (r:=⟨[Qd m R [],.lst [.lst xs]],_,_⟩) rfl rfl (hx.row m R [] xs ⋯))
 heap:=λm R f j hj hf=>by
  refine Qbw (Qb6 (Qcp (Qt (r:=⟨[Qd m R []],false,[]⟩) rfl (hp m R) rfl) ?_));exact Q7 (QQ h1) (Qcy (r:=⟨[Qd m R [],.lst [Qe m f]],_,_⟩) rfl rfl (hx.heap m R [] f j hj hf))
noncomputable def QB9(F:Nat->Option Int)(t:Int)(o:Nat):Bool:=match F o with
 | none=>true
 | some u=>decide (t<=u)
noncomputable def QCc(m:Nat)(F:Nat->Option Int)(t:Int):List Nat:=(List.range m).filter (QB9 F t)
noncomputable def QDx(R:Lpp)(m:Nat)(F:Nat->Option Int)(p:Nat)(t:Int):Int:=(R.map (QG p (QCc m F t))).sum
def Qev{fa fb:DE}{U:En}{ra rb:R}{l:List Nat}{i:Int}{v:Nat}(ha:fa U=some ra)(ea:ra.d=Qg l)(hb:fb U=some rb)(eb:rb.d= .int i)(h0:0<=i)(h:l[i.toNat]? =some v):Qf fa fb U=some (reI v):=by
 refine QlU (ns:=l.map λ(p:Nat)=>(p:Int)) ha (by rw[ea,Qdo]) hb eb h0 ?_;rw[Zh,h];rfl
def Qhk{fa:DE}{U:En}{r:R}{l:List Nat}(h:fa U=some r)(e:r.d=Qg l):dBf Q6 (Qa fa Qb) U=some (reI l.length):=by
 rw[Qbp h e,Zc]
def QhN{x:Nat}{fa:DE}{U:En}{r:R}{l:List Nat}{v:Nat}{Q:Out->Prop}(hx:U[x]? =some (slT (Qg l)))(ha:fa U=some r)(e:r.d= .int v)(hl:l.length<16777216)(q:Q (.nx (U.set x (slT (Qg (l++[v])))))):Run (Qb5 x Qak fa) U Q:=by
 refine Ql7 (xs:=l.map λ(p:Nat)=>D.int (p:Int)) hx ha (by rw[e];rfl) (by simpa using hl) ?_;have:D.lst ((l.map λ(p:Nat)=>D.int (p:Int))++[r.d])=Qg (l++[v]):=by unfold Qg;rw[e,ZK];rfl
 rw[this];exact q
def Qhs{α:Type}{g:α->Int}:∀{S:List α},(∀s∈S,0<=g s)->(∃s∈S,0<g s)->0<(S.map g).sum
 | [],_,⟨_,h,_⟩=>absurd h ⋯
 | a::S,h0,⟨s,hs,hp⟩=>by
  rw[Zv,ZQ];have h1:=h0 a ⋯;have h2:=QhW S λs hs=>h0 s (by simp[hs]);rcases Zk.mp hs with rfl | hs
  .omega
  .have:=Qhs (λs hs=>h0 s (by simp[hs])) ⟨s,hs,hp⟩;omega
def QtL{m:Nat}{R:Lpp}(hw:Qbz m R []):Qo6 m (Qi R []):=by
 obtain⟨W,h1,h2,h3,h4,h5⟩:=hw.ex;have:=Qno h1;rw[← h4,← h5]at this;exact this
def Qq9{m:Nat}{R:Lpp}(hw:Qbz m R [])(A:Nat->Prop)(hA:∃p,p<m/\A p):∃p,p<m/\A p/\∃s∈R,(s.1=p/\(s.2=m∨¬A s.2.toNat))∨(s.2=p/\(s.1=m∨¬A s.1.toNat)):=by
 obtain⟨s,h1,h2,h3,h4⟩:=QtL hw A hA;unfold Qi at h1;rw[Zad]at h1;have hg:=hw.good.1;rcases ZJ.mp h1 with h | h
 .obtain⟨g1,_⟩:=hg s h;exact⟨s.1.toNat,⋯,h3,s,h,.inl ⟨⋯,h4⟩⟩
 .obtain⟨r,hr,rfl⟩:=ZI.mp h;obtain⟨g1,g2,_⟩:=hg r hr;simp only[Zcn,ZcF]at h2 h3 h4;exact⟨r.2.toNat,⋯,h3,r,hr,.inr ⟨⋯,h4⟩⟩
def Qsd{R:Lpp}{m:Nat}{h:Mt1}{F:Nat->Option Int}(h1:∀i,i<m->F i≠none/\h i<Q1 R [] i):QcE R m h F=true:=by
 unfold QcE;rw[Zp,ZZ,Zau,Zax];refine⟨λi hi=>decide_eq_true (h1 i (Zj.mp hi)).2,λi hi=>?_⟩;have:=(h1 i (Zj.mp hi)).1;cases e:F i with
 | none=>exact absurd e this
 | some t=>simp
def QkP{α:Type}{f h:α->Int}:∀{S:List α},(∀s∈S,f s<=h s)->(S.map f).sum<=(S.map h).sum
 | [],_=>by simp
 | a::S,H=>by
  have h1:=H a ⋯;have h2:=QkP (S:=S) λs hs=>H s (by simp[hs]);simp only[Zv,ZQ];omega
def QAL{p:Nat}{l k:List Nat}{s:Int×Int}(hd:∀x∈l,x∈k):QG p l s<=QG p k s:=by
 unfold QG;by_cases c:(s.1=p/\s.2.toNat∈l)∨(s.2=p/\s.1.toNat∈l)
 .rw[if_pos c,if_pos (c.elim (λz=> .inl ⟨z.1,hd _ z.2⟩) λz=> .inr ⟨z.1,hd _ z.2⟩)];exact Zak _
 .rw[if_neg c];split<;>omega
def Qni{t:Int}{v:Nat}:∀(S:Lpp) (F:Nat->Option Int),S.foldl (Qcb t) F v=if F v=none/\∃s∈S,s.1.toNat=v/\F s.2.toNat=some t then some (t+1)else F v
 | [],F=>by simp
 | s::S,F=>by
  rw[ZbV,Qni S];have key:∀w,(Qcb t F s w=some t↔F w=some t):=λw=>by
   unfold Qcb;split
   .rename_i h;unfold upO;split
    .rename_i e;subst e;rw[h.1];simp;omega
    .exact Iff.rfl
   .exact Iff.rfl
  by_cases c:F s.1.toNat=none/\F s.2.toNat=some t
  .by_cases hv:v=s.1.toNat
   .have e1:Qcb t F s v=some (t+1):=by unfold Qcb upO;rw[if_pos c,if_pos hv]
    rw[if_neg (by rw[e1];simp),e1,if_pos ⟨by rw[hv];exact c.1,s,Zi,hv.symm,c.2⟩]
   .have e1:Qcb t F s v=F v:=by unfold Qcb upO;rw[if_pos c,if_neg hv]
    rw[e1];simp only[key];by_cases h:F v=none/\∃s'∈S,s'.1.toNat=v/\F s'.2.toNat=some t
    .obtain⟨h1,s',h2,h3⟩:=h;rw[if_pos ⟨h1,s',h2,h3⟩,if_pos ⟨h1,s',Zb _ h2,h3⟩]
    .rw[if_neg h,if_neg];rintro⟨h1,s',h2,h3,h4⟩;rcases Zk.mp h2 with rfl | h2
     .exact hv h3.symm
     .exact h ⟨h1,s',h2,h3,h4⟩
  .have e1:Qcb t F s=F:=by unfold Qcb;rw[if_neg c]
   rw[e1];by_cases h:F v=none/\∃s'∈S,s'.1.toNat=v/\F s'.2.toNat=some t
   .obtain⟨h1,s',h2,h3⟩:=h;rw[if_pos ⟨h1,s',h2,h3⟩,if_pos ⟨h1,s',Zb _ h2,h3⟩]
   .rw[if_neg h,if_neg];rintro⟨h1,s',h2,h3,h4⟩;rcases Zk.mp h2 with rfl | h2
    .exact c ⟨h3▸h1,h4⟩
    .exact h ⟨h1,s',h2,h3,h4⟩
structure QDa (m:Nat) (S:Lpp) (t:Nat) (F:Nat->Option Int):Prop where
 pit:F m=some 0
 val:∀v d,F v=some d->0<=d/\d<=t/\v<=m/\(v≠m->1<=d)
 pred:∀v d,v≠m->F v=some d->∃s∈S,s.1.toNat=v/\F s.2.toNat=some (d-1)
 low:∀v d,v≠m->F v=some d->∀s∈S,s.1.toNat=v->∀e,F s.2.toNat=some e->d-1<=e
 non:∀v,F v=none->∀s∈S,s.1.toNat=v->∀e,F s.2.toNat=some e->e=t
def Qrl{m:Nat}{S:Lpp}(hS:∀s∈S,Good m s):∀t,QDa m S t (Qai S (Qaw m) t)
 | 0=>by
  have z:∀v d,Qaw m v=some d->v=m/\d=0:=λv d h=>by
   unfold Qaw at h;split at h
   .cases h;exact⟨by assumption,rfl⟩
   .cases h
  refine⟨by simp[Qai,Qaw],λv d h=>?_,λv d hv h=>?_,λv d hv h=>?_,λv h s hs e1 e h2=>?_⟩
  .obtain⟨rfl,rfl⟩:=z v d h;exact⟨⋯,⋯,⋯,λh=>absurd rfl h⟩
  .exact absurd (z v d h).1 hv
  .exact absurd (z v d h).1 hv
  .obtain⟨_,rfl⟩:=z _ _ h2;rfl
 | t+1=>by
  have I:=Qrl hS t;generalize hF:Qai S (Qaw m) t=F at I;have nx:∀v,Qai S (Qaw m) (t+1) v=if F v=none/\∃s∈S,s.1.toNat=v/\F s.2.toNat=some (t:Int)then some ((t:Int)+1)else F v:=λv=>by
   show S.foldl (Qcb t) (Qai S (Qaw m) t) v=_;rw[Qni,hF]
  generalize Qai S (Qaw m) (t+1)=F' at nx;have old:∀v d,F v=some d->F' v=some d:=λv d h=>by rw[nx,if_neg (by rw[h];simp)];exact h
  have new:∀v d,F' v=some d->F v=some d∨(F v=none/\d=t+1/\∃s∈S,s.1.toNat=v/\F s.2.toNat=some (t:Int)):=λv d h=>by
   rw[nx]at h;split at h
   .rename_i c;cases h;exact .inr ⟨c.1,rfl,c.2⟩
   .exact .inl h
  refine⟨old _ _ I.pit,λv d h=>?_,λv d hv h=>?_,λv d hv h s hs e1 e h2=>?_,λv h s hs e1 e h2=>?_⟩
  .rcases new v d h with h | ⟨h,rfl,s,hs,e1,_⟩
   .obtain⟨a,b,c,d⟩:=I.val v d h;exact⟨a,⋯,c,d⟩
   .have g:=hS s hs;exact⟨⋯,⋯,by have:=g.2.2.1;have:=g.1;omega,λ_=> ⋯⟩
  .rcases new v d h with h | ⟨h,rfl,s,hs,e1,e2⟩
   .obtain⟨s,hs,e1,e2⟩:=I.pred v d hv h;exact⟨s,hs,e1,old _ _ e2⟩
   .exact⟨s,hs,e1,by rw[old _ _ e2];congr 1;omega⟩
  .rcases new v d h with h | ⟨hq,rfl,_⟩
   .rcases new _ e h2 with h2 | ⟨_,rfl,_⟩
    .exact I.low v d hv h s hs e1 e h2
    .have:=(I.val v d h).2.1;omega
   .rcases new _ e h2 with h2 | ⟨_,rfl,_⟩
    .have:=I.non v hq s hs e1 e h2;omega
    .omega
  .rw[nx]at h;split at h
   .cases h
   .rename_i c;rcases new _ e h2 with h2 | ⟨_,rfl,_⟩
    .exact absurd ⟨h,s,hs,e1,by rw[h2,I.non v h s hs e1 e h2]⟩ c
    .omega
def Qkq:∀(m:Nat) (l:List Nat),l.Nodup->(∀x∈l,x<m)->l.length<=m
 | 0,l,_,h=>by cases l with
  | nil=>simp
  | cons x l=>exact absurd (h x Zi) ⋯
 | m+1,l,nd,h=>by
  by_cases hm:m∈l
  .have:=Qkq m (l.erase m) (nd.erase m) λx hx=>by
    have h1:=h x (List.mem_of_mem_erase hx);have h2:x≠m:=λz=>by subst z;exact(List.Nodup.not_mem_erase nd) hx
    omega
   rw[Zbu hm]at this;omega
  .have:=Qkq m l nd λx hx=>by
    have h1:=h x hx;have h2:x≠m:=λz=>hm (z▸hx);omega
   omega
def Qwe{m:Nat}{S:Lpp}(m0:0<m)(hS:∀s∈S,Good m s){v:Nat}(hv:v<m)(hn:Qai S (Qaw m) m v=none):∀s∈S,s.1.toNat=v->Qai S (Qaw m) m s.2.toNat=none:=λs hs e1=>by
 have I:=Qrl hS m;generalize Qai S (Qaw m) m=F at I hn;cases h:F s.2.toNat with
 | none=>rfl
 | some e=>
  exfalso;have he:=I.non v hn s hs e1 e h;have chain:∀k:Nat,k<=m->∃w,F w=some ((m:Int)-k):=λk=>by
   induction k with
   | zero=>intro _;exact⟨_,by rw[h,he];simp⟩
   | succ k ih=>
    intro hk;obtain⟨w,hw⟩:=ih ⋯;have hwm:w≠m:=λz=>by rw[z,I.pit]at hw;have:=Option.some.inj hw;omega
    obtain⟨s',_,_,h2⟩:=I.pred w _ hwm hw;exact⟨_,by rw[h2];congr 1;omega⟩
  have pick:∀k:Nat,∃w,k<m->F w=some ((k:Int)+1):=λk=>by
   by_cases hk:k<m
   .obtain⟨w,hw⟩:=chain (m-(k+1)) ⋯;exact⟨w,λ_=>by rw[hw];congr 1;omega⟩
   .exact⟨0,λz=>absurd z hk⟩
  obtain⟨f,this⟩:=Zcv pick;have hl:=Qkq m (v::(List.range m).map f) ?_ ?_
  .simp at hl;omega
  .refine Zan.mpr ⟨λhm=>?_,?_⟩
   .obtain⟨k,hk,ek⟩:=ZI.mp hm;have:=this k (Zj.mp hk);rw[ek,hn]at this;cases this
   .rw[List.nodup_iff_pairwise_ne,Zbl];refine Zcp ?_ Zbp;intro a b ha hb hab e;have h1:=this a (Zj.mp ha);have h2:=this b (Zj.mp hb);rw[e,h2]at h1;have:=Option.some.inj h1;omega
  .intro x hx;rcases Zk.mp hx with rfl | hx
   .exact hv
   .obtain⟨k,hk,rfl⟩:=ZI.mp hx;have h1:=this k (Zj.mp hk);have h2:=I.val _ _ h1;have h3:f k≠m:=λz=>by rw[z,I.pit]at h1;have:=Option.some.inj h1;omega
    omega
noncomputable def rd(R:Lpp)(k:Nat):Int×Int:=R.getD k (0,0)
def Qk3{R:Lpp}{k:Nat}(h:k<R.length):R[k]? =some (rd R k):=by
 unfold rd;rw[ZS,Zq h];rfl
def Qa2{R:Lpp}{k:Nat}(h:k<R.length):rd R k∈R:=ZC (Qk3 h)
def QpD{β:Type}(R:Lpp)(f:Int×Int->β):R.map f=(List.range R.length).map λk=>f (rd R k):=by
 refine Zaj λk=>?_;rw[Zh,Zh];by_cases h:k<R.length
 .rw[Qk3 h,ZL h];rfl
 .rw[Zt ⋯,Zt (by simp;omega)];rfl
def Qvr(R:Lpp):Qr R= .lst ((List.range R.length).map λk=>pairD (rd R k)):=by
 unfold Qr;rw[QpD R pairD]
noncomputable def Qbj(p:Nat)(s:Int×Int):Bool:=decide (s.1=(p:Int)) || decide (s.2=(p:Int))
noncomputable def oe(p:Nat)(s:Int×Int):Nat:=(s.1+s.2-p).toNat
def QbS{m:Nat}{s:Int×Int}(g:Good m s){p:Nat}(hi:Qbj p s=true):((s.1+s.2-p:Int)=oe p s)/\oe p s<=m/\oe p s≠p/\((s.1=p/\s.2=oe p s)∨(s.2=p/\s.1=oe p s)):=by
 obtain⟨g1,g2,g3,g4,g5⟩:=g;unfold Qbj at hi;unfold oe;simp only[Zbv,decide_eq_true_eq]at hi;rcases hi with h | h
 .refine⟨⋯,⋯,⋯,.inl ⟨h,⋯⟩⟩
 .refine⟨⋯,⋯,⋯,.inr ⟨h,⋯⟩⟩
noncomputable def QaP(R:Lpp)(p:Nat):List Nat:=(List.range R.length).filter λk=>Qbj p (rd R k)
def QfH{R:Lpp}{p k:Nat}:k∈QaP R p↔k<R.length/\Qbj p (rd R k)=true:=by
 unfold QaP;rw[ZA,Zj]
noncomputable def Q8(R:Lpp)(dep:Mt1)(p:Nat):List Nat:=(QaP R p).filter λk=>decide (dep (oe p (rd R k))=dep p-1)
noncomputable def Qbe(R:Lpp)(dep:Mt1)(p:Nat):List Nat:=(QaP R p).filter λk=>decide (dep (oe p (rd R k))<dep p-1)
noncomputable def Qch(t:List Nat):List Nat->Nat
 | []=>0
 | k::r=>if k∈t then 0 else Qch t r+1
noncomputable def Qci(R:Lpp)(dep:Mt1)(t:List Nat)(p:Nat):Int:=(QaP R p).length-1-(Qbe R dep p).length-Qch t (Q8 R dep p)
structure Ql6 (R:Lpp) (m:Nat) (t:List Nat) (dep:Mt1):Prop where
 tl:∀k∈t,k<R.length
 pit:dep m=0
 val:∀v,v<m->1<=dep v/\dep v<=m
 pred:∀v,v<m->∃k∈t,Qbj v (rd R k)=true/\dep (oe v (rd R k))=dep v-1
 low:∀v,v<m->∀k∈t,Qbj v (rd R k)=true->dep v-1<=dep (oe v (rd R k))
def len_sub{α:Type}[DecidableEq α]:∀{l K:List α},l.Nodup->(∀x∈l,x∈K)->l.length<=K.length
 | [],_,_,_=>Zaa _
 | a::l,K,nd,h=>by
  have h1:=Zan.mp nd;have ha:=h a ⋯;have:=len_sub (K:=K.erase a) h1.2 λx hx=>(ZbT (λe:x=a=>h1.1 (by rw[← e];exact hx))).mpr (h x (by simp[hx]));rw[Zbu ha]at this;have:0<K.length:=ZcA ha;simp;omega
def QuI{m:Nat}{R:Lpp}(hR:∀s∈R,Good m s)(p:Nat):((QaP R p).length:Int)=Q1 R [] p:=by
 rw[← QsX hR p];congr 1;have:R.filter (λs=>decide (s.1=(p:Int)) || decide (s.2=(p:Int)))=(QaP R p).map (rd R):=by
  have e:=QpD R id;rw[List.map_id]at e
  conv=>lhs;rw[e]
  rw[List.filter_map];rfl
 rw[this,Zc]
noncomputable def Qd5(R:Lpp)(dep:Mt1)(p:Nat):List Nat:=(QaP R p).filter λk=>decide (dep p<=dep (oe p (rd R k)))
def QiG{R:Lpp}{dep:Mt1}{p:Nat}:(QaP R p).length=(Q8 R dep p).length+(Qbe R dep p).length+(Qd5 R dep p).length:=by
 unfold Q8 Qbe Qd5
 induction QaP R p with
 | nil=>rfl
 | cons k r ih=>
  simp only[ZaD,Zy];by_cases a:dep (oe p (rd R k))=dep p-1
  .have b:¬dep (oe p (rd R k))<dep p-1:= ⋯
   have c:¬dep p<=dep (oe p (rd R k)):= ⋯
   simp only[decide_eq_true a,decide_eq_false b,decide_eq_false c,if_true,if_false,Zy,ZaM];omega
  .by_cases b:dep (oe p (rd R k))<dep p-1
   .have c:¬dep p<=dep (oe p (rd R k)):= ⋯
    simp only[decide_eq_false a,decide_eq_true b,decide_eq_false c,if_true,if_false,Zy,ZaM];omega
   .have c:dep p<=dep (oe p (rd R k)):= ⋯
    simp only[decide_eq_false a,decide_eq_false b,decide_eq_true c,if_true,if_false,Zy,ZaM];omega
noncomputable def QaB(R:Lpp)(t:List Nat):List (Int×Int):=t.map (rd R)
def QtJ{m:Nat}{R:Lpp}{t:List Nat}(hR:∀s∈R,Good m s)(ht:∀k∈t,k<R.length)(hF:∀v,v<m->Qai (Qi (QaB R t) []) (Qaw m) m v≠none):∃dep,Ql6 R m t dep/\∀v,v<m->Qai (Qi (QaB R t) []) (Qaw m) m v=some (dep v):=by
 have hT:∀s∈QaB R t,Good m s:=λs hs=>by
  obtain⟨k,hk,rfl⟩:=ZI.mp hs;exact hR _ (Qa2 (ht k hk))
 have gS:=Qbl (L:=[]) hT (λs hs=>absurd hs ⋯);have I:=Qrl gS m;generalize Qai (Qi (QaB R t) []) (Qaw m) m=F at *;have sm:∀s,s∈Qi (QaB R t) []↔s∈QaB R t∨s.swap∈QaB R t:=λs=>by
  unfold Qi;rw[Zad,ZJ,ZI];constructor
  .rintro(h | ⟨r,h,rfl⟩)
   .exact .inl h
   .exact .inr (by simpa using h)
  .rintro(h | h)
   .exact .inl h
   .exact .inr ⟨s.swap,h,⋯⟩
 have hv:∀v,v<m->F v=some ((F v).getD 0):=λv hv=>by
  cases e:F v with
  | none=>exact absurd e (hF v hv)
  | some d=>rfl
 have hm:F m=some ((F m).getD 0):=by rw[I.pit];rfl
 have hle:∀v,v<=m->F v=some ((F v).getD 0):=λv h=>by
  by_cases e:v=m
  .rw[e];exact hm
  .exact hv v ⋯
 refine⟨λv=>(F v).getD 0,⟨ht,by simp[I.pit],λv h=>?_,λv h=>?_,λv h k hk hi=>?_⟩,hv⟩
 .have:=I.val v _ (hv v h);exact⟨this.2.2.2 ⋯,this.2.1⟩
 .obtain⟨s,h1,h2,h3⟩:=I.pred v _ ⋯ (hv v h);have e1:∃k∈t,Qbj v (rd R k)=true/\oe v (rd R k)=s.2.toNat:=by
   have gs:=gS s h1;obtain⟨g1,g2,g3,g4,g5⟩:=gs;rcases(sm s).mp h1 with h | h
   .obtain⟨k,hk,rfl⟩:=ZI.mp h;refine⟨k,hk,?_,?_⟩
    .unfold Qbj;simp;omega
    .unfold oe;omega
   .obtain⟨k,hk,e⟩:=ZI.mp h;have e1:(rd R k).1=s.2:=by rw[e];rfl
    have e2:(rd R k).2=s.1:=by rw[e];rfl
    refine⟨k,hk,?_,?_⟩
    .unfold Qbj;simp;omega
    .unfold oe;omega
  obtain⟨k,hk,i1,i2⟩:=e1;refine⟨k,hk,i1,?_⟩;rw[i2,h3];rfl
 .have hg:=hR _ (Qa2 (ht k hk));obtain⟨o1,o2,o3,o4⟩:=QbS hg hi;obtain⟨g1,g2,g3,g4,g5⟩:=hg;have mem:rd R k∈QaB R t:=ZI.mpr ⟨k,hk,rfl⟩;rcases o4 with⟨a,b⟩ | ⟨a,b⟩
  .refine I.low v _ ⋯ (hv v h) (rd R k) ((sm _).mpr (.inl mem)) ⋯ _ ?_;rw[show(rd R k).2.toNat=oe v (rd R k) by omega];exact hle _ o2
  .refine I.low v _ ⋯ (hv v h) (rd R k).swap ((sm _).mpr (.inr (by simpa using mem))) (by simp;omega) _ ?_;rw[show(rd R k).swap.2.toNat=oe v (rd R k) by simp;omega];exact hle _ o2
noncomputable def QcI(R:Lpp)(g:Mt1)(k:Nat):Nat->Int:=
 let a:=(rd R k).1.toNat
 let b:=(rd R k).2.toNat
 let g1:=up g a (if g b+1<g a then g b+1 else g a)
 up g1 b (if g1 a+1<g1 b then g1 a+1 else g1 b)
def Qol{m:Nat}{R:Lpp}(g:Mt1){k:Nat}(hg:Good m (rd R k))(v:Nat):QcI R g k v<=g v:=by
 obtain⟨g1,g2,g3,g4,g5⟩:=hg;have n:¬(rd R k).2.toNat=(rd R k).1.toNat:= ⋯
 have n':¬(rd R k).1.toNat=(rd R k).2.toNat:= ⋯
 unfold QcI;simp only[QbC];by_cases a:v=(rd R k).2.toNat
 .subst a;simp only[if_true,n,n',if_false]
  repeat' split
  all_goals omega
 .by_cases b:v=(rd R k).1.toNat
  .subst b;simp only[if_true,n,n',if_false];split<;>omega
  .simp only[a,b,if_false];exact Zak _
def Qva{m:Nat}{R:Lpp}{dep g:Mt1}{k:Nat}(hg:Good m (rd R k))(h1:dep (rd R k).1.toNat<=dep (rd R k).2.toNat+1)(h2:dep (rd R k).2.toNat<=dep (rd R k).1.toNat+1)(hb:∀v,v<=m->dep v<=g v)(v:Nat)(hv:v<=m):dep v<=QcI R g k v:=by
 obtain⟨g1,g2,g3,g4,g5⟩:=hg;have n:¬(rd R k).2.toNat=(rd R k).1.toNat:= ⋯
 have n':¬(rd R k).1.toNat=(rd R k).2.toNat:= ⋯
 have b1:=hb (rd R k).1.toNat ⋯;have b2:=hb (rd R k).2.toNat ⋯;have b3:=hb v hv;unfold QcI;simp only[QbC];by_cases a:v=(rd R k).2.toNat
 .subst a;simp only[if_true,n,n',if_false]
  repeat' split
  all_goals omega
 .by_cases b:v=(rd R k).1.toNat
  .subst b;simp only[if_true,n,n',if_false];split<;>omega
  .simp only[a,b,if_false];exact b3
def Qud{m:Nat}{R:Lpp}(g:Mt1){k:Nat}(hg:Good m (rd R k)){v:Nat}(hi:Qbj v (rd R k)=true):QcI R g k v<=g (oe v (rd R k))+1:=by
 obtain⟨o1,o2,o3,o4⟩:=QbS hg hi;obtain⟨g1,g2,g3,g4,g5⟩:=hg;have n:¬(rd R k).2.toNat=(rd R k).1.toNat:= ⋯
 have n':¬(rd R k).1.toNat=(rd R k).2.toNat:= ⋯
 unfold QcI;simp only[QbC];rcases o4 with⟨a,b⟩ | ⟨a,b⟩
 .have e1:v=(rd R k).1.toNat:= ⋯
  have e2:oe v (rd R k)=(rd R k).2.toNat:= ⋯
  rw[e2,e1];simp only[if_true,n,n',if_false];split<;>omega
 .have e1:v=(rd R k).2.toNat:= ⋯
  have e2:oe v (rd R k)=(rd R k).1.toNat:= ⋯
  rw[e2,e1];simp only[if_true,n,n',if_false]
  repeat' split
  all_goals omega
noncomputable def roundF(R:Lpp)(t:List Nat)(g:Mt1):Nat->Int:=t.foldl (QcI R) g
noncomputable def Qcq(R:Lpp)(m:Nat)(t:List Nat):Nat->Nat->Int
 | 0=>λv=>if v<m then(m:Int)+1 else 0
 | k+1=>roundF R t (Qcq R m t k)
def QjY{m:Nat}{R:Lpp}{dep:Mt1}(hR:∀s∈R,Good m s)(he:∀k,k<R.length->True):∀(t:List Nat) (g:Mt1),(∀k∈t,k<R.length/\dep (rd R k).1.toNat<=dep (rd R k).2.toNat+1/\dep (rd R k).2.toNat<=dep (rd R k).1.toNat+1)->(∀v,v<=m->dep v<=g v)→
  (∀v,v<=m->dep v<=roundF R t g v)/\(∀v,roundF R t g v<=g v)/\∀k∈t,∀v,Qbj v (rd R k)=true->roundF R t g v<=g (oe v (rd R k))+1
 | [],g,_,hb=>⟨hb,λv=>Zak _,λk hk=>absurd hk ⋯⟩
 | k::t,g,ht,hb=>by
  obtain⟨k1,k2,k3⟩:=ht k ⋯;have hg:=hR _ (Qa2 k1);obtain⟨i1,i2,i3⟩:=QjY hR he t (QcI R g k) (λk hk=>ht k (by simp[hk])) (Qva hg k2 k3 hb);refine⟨i1,λv=>ZbZ (i2 v) (Qol g hg v),λk' hk' v hi=>?_⟩;rcases Zk.mp hk' with e | e
  .subst e;exact ZbZ (i2 v) (Qud g hg hi)
  .refine ZbZ (i3 k' e v hi) ?_;have:=Qol g hg (oe v (rd R k'));omega
def Qqv{m:Nat}{R:Lpp}{t:List Nat}{dep:Mt1}(hR:∀s∈R,Good m s)(D:Ql6 R m t dep):∀v,v<=m->Qcq R m t m v=dep v:=by
 have near1:∀v,v<=m->∀k∈t,Qbj v (rd R k)=true->dep v<=dep (oe v (rd R k))+1:=λv hv k hk hi=>by
  by_cases e:v=m
  .have ho:=(QbS (hR _ (Qa2 (D.tl k hk))) hi);have:=D.val (oe v (rd R k)) ⋯;rw[e,D.pit];rw[e]at this;omega
  .have:=D.low v ⋯ k hk hi;omega
 have cond:∀k∈t,k<R.length/\dep (rd R k).1.toNat<=dep (rd R k).2.toNat+1/\dep (rd R k).2.toNat<=dep (rd R k).1.toNat+1:=λk hk=>by
  have hg:=hR _ (Qa2 (D.tl k hk));obtain⟨g1,g2,g3,g4,g5⟩:=hg;refine⟨D.tl k hk,?_,?_⟩
  .have:=near1 (rd R k).1.toNat ⋯ k hk (by unfold Qbj;simp;omega);rw[show oe (rd R k).1.toNat (rd R k)=(rd R k).2.toNat by unfold oe;omega]at this;exact this
  .have:=near1 (rd R k).2.toNat ⋯ k hk (by unfold Qbj;simp;omega);rw[show oe (rd R k).2.toNat (rd R k)=(rd R k).1.toNat by unfold oe;omega]at this;exact this
 have main:∀i:Nat,(∀v,v<=m->dep v<=Qcq R m t i v)/\∀v,v<=m->dep v<=i->Qcq R m t i v<=dep v:=by
  intro i
  induction i with
  | zero=>
   refine⟨λv hv=>?_,λv hv h=>?_⟩
   .show dep v<=if v<m then(m:Int)+1 else 0;by_cases e:v<m
    .rw[if_pos e];have:=(D.val v e).2;omega
    .rw[if_neg e,show v=m by omega,D.pit];exact Zak _
   .show(if v<m then(m:Int)+1 else 0)<=dep v;by_cases e:v<m
    .have:=(D.val v e).1;omega
    .rw[if_neg e,show v=m by omega,D.pit];exact Zak _
  | succ i ih=>
   obtain⟨f1,f2,f3⟩:=QjY hR (λ_ _=>trivial) t (Qcq R m t i) cond ih.1;refine⟨f1,λv hv h=>?_⟩;by_cases e:dep v<=i
   .exact ZbZ (f2 v) (ih.2 v hv e)
   .have hvm:v<m:=by
     by_cases q:v=m
     .rw[q,D.pit]at e;omega
     .omega
    obtain⟨k,k1,k2,k3⟩:=D.pred v hvm;have ho:=QbS (hR _ (Qa2 (D.tl k k1))) k2;have:=f3 k k1 v k2;have:=ih.2 _ ho.2.1 ⋯;show roundF R t (Qcq R m t i) v<=dep v;omega
 intro v hv;have h1:=(main m).1 v hv;have h2:dep v<=m:=by
  by_cases e:v=m
  .rw[e,D.pit];omega
  .exact(D.val v ⋯).2
 have:=(main m).2 v hv h2;omega
def Qqr{fa fb:DE}{U:En}{ra rb:R}{A:Lpp}{i:Int}{s:Int×Int}(ha:fa U=some ra)(ea:ra.d=Qr A)(hb:fb U=some rb)(eb:rb.d= .int i)(h0:0<=i)(h:A[i.toNat]? =some s):Qf fa fb U=some ⟨pairD s,true,[]⟩:=by
 have hl:i<A.length:=by have:=(Ze.mp h).1;omega
 unfold Qf;rw[ha,Za,hb,Za,ea,eb];simp only[Qr,D.items,Za];rw[QfC h0 (by simpa using hl),Zh,h];rfl
def QhM{fa fb:DE}{U:En}{ra rb:R}{R:Lpp}{k:Nat}(ha:fa U=some ra)(ea:ra.d=Qr R)(hb:fb U=some rb)(eb:rb.d= .int k)(h:k<R.length):Qf fa fb U=some ⟨pairD (rd R k),true,[]⟩:=Qqr ha ea hb eb ⋯ (by rw[Zl];exact Qk3 h)
structure QjC (R:Lpp) (m:Nat) (t:List Nat):Prop where
 len:t.length=m
 inc:t.Pairwise (· < ·)
 lt:∀k∈t,k<R.length
 con:∀v,v<m->Qai (Qi (QaB R t) []) (Qaw m) m v≠none
noncomputable def Qnv(Qhg:Den):DS:=(Qc (QH (Qm 3 Qhg [] (Qa (Qf vv0 kk0) (Qa (QO (QT vv1) (.nm 1) [none,none,some 0] QaR (Qf (Qf vv2 kk1) vv1)) (Qa (QE Qb) Qb))))) Qj)
def QiI(d:Den):Prop:=∀(m:Nat) (R:Lpp) (t:List Nat),0<m->m<=8->t.length<=64->(∀s∈R,Good m s)->(∀k∈t,k<R.length)->d [Qd m R [],Qg t]=some (Qae m (Qai (Qi (QaB R t) []) (Qaw m) m),true)
def Qyd{dl:Den}(hl:QlW dl):QiI (Qx 2 (Qnv dl)):=λm R t m0 m8 ht hR hlt=>by
 have hT:∀s∈QaB R t,Good m s:=λs hs=>by
  obtain⟨k,hk,rfl⟩:=ZI.mp hs;exact hR _ (Qa2 (hlt k hk))
 have el:=hl m (QaB R t) [] m0 ⋯ (by simp[QaB];omega) hT (λs hs=>absurd hs ⋯)
 have ec:=Qa1 (fi:=QT (Qh 1)) (t:= .nm 1) (cap:=[none,none,some 0]) (fe:=Qf (Qf (Qh 2) (dC (.int 1))) (Qh 1)) (U:=[slF (Qd m R []),slF (Qg t)])
  (toD:=λ(k:Nat)=> .int (k:Int)) (out:=λ(k:Nat)=>pairD (rd R k)) t (Qbb (r:=reF (Qg t)) rfl rfl) rfl λk hk=>⟨[none,slI k,slF (Qd m R [])],rfl,⟨pairD (rd R k),true,[]⟩,QhM (R:=R) (k:=k) (Qaz (m:=m) (R:=R) (L:=[]) (Q3 (d:=Qd m R []) (b:=false) rfl) rfl).2.1 rfl (rb:=reI k) rfl rfl (hlt k hk),rfl,rfl⟩
 have e:D.lst (t.map λk=>pairD (rd R k))=Qr (QaB R t):=by unfold Qr QaB;rw[ZO];rfl
 rw[e]at ec;refine Q2 (QK (Qt (Qo (r:=reI m) rfl (Qo ec (Qo (r:=reT (Qr [])) rfl (QI _)))) el rfl) ⟨rfl,rfl⟩)
noncomputable def QdJ(Q5:Den):DS:=(Qc (sIf (Qs (dOp gNe (dBf Q6 (Qa vv1 Qb)) (Qf vv0 kk0))) (Qc Qu Qj) Qj) (Qc (sIf (Qs (dBf Qft (Qa (QO (QcP vv1 (Qad vv1 (QS kk1) QZ)) (.tp [1,2]) [none,none,none] QaR (dOp gGe vv1 vv2)) Qb))) (Qc Qu Qj) Qj) (Qc (sIf (bOr (Qs (dOp gLt (Qf vv1 kk0) kk0)) (Qs (dOp gGe (Qf vv1 (Qcx kk1)) (dBf Q6 (Qa (Qf vv0 kk1) Qb))))) (Qc Qu Qj) Qj) (Qc (sIf (Qs (dOp (gIn false) (dC .non) (Qm 2 Q5 [] (Qa vv0 (Qa vv1 Qb))))) (Qc Qu Qj) Qj) Qj))))
def Qjo{t:List Nat}(h:t.Pairwise (· < ·)){i j a b:Nat}(hi:t[i]? =some a)(hj:t[j]? =some b)(hij:i<j):a<b:=by
 obtain⟨i1,i2⟩:=Ze.mp hi;obtain⟨j1,j2⟩:=Ze.mp hj;rw[← i2,← j2];exact Zcf.mp h i j i1 j1 hij
def Qq0{fa:DE}{U:En}{r:R}{bs:List Bool}(h:fa U=some r)(e:r.d= .lst (bs.map .bl)):dBf Qft (Qa fa Qb) U=some (reT (.bl (bs.any id))):=by
 unfold dBf;rw[Qo h (QI _),Za];simp only[e,Qft,Qmk,ZT]
def QuG(t:List Nat):Qd6 (t.map λ(p:Nat)=>D.int (p:Int)) ((t.drop 1).map λ(p:Nat)=>D.int (p:Int))=(t.zip (t.drop 1)).map λq=> .tup [.int (q.1:Int),.int (q.2:Int)]:=by
 unfold Qd6;rw[List.zip_map,ZO];rfl
def QlM{α:Type}{xs:List α}(h:0<xs.length):atI xs (-1)=xs[xs.length-1]? :=by
 unfold atI ixN;rw[if_neg ∅,if_pos ⋯];show xs[((-1:Int)+xs.length).toNat]? =_;congr 1;omega
def Qmx(d:Den):Prop:=∀(m:Nat) (R:Lpp) (t:List Nat),0<m->m<=8->(∀s∈R,Good m s)->QjC R m t->d [Qd m R [],Qg t]=some (.non,true)
def QvZ{dd:Den}(hd:QiI dd):Qmx (Qx 2 (QdJ dd)):=λm R t m0 m8 hR T=>by
 have ed:=hd m R t m0 m8 (by rw[T.len];omega) hR T.lt;have hne:0<t.length:=by rw[T.len];exact m0
 obtain⟨a0,ha0⟩:∃a,t[0]? =some a:=⟨_,Zq hne⟩;obtain⟨az,haz⟩:∃a,t[t.length-1]? =some a:=⟨_,Zq ⋯⟩;have hz:=T.lt az (ZC haz);have key:Run (QdJ dd) (QaS 2 [Qd m R [],Qg t]) (Nx λ_=>True):=by
  refine run_seq (QL (b:=false) (Qz (b:=false) (r:=reT (.bl false)) ((QdF (a:=m) (b:=m) ((Qhk (l:=t) (r:=reF (Qg t)) rfl rfl).trans (by rw[T.len])) rfl (rb:=reI m) rfl rfl).trans ⋯) rfl) (λh=>by cases h) (λ_=>Qq ?_))
  have ec:=Qa1 (fi:=QcP (Qh 1) (Qad (Qh 1) (QS (dC (.int 1))) QZ)) (t:= .tp [1,2]) (cap:=[none,none,none]) (fe:=dOp gGe (Qh 1) (Qh 2)) (U:=[slF (Qd m R []),slF (Qg t)])
   (toD:=λ(q:Nat×Nat)=> .tup [.int (q.1:Int),.int (q.2:Int)]) (out:=λ(q:Nat×Nat)=> .bl (decide ((q.2:Int)<=q.1))) (t.zip (t.drop 1)) (ir:=⟨Qd6 (t.map λ(p:Nat)=>D.int (p:Int)) ((t.drop 1).map λ(p:Nat)=>D.int (p:Int)),[]⟩) (by
    unfold QcP;rw[Qy6 (l:=t) (n:=1) (ra:=reF (Qg t)) (rb:=reI 1) rfl rfl rfl rfl];rfl) (QuG t) λq _=>⟨[none,slI q.1,slI q.2],rfl,reT (.bl (decide ((q.2:Int)<=q.1))),rfl,rfl,rfl⟩
  have ea:=Qq0 (bs:=(t.zip (t.drop 1)).map λq=>decide ((q.2:Int)<=q.1)) ec (by rw[ZO];rfl);have hany:((t.zip (t.drop 1)).map λq=>decide ((q.2:Int)<=q.1)).any id=false:=by
   rw[Zax];intro b hb;obtain⟨q,hq,rfl⟩:=ZI.mp hb;obtain⟨i,hi⟩:=Zap hq;rw[ZaP,Zbe]at hi;have:=Qjo T.inc hi.1 hi.2 ⋯;simp;omega
  rw[hany]at ea;refine run_seq (QL (b:=false) (Qz (b:=false) ea rfl) (λh=>by cases h) (λ_=>Qq ?_));refine run_seq (QL (b:=false) ((QbU (a:=false) (b:=false) (Qz (b:=false) (QY (d:= .bl false) (rb:=reI 0) (Qev (l:=t) (i:=0) (v:=a0) (ra:=reF (Qg t)) (rb:=reI 0) rfl rfl rfl rfl ∅ ha0) rfl ?_) rfl) (Qz (b:=false) (QY (d:= .bl false) (ra:=reI az) (rb:=reI R.length) ?_ ?_ ?_) rfl)).trans rfl) (λh=>by cases h) (λ_=>Qq ?_))
  .show some (D.bl (decide ((a0:Int)<0)))=_;rw[decide_eq_false ⋯]
  .unfold Qf;show((D.items (Qg t)).bind λxs=>(atI xs (-1)).map λd=>(HS.R.mk d false []).norm)=_;unfold Qg;simp only[D.items,Za];rw[QlM (by rw[Zc];exact hne),Zc,Zh,haz];rfl
  .rw[Qbp (xs:=R.map pairD) (Qaz (m:=m) (R:=R) (L:=[]) (Q3 (d:=Qd m R []) (b:=false) rfl) rfl).2.1 rfl,Zc]
  .show some (D.bl (decide ((R.length:Int)<=(az:Int))))=_;rw[decide_eq_false ⋯]
  refine run_seq (QL (b:=false) (Qz (b:=false) (r:=reT (.bl false)) ((Qi4 (neg:=false) (m:=m) (F:=Qai (Qi (QaB R t) []) (Qaw m) m) (Qt (r:=⟨[Qd m R [],Qg t],false,[]⟩) rfl ed rfl) rfl).trans ?_) rfl) (λh=>by cases h) (λ_=>Qq (Qq trivial)));have:((List.range m).any λi=>(Qai (Qi (QaB R t) []) (Qaw m) m i).isNone)=false:=by
   rw[Zax];intro i hi;have:=T.con i (Zj.mp hi);cases e:Qai (Qi (QaB R t) []) (Qaw m) m i with
   | none=>exact absurd e this
   | some d=>simp
  rw[this];rfl
 obtain⟨o,h1,h2⟩:=key;unfold Qx;rw[h1];cases o with
 | nx U=>rfl
 | _=>exact h2.elim
noncomputable def QpY:DS:=(Qc (QH (QO (Qbs (Qf vv0 kk1)) (.tp [1,2]) [none,none,none,some 1] (Qs (dOp (gIn false) vv3 vv2)) (Qal (Qa vv1 (Qa (dOp Qa6 (dBf QeX (Qa vv2 Qb)) vv3) Qb))))) Qj)
noncomputable def QnU(R:Lpp)(p:Nat):D:= .lst ((QaP R p).map λ(k:Nat)=> .tup [.int (k:Int),.int (oe p (rd R k):Int)])
def QlZ(d:Den):Prop:=∀(m:Nat) (R:Lpp) (p:Nat),(∀s∈R,Good m s)->d [Qd m R [],.int p]=some (QnU R p,true)
def Qxg{fa:DE}{U:En}{r:R}{s:Int×Int}(h:fa U=some r)(e:r.d=pairD s):dBf QeX (Qa fa Qb) U=some (reI (s.1+s.2)):=by
 unfold dBf;rw[Qo h (QI _),Za];have:Qb1 [D.int s.1,D.int s.2]=some [s.1,s.2]:=rfl;simp only[e,pairD,QeX,this,ZT];simp
def Qvq:QlZ (Qx 2 QpY):=λm R p hR=>by
 have ec:=Qc1 (fi:=Qbs (Qf (Qh 0) (dC (.int 1)))) (t:= .tp [1,2]) (cap:=[none,none,none,some 1]) (ft:=Qs (dOp (gIn false) (Qh 3) (Qh 2))) (fe:=Qal (Qa (Qh 1) (Qa (dOp Qa6 (dBf QeX (Qa (Qh 2) Qb)) (Qh 3)) Qb))) (U:=[slF (Qd m R []),slI p])
  (toD:=λ(k:Nat)=> .tup [.int (k:Int),pairD (rd R k)]) (keep:=λk=>Qbj p (rd R k)) (out:=λ(k:Nat)=> .tup [.int (k:Int),.int (oe p (rd R k):Int)]) (List.range R.length) (ir:=⟨Qc4 ((List.range R.length).map λk=>pairD (rd R k)),[]⟩) (by
   unfold Qbs;rw[(Qaz (m:=m) (R:=R) (L:=[]) (Q3 (d:=Qd m R []) (b:=false) rfl) rfl).2.1,Za,Qvr R];rfl) (Qlr (α:=Nat) _ _) λk hk=>⟨[none,slI k,some (pairD (rd R k),true),slI p],rfl,Qz (QA7 (x:=p) (s:=rd R k) (ra:=reI p) (rb:=⟨pairD (rd R k),true,[]⟩) rfl rfl rfl rfl) rfl,λhi=>⟨(reT (.tup [.int (k:Int),.int (oe p (rd R k):Int)])),?_,rfl,rfl⟩⟩
 .exact Q2 (QK ec ⟨rfl,rfl⟩)
 .have ho:=(QbS (hR _ (Qa2 (Zj.mp hk))) hi).1;unfold Qal;refine(congrArg (λz=>Option.bind z _) (Qo (r:=reI k) rfl (Qo (QY (d:= .int (oe p (rd R k):Int)) (rb:=reI p) (Qxg (s:=rd R k) (r:=⟨pairD (rd R k),true,[]⟩) rfl rfl) rfl ?_) (QI _)))).trans ?_
  .show some (D.int ((rd R k).1+(rd R k).2-(p:Int)))=_;rw[ho]
  .rfl
noncomputable def Qnw(QeR:Den):DS:=(Qc (Qy 3 (Qm 2 QeR [] (Qa vv0 (Qa vv1 Qb)))) (Qc (Qy 4 (dOp Qa6 (Qf vv2 vv1) kk1)) (Qc (Qy 5 (QO (QT vv3) (.tp [1,2]) [none,none,none,some 4,some 2] (Qs (dOp gEq (Qf vv4 vv2) vv3)) vv1)) (Qc (Qy 6 (QO (QT vv3) (.tp [1,2]) [none,none,none,some 4,some 2] (Qs (dOp gLt (Qf vv4 vv2) vv3)) vv1)) (Qc (QH (Qal (Qa vv5 (Qa (dOp Qa6 (dOp Qa6 (dBf Q6 (Qa vv3 Qb)) kk1) (dBf Q6 (Qa vv6 Qb))) Qb)))) Qj)))))
def Qn1(d:Den):Prop:=∀(m:Nat) (R:Lpp) (p:Nat) (dep:Mt1),p<m->(∀s∈R,Good m s)->d [Qd m R [],.int p,Qe (m+1) dep]=some (.tup [Qg (Q8 R dep p),.int ((QaP R p).length-1-(Qbe R dep p).length)],true)
def QAZ{de:Den}(he:QlZ de):Qn1 (Qx 7 (Qnw de)):=λm R p dep hp hR=>by
 have ee:=he m R p hR;refine Q2 ?_;refine rsa (Qt (r:=⟨[Qd m R [],.int p],false,[]⟩) rfl ee rfl) ?_;refine rsa (QY (d:= .int (dep p-1)) (rb:=reI 1) (Qa0 (m:=m+1) (f:=dep) (i:=p) (ra:=reF (Qe (m+1) dep)) (rb:=reI p) rfl rfl rfl rfl ⋯) rfl rfl) ?_;have sel:∀(g:D->D->Option D) (C:Int->Int->Bool) (x5:Option (D×Bool)),(∀a b:Int,g (.int a) (.int b)=some (.bl (C a b)))->QO (QT (Qh 3)) (.tp [1,2]) [none,none,none,some 4,some 2] (Qs (dOp g (Qf (Qh 4) (Qh 2)) (Qh 3))) (Qh 1) [slF (Qd m R []),slI p,slF (Qe (m+1) dep),some (QnU R p,true),slI (dep p-1),x5,none]=some (reT (Qg ((QaP R p).filter λk=>C (dep (oe p (rd R k))) (dep p-1)))):=λg C x5 hg=>
  Qc1 (toD:=λ(k:Nat)=> .tup [.int (k:Int),.int (oe p (rd R k):Int)]) (keep:=λk=>C (dep (oe p (rd R k))) (dep p-1)) (out:=λ(k:Nat)=> .int (k:Int)) (QaP R p) (Qbb (r:=⟨QnU R p,true,[3]⟩) rfl rfl) rfl λk hk=>by
   obtain⟨k1,k2⟩:=QfH.mp hk;have ho:=(QbS (hR _ (Qa2 k1)) k2).2.1;refine⟨[none,slI k,slI (oe p (rd R k):Int),slI (dep p-1),slF (Qe (m+1) dep)],rfl,Qz (QY (d:= .bl (C (dep (oe p (rd R k))) (dep p-1))) (rb:=reI (dep p-1)) (Qa0 (m:=m+1) (f:=dep) (i:=oe p (rd R k)) (ra:=reF (Qe (m+1) dep)) (rb:=reI (oe p (rd R k):Int)) rfl rfl rfl rfl ⋯) rfl (hg _ _)) rfl,λ_=>⟨(reI k),rfl,rfl,rfl⟩⟩
 refine run_seq (Qat (sel gEq (λa b=>decide (a=b)) none λa b=>by
  show(if(D.int a).sim 8 && (D.int b).sim 8 then some (D.bl (deq (.int a) (.int b)))else none)=_;rw[QeQ];rfl) ?_)
 rw[Qbu];refine rsa (sel gLt (λa b=>decide (a<b)) _ λa b=>rfl) ?_;refine QK (r:=⟨.tup [Qg (Q8 R dep p),.int ((QaP R p).length-1-(Qbe R dep p).length)],true,[5]⟩) ?_ ⟨rfl,rfl⟩;unfold Qal;have el:∀U:En,U[3]? =some (some (QnU R p,true))->dBf Q6 (Qa (Qh 3) Qb) U=some (reT (.int (QaP R p).length)):=λU h=>by
  rw[Qbp (xs:=(QaP R p).map λ(k:Nat)=> .tup [.int (k:Int),.int (oe p (rd R k):Int)]) (Q3 h) rfl,Zc]
 refine(congrArg (λz=>Option.bind z _) (Qo (r:=⟨Qg (Q8 R dep p),true,[5]⟩) rfl (Qo (QY (d:= .int ((QaP R p).length-1-(Qbe R dep p).length)) (QY (d:= .int ((QaP R p).length-1)) (rb:=reI 1) (el _ rfl) rfl rfl) (Qhk (l:=Qbe R dep p) (r:=⟨Qg (Qbe R dep p),true,[6]⟩) rfl rfl) rfl) (QI _)))).trans ?_;rfl
noncomputable def Qgl(QN:Den)(Qa8:Den)(Q5:Den)(QW:Den):DS:=(Qc (Qaj (Qm 1 QN [] (Qa vv0 Qb))) (Qc (Qaj (Qm 2 Qa8 [] (Qa vv0 (Qa vv1 Qb)))) (Qc (Qy 2 (QA (Qm 2 Q5 [] (Qa vv0 (Qa vv1 Qb))) (QE (Qa kk0 Qb)))) (Qc (Qy 3 (QE Qb)) (Qc (QaH (Qan (Qf vv0 kk0)) (.nm 4) (Qc (Qy 5 (Qm 3 QW [] (Qa vv0 (Qa vv4 (Qa vv2 Qb))))) (Qc (Qy 6 (QO (Qbs (Qf vv5 kk0)) (.tp [1,2]) [none,none,none,some 1] (Qs (dOp (gIn false) vv2 vv3)) vv1)) (Qc (Qb5 3 Qak (dOp Qa6 (Qf vv5 kk1) (Qf vv6 kk0))) Qj)))) (Qc (QH vv3) Qj))))))
def QlD{t:List Nat}:∀(l:List Nat) (b:Nat),(∃k∈l,k∈t)->∃r,((l.zipIdx b).filter λq=>t.contains q.1).map (·.2)=(b+Qch t l)::r
 | [],_,⟨_,h,_⟩=>by simp at h
 | a::l,b,⟨k,h1,h2⟩=>by
  rw[List.zipIdx_cons,ZaD];by_cases e:a∈t
  .rw[if_pos (by simpa using e),Zv];unfold Qch;rw[if_pos e];exact⟨_,rfl⟩
  .rw[if_neg (by simpa using e)];have hk:k∈l:=by
    rcases Zk.mp h1 with z | z
    .rw[z]at h2;exact absurd h2 e
    .exact z
   obtain⟨r,hr⟩:=QlD l (b+1) ⟨k,hk,h2⟩;unfold Qch;rw[if_neg e];exact⟨r,by rw[hr];congr 1;omega⟩
def Qki(d:Den):Prop:=∀(m:Nat) (R:Lpp) (t:List Nat) (dep:Mt1),0<m->m<=8->R.length<=200->(∀s∈R,Good m s)->QjC R m t->Ql6 R m t dep->(∀v,v<m->Qai (Qi (QaB R t) []) (Qaw m) m v=some (dep v))->d [Qd m R [],Qg t]=some (Qe m (Qci R dep t),true)
def QsR{dp dn dd dw:Den}(hp:QeE dp)(hn:Qmx dn)(hd:QiI dd)(hw:Qn1 dw):Qki (Qx 7 (Qgl dp dn dd dw)):=λm R t dep m0 m8 hRl hR T Dp hF=>by
 have ed:=hd m R t m0 m8 (by rw[T.len];omega) hR T.lt;have efar:Qae m (Qai (Qi (QaB R t) []) (Qaw m) m)=Qe m dep:=by
  unfold Qae Qe;congr 1;exact ZM λv hv=>by rw[hF v (Zj.mp hv)];rfl
 rw[efar]at ed;refine Q2 ?_;refine run_seq (Qcp (Qt (r:=⟨[Qd m R []],false,[]⟩) rfl (hp m R) rfl) ?_);refine run_seq (Qcp (Qt (r:=⟨[Qd m R [],Qg t],false,[]⟩) rfl (hn m R t m0 m8 hR T) rfl) ?_);refine rsa (Qir (m:=m) (f:=dep) (Qt (r:=⟨[Qd m R [],Qg t],false,[]⟩) rfl ed rfl) rfl ⋯) ?_;have edep:Qe (m+1) (QhB m dep)=Qe (m+1) dep:=Ql8 λj hj=>by
  unfold QhB;by_cases e:j<m
  .rw[if_pos e]
  .rw[if_neg e,show j=m by omega,Dp.pit]
 rw[edep];refine rsa (d:=Qe 0 (Qci R dep t)) rfl ?_;refine QaO (P:=λU=>∃j4 j5 j6,U=[slF (Qd m R []),slF (Qg t),slT (Qe (m+1) dep),slT (Qe m (Qci R dep t)),j4,j5,j6]) ?_ ?_
 .refine QaA (toD:=λ(k:Nat)=> .int (k:Int)) (List.range m) (λi U=>∃j4 j5 j6,U=[slF (Qd m R []),slF (Qg t),slT (Qe (m+1) dep),slT (Qe i (Qci R dep t)),j4,j5,j6]) (Qbi (n:=m) (r:=reI m) rfl rfl ⋯) rfl ⟨none,none,none,rfl⟩ ?_ ?_
  .rintro i i' U hi ⟨j4,j5,j6,rfl⟩;obtain⟨him,rfl⟩:=Qeq hi;refine⟨[slF (Qd m R []),slF (Qg t),slT (Qe (m+1) dep),slT (Qe i (Qci R dep t)),slI i,j5,j6],rfl,?_⟩;refine rsa (Qt (r:=⟨[Qd m R [],.int i,Qe (m+1) dep],false,[2]⟩) rfl (hw m R i dep him hR) rfl) ?_;obtain⟨k0,hk1,hk2,hk3⟩:=Dp.pred i him;obtain⟨r,hr⟩:=QlD (t:=t) (Q8 R dep i) 0 ⟨k0,ZA.mpr ⟨QfH.mpr ⟨Dp.tl k0 hk1,hk2⟩,decide_eq_true hk3⟩,hk1⟩
   have ec:=Qc1 (fi:=Qbs (Qf (Qh 5) (dC (.int 0)))) (t:= .tp [1,2]) (cap:=[none,none,none,some 1]) (ft:=Qs (dOp (gIn false) (Qh 2) (Qh 3))) (fe:=Qh 1) (U:=[slF (Qd m R []),slF (Qg t),slT (Qe (m+1) dep),slT (Qe i (Qci R dep t)),slI i,slT (.tup [Qg (Q8 R dep i),.int ((QaP R i).length-1-(Qbe R dep i).length)]),j6])
    (toD:=λ(q:Nat×Nat)=> .tup [.int (q.2:Int),.int (q.1:Int)]) (keep:=λq=>t.contains q.1) (out:=λ(q:Nat×Nat)=> .int (q.2:Int)) ((Q8 R dep i).zipIdx 0) (ir:=⟨Qc4 ((Q8 R dep i).map λ(p:Nat)=>D.int (p:Int)),[5]⟩) rfl (by
     unfold Qc4;rw[List.zipIdx_map,ZO];rfl) λq _=>⟨[none,slI q.2,slI q.1,slF (Qg t)],rfl,Qz (Qf7 (neg:=false) (o:=q.1) (l:=t) (ra:=reI q.1) (rb:=reF (Qg t)) rfl rfl rfl rfl) rfl,λ_=>⟨(reI q.2),rfl,rfl,rfl⟩⟩
   have eo:D.lst ((((Q8 R dep i).zipIdx 0).filter λq=>t.contains q.1).map λq=> .int (q.2:Int))=Qg (Qch t (Q8 R dep i)::r):=by
    have:(((Q8 R dep i).zipIdx 0).filter λq=>t.contains q.1).map (λq=>D.int (q.2:Int))=((((Q8 R dep i).zipIdx 0).filter λq=>t.contains q.1).map (·.2)).map λ(p:Nat)=>D.int (p:Int):=by rw[ZO];rfl
    rw[this,hr,Zcy];rfl
   rw[eo]at ec;refine rsa ec ?_;refine run_seq (Qvz (i:=i) (g:=Qci R dep t) (v:=Qci R dep t i) rfl (QY (d:= .int (Qci R dep t i)) (ra:=reI ((QaP R i).length-1-(Qbe R dep i).length)) rfl (Qev (l:=Qch t (Q8 R dep i)::r) (i:=0) (v:=Qch t (Q8 R dep i)) (ra:=⟨Qg (Qch t (Q8 R dep i)::r),true,[6]⟩) (rb:=reI 0) rfl rfl rfl rfl ∅ rfl) rfl) rfl ⋯ (Qq ⟨slI i,slT (.tup [Qg (Q8 R dep i),.int ((QaP R i).length-1-(Qbe R dep i).length)]),slT (Qg (Qch t (Q8 R dep i)::r)),?_⟩));have:Qe (i+1) (up (Qci R dep t) i (Qci R dep t i))=Qe (i+1) (Qci R dep t):=Ql8 λj _=>by
    rw[QbC];split
    .rename_i e;rw[e]
    .rfl
   rw[this];rfl
  .rintro U ⟨j4,j5,j6,rfl⟩;rw[ZF];exact⟨_,_,_,rfl⟩
 rintro U ⟨j4,j5,j6,rfl⟩;exact QK (r:=⟨Qe m (Qci R dep t),true,[3]⟩) rfl ⟨rfl,rfl⟩
noncomputable def Qkj(Qef:Den):DS:=(Qc (sIf (bOr (QbG (Qs (Qmz "list" vv0))) (Qs (dOp gNe (dBf Q6 (Qa vv0 Qb)) vv1))) (Qc (QH (dC (.bl false))) Qj) Qj) (Qc (QaH (QT vv0) (.nm 2) (Qc (sIf (QbG (Qs (Qm 1 Qef [] (Qa vv2 Qb)))) (Qc (QH (dC (.bl false))) Qj) Qj) Qj)) (Qc (QH (dC (.bl true))) Qj)))
def QiO(d:Den):Prop:=∀(n:Nat) (a:Mt1),d [Qe n a,.int n]=some (.bl true,true)
def Qx8{dw:Den}(hw:Qmu dw):QiO (Qx 3 (Qkj dw)):=λn a=>by
 refine Q2 ?_;refine QC (QL (b:=false) (QbU (a:=false) (b:=false) (Qa4 (b:=true) (Qz (b:=true) rfl rfl)) (Qz (b:=false) (r:=reT (.bl false)) ((QdF (a:=n) (b:=n) (Qzd (m:=n) (f:=a) (r:=reF (Qe n a)) rfl rfl) rfl (rb:=reI n) rfl rfl).trans ⋯) rfl)) (λh=>by cases h) (λ_=>Qq ?_));refine QC (QaA (toD:=λ(i:Nat)=> .int (a i)) (List.range n) (λ_ U=>∃j2,U=[slF (Qe n a),slI n,j2]) (ir:=⟨(List.range n).map λi=> .int (a i),[]⟩) rfl rfl ⟨none,rfl⟩ ?_ ?_)
 .rintro i i' U hi ⟨j2,rfl⟩;refine⟨[slF (Qe n a),slI n,slI (a i')],rfl,?_⟩;exact QC (QL (b:=false) (Qa4 (b:=true) (Qz (b:=true) (Qt (r:=⟨[.int (a i')],true,[]⟩) rfl (hw (a i')) rfl) rfl)) (λh=>by cases h) (λ_=>Qq (Qq ⟨_,rfl⟩)))
 .rintro U ⟨j2,rfl⟩;exact QK (r:=reT (.bl true)) rfl ⟨rfl,rfl⟩
noncomputable def QnG:DS:=(Qc (Qy 2 (QA (QaE (QE (Qa (QA (Qf vv0 kk0) kk1) Qb)) (Qf vv0 kk0)) (QE (Qa kk0 Qb)))) (Qc (QaH (Qan (Qf vv0 kk0)) (.nm 3) (Qc (QaH (QT vv1) (.nm 4) (Qc (Qlb (.tp [5,6]) (Qf (Qf vv0 kk1) vv4)) (Qc (Qb3 2 Qak vv5 (dBf Qgm (Qa (Qf vv2 vv5) (Qa (QA (Qf vv2 vv6) kk1) Qb)))) (Qc (Qb3 2 Qak vv6 (dBf Qgm (Qa (Qf vv2 vv6) (Qa (QA (Qf vv2 vv5) kk1) Qb)))) Qj)))) Qj)) (Qc (QH vv2) Qj)))
def Qlj(d:Den):Prop:=∀(m:Nat) (R:Lpp) (t:List Nat),m<=8->(∀s∈R,Good m s)->(∀k∈t,k<R.length)->d [Qd m R [],Qg t]=some (Qe (m+1) (Qcq R m t m),true)
def Qpv{fa fb:DE}{U:En}{ra rb:R}{a b:Int}(ha:fa U=some ra)(ea:ra.d= .int a)(hb:fb U=some rb)(eb:rb.d= .int b):dBf Qgm (Qa fa (Qa fb Qb)) U=some (reI (if b<a then b else a)):=QyO ha ea hb eb
def Qx2:Qlj (Qx 7 QnG):=λm R t m8 hR ht=>by
 have it:∀{U:En},U[0]? =some (slF (Qd m R []))->Qh 0 U=some (reF (Qd m R [])):=λh=>Q3 h;refine Q2 ?_;refine run_seq (Qat (r:=reT (Qe (m+1) (Qcq R m t 0))) ?_ ?_)
 .refine(Qir (m:=m) (f:=λ_=>(m:Int)+1) (ra:=reT (Qe m (λ_=>(m:Int)+1))) ?_ rfl ⋯).trans ?_
  .unfold QaE;rw[(Qej (rs:=⟨[.int ((m:Int)+1)],true,[]⟩) (Qo (Qac (a:=m) (b:=1) (Qaz (it rfl) rfl).1 rfl rfl rfl) (QI _)) ⋯),Za,(Qaz (it rfl) rfl).1,Za];show _=_;have hr:=Qtd (n:=m) (z:=(m:Int)+1) (fb:=dC (.int m)) (U:=QaS 7 [Qd m R [],Qg t]) (r:=reI m) rfl rfl ⋯;unfold QaE at hr;exact hr
  .congr 2
 rw[Qbu];refine QaO (P:=λU=>∃j3 j4 j5 j6,U=[slF (Qd m R []),slF (Qg t),slT (Qe (m+1) (Qcq R m t m)),j3,j4,j5,j6]) ?_ ?_
 .refine QaA (toD:=λ(k:Nat)=> .int (k:Int)) (List.range m) (λi U=>∃j3 j4 j5 j6,U=[slF (Qd m R []),slF (Qg t),slT (Qe (m+1) (Qcq R m t i)),j3,j4,j5,j6]) (Qbi (n:=m) (r:=reI m) rfl rfl ⋯) rfl ⟨none,none,none,none,rfl⟩ ?_ ?_
  .rintro i i' U hi ⟨j3,j4,j5,j6,rfl⟩;obtain⟨him,rfl⟩:=Qeq hi;refine⟨[slF (Qd m R []),slF (Qg t),slT (Qe (m+1) (Qcq R m t i)),slI i,j4,j5,j6],rfl,?_⟩;refine QaO (P:=λU=>∃j4 j5 j6,U=[slF (Qd m R []),slF (Qg t),slT (Qe (m+1) (Qcq R m t (i+1))),slI i,j4,j5,j6]) ?_ ?_
   .refine QaA (toD:=λ(k:Nat)=> .int (k:Int)) t (λa U=>∃j4 j5 j6,U=[slF (Qd m R []),slF (Qg t),slT (Qe (m+1) ((t.take a).foldl (QcI R) (Qcq R m t i))),slI i,j4,j5,j6]) (Qbb (r:=reF (Qg t)) rfl rfl) rfl ⟨j4,j5,j6,rfl⟩ ?_ ?_
    .rintro a k U hk ⟨j4,j5,j6,rfl⟩;have hkR:=ht k (ZC hk);obtain⟨g1,g2,g3,g4,g5⟩:=hR _ (Qa2 hkR);have etake:(t.take (a+1)).foldl (QcI R) (Qcq R m t i)=QcI R ((t.take a).foldl (QcI R) (Qcq R m t i)) k:=by
      rw[ZbG,hk];simp
     generalize (t.take a).foldl (QcI R) (Qcq R m t i)=g at *;refine⟨[slF (Qd m R []),slF (Qg t),slT (Qe (m+1) g),slI i,slI k,j5,j6],rfl,?_⟩;refine run_seq (Q:=_) ⟨Out.nx [slF (Qd m R []),slF (Qg t),slT (Qe (m+1) g),slI i,slI k,slT (.int (rd R k).1),slT (.int (rd R k).2)],?_,?_⟩
     .unfold Qlb;rw[QhM (R:=R) (k:=k) (Qaz (m:=m) (R:=R) (L:=[]) (it rfl) rfl).2.1 rfl (rb:=reI k) rfl rfl hkR];rfl
     obtain⟨a1,ea⟩:∃a1:Nat,(rd R k).1=a1:=⟨(rd R k).1.toNat,⋯⟩;obtain⟨b1,eb⟩:∃b1:Nat,(rd R k).2=b1:=⟨(rd R k).2.toNat,⋯⟩;have e2:QcI R g k=up (up g a1 (if g b1+1<g a1 then g b1+1 else g a1)) b1 (if up g a1 (if g b1+1<g a1 then g b1+1 else g a1) a1+1<up g a1 (if g b1+1<g a1 then g b1+1 else g a1) b1 then up g a1 (if g b1+1<g a1 then g b1+1 else g a1) a1+1 else up g a1 (if g b1+1<g a1 then g b1+1 else g a1) b1):=by
      unfold QcI;rw[ea,eb];rfl
     rw[etake,e2,ea,eb];refine run_seq (Qf2 (m:=m+1) (f:=g) (i:=a1) (v:=if g b1+1<g a1 then g b1+1 else g a1) (ri:=reI a1) rfl rfl rfl (Qpv (a:=g a1) (b:=g b1+1) (Qa0 (m:=m+1) (f:=g) (i:=a1) (ra:=⟨Qe (m+1) g,true,[2]⟩) (rb:=reI a1) rfl rfl rfl rfl ⋯) rfl (Qac (a:=g b1) (b:=1) (Qa0 (m:=m+1) (f:=g) (i:=b1) (ra:=⟨Qe (m+1) g,true,[2]⟩) (rb:=reI b1) rfl rfl rfl rfl ⋯) rfl rfl rfl) rfl) rfl ⋯ ⋯ ?_);rw[Zl];generalize up g a1 (if g b1+1<g a1 then g b1+1 else g a1)=q;refine run_seq (Qf2 (m:=m+1) (f:=q) (i:=b1) (v:=if q a1+1<q b1 then q a1+1 else q b1) (ri:=reI b1) rfl rfl rfl (Qpv (a:=q b1) (b:=q a1+1) (Qa0 (m:=m+1) (f:=q) (i:=b1) (ra:=⟨Qe (m+1) q,true,[2]⟩) (rb:=reI b1) rfl rfl rfl rfl ⋯) rfl (Qac (a:=q a1) (b:=1) (Qa0 (m:=m+1) (f:=q) (i:=a1) (ra:=⟨Qe (m+1) q,true,[2]⟩) (rb:=reI a1) rfl rfl rfl rfl ⋯) rfl rfl rfl) rfl) rfl ⋯ ⋯ (Qq ⟨slI k,slI a1,slI b1,?_⟩));rw[Zl];rfl
    .rintro U ⟨j4,j5,j6,rfl⟩;rw[ZaY];exact⟨_,_,_,rfl⟩
   rintro U ⟨j4,j5,j6,rfl⟩;exact Qq ⟨_,_,_,_,rfl⟩
  .rintro U ⟨j3,j4,j5,j6,rfl⟩;rw[ZF];exact⟨_,_,_,_,rfl⟩
 rintro U ⟨j3,j4,j5,j6,rfl⟩;exact QK (r:=⟨Qe (m+1) (Qcq R m t m),true,[2]⟩) rfl ⟨rfl,rfl⟩
noncomputable def QjW(Q4:Den):DS:=(Qc (Qy 3 (QE (Qa (Qf vv2 kk0) Qb))) (Qc (Qy 4 (QE Qb)) (Qc (QaH (Qan (Qf vv2 kk0)) (.nm 5) (Qc (Qy 6 (QE Qb)) (Qc (QaH (Qan (dBf Q6 (Qa (Qf vv2 kk1) Qb))) (.nm 7) (Qc (sIf (Qs (dOp gNe (dOp (gIn false) (Qf (Qf (Qf vv2 kk1) vv7) kk0) vv3) (dOp (gIn false) (Qf (Qf (Qf vv2 kk1) vv7) kk1) vv3))) (Qc (Qb5 6 Qak vv7) Qj) Qj) Qj)) (Qc (Qy 8 (QA (QA (QaE (Qm 2 Q4 [] (Qa vv0 (Qa (QA vv1 vv5) Qb))) Qqw) (QaE (Qm 2 Q4 [] (Qa vv0 (Qa (QA kk2 vv5) Qb))) (QA (QaE vv5 vv5) kk5))) vv5)) (Qc (Qb5 4 Qak (Qf vv6 (dOp QaC (dOp QaC vv8 QoN) (dBf Q6 (Qa vv6 Qb))))) (Qc (QaH (QT (Qf (Qf vv2 kk1) (Qf vv4 vv5))) (.nm 9) (Qc (sIf (Qs (dOp (gIn true) vv9 vv3)) (Qc (Qb5 3 Qak vv9) Qj) Qj) Qj)) Qj)))))) (Qc (QH (Qcc (Qa vv4 Qb))) Qj))))
def QmO(d:Den):Prop:=∀(ns:List Int) (a m:Nat) (R:Lpp),0<m->m<=8->Qbz m R []->∃t,d [.lst (ns.map .int),.int a,Qd m R []]=some (Qg t,true)/\QjC R m t
structure QeZ (R:Lpp) (m:Nat) (dn tr:List Nat):Prop where
 nd:dn.Nodup
 le:∀x∈dn,x<=m
 hd:dn[0]? =some m
 tnd:tr.Nodup
 tin:∀k∈tr,k<R.length/\(rd R k).1.toNat∈dn/\(rd R k).2.toNat∈dn
 way:∀i q,0<i->dn[i]? =some q->∃k∈tr,Qbj q (rd R k)=true/\∃j,j<i/\dn[j]? =some (oe q (rd R k))
def QeZ.mem{R:Lpp}{m:Nat}{dn tr:List Nat}(G:QeZ R m dn tr):m∈dn:=ZC G.hd
def Qza{m:Nat}{R:Lpp}(hw:Qbz m R []){dn tr:List Nat}(G:QeZ R m dn tr)(hl:dn.length<=m):∃k,k<R.length/\(((rd R k).1.toNat∈dn/\(rd R k).2.toNat∉dn)∨((rd R k).1.toNat∉dn/\(rd R k).2.toNat∈dn)):=by
 obtain⟨p,hp1,hp2⟩:∃p,p<m/\p∉dn:=by
  refine ZW λq=>?_;have all:∀p∈List.range (m+1),p∈dn:=λp hp=>by
   have:=Zj.mp hp;by_cases e:p=m
   .rw[e];exact G.mem
   .exact ZW λz=>q ⟨p,⋯,z⟩
  have:=len_sub Zbp all;rw[ZF]at this;omega
 obtain⟨v,h1,h2,s,h3,h4⟩:=Qq9 hw (· ∉dn) ⟨p,hp1,hp2⟩;obtain⟨g1,g2,g3,g4,g5⟩:=hw.good.1 s h3;obtain⟨k,hk⟩:=Zap h3;have hkl:k<R.length:=(Ze.mp hk).1;have es:rd R k=s:=by have:=Qk3 hkl;rw[hk]at this;exact(Option.some.inj this).symm
 refine⟨k,hkl,?_⟩;rw[es];have inn:∀x:Int,0<=x->(x=m∨¬x.toNat∉dn)->x.toNat∈dn:=λx x0 h=>by
  rcases h with h | h
  .rw[h,Zl];exact G.mem
  .exact ZW h
 rcases h4 with⟨a,b⟩ | ⟨a,b⟩
 .exact .inr ⟨by rw[a,Zl];exact h2,inn _ g2 b⟩
 .exact .inl ⟨inn _ g1 b,by rw[a,Zl];exact h2⟩
def QeZ.step{m:Nat}{R:Lpp}(hR:∀s∈R,Good m s){dn tr:List Nat}(G:QeZ R m dn tr){k q:Nat}(hk:k<R.length)(hq:q∉dn)(hi:Qbj q (rd R k)=true)(ho:oe q (rd R k)∈dn):QeZ R m (dn++[q]) (tr++[k]):=by
 obtain⟨o1,o2,o3,o4⟩:=QbS (hR _ (Qa2 hk)) hi;obtain⟨g1,g2,g3,g4,g5⟩:=hR _ (Qa2 hk);have ends:(rd R k).1.toNat∈dn++[q]/\(rd R k).2.toNat∈dn++[q]:=by
  rcases o4 with⟨a,b⟩ | ⟨a,b⟩
  .exact⟨Zg _ (by simp;omega),Zd _ (by rw[show(rd R k).2.toNat=oe q (rd R k) by omega];exact ho)⟩
  .exact⟨Zd _ (by rw[show(rd R k).1.toNat=oe q (rd R k) by omega];exact ho),Zg _ (by simp;omega)⟩
 have knew:k∉tr:=λz=>by
  obtain⟨_,t1,t2⟩:=G.tin k z;rcases o4 with⟨a,b⟩ | ⟨a,b⟩
  .exact hq (by rw[show q=(rd R k).1.toNat by omega];exact t1)
  .exact hq (by rw[show q=(rd R k).2.toNat by omega];exact t2)
 refine⟨Zat.mpr ⟨G.nd,⋯,λx hx y hy e=>?_⟩,λx hx=>?_,?_,Zat.mpr ⟨G.tnd,⋯,λx hx y hy e=>?_⟩,λx hx=>?_,λi v h0 hv=>?_⟩
 .simp at hy;subst hy;subst e;exact hq hx
 .rcases ZJ.mp hx with h | h
  .exact G.le x h
  .simp at h;subst h;rcases o4 with⟨a,b⟩ | ⟨a,b⟩<;>omega
 .have:=(Ze.mp G.hd).1;rw[Zal this];exact G.hd
 .simp at hy;subst hy;subst e;exact knew hx
 .rcases ZJ.mp hx with h | h
  .obtain⟨t0,t1,t2⟩:=G.tin x h;exact⟨t0,Zd _ t1,Zd _ t2⟩
  .simp at h;subst h;exact⟨hk,ends.1,ends.2⟩
 .by_cases hl:i<dn.length
  .rw[Zal hl]at hv;obtain⟨k',h1,h2,j,h3,h4⟩:=G.way i v h0 hv;exact⟨k',Zd _ h1,h2,j,h3,by rw[Zal ⋯];exact h4⟩
  .rw[Zbn ⋯]at hv;have hi0:i-dn.length=0:=by
    have:=(Ze.mp hv).1;simpa using this
   rw[hi0]at hv;simp at hv;subst hv;obtain⟨j,hj⟩:=Zap ho;have hjl:=(Ze.mp hj).1;exact⟨k,⋯,hi,j,⋯,by rw[Zal hjl];exact hj⟩
def QeZ.tree{m:Nat}{R:Lpp}(m0:0<m)(hR:∀s∈R,Good m s){dn tr:List Nat}(G:QeZ R m dn tr)(hl:dn.length=m+1)(htl:tr.length=m){t:List Nat}(hp:t.Perm tr)(hs:t.Pairwise (· < ·)):QjC R m t:=by
 have htlt:∀k∈t,k<R.length:=λk hk=>(G.tin k (hp.mem_iff.mp hk)).1;refine⟨by rw[hp.length_eq,htl],hs,htlt,λv hv hn=>?_⟩;have hT:∀s∈QaB R t,Good m s:=λs hs=>by
  obtain⟨k,hk,rfl⟩:=ZI.mp hs;exact hR _ (Qa2 (htlt k hk))
 have gS:=Qbl (L:=[]) hT (λs hs=>absurd hs ⋯);have I:=Qrl gS m;have lend:=λ{v:Nat} hv hn=>Qwe (v:=v) m0 gS hv hn;generalize Qai (Qi (QaB R t) []) (Qaw m) m=F at *;have hall:∀v,v<m->v∈dn:=λv hv=>ZW λz=>by
  have:=len_sub (K:=(List.range (m+1)).erase v) G.nd λx hx=>(ZbT (λe:x=v=>z (by rw[← e];exact hx))).mpr (Zj.mpr (by have:=G.le x hx;omega));rw[Zbu (Zj.mpr ⋯),ZF]at this;omega
 have key:∀(i q:Nat),dn[i]? =some q->F q≠none:=by
  intro i
  induction i using Nat.strongRecOn with
  | _ i ih=>
   intro q hq z;by_cases i0:i=0
   .subst i0;rw[G.hd]at hq;cases hq;rw[I.pit]at z;cases z
   .obtain⟨k,h1,h2,j,h3,h4⟩:=G.way i q ⋯ hq;have hkt:k∈t:=hp.mem_iff.mpr h1;have hg:=hR _ (Qa2 (htlt k hkt));obtain⟨o1,o2,o3,o4⟩:=QbS hg h2;obtain⟨g1,g2,g3,g4,g5⟩:=hg;have hqm:q<m:=by
     have:=G.le q (ZC hq);by_cases e:q=m
     .rw[e,I.pit]at z;cases z
     .omega
    have mem:rd R k∈QaB R t:=ZI.mpr ⟨k,hkt,rfl⟩;have sm:∀s,s∈QaB R t∨s.swap∈QaB R t->s∈Qi (QaB R t) []:=λs h=>by
     unfold Qi;rw[Zad,ZJ,ZI];rcases h with h | h
     .exact .inl h
     .exact .inr ⟨s.swap,h,⋯⟩
    rcases o4 with⟨a,b⟩ | ⟨a,b⟩
    .have:=lend hqm z (rd R k) (sm _ (.inl mem)) ⋯;rw[show(rd R k).2.toNat=oe q (rd R k) by omega]at this;exact ih j h3 _ h4 this
    .have:=lend hqm z (rd R k).swap (sm _ (.inr (by simpa using mem))) (by simp;omega);rw[show(rd R k).swap.2.toNat=oe q (rd R k) by simp;omega]at this;exact ih j h3 _ h4 this
 obtain⟨i,hi⟩:=Zap (hall v hv);exact key i v hi hn
def Qik(tr:List Nat):∃t:List Nat,t.Perm tr/\(QbT (tr.map λ(p:Nat)=>(p:Int))).map D.int=t.map (λ(p:Nat)=>D.int (p:Int))/\(tr.Nodup->t.Pairwise (· < ·)):=by
 have hp:=QbL (tr.map λ(p:Nat)=>(p:Int));have hs:=QdI (tr.map λ(p:Nat)=>(p:Int));generalize QbT (tr.map λ(p:Nat)=>(p:Int))=S at hp hs;have h0:∀x∈S,0<=x:=λx hx=>by
  obtain⟨n,_,rfl⟩:=ZI.mp (hp.mem_iff.mp hx);omega
 have ht:(S.map Int.toNat).Perm tr:=by
  have:=hp.map Int.toNat
  rw[ZO]at this;have e:(Int.toNat ∘ λ(p:Nat)=>(p:Int))=id:=by funext p;simp
  rw[e,List.map_id]at this;exact this
 refine⟨S.map Int.toNat,ht,?_,λnd=>?_⟩
 .rw[ZO];exact ZM λx hx=>by
   have:=h0 x hx;show D.int x=D.int (x.toNat:Int);rw[ZaG this]
 .have nd':(S.map Int.toNat).Nodup:=ht.nodup_iff.mpr nd;have hle:(S.map Int.toNat).Pairwise (· <= ·):=by
   rw[Zbl];exact hs.imp λh=> ⋯
  have hne:(S.map Int.toNat).Pairwise (· ≠ ·):=nd';exact(hle.and hne).imp λ⟨a,b⟩=> ⋯
def QAM{fa fb:DE}{U:En}{a b:Bool}(ha:fa U=some (reT (.bl a)))(hb:fb U=some (reT (.bl b))):dOp gNe fa fb U=some (reT (.bl (a != b))):=by
 refine QY ha hb ?_;cases a<;>cases b<;>rfl
noncomputable def QcC(R:Lpp)(dn:List Nat)(k:Nat):Bool:=dn.contains (rd R k).1.toNat != dn.contains (rd R k).2.toNat
def QuY{dc:Den}(hc:QiB dc):QmO (Qx 10 (QjW dc)):=λns a m R m0 m8 hw=>by
 have hR:=hw.good.1;have hRl:R.length<=200:=hw.good.2.2.1;have key:Run (QjW dc) (QaS 10 [.lst (ns.map .int),.int a,Qd m R []]) (Rt λd fr=>∃t,d=Qg t/\fr=true/\QjC R m t):=by
  have cell:∀(U:En) (fk:DE) (k:Nat),U[0]? =some (slF (.lst (ns.map .int)))->fk U=some (reI k)->Qm 2 dc [] (Qa (Qh 0) (Qa fk Qb)) U=some (reI (ns.getD k 0)):=λU fk k h0 hk=>by
   refine Qt (Qo (Q3 h0) (Qo hk (QI _))) ?_ rfl;exact hc ns k
  have it:∀{U:En},U[2]? =some (slF (Qd m R []))->Qh 2 U=some (reF (Qd m R [])):=λh=>Q3 h;refine rsa (d:=Qg [m]) rfl ?_;refine rsa (d:=Qg []) rfl ?_;refine QaO (P:=λU=>∃dn tr j5 j6 j7 j8 j9,dn.length=m+1/\tr.length=m/\QeZ R m dn tr/\U=[slF (.lst (ns.map .int)),slI a,slF (Qd m R []),slT (Qg dn),slT (Qg tr),j5,j6,j7,j8,j9]) ?_ ?_
  .refine QaA (toD:=λ(k:Nat)=> .int (k:Int)) (List.range m) (λi U=>∃dn tr j5 j6 j7 j8 j9,dn.length=i+1/\tr.length=i/\QeZ R m dn tr/\U=[slF (.lst (ns.map .int)),slI a,slF (Qd m R []),slT (Qg dn),slT (Qg tr),j5,j6,j7,j8,j9]) (Qbi (n:=m) (r:=reI m) rfl rfl ⋯) rfl ⟨[m],[],none,none,none,none,none,rfl,rfl,⟨⋯,⋯,rfl,⋯,⋯,λi q h0 h=>by
     have:=(Ze.mp h).1;simp at this;omega⟩,rfl⟩ ?_ ?_
   .rintro i i' U hi ⟨dn,tr,j5,j6,j7,j8,j9,hdl,htl,G,rfl⟩;obtain⟨him,rfl⟩:=Qeq hi;refine⟨[slF (.lst (ns.map .int)),slI a,slF (Qd m R []),slT (Qg dn),slT (Qg tr),slI i,j6,j7,j8,j9],rfl,?_⟩;refine rsa (d:=Qg []) rfl ?_;refine QaO (P:=λU=>∃j7,U=[slF (.lst (ns.map .int)),slI a,slF (Qd m R []),slT (Qg dn),slT (Qg tr),slI i,slT (Qg ((List.range R.length).filter (QcC R dn))),j7,j8,j9]) ?_ ?_
    .refine QaA (toD:=λ(k:Nat)=> .int (k:Int)) (List.range R.length) (λn U=>∃j7,U=[slF (.lst (ns.map .int)),slI a,slF (Qd m R []),slT (Qg dn),slT (Qg tr),slI i,slT (Qg ((List.range n).filter (QcC R dn))),j7,j8,j9]) (Qbi (n:=R.length) (by rw[Qbp (xs:=R.map pairD) (Qaz (m:=m) (R:=R) (L:=[]) (it rfl) rfl).2.1 rfl,Zc]) rfl ⋯) rfl ⟨j7,rfl⟩ ?_ ?_
     .rintro k k' U hk ⟨j7,rfl⟩;have hk':k<R.length/\k=k':=by
       obtain⟨h1,h2⟩:=Ze.mp hk;simp at h1 h2;exact⟨h1,h2⟩
      obtain⟨hkR,rfl⟩:=hk';obtain⟨g1,g2,g3,g4,g5⟩:=hR _ (Qa2 hkR);have hlen:((List.range k).filter (QcC R dn)).length<=k:=by
       have:=ZaN (QcC R dn) (List.range k);rw[ZF]at this;exact this
      have er:∀{U:En},U[2]? =some (slF (Qd m R []))->U[7]? =some (slI k)->Qf (Qf (Qh 2) (dC (.int 1))) (Qh 7) U=some ⟨pairD (rd R k),true,[]⟩:=λ{U} h1 h2=>QhM (R:=R) (k:=k) (Qaz (m:=m) (R:=R) (L:=[]) (it h1) rfl).2.1 rfl (Q3 h2) rfl hkR;have e0:∀{U:En},U[2]? =some (slF (Qd m R []))->U[7]? =some (slI k)->Qf (Qf (Qf (Qh 2) (dC (.int 1))) (Qh 7)) (dC (.int 0)) U=some (reI ((rd R k).1.toNat:Int)):=λ{U} h1 h2=>by
       rw[ZaG g1];unfold Qf at *;rw[er h1 h2];rfl
      have e1:∀{U:En},U[2]? =some (slF (Qd m R []))->U[7]? =some (slI k)->Qf (Qf (Qf (Qh 2) (dC (.int 1))) (Qh 7)) (dC (.int 1)) U=some (reI ((rd R k).2.toNat:Int)):=λ{U} h1 h2=>by
       rw[ZaG g2];unfold Qf at *;rw[er h1 h2];rfl
      refine⟨[slF (.lst (ns.map .int)),slI a,slF (Qd m R []),slT (Qg dn),slT (Qg tr),slI i,slT (Qg ((List.range k).filter (QcC R dn))),slI k,j8,j9],rfl,?_⟩;refine run_seq (QL (b:=QcC R dn k) (Qz (QAM (a:=dn.contains (rd R k).1.toNat) (b:=dn.contains (rd R k).2.toNat) (Qf7 (neg:=false) (o:=(rd R k).1.toNat) (l:=dn) (e0 rfl rfl) rfl (rb:=⟨Qg dn,true,[3]⟩) rfl rfl) (Qf7 (neg:=false) (o:=(rd R k).2.toNat) (l:=dn) (e1 rfl rfl) rfl (rb:=⟨Qg dn,true,[3]⟩) rfl rfl)) rfl) (λhx=>?_) (λhx=>?_))
      .refine run_seq (QhN (l:=(List.range k).filter (QcC R dn)) (v:=k) (r:=reI k) rfl rfl rfl ⋯ (Qq (Qq ⟨slI k,?_⟩)));rw[ZaA,List.filter_append,ZaD,if_pos hx];rfl
      .refine Qq (Qq ⟨slI k,?_⟩);rw[ZaA,List.filter_append,ZaD,if_neg (by rw[hx];simp),List.filter_nil,Zad]
     .rintro U ⟨j7,rfl⟩;rw[ZF];exact⟨_,rfl⟩
    rintro U ⟨j7,rfl⟩;obtain⟨k0,hk0,hcr⟩:=Qza hw G ⋯;have hNp:0<((List.range R.length).filter (QcC R dn)).length:=ZcA (ZA.mpr ⟨Zj.mpr hk0,by
     unfold QcC;rcases hcr with⟨x,y⟩ | ⟨x,y⟩<;>simp[x,y]⟩)
    have hNin:∀k∈(List.range R.length).filter (QcC R dn),k<R.length/\QcC R dn k=true:=λk hk=>⟨Zj.mp (ZA.mp hk).1,(ZA.mp hk).2⟩;generalize (List.range R.length).filter (QcC R dn)=N at *;refine run_seq (Qat (Qac (a:=ns.getD (a+i) 0*69621+ns.getD (2+i) 0*((i:Int)*i+5)) (b:=i) (Qac (a:=ns.getD (a+i) 0*69621) (b:=ns.getD (2+i) 0*((i:Int)*i+5)) (QcW (a:=ns.getD (a+i) 0) (b:=69621) (cell _ _ (a+i) rfl (Qac (a:=a) (b:=i) rfl rfl rfl rfl)) rfl rfl rfl (Qjs ∅)) rfl (QcW (a:=ns.getD (2+i) 0) (b:=(i:Int)*i+5) (cell _ _ (2+i) rfl (Qac (a:=2) (b:=i) rfl rfl rfl rfl)) rfl (Qac (a:=(i:Int)*i) (b:=5) (QcW (a:=i) (b:=i) rfl rfl rfl rfl (QfG ⋯)) rfl rfl rfl) rfl (Qjs (by
     have h1:(i:Int)*i<=8*8:=ZcC ⋯ ⋯ ⋯ ⋯;have h2:0<=(i:Int)*i:=Zce ⋯ ⋯;omega))) rfl) rfl rfl rfl) ?_)
    rw[Qbu];generalize ns.getD (a+i) 0*69621+ns.getD (2+i) 0*((i:Int)*i+5)+(i:Int)=n;have x0:=ZP (n % 2147483629) (by omega:(N.length:Int)≠0);have x1:=ZR (n % 2147483629) (by omega:(0:Int)<N.length);obtain⟨k,hkN⟩:∃k,N[(n % 2147483629 % (N.length:Int)).toNat]? =some k:=⟨_,Zq ⋯⟩;obtain⟨hkR,hkc⟩:=hNin k (ZC hkN);obtain⟨g1,g2,g3,g4,g5⟩:=hR _ (Qa2 hkR);refine run_seq (QhN (l:=tr) (v:=k) rfl (Qev (l:=N) (i:=n % 2147483629 % (N.length:Int)) (v:=k) (ra:=⟨Qg N,true,[6]⟩) rfl rfl (QaI (a:=n % 2147483629) (b:=N.length) (QaI (a:=n) (b:=2147483629) rfl rfl rfl rfl ∅) rfl (Qhk (l:=N) (r:=⟨Qg N,true,[6]⟩) rfl rfl) rfl ⋯) rfl x0 hkN) rfl ⋯ ?_);obtain⟨a1,ea⟩:∃a1:Nat,(rd R k).1=a1:=⟨(rd R k).1.toNat,⋯⟩;obtain⟨b1,eb⟩:∃b1:Nat,(rd R k).2=b1:=⟨(rd R k).2.toNat,⋯⟩;have hx:(a1∈dn/\b1∉dn)∨(a1∉dn/\b1∈dn):=by
     unfold QcC at hkc;rw[ea,eb,Zl,Zl]at hkc;by_cases p1:a1∈dn<;>by_cases p2:b1∈dn<;>simp[p1,p2]at hkc ⊢
    have hab:a1≠b1:= ⋯
    have enext:∃q,q∉dn/\Qbj q (rd R k)=true/\oe q (rd R k)∈dn/\((if b1∈(if a1∈dn then dn else dn++[a1])then(if a1∈dn then dn else dn++[a1])else(if a1∈dn then dn else dn++[a1])++[b1])=dn++[q]):=by
     rcases hx with⟨x,y⟩ | ⟨x,y⟩
     .refine⟨b1,y,by unfold Qbj;rw[eb];simp,by rw[show oe b1 (rd R k)=a1 by unfold oe;omega];exact x,?_⟩;rw[if_pos x,if_neg y]
     .refine⟨a1,x,by unfold Qbj;rw[ea];simp,by rw[show oe a1 (rd R k)=b1 by unfold oe;omega];exact y,?_⟩;rw[if_neg x,if_pos (Zd _ y)]
    obtain⟨q,hq1,hq2,hq3,hq4⟩:=enext
    have eit:Qf (Qf (Qh 2) (dC (.int 1))) (Qf (Qh 4) (Qh 5)) [slF (.lst (ns.map .int)),slI a,slF (Qd m R []),slT (Qg dn),slT (Qg (tr++[k])),slI i,slT (Qg N),j7,slI n,j9]=some ⟨pairD (rd R k),true,[]⟩:=
     QhM (R:=R) (k:=k) (Qaz (m:=m) (R:=R) (L:=[]) (it rfl) rfl).2.1 rfl (Qev (l:=tr++[k]) (i:=i) (v:=k) (ra:=⟨Qg (tr++[k]),true,[4]⟩) (rb:=reI i) rfl rfl rfl rfl ⋯ (by rw[Zl,← htl];simp)) rfl hkR
    have pd:pairD (rd R k)= .tup [.int (a1:Int),.int (b1:Int)]:=by unfold pairD;rw[ea,eb]
    refine QaO (P:=λU=>∃j9,U=[slF (.lst (ns.map .int)),slI a,slF (Qd m R []),slT (Qg (dn++[q])),slT (Qg (tr++[k])),slI i,slT (Qg N),j7,slI n,j9]) ?_ ?_
    .refine QaA (toD:=λ(x:Nat)=> .int (x:Int)) [a1,b1] (λs U=>∃j9,U=[slF (.lst (ns.map .int)),slI a,slF (Qd m R []),slT (Qg ([a1,b1].take s |>.foldl (λl x=>if x∈l then l else l++[x]) dn)),slT (Qg (tr++[k])),slI i,slT (Qg N),j7,slI n,j9]) (ir:=⟨[.int (a1:Int),.int (b1:Int)],[]⟩) (by
       unfold QT;show(Qf (Qf (Qh 2) (dC (.int 1))) (Qf (Qh 4) (Qh 5)) [slF (.lst (ns.map .int)),slI a,slF (Qd m R []),slT (Qg dn),slT (Qg (tr++[k])),slI i,slT (Qg N),j7,slI n,j9]).bind _=_;rw[eit,Za,pd];rfl) rfl ⟨j9,rfl⟩ ?_ ?_
     .rintro s x U hs ⟨j9,rfl⟩;have hfold:([a1,b1].take (s+1)).foldl (λl x=>if x∈l then l else l++[x]) dn=(if x∈([a1,b1].take s).foldl (λl x=>if x∈l then l else l++[x]) dn then([a1,b1].take s).foldl (λl x=>if x∈l then l else l++[x]) dn else([a1,b1].take s).foldl (λl x=>if x∈l then l else l++[x]) dn++[x]):=by
       rw[ZbG,hs,ZbE];rfl
      have hlen:(([a1,b1].take s).foldl (λl x=>if x∈l then l else l++[x]) dn).length<=dn.length+2:=by
       have hs2:s<2:=by simpa using(Ze.mp hs).1
       have hs3:s=0∨s=1:= ⋯
       rcases hs3 with rfl | rfl
       .simp
       .simp;split<;>simp<;>omega
      rw[hfold];generalize ([a1,b1].take s).foldl (λl x=>if x∈l then l else l++[x]) dn=l at *;refine⟨[slF (.lst (ns.map .int)),slI a,slF (Qd m R []),slT (Qg l),slT (Qg (tr++[k])),slI i,slT (Qg N),j7,slI n,slI x],rfl,?_⟩;refine run_seq (QL (b:= !l.contains x) (Qz (Qf7 (neg:=true) (o:=x) (l:=l) (ra:=reI x) (rb:=⟨Qg l,true,[3]⟩) rfl rfl rfl rfl) rfl) (λh=>?_) (λh=>?_))
      .have h:x∉l:=by simpa using h
       refine run_seq (QhN (l:=l) (v:=x) (r:=reI x) rfl rfl rfl ⋯ (Qq (Qq ⟨slI x,?_⟩)));rw[if_neg h];rfl
      .have h:x∈l:=by simpa using h
       refine Qq (Qq ⟨slI x,?_⟩);rw[if_pos h]
     .rintro U ⟨j9,rfl⟩;refine⟨j9,?_⟩;have:([a1,b1].take [a1,b1].length).foldl (λl x=>if x∈l then l else l++[x]) dn=dn++[q]:=by
       rw[← hq4];rfl
      rw[this]
    rintro U ⟨j9,rfl⟩;exact Qq ⟨dn++[q],tr++[k],_,_,_,_,_,by simp[hdl],by simp[htl],G.step hR hkR hq1 hq2 hq3,rfl⟩
   .rintro U ⟨dn,tr,j5,j6,j7,j8,j9,hdl,htl,G,rfl⟩;rw[ZF]at hdl htl;exact⟨dn,tr,_,_,_,_,_,hdl,htl,G,rfl⟩
  rintro U ⟨dn,tr,j5,j6,j7,j8,j9,hdl,htl,G,rfl⟩;obtain⟨t,t1,t2,t3⟩:=Qik tr;refine QK (r:=reT (Qg t)) ?_ ⟨t,rfl,rfl,G.tree m0 hR hdl htl t1 (t3 G.tnd)⟩;unfold Qcc;show(Qb1 (tr.map λ(p:Nat)=>D.int (p:Int))).bind _=_;have:=Qdk (tr.map λ(p:Nat)=>(p:Int));rw[ZO]at this;rw[show(tr.map λ(p:Nat)=>D.int (p:Int))=tr.map (D.int ∘ λ(p:Nat)=>(p:Int))from rfl,this,Za,if_pos (by rw[Zc];omega),t2];rfl
 obtain⟨o,h1,h2⟩:=key;cases o with
 | rt d fr=>
  obtain⟨t,rfl,rfl,h3⟩:=h2;exact⟨t,by unfold Qx;rw[h1];rfl,h3⟩
 | _=>exact h2.elim
def QzX{m:Nat}{s:Int×Int}(g:Good m s){p:Nat}{l:List Nat}:QG p l s=if(Qbj p s && decide (oe p s∈l))=true then 1 else 0:=by
 unfold QG;by_cases hi:Qbj p s=true
 .obtain⟨_,_,ne,alt⟩:=QbS g hi;rw[hi,Zcm];rcases alt with⟨a,b⟩ | ⟨a,b⟩
  .by_cases z:oe p s∈l
   .rw[if_pos (.inl ⟨a,by rw[b,Zl];exact z⟩),if_pos (decide_eq_true z)]
   .rw[if_neg,if_neg (by rw[decide_eq_false z];decide)];rintro(⟨_,q⟩ | ⟨q,_⟩)
    .rw[b,Zl]at q;exact z q
    .omega
  .by_cases z:oe p s∈l
   .rw[if_pos (.inr ⟨a,by rw[b,Zl];exact z⟩),if_pos (decide_eq_true z)]
   .rw[if_neg,if_neg (by rw[decide_eq_false z];decide)];rintro(⟨q,_⟩ | ⟨_,q⟩)
    .omega
    .rw[b,Zl]at q;exact z q
 .have h2:¬s.1=(p:Int)/\¬s.2=(p:Int):=by
   unfold Qbj at hi;rw[Zbv,decide_eq_true_iff,decide_eq_true_iff]at hi;exact not_or.mp hi
  rw[if_neg (by rintro(⟨q,_⟩ | ⟨q,_⟩);exact h2.1 q;exact h2.2 q),if_neg (by rw[Bool.not_eq_true]at hi;rw[hi,Bool.false_and];decide)]
def Qxh{m:Nat}{R:Lpp}(hR:∀s∈R,Good m s){p:Nat}{l:List Nat}:(R.map (QG p l)).sum=(((QaP R p).filter λk=>decide (oe p (rd R k)∈l)).length:Int):=by
 rw[QpD];unfold QaP;have key:∀K:List Nat,(∀k∈K,k<R.length)->(K.map λk=>QG p l (rd R k)).sum=(((K.filter λk=>Qbj p (rd R k)).filter λk=>decide (oe p (rd R k)∈l)).length:Int):=by
  intro K
  induction K with
  | nil=>intro _;rfl
  | cons k r ih=>
   intro hK;rw[Zv,ZQ,ih (λx hx=>hK x (Zb _ hx)),QzX (hR _ (Qa2 (hK k Zi))),ZaD];cases Qbj p (rd R k)with
   | false=>simp
   | true=>
    simp only[if_true,ZaD,Zcm];cases decide (oe p (rd R k)∈l)with
    | false=>simp
    | true=>simp;omega
 exact key _ λk hk=>Zj.mp hk
def QxT{R:Lpp}{dep:Mt1}{p:Nat}:((QaP R p).filter λk=>decide (dep p-1<=dep (oe p (rd R k)))).length=(Q8 R dep p).length+(Qd5 R dep p).length:=by
 unfold Q8 Qd5
 induction QaP R p with
 | nil=>rfl
 | cons k r ih=>
  simp only[ZaD];by_cases a:dep (oe p (rd R k))=dep p-1
  .have b:dep p-1<=dep (oe p (rd R k)):= ⋯
   have c:¬dep p<=dep (oe p (rd R k)):= ⋯
   simp only[decide_eq_true a,decide_eq_true b,decide_eq_false c,if_true,if_false,Zy,ZaM];omega
  .by_cases b:dep p-1<=dep (oe p (rd R k))
   .have c:dep p<=dep (oe p (rd R k)):= ⋯
    simp only[decide_eq_false a,decide_eq_true b,decide_eq_true c,if_true,if_false,Zy,ZaM];omega
   .have c:¬dep p<=dep (oe p (rd R k)):= ⋯
    simp only[decide_eq_false a,decide_eq_false b,decide_eq_false c,if_true,if_false,ZaM];omega
structure Qeg (R:Lpp) (m:Nat) (h mk:Mt1):Prop where
 pit:mk m=0
 val:∀v,v<m->1<=mk v/\mk v<=m
 lo:∀v,v<m->((Qd5 R mk v).length:Int)<=h v
 hi:∀v,v<m->h v<(Qd5 R mk v).length+(Q8 R mk v).length
def QvL{m:Nat}{R:Lpp}{h:Mt1}(hR:∀s∈R,Good m s)(hc:QcE R m h (Qao (Qw m (Qi R [])) h m m)=true):∃mk:Nat->Int,Qeg R m h mk/\∀v,v<m->Qao (Qw m (Qi R [])) h m m v=some (mk v):=by
 unfold QcE at hc;rw[Zp,ZZ,Zau,Zax]at hc;obtain⟨hc1,hc2⟩:=hc;have hs:∀v,v<m->h v<Q1 R [] v:=λv hv=>by simpa using hc1 v (Zj.mpr hv)
 obtain⟨mk,hmk⟩:∃mk:Nat->Int,mk=λv=>if v<m then(Qao (Qw m (Qi R [])) h m m v).getD 0 else 0:=⟨_,rfl⟩;have e1:∀v,v<m->Qao (Qw m (Qi R [])) h m m v=some (mk v):=λv hv=>by
  rw[hmk];show _=some (if v<m then(Qao (Qw m (Qi R [])) h m m v).getD 0 else 0);rw[if_pos hv];cases e:Qao (Qw m (Qi R [])) h m m v with
  | none=>have:=hc2 v (Zj.mpr hv);rw[e]at this;exact absurd rfl this
  | some t=>rfl
 have pit:mk m=0:=by rw[hmk];exact if_neg (ZV _)
 generalize hT:Qw m (Qi R [])=T at *;have cold:∀(j:Nat),j<=m->∀v,v<m->(v∈QX T h m j↔(j:Int)+1<=mk v):=λj hj v hv=>by
  rw[Qwb hv hj,e1 v hv];constructor
  .rintro(z | ⟨t,z,y⟩)
   .cases z
   .cases z;exact y
  .exact λy=> .inr ⟨_,rfl,y⟩
 have val:∀v,v<m->1<=mk v/\mk v<=m:=λv hv=>by
  obtain⟨j,h1,h2,_⟩:=Qe5 m v (mk v) (e1 v hv);omega
 have num:∀(j:Nat),j<=m->∀v,v<m->Qax T v (QX T h m j)=(((QaP R v).filter λk=>decide ((j:Int)+1<=mk (oe v (rd R k)))).length:Int):=λj hj v hv=>by
  rw[← hT,Qj8 hR hv (Qdv j) (λo ho=>QdB ho),Qxh hR,hT];congr 2;refine List.filter_congr λk hk=>?_;obtain⟨k1,k2⟩:=QfH.mp hk;obtain⟨_,om,_,_⟩:=QbS (hR _ (Qa2 k1)) k2;by_cases z:oe v (rd R k)<m
  .rw[decide_eq_decide,cold j hj _ z]
  .have e:oe v (rd R k)=m:= ⋯
   rw[e,pit,decide_eq_false (λq=>absurd (QdB q) (ZV _)),decide_eq_false ⋯]
 refine⟨mk,⟨pit,val,λv hv=>?_,λv hv=>?_⟩,e1⟩
 .obtain⟨j,h1,h2,_,_,h5⟩:=Qe5 m v (mk v) (e1 v hv);rw[num j ⋯ v hv,← h2]at h5;exact h5
 .obtain⟨j,h1,h2,h3,_,_⟩:=Qe5 m v (mk v) (e1 v hv);cases j with
  | zero=>
   have a:=QiG (R:=R) (dep:=mk) (p:=v);have b:=QuI hR v;have c:(Qbe R mk v).length=0:=by
    unfold Qbe;rw[List.length_eq_zero_iff,Zcz];intro k hk;obtain⟨k1,k2⟩:=QfH.mp hk;obtain⟨_,om,_,_⟩:=QbS (hR _ (Qa2 k1)) k2;have:0<=mk (oe v (rd R k)):=by
     by_cases z:oe v (rd R k)<m
     .have:=val _ z;omega
     .rw[show oe v (rd R k)=m by omega,pit];exact Zak _
    simp;omega
   have:=hs v hv;omega
  | succ i=>
   have h6:=Qc9.mp (show v∈QcM T h (QX T h m i)from h3);have h7:h v<Qax T v (QX T h m i):=by
    by_cases z:Qax T v (QX T h m i)<=h v
    .exact absurd (Qcf.mpr ⟨h6.1,z⟩) h6.2
    .omega
   rw[num i ⋯ v hv,show((i:Int)+1)=mk v-1 by omega,QxT]at h7;omega
def Qow{t:List Nat}:∀{l:List Nat}{i k:Nat},l[i]? =some k->k∈t->(∀j k',j<i->l[j]? =some k'->k'∉t)->Qch t l=i
 | [],i,k,h,_,_=>by simp at h
 | a::r,0,k,h,hk,_=>by
  cases h;unfold Qch;rw[if_pos hk]
 | a::r,i+1,k,h,hk,hn=>by
  unfold Qch;rw[if_neg (hn 0 a ⋯ rfl),Qow (l:=r) (i:=i) (by simpa using h) hk λj k' hj e=>hn (j+1) k' ⋯ (by simpa using e)]
noncomputable def QbX(R:Lpp)(mk h:Mt1)(p:Nat):Nat:=(Q8 R mk p).getD ((Q8 R mk p).length+(Qd5 R mk p).length-1-h p).toNat 0
section
variable {R:Lpp}{m:Nat}{h mk:Mt1}
def Qeg.own(M:Qeg R m h mk){p:Nat}(hp:p<m):(Q8 R mk p)[((Q8 R mk p).length+(Qd5 R mk p).length-1-h p:Int).toNat]? =some (QbX R mk h p):=by
 have a:=M.lo p hp;have b:=M.hi p hp;unfold QbX;rw[ZS];obtain⟨x,hx⟩:∃x,(Q8 R mk p)[((Q8 R mk p).length+(Qd5 R mk p).length-1-h p:Int).toNat]? =some x:=⟨_,Zq ⋯⟩;rw[hx];rfl
def Qeg.QeB(M:Qeg R m h mk){p:Nat}(hp:p<m):QbX R mk h p<R.length/\Qbj p (rd R (QbX R mk h p))=true/\mk (oe p (rd R (QbX R mk h p)))=mk p-1:=by
 have:=ZC (M.own hp);unfold Q8 at this;obtain⟨h1,h2⟩:=ZA.mp this;obtain⟨h3,h4⟩:=QfH.mp h1;exact⟨h3,h4,of_decide_eq_true h2⟩
def Qeg.QnO(hR:∀s∈R,Good m s)(M:Qeg R m h mk){p q:Nat}(hp:p<m)(hi:Qbj q (rd R (QbX R mk h p))=true):q=p∨(oe q (rd R (QbX R mk h p))=p/\mk q=mk p-1):=by
 obtain⟨h1,h2,h3⟩:=M.QeB hp;have g:=hR _ (Qa2 h1);generalize rd R (QbX R mk h p)=s at *;obtain⟨a1,a2,a3,a4⟩:=QbS g h2;obtain⟨b1,b2,b3,b4⟩:=QbS g hi;by_cases z:q=p
 .exact .inl z
 .have e1:oe q s=p:= ⋯
  have e2:oe p s=q:= ⋯
  exact .inr ⟨e1,by rw[← h3,e2]⟩
def Qeg.inj(hR:∀s∈R,Good m s)(M:Qeg R m h mk){p q:Nat}(hp:p<m)(hq:q<m)(e:QbX R mk h p=QbX R mk h q):p=q:=by
 rcases M.QnO hR hp (q:=q) (by rw[e];exact(M.QeB hq).2.1)with z | ⟨_,z⟩
 .exact z.symm
 .rcases M.QnO hR hq (q:=p) (by rw[← e];exact(M.QeB hp).2.1)with y | ⟨_,y⟩
  .exact y
  .omega
def Qeg.tree(hR:∀s∈R,Good m s)(M:Qeg R m h mk){t:List Nat}(ht:t.Perm ((List.range m).map (QbX R mk h))):Ql6 R m t mk/\∀p,p<m->Qci R mk t p=h p:=by
 have mem:∀k,k∈t↔∃p,p<m/\QbX R mk h p=k:=λk=>by
  rw[ht.mem_iff,ZI];exact⟨λ⟨p,a,b⟩=>⟨p,Zj.mp a,b⟩,λ⟨p,a,b⟩=>⟨p,Zj.mpr a,b⟩⟩
 refine⟨⟨λk hk=>?_,M.pit,M.val,λv hv=>⟨_,(mem _).mpr ⟨v,hv,rfl⟩,(M.QeB hv).2⟩,λv hv k hk hi=>?_⟩,λp hp=>?_⟩
 .obtain⟨p,hp,rfl⟩:=(mem k).mp hk;exact(M.QeB hp).1
 .obtain⟨p,hp,rfl⟩:=(mem k).mp hk;rcases M.QnO hR hp hi with rfl | ⟨e,z⟩
  .rw[(M.QeB hp).2.2];exact Zak _
  .rw[e];omega
 .have e:Qch t (Q8 R mk p)=((Q8 R mk p).length+(Qd5 R mk p).length-1-h p:Int).toNat:=by
   refine Qow (M.own hp) ((mem _).mpr ⟨p,hp,rfl⟩) λj k' hj hk' hkt=>?_;obtain⟨q,hq,rfl⟩:=(mem k').mp hkt;have hm:=ZC hk';unfold Q8 at hm;obtain⟨h1,h2⟩:=ZA.mp hm;have h2:=of_decide_eq_true h2;rcases M.QnO hR hq (QfH.mp h1).2 with rfl | ⟨e,z⟩
   .have pw:(Q8 R mk p).Pairwise (· < ·):=by unfold Q8 QaP;exact(ZbC.filter _).filter _
    exact absurd (Qjo pw hk' (M.own hp) hj) (ZV _)
   .rw[e]at h2;omega
  have a:=M.lo p hp;have b:=M.hi p hp;have c:=QiG (R:=R) (dep:=mk) (p:=p);unfold Qci;rw[e];omega
end
noncomputable def Qgo(QcR:Den)(QaZ:Den)(QW:Den):DS:=(Qc (Qy 2 (Qm 2 QcR [] (Qa vv0 (Qa vv1 Qb)))) (Qc (sIf (QbG (Qs (Qm 2 QaZ [] (Qa vv0 (Qa vv1 Qb))))) (Qc Qu Qj) Qj) (Qc (Qy 3 (QE Qb)) (Qc (QaH (Qbs vv1) (.tp [4,5]) (Qc (Qy 6 (Qm 3 QW [] (Qa vv0 (Qa vv4 (Qa (QA vv2 (QE (Qa kk0 Qb))) Qb))))) (Qc (Qb5 3 Qak (Qf (Qf vv6 kk0) (dOp Qa6 (Qf vv6 kk1) vv5))) Qj))) (Qc (QH (Qcc (Qa vv3 Qb))) Qj)))))
def Qkx(d:Den):Prop:=∀(m:Nat) (R:Lpp) (h:Mt1),0<m->m<=8->R.length<=200->(∀s∈R,Good m s)->(∀j,j<m->0<=h j)->QcE R m h (Qao (Qw m (Qi R [])) h m m)=true->∃t mk,d [Qd m R [],Qe m h]=some (Qg t,true)/\t.length=m/\t.Pairwise (· < ·)/\Ql6 R m t mk/\∀p,p<m->Qci R mk t p=h p
def Qrm{fa:DE}{U:En}{ra:HS.R}{n:Nat}{f:Mt1}(ha:fa U=some ra)(ea:ra.d=Qe n f):Qbs fa U=some ⟨(List.range n).map λ(i:Nat)=> .tup [.int i,.int (f i)],ra.M⟩:=by
 unfold Qbs;rw[ha,Za,ea];show some (IR.mk (Qc4 ((List.range n).map λi=>D.int (f i))) ra.M)=_;congr 2;unfold Qc4;refine Zaj λi=>?_;rw[Zh,Zh,ZbS,Zh];by_cases z:i<n
 .rw[ZL z];simp
 .rw[Zt (by simp;omega)];rfl
def QtO{df da dw:Den}(hf:Qjg df)(ha:Qjz da)(hw:Qn1 dw):Qkx (Qx 7 (Qgo df da dw)):=λm R h m0 m8 hRl hR hpos hc=>by
 obtain⟨mk,M,hF⟩:=QvL hR hc;obtain⟨t,tp,te,ts⟩:=Qik ((List.range m).map (QbX R mk h));have nd:((List.range m).map (QbX R mk h)).Nodup:=by
  unfold List.Nodup;rw[Zbl];exact Zcp (λ{a b} x y ne e=>ne (M.inj hR (Zj.mp x) (Zj.mp y) e)) Zbp
 obtain⟨Dp,hh⟩:=M.tree hR tp;refine⟨t,mk,?_,by rw[tp.length_eq];simp,ts nd,Dp,hh⟩;have ef:=hf m R h m0 ⋯ ⋯ hR hpos;have ec:=ha m R h m0 ⋯ ⋯ hR hpos;rw[hc]at ec;have efar:Qae m (Qao (Qw m (Qi R [])) h m m)=Qe m mk:=by
  unfold Qae Qe;congr 1;exact ZM λv hv=>by rw[hF v (Zj.mp hv)];rfl
 rw[efar]at ef;have edep:Qe (m+1) (QhB m mk)=Qe (m+1) mk:=Ql8 λj hj=>by
  unfold QhB;by_cases e:j<m
  .rw[if_pos e]
  .rw[if_neg e,show j=m by omega,M.pit]
 refine Q2 ?_;refine rsa (Qt (r:=⟨[Qd m R [],Qe m h],false,[]⟩) rfl ef rfl) ?_;refine run_seq (QL (b:=false) (Qa4 (b:=true) (Qz (Qt (r:=⟨[Qd m R [],Qe m h],false,[]⟩) rfl ec rfl) rfl)) (λh=>by cases h) (λ_=>Qq ?_));refine rsa (d:=Qg []) rfl ?_;change Run _ [slF (Qd m R []),slF (Qe m h),slT (Qe m mk),slT (Qg []),none,none,none] _;refine run_seq (QaA (toD:=λ(i:Nat)=> .tup [.int i,.int (h i)]) (List.range m) (λi U=>∃j4 j5 j6,U=[slF (Qd m R []),slF (Qe m h),slT (Qe m mk),slT (Qg ((List.range i).map (QbX R mk h))),j4,j5,j6]) (Qrm rfl rfl) rfl ⟨none,none,none,rfl⟩ ?_ ?_)
 .rintro i i' U hi ⟨j4,j5,j6,rfl⟩;obtain⟨h1,rfl⟩:=Ze.mp hi;rw[List.getElem_range];have him:i<m:=by simpa using h1
  refine⟨[slF (Qd m R []),slF (Qe m h),slT (Qe m mk),slT (Qg ((List.range i).map (QbX R mk h))),slI i,slI (h i),j6],rfl,?_⟩;refine rsa (Qt (Qo (r:=reF (Qd m R [])) rfl (Qo (r:=reI i) rfl (Qo (r:=reT (Qe (m+1) mk)) ((Qir (m:=m) (f:=mk) (ra:=⟨Qe m mk,true,[2]⟩) rfl rfl ⋯).trans (by rw[edep])) (QI _)))) (hw m R i mk him hR) rfl) ?_;change Run _ [slF (Qd m R []),slF (Qe m h),slT (Qe m mk),slT (Qg ((List.range i).map (QbX R mk h))),slI i,slI (h i),slT (.tup [Qg (Q8 R mk i),.int ((QaP R i).length-1-(Qbe R mk i).length)])] _;have c:=QiG (R:=R) (dep:=mk) (p:=i);have b:=M.hi i him;have own:=M.own him;rw[show((Q8 R mk i).length+(Qd5 R mk i).length-1-h i:Int)=(QaP R i).length-1-(Qbe R mk i).length-h i by omega]at own;refine run_seq (QhN (l:=(List.range i).map (QbX R mk h)) (v:=QbX R mk h i) rfl (Qev (l:=Q8 R mk i) (ra:=⟨Qg (Q8 R mk i),true,[6]⟩) rfl rfl (QY (d:= .int ((QaP R i).length-1-(Qbe R mk i).length-h i)) (ra:=reI ((QaP R i).length-1-(Qbe R mk i).length)) (rb:=reI (h i)) rfl rfl rfl) rfl ⋯ own) rfl (by simp;omega) (Qq ⟨slI i,slI (h i),slT (.tup [Qg (Q8 R mk i),.int ((QaP R i).length-1-(Qbe R mk i).length)]),?_⟩));rw[ZaA,ZK];rfl
 .rintro U ⟨j4,j5,j6,rfl⟩;rw[ZF];refine QK (r:=reT (Qg t)) ?_ ⟨rfl,rfl⟩;unfold Qcc;show(Qb1 (((List.range m).map (QbX R mk h)).map λ(p:Nat)=>D.int (p:Int))).bind _=_;have:=Qdk (((List.range m).map (QbX R mk h)).map λ(p:Nat)=>(p:Int));rw[ZO]at this;rw[show(((List.range m).map (QbX R mk h)).map λ(p:Nat)=>D.int (p:Int))=((List.range m).map (QbX R mk h)).map (D.int ∘ λ(p:Nat)=>(p:Int))from rfl,this,Za,if_pos (by simp;omega),te];rfl
def Qq4{m:Nat}{R:Lpp}(hR:∀s∈R,Good m s):∀i j,i<m->j<m->i≠j->Qw m (Qi R []) i j=Qw m (Qi R []) j i:=λi j hi hj hij=>Qwt hR hi hj hij
def Qzn{m:Nat}{R:Lpp}(hR:∀s∈R,Good m s){p:Nat}(hp:p<m){l:List Nat}(nd:l.Nodup)(hl:∀o∈l,o<m){s:Int×Int}(hs:s∈R)(ho:(s.1=p/\(s.2=m∨s.2.toNat∉l))∨(s.2=p/\(s.1=m∨s.1.toNat∉l))):Qax (Qw m (Qi R [])) p l+1<=Q1 R [] p:=by
 rw[Qj8 hR hp nd hl,← Qk2 hR p];obtain⟨g1,g2,g3,g4,g5⟩:=hR s hs;have hm:m∉l:=λz=>by have:=hl m z;omega
 have h1:QG p l s=0/\QG p (List.range (m+1)) s=1:=by
  have e1:s.2.toNat∈List.range (m+1):=Zj.mpr ⋯;have e2:s.1.toNat∈List.range (m+1):=Zj.mpr ⋯;unfold QG;rcases ho with⟨a,h⟩ | ⟨a,h⟩
  .have b:¬s.2=p:= ⋯
   have x:s.2.toNat∉l:=by
    rcases h with h | h
    .rw[h,Zl];exact hm
    .exact h
   simp[a,b,x,e1]
  .have b:¬s.1=p:= ⋯
   have x:s.1.toNat∉l:=by
    rcases h with h | h
    .rw[h,Zl];exact hm
    .exact h
   simp[a,b,x,e2]
 have le:∀r∈R,QG p l r<=QG p (List.range (m+1)) r:=λr _=>QAL λx hx=>Zj.mpr (by have:=hl x hx;omega);clear ho g5 g4 g3 g2 g1 hR
 induction R with
 | nil=>simp at hs
 | cons r R ih=>
  simp only[Zv,ZQ];rcases Zk.mp hs with e | e
  .subst e;have:=QkP (S:=R) (f:=QG p l) (h:=QG p (List.range (m+1))) λr hr=>le r (by simp[hr]);omega
  .have h2:=ih e λr hr=>le r (by simp[hr]);have h3:=le r ⋯;omega
def QrI{m:Nat}{R:Lpp}(hw:Qbz m R []){f c:Mt1}(hf:∀j,j<m->Q1 R [] j-1<=f j)(hc:Told m (Qw m (Qi R [])) f c):∀i,i<m->Qao (Qw m (Qi R [])) (Qbr m (Qw m (Qi R [])) f c) m m i≠none:=by
 have hR:=hw.good.1;have tp:=hw.tp;have c0:=hc.leg.nonneg;intro i hi z;have hcold:=(QdW m i hi).mp z;have nd:=Qdv (T:=Qw m (Qi R [])) (h:=Qbr m (Qw m (Qi R [])) f c) (m:=m) m;have lt:∀o∈QX (Qw m (Qi R [])) (Qbr m (Qw m (Qi R [])) f c) m m,o<m:=λo ho=>QdB ho;have few:∀p∈QX (Qw m (Qi R [])) (Qbr m (Qw m (Qi R [])) f c) m m,Qbr m (Qw m (Qi R [])) f c p<Qax (Qw m (Qi R [])) p (QX (Qw m (Qi R [])) (Qbr m (Qw m (Qi R [])) f c) m m):=λp hp=>Qv0 hp;generalize QX (Qw m (Qi R [])) (Qbr m (Qw m (Qi R [])) f c) m m=C at *;by_cases hall:∀p∈C,0<c p
 .have:=Qvm tp (Qq4 hR) hc nd (List.ne_nil_of_mem hcold) λp hp=>⟨lt p hp,hall p hp⟩;obtain⟨p,hp⟩:=List.exists_mem_of_ne_nil _ this;obtain⟨p1,p2⟩:=Qcf.mp hp;have:=few p p1;omega
 .obtain⟨q,hq1,hq2⟩:∃q,q∈C/\¬0<c q:=by
   refine ZW λw=>hall λp hp=>?_;exact ZW λw2=>w ⟨p,hp,w2⟩
  obtain⟨p,h1,⟨h2,h2'⟩,s,h3,h4⟩:=Qq9 hw (λx=>x∈C/\¬0<c x) ⟨q,lt q hq1,hq1,hq2⟩;have cp:c p=0:=by have:=c0 p;omega
  have sum0:∀o,o<m->o≠p->0<=c o*Qw m (Qi R []) o p:=λo ho hop=>Zce (c0 o) (tp.pos o p ho h1 hop);have hsum:0<=QaJ m λi=>c i*Qw m (Qi R []) i p:=by
   have:=QfK (m:=m) (f:=λ_=>0) (g:=λi=>c i*Qw m (Qi R []) i p) λi hi=>by
    by_cases e:i=p
    .subst e;rw[cp,Zaq];exact Zak _
    .exact sum0 i hi e
   rw[Qcj]at this;exact this
  have fp:=hf p h1;have st:=hc.stb p h1;rw[hw.neg h1]at st;have fw:=few p h2;obtain⟨g1,g2,g3,g4,g5⟩:=hR s h3;obtain⟨x,hx,hend⟩:∃x:Nat,x<=m/\((s.1=p/\s.2=x)∨(s.2=p/\s.1=x))/\(x=m∨¬(x∈C/\¬0<c x)):=by
   rcases h4 with⟨a,b⟩ | ⟨a,b⟩
   .exact⟨s.2.toNat,⋯,.inl ⟨a,⋯⟩,b.elim (λz=> .inl ⋯) .inr⟩
   .exact⟨s.1.toNat,⋯,.inr ⟨a,⋯⟩,b.elim (λz=> .inl ⋯) .inr⟩
  by_cases hxC:x∈C
  ·
   have hxm:=lt x hxC;have cx:1<=c x:=by
    rcases hend.2 with e | e
    .omega
    .have:=ZW λw:¬0<c x=>e ⟨hxC,w⟩;omega
   have hxp:x≠p:=by
    rcases hend.1 with⟨a,b⟩ | ⟨a,b⟩<;>omega
   have hT:1<=Qw m (Qi R []) x p:=by
    rw[Qq4 hR x p hxm h1 hxp];have:=Qe8 hR h1 (l:=[x]) ⋯ (by simpa using hxm) (by simpa using hxp.symm);simp only[Zv,Zaw,ZQ,ZbH,ZaH]at this;rw[this];have:0<(R.map (QG p [x])).sum:=Qhs (λs _=>(QjO p _ s).1) ⟨s,h3,by
     unfold QG;rw[if_pos (by rcases hend.1 with⟨a,b⟩ | ⟨a,b⟩;exact .inl ⟨a,by simp;omega⟩;exact .inr ⟨a,by simp;omega⟩)];decide⟩
    omega
   have one:1<=QaJ m λi=>c i*Qw m (Qi R []) i p:=by
    have:=QfK (m:=m) (f:=λi=>(if i=x then 1 else 0)*(1:Int)) (g:=λi=>c i*Qw m (Qi R []) i p) λi hi=>by
     by_cases e:i=x
     .subst e;rw[if_pos rfl];have:=ZcC cx hT ∅ ⋯;omega
     .rw[if_neg e,Zaq];by_cases e2:i=p
      .subst e2;rw[cp,Zaq];exact Zak _
      .exact sum0 i hi e2
    rw[Qc2 hxm 1 (λ_=>1)]at this;omega
   unfold Qbr at st;omega
  .have:=Qzn hR h1 nd lt h3 (by
    rcases hend.1 with⟨a,b⟩ | ⟨a,b⟩
    .exact .inl ⟨a,.inr (by rw[b,Zl];exact hxC)⟩
    .exact .inr ⟨a,.inr (by rw[b,Zl];exact hxC)⟩)
   unfold Qbr at fw;omega
section
variable {R:Lpp}{m:Nat}{h a b:Mt1}
end
section
variable {m:Nat}{T:Mt2}
def Qie(pos:∀i j,i<m->j<m->i≠j->0<=T i j){g:Mt1}{F:List Nat}(nd:F.Nodup)(lt:∀o∈F,o<m)(fb:∀v∈F,g v<Qax T v F):∀(k v:Nat),v∈F->v∈QX T g m k
 | 0,v,hv=>Zj.mpr (lt v hv)
 | k+1,v,hv=>by
  refine Qc9.mpr ⟨Qie pos nd lt fb k v hv,λz=>?_⟩;have h1:=(Qcf.mp z).2;have h2:=Qla pos (lt v hv) nd (Qdv (T:=T) (h:=g) (m:=m) k) (λo ho=>QdB ho) (λo ho=>Qie pos nd lt fb k o ho);have:=fb v hv;omega
end
def QqC{fa:DE}{U:En}{r:HS.R}{t:List Nat}(h:fa U=some r)(e:r.d=Qg t)(hp:t.Pairwise (· < ·))(hl:t.length<=18):Qjj fa U=some (reT (Qg t)):=by
 unfold Qjj;rw[h,Za,e,Qdo];show(Qb1 ((t.map λ(p:Nat)=>(p:Int)).map D.int)).bind _=_;have hi:(t.map λ(p:Nat)=>(p:Int)).Pairwise (· < ·):=by rw[Zbl];exact hp.imp λh=> ⋯
 rw[Qdk,Za,if_pos (by simpa using hl),QtZ (hi.imp λh=> ⋯),Qrk (hi.imp λh=> ⋯)]
def Qoe(t:List Nat):Qg t=Qe t.length λi=>((t.getD i 0:Nat):Int):=by
 unfold Qg Qe;congr 1;refine Zaj λi=>?_;rw[Zh,Zh];by_cases z:i<t.length
 .rw[ZL z,Zq z];show some (D.int ((t[i]:Nat):Int))=some (D.int ((t.getD i 0:Nat):Int));rw[ZS,Zq z];rfl
 .rw[Zt ⋯,Zt (by simp;omega)];rfl
noncomputable def Qdm(Qa3:Den)(QcU:Den):DS:=(Qc (sIf (bOr (QbG (Qs (Qm 2 Qa3 [] (Qa vv1 (Qa (Qf vv0 kk0) Qb))))) (bOr (Qs (dOp gNe vv1 (Qjj vv1))) (Qs (dOp gNe (dBf Q6 (Qa vv1 Qb)) (Qf vv0 kk0))))) (Qc (QH (dC (.bl false))) Qj) Qj) (Qc (sIf (bOr (Qs (dOp gLt (Qf vv1 kk0) kk0)) (Qs (dOp gGe (Qf vv1 (Qcx kk1)) (dBf Q6 (Qa (Qf vv0 kk1) Qb))))) (Qc (QH (dC (.bl false))) Qj) Qj) (Qc (QH (dOp gLe (dBf QeS (Qa (Qm 2 QcU [] (Qa vv0 (Qa vv1 Qb))) Qb)) (Qf vv0 kk0))) Qj)))
def QkM(d:Den):Prop:=∀(m:Nat) (R:Lpp) (t:List Nat) (dep:Mt1),0<m->m<=8->(∀s∈R,Good m s)->t.length=m->t.Pairwise (· < ·)->Ql6 R m t dep->d [Qd m R [],Qg t]=some (.bl true,true)
def Qp8{du dd:Den}(hu:QiO du)(hd:Qlj dd):QkM (Qx 2 (Qdm du dd)):=λm R t dep m0 m8 hR tl tp Dp=>by
 have eu:=hu t.length λi=>((t.getD i 0:Nat):Int);rw[← Qoe,tl]at eu;have ed:=hd m R t m8 hR Dp.tl;have efar:=Qqv hR Dp;obtain⟨a,ha⟩:∃a,t[0]? =some a:=⟨_,Zq ⋯⟩;obtain⟨b,hb⟩:∃b,t[m-1]? =some b:=⟨_,Zq ⋯⟩;have bl:=Dp.tl b (ZC hb);obtain⟨v,⟨i,hi,ei⟩,_,hv⟩:=Qqt (by omega:0<m+1) (Qcq R m t m);have vm:v<=m:=by
  rw[ei,efar i ⋯];by_cases z:i<m
  .exact(Dp.val i z).2
  .rw[show i=m by omega,Dp.pit];omega
 have last:∀(U:En),U[1]? =some (slF (Qg t))->Qf (Qh 1) (Qcx (dC (.int 1))) U=some (reI b):=λU h1=>by
  unfold Qf;rw[Q3 h1,Za];show(atI (t.map λ(p:Nat)=>D.int (p:Int)) (-1)).map _=_;rw[QlM (by simp;omega),Zc,Zh,tl,hb];rfl
 refine Q2 ?_;refine QC (QL (b:=false) (QbU (a:=false) (b:=false) (Qa4 (b:=true) (Qz (Qt (r:=⟨[Qg t,.int m],false,[]⟩) rfl eu rfl) rfl)) (QbU (a:=false) (b:=false) (Qz (b:=false) (QsT (d:=Qg t) (ra:=reF (Qg t)) rfl rfl (QqC (r:=reF (Qg t)) rfl rfl tp ⋯) rfl (QkI 7 _)) rfl) (Qz (b:=false) (r:=reT (.bl false)) ((QdF (a:=(m:Int)) (b:=m) ((Qhk (l:=t) (r:=reF (Qg t)) rfl rfl).trans (by rw[tl])) rfl (rb:=reI m) rfl rfl).trans ⋯) rfl))) (λh=>by cases h) (λ_=>Qq ?_));refine QC (QL (b:=false) (QbU (a:=false) (b:=false) (Qz (b:=false) (QY (d:= .bl (decide ((a:Int)<0))) (Qev (l:=t) (i:=0) (v:=a) (ra:=reF (Qg t)) (rb:=reI 0) rfl rfl rfl rfl ∅ ha) (rb:=reI 0) rfl rfl) (by rw[decide_eq_false ⋯])) (Qz (b:=false) (QY (d:= .bl (decide ((R.length:Int)<=b))) (last _ rfl) (rb:=reI R.length) ((Qbp (xs:=R.map pairD) (r:=reF (Qr R)) rfl rfl).trans (by rw[Zc])) rfl) (by rw[decide_eq_false ⋯]))) (λh=>by cases h) (λ_=>Qq ?_));exact QK (r:=reT (.bl true)) ((QY (d:= .bl (decide (v<=(m:Int)))) (hv (r:=reT (Qe (m+1) (Qcq R m t m))) (Qt (r:=⟨[Qd m R [],Qg t],false,[]⟩) rfl ed rfl) rfl) (rb:=reI m) rfl rfl).trans (by rw[decide_eq_true vm])) ⟨rfl,rfl⟩
def Qx5{fa fb:DE}{U:En}{ra rb:HS.R}{ns:List Int}{n:Nat}(ha:fa U=some ra)(ea:ra.d= .lst (ns.map .int))(hb:fb U=some rb)(eb:rb.d= .int n):Qad fa (QS fb) QZ U=some (reT (.lst ((ns.drop n).map .int))):=by
 have cut:cutD (ns.map D.int) (some (n:Int)) none=(ns.drop n).map D.int:=by
  unfold cutD;simp only[Zc,HT.Qf8,HT.Qju,ZbF];rw[← Zco,← Zbi];congr 1;by_cases h:n<=ns.length
  .rw[Zbh h,Zbd ⋯]
  .rw[Nat.min_eq_right ⋯,Zbg ⋯,Zbg ⋯];simp
 unfold Qad QZ QS;simp only[ha,hb,Za,ea,eb,cut,Qaq,QdZ,if_true]
noncomputable def QcZ(Q5:Den):DX:=(QM (sIf (Qs (dOp gNe (dBf Q6 (Qa vv1 Qb)) (Qf vv0 kk0))) (Qc Qu Qj) Qj) (xIf (Qs (dOp gNe (dBf Q6 (Qa vv1 Qb)) (Qf vv0 kk0))) (QM Qu (QbB "NoTree" (Qa (dC (.str "a tree has as many roads as the net has places")) Qb)) xNo) xNo) (QM (sIf (Qs (dBf Qft (Qa (QO (QcP vv1 (Qad vv1 (QS kk1) QZ)) (.tp [1,2]) [none,none,none] QaR (dOp gGe vv1 vv2)) Qb))) (Qc Qu Qj) Qj) (xIf (Qs (dBf Qft (Qa (QO (QcP vv1 (Qad vv1 (QS kk1) QZ)) (.tp [1,2]) [none,none,none] QaR (dOp gGe vv1 vv2)) Qb))) (QM Qu (QbB "NoTree" (Qa (dC (.str "a tree's road numbers rise")) Qb)) xNo) xNo) (QM (sIf (bOr (Qs (dOp gLt (Qf vv1 kk0) kk0)) (Qs (dOp gGe (Qf vv1 (Qcx kk1)) (dBf Q6 (Qa (Qf vv0 kk1) Qb))))) (Qc Qu Qj) Qj) (xIf (bOr (Qs (dOp gLt (Qf vv1 kk0) kk0)) (Qs (dOp gGe (Qf vv1 (Qcx kk1)) (dBf Q6 (Qa (Qf vv0 kk1) Qb))))) (QM Qu (QbB "NoTree" (Qa (dC (.str "a tree has a number that is no road's")) Qb)) xNo) xNo) (QM (sIf (Qs (dOp (gIn false) (dC .non) (Qm 2 Q5 [] (Qa vv0 (Qa vv1 Qb))))) (Qc Qu Qj) Qj) (xIf (Qs (dOp (gIn false) (dC .non) (Qm 2 Q5 [] (Qa vv0 (Qa vv1 Qb))))) (QM Qu (QbB "NoTree" (Qa (dC (.str "a place has no way to the pit along the tree's roads")) Qb)) xNo) xNo) xNo))))
def Qv3{dd:Den}:ApF (Qx 2 (QdJ dd)) (Qag 2 (QcZ dd)):=Qfu (by unfold QdJ QcZ;ac_rfl)
def Qtt(ts:List Int):Qd6 (ts.map D.int) ((ts.drop 1).map D.int)=(ts.zip (ts.drop 1)).map λq=> .tup [.int q.1,.int q.2]:=by
 unfold Qd6;rw[List.zip_map,ZO];rfl
def Qex{fa fb:DE}{U:En}{ra rb:HS.R}{ts:List Int}{n:Nat}(ha:fa U=some ra)(ea:ra.d=Qp ts)(hb:fb U=some rb)(eb:rb.d= .int n):Qad fa (QS fb) QZ U=some (reT (Qp (ts.drop n))):=Qx5 ha ea hb eb
section
variable {m:Nat}{R:Lpp}{ts:List Int}
def Qli:Qs (dOp gNe (dBf Q6 (Qa (Qh 1) Qb)) (Qf (Qh 0) (dC (.int 0)))) [slF (Qd m R []),slF (Qp ts)]=some (decide (ts.length≠m)):=by
 have h1:dBf Q6 (Qa (Qh 1) Qb) [slF (Qd m R []),slF (Qp ts)]=some (reI ts.length):=by rw[Qbp (xs:=ts.map D.int) (r:=reF (Qp ts)) rfl rfl,Zc]
 refine Qz (QdF (a:=(ts.length:Int)) (b:=m) h1 rfl (rb:=reI m) rfl rfl) ?_;show D.bl _=D.bl _;congr 1;by_cases z:ts.length=m
 .simp[z]
 .have:¬(ts.length:Int)=m:= ⋯
  simp[z,this]
def QmB:Qs (dBf Qft (Qa (QO (QcP (Qh 1) (Qad (Qh 1) (QS (dC (.int 1))) QZ)) (.tp [1,2]) [none,none,none] QaR (dOp gGe (Qh 1) (Qh 2))) Qb)) [slF (Qd m R []),slF (Qp ts)]=some ((ts.zip (ts.drop 1)).any λq=>decide (q.2<=q.1)):=by
 have ec:=Qa1 (fi:=QcP (Qh 1) (Qad (Qh 1) (QS (dC (.int 1))) QZ)) (t:= .tp [1,2]) (cap:=[none,none,none]) (fe:=dOp gGe (Qh 1) (Qh 2)) (U:=[slF (Qd m R []),slF (Qp ts)])
  (toD:=λ(q:Int×Int)=> .tup [.int q.1,.int q.2]) (out:=λ(q:Int×Int)=> .bl (decide (q.2<=q.1))) (ts.zip (ts.drop 1)) (ir:=⟨Qd6 (ts.map D.int) ((ts.drop 1).map D.int),[]⟩) (by
   unfold QcP;rw[Qex (ts:=ts) (n:=1) (ra:=reF (Qp ts)) (rb:=reI 1) rfl rfl rfl rfl];rfl) (Qtt ts) λq _=>⟨[none,slI q.1,slI q.2],rfl,reT (.bl (decide (q.2<=q.1))),rfl,rfl,rfl⟩
 refine(Qz (Qq0 (bs:=(ts.zip (ts.drop 1)).map λq=>decide (q.2<=q.1)) ec (by rw[ZO];rfl)) rfl).trans ?_;rw[List.any_map];rfl
def QsU{a z:Int}(h0:ts[0]? =some a)(hz:ts[ts.length-1]? =some z):bOr (Qs (dOp gLt (Qf (Qh 1) (dC (.int 0))) (dC (.int 0)))) (Qs (dOp gGe (Qf (Qh 1) (Qcx (dC (.int 1)))) (dBf Q6 (Qa (Qf (Qh 0) (dC (.int 1))) Qb)))) [slF (Qd m R []),slF (Qp ts)]=some (decide (a<0) || decide ((R.length:Int)<=z)):=by
 have hne:0<ts.length:=(Ze.mp h0).1;have e2:Qf (Qh 1) (Qcx (dC (.int 1))) [slF (Qd m R []),slF (Qp ts)]=some (reI z):=by
  unfold Qf;show((D.items (Qp ts)).bind λxs=>(atI xs (-1)).map λd=>(HS.R.mk d false []).norm)=_;unfold Qp;simp only[D.items,Za];rw[QlM (by rw[Zc];exact hne),Zc,Zh,hz];rfl
 have e3:dBf Q6 (Qa (Qf (Qh 0) (dC (.int 1))) Qb) [slF (Qd m R []),slF (Qp ts)]=some (reI R.length):=by
  rw[Qbp (xs:=R.map pairD) (Qaz (m:=m) (R:=R) (L:=[]) (Q3 (d:=Qd m R []) (b:=false) rfl) rfl).2.1 rfl,Zc]
 exact QbU (a:=decide (a<0)) (b:=decide ((R.length:Int)<=z)) (Qz (QY (d:= .bl (decide (a<0))) (rb:=reI 0) (QlU (ns:=ts) (i:=0) (v:=a) (ra:=reF (Qp ts)) (rb:=reI 0) rfl rfl rfl rfl ∅ h0) rfl rfl) rfl) (Qz (QY (d:= .bl (decide ((R.length:Int)<=z))) e2 e3 rfl) rfl)
end
structure Qws (xd:List D->Option Str):Prop where
 len:∀(m:Nat) (R:Lpp) (ts:List Int),ts.length≠m->xd [Qd m R [],Qp ts]=some "NoTree"
 rise:∀(m:Nat) (R:Lpp) (ts:List Int),(∃q∈ts.zip (ts.drop 1),q.2<=q.1)->xd [Qd m R [],Qp ts]=some "NoTree"
 rng:∀(m:Nat) (R:Lpp) (ts:List Int) (a z:Int),ts[0]? =some a->ts[ts.length-1]? =some z->a<0∨(R.length:Int)<=z->xd [Qd m R [],Qp ts]=some "NoTree"
 cut:∀(m:Nat) (R:Lpp) (t:List Nat),0<m->m<=8->(∀s∈R,Good m s)->t.length=m->t.Pairwise (· < ·)->(∀k∈t,k<R.length)->(∃v,v<m/\Qai (Qi (QaB R t) []) (Qaw m) m v=none)->xd [Qd m R [],Qg t]=some "NoTree"
def QyW{dd:Den}(hd:QiI dd):Qws (Qag 2 (QcZ dd)):=by
 have no:∀{m:Nat}{R:Lpp}{ts:List Int}{s:Str},Qd2 (QM Qu (QbB "NoTree" (Qa (dC (.str s)) Qb)) xNo) [slF (Qd m R []),slF (Qp ts)] "NoTree" :=Q7 QR (Qew rfl (Zs _));have len:∀(m:Nat) (R:Lpp) (ts:List Int),ts.length≠m->Qag 2 (QcZ dd) [Qd m R [],Qp ts]=some "NoTree" :=λm R ts h=>Qbw (Q7 (by ac_rfl) (Qfw Qli (λ_=>no) (λz=>absurd (of_decide_eq_false z) (not_not_intro h))));have rise:∀(m:Nat) (R:Lpp) (ts:List Int),(∃q∈ts.zip (ts.drop 1),q.2<=q.1)->Qag 2 (QcZ dd) [Qd m R [],Qp ts]=some "NoTree" :=λm R ts ⟨q,h1,h2⟩=>by
  by_cases z:ts.length=m
  .refine Qbw (Qb6 (QL (b:=false) (Qli.trans (by simp[z])) (λh=>by cases h) (λ_=>Qq ?_)));exact Q7 (by ac_rfl) (Qfw QmB (λ_=>no) (λy=>by
    have:=Zax.mp y q h1;simp at this;omega))
  .exact len m R ts z
 refine⟨len,rise,λm R ts a z h0 hz h=>?_,λm R t m0 m8 hR tl tp tR ⟨v,hv,hn⟩=>?_⟩
 .by_cases y:ts.length=m
  .by_cases x:(ts.zip (ts.drop 1)).any (λq=>decide (q.2<=q.1))=true
   .obtain⟨q,h1,h2⟩:=ZbN.mp x;exact rise m R ts ⟨q,h1,of_decide_eq_true h2⟩
   .refine Qbw (Qb6 (QL (b:=false) (Qli.trans (by simp[y])) (λh=>by cases h) (λ_=>Qq ?_)));refine Qb6 (QL (b:=false) (QmB.trans (by rw[Bool.not_eq_true]at x;rw[x])) (λh=>by cases h) (λ_=>Qq ?_));refine Q7 (by ac_rfl) (Qfw (QsU h0 hz) (λ_=>no) (λw=>?_));rw[Bool.or_eq_false_iff,decide_eq_false_iff_not,decide_eq_false_iff_not]at w;exact absurd h ⋯
  .exact len m R ts y
 .obtain⟨a,ha⟩:∃a,t[0]? =some a:=⟨_,Zq ⋯⟩;obtain⟨z,hz⟩:∃z,t[t.length-1]? =some z:=⟨_,Zq ⋯⟩;have zl:=tR z (ZC hz);have ei:Qg t=Qp (t.map λ(p:Nat)=>(p:Int)):=Qdo t;have ed:=hd m R t m0 m8 ⋯ hR tR;rw[ei]at ed ⊢;have hl:(t.map λ(p:Nat)=>(p:Int)).length=m:=by rw[Zc];exact tl
  refine Qbw (Qb6 (QL (b:=false) (Qli.trans (by simp[tl])) (λh=>by cases h) (λ_=>Qq ?_)));refine Qb6 (QL (b:=false) (QmB.trans ?_) (λh=>by cases h) (λ_=>Qq ?_))
  .congr 1;rw[Zax];intro q hq;obtain⟨i,hi⟩:=Zap hq;rw[ZaP,Zbe,Zh,Zh]at hi;obtain⟨x1,h1,e1⟩:=Zf.mp hi.1;obtain⟨x2,h2,e2⟩:=Zf.mp hi.2;have:=Qjo tp h1 h2 ⋯;simp;omega
  refine Qb6 (QL (b:=false) ((QsU (a:=a) (z:=z) (by rw[Zh,ha];rfl) (by rw[hl,← tl,Zh,hz];rfl)).trans ?_) (λh=>by cases h) (λ_=>Qq ?_))
  .rw[decide_eq_false ⋯,decide_eq_false ⋯];rfl
  refine Q7 (by ac_rfl) (Qfw (b:=true) (Qz (r:=reT (.bl true)) ((Qi4 (neg:=false) (m:=m) (F:=Qai (Qi (QaB R t) []) (Qaw m) m) (Qt (r:=⟨[Qd m R [],Qp (t.map λ(p:Nat)=>(p:Int))],false,[]⟩) rfl ed rfl) rfl).trans ?_) rfl) (λ_=>no) (λh=>by cases h));have:((List.range m).any λi=>(Qai (Qi (QaB R t) []) (Qaw m) m i).isNone)=true:=ZbN.mpr ⟨v,Zj.mpr hv,by rw[hn];rfl⟩;rw[this];rfl
noncomputable def Qgw(QW:Den)(Q5:Den)(Qa8:Den)(QN:Den)(x_need_tree:List D->Option Str)(x_need_plain:List D->Option Str):DX:=(QM (Qaj (Qm 1 QN [] (Qa vv0 Qb))) (QaX 1 x_need_plain (Qa vv0 Qb)) (QM (Qaj (Qm 2 Qa8 [] (Qa vv0 (Qa vv1 Qb)))) (QaX 2 x_need_tree (Qa vv0 (Qa vv1 Qb))) (QM (Qy 2 (QA (Qm 2 Q5 [] (Qa vv0 (Qa vv1 Qb))) (QE (Qa kk0 Qb)))) xNo (QM (Qy 3 (QE Qb)) xNo (QM (QaH (Qan (Qf vv0 kk0)) (.nm 4) (Qc (Qy 5 (Qm 3 QW [] (Qa vv0 (Qa vv4 (Qa vv2 Qb))))) (Qc (Qy 6 (QO (Qbs (Qf vv5 kk0)) (.tp [1,2]) [none,none,none,some 1] (Qs (dOp (gIn false) vv2 vv3)) vv1)) (Qc (Qb5 3 Qak (dOp Qa6 (Qf vv5 kk1) (Qf vv6 kk0))) Qj)))) (Qfo (Qan (Qf vv0 kk0)) (.nm 4) (Qc (Qy 5 (Qm 3 QW [] (Qa vv0 (Qa vv4 (Qa vv2 Qb))))) (Qc (Qy 6 (QO (Qbs (Qf vv5 kk0)) (.tp [1,2]) [none,none,none,some 1] (Qs (dOp (gIn false) vv2 vv3)) vv1)) (Qc (Qb5 3 Qak (dOp Qa6 (Qf vv5 kk1) (Qf vv6 kk0))) Qj))) (QM (Qy 5 (Qm 3 QW [] (Qa vv0 (Qa vv4 (Qa vv2 Qb))))) xNo (QM (Qy 6 (QO (Qbs (Qf vv5 kk0)) (.tp [1,2]) [none,none,none,some 1] (Qs (dOp (gIn false) vv2 vv3)) vv1)) xNo (QM (Qb5 3 Qak (dOp Qa6 (Qf vv5 kk1) (Qf vv6 kk0))) xNo xNo)))) (QM (QH vv3) xNo xNo))))))
def QtM{dp dn dd dw:Den}{xn xp:List D->Option Str}(h1:ApF dn xn)(h2:ApF dp xp):ApF (Qx 7 (Qgl dp dn dd dw)) (Qag 7 (Qgw dw dd dn dp xn xp)):=Qfu (by unfold Qgl Qgw;ac_rfl)
structure Qms (xt:List D->Option Str) (xd:List D->Option Str):Prop where
 plain:∀(m:Int) (R L:Lpp) (xs:List D),L≠[]->xd [Qd m R L,.lst xs]=some "NotPlain"
 tree:∀(m:Nat) (R:Lpp) (xs:List D),xt [Qd m R [],.lst xs]=some "NoTree" ->xd [Qd m R [],.lst xs]=some "NoTree"
def Qr0{dp dn dd dw:Den}{xn xp:List D->Option Str}(h1:ApF dn xn)(h2:ApF dp xp)(hp:QeE dp)(px:Qi9 xp):Qms xn (Qag 7 (Qgw dw dd dn dp xn xp)) where
 plain:=λm R L xs hL=>Qbw (Q7 (QQ h2) (Qcy (r:=⟨[Qd m R L],_,_⟩) rfl rfl (px m R L hL)))
 tree:=λm R xs h=>by
  refine Qbw (Qb6 (Qcp (Qt (r:=⟨[Qd m R []],false,[]⟩) rfl (hp m R) rfl) ?_));exact Q7 (QQ h1) (Qcy (r:=⟨[Qd m R [],.lst xs],_,_⟩) rfl rfl h)
noncomputable def Qgt(QW:Den)(QaZ:Den)(QcR:Den)(x_fire:List D->Option Str):DX:=(QM (Qy 2 (Qm 2 QcR [] (Qa vv0 (Qa vv1 Qb)))) (QaX 2 x_fire (Qa vv0 (Qa vv1 Qb))) (QM (sIf (QbG (Qs (Qm 2 QaZ [] (Qa vv0 (Qa vv1 Qb))))) (Qc Qu Qj) Qj) (xIf (QbG (Qs (Qm 2 QaZ [] (Qa vv0 (Qa vv1 Qb))))) (QM Qu (QbB "NotAgain" (Qa (dC (.str "the heap does not come again")) Qb)) xNo) xNo) (QM (Qy 3 (QE Qb)) xNo (QM (QaH (Qbs vv1) (.tp [4,5]) (Qc (Qy 6 (Qm 3 QW [] (Qa vv0 (Qa vv4 (Qa (QA vv2 (QE (Qa kk0 Qb))) Qb))))) (Qc (Qb5 3 Qak (Qf (Qf vv6 kk0) (dOp Qa6 (Qf vv6 kk1) vv5))) Qj))) (Qfo (Qbs vv1) (.tp [4,5]) (Qc (Qy 6 (Qm 3 QW [] (Qa vv0 (Qa vv4 (Qa (QA vv2 (QE (Qa kk0 Qb))) Qb))))) (Qc (Qb5 3 Qak (Qf (Qf vv6 kk0) (dOp Qa6 (Qf vv6 kk1) vv5))) Qj)) (QM (Qy 6 (Qm 3 QW [] (Qa vv0 (Qa vv4 (Qa (QA vv2 (QE (Qa kk0 Qb))) Qb))))) xNo (QM (Qb5 3 Qak (Qf (Qf vv6 kk0) (dOp Qa6 (Qf vv6 kk1) vv5))) xNo xNo))) (QM (QH (Qcc (Qa vv3 Qb))) xNo xNo)))))
def Qs0{df da dw:Den}{xf:List D->Option Str}(h1:ApF df xf):ApF (Qx 7 (Qgo df da dw)) (Qag 7 (Qgt dw da df xf)):=Qfu (by unfold Qgo Qgt;ac_rfl)
structure Qjx (xd:List D->Option Str):Prop where
 burn:QnZ xd
 again:∀(m:Nat) (R:Lpp) (h:Mt1),0<m->m<=8->R.length<=200->(∀s∈R,Good m s)->(∀j,j<m->0<=h j)->QcE R m h (Qao (Qw m (Qi R [])) h m m)=false->xd [Qd m R [],Qe m h]=some "NotAgain"
def Qss{df da dw:Den}{xf:List D->Option Str}(h1:ApF df xf)(hx:QnZ xf)(hf:Qjg df)(ha:Qjz da):Qjx (Qag 7 (Qgt dw da df xf)) where
 burn:=⟨λm R L xs hL=>Qbw (Q7 (Qap h1) (Qcy (r:=⟨[Qd m R L,.lst xs],_,_⟩) rfl rfl (hx.plain m R L xs hL))),λm R xs hl=>Qbw (Q7 (Qap h1) (Qcy (r:=⟨[Qd m R [],.lst xs],_,_⟩) rfl rfl (hx.row m R xs hl))),λm R f j hj hf=>Qbw (Q7 (Qap h1) (Qcy (r:=⟨[Qd m R [],Qe m f],_,_⟩) rfl rfl (hx.heap m R f j hj hf)))⟩
 again:=λm R h m0 m8 hRl hR hpos hc=>by
  have ec:=ha m R h m0 ⋯ ⋯ hR hpos;rw[hc]at ec;refine Qbw (Qb6 (Qat (Qt (r:=⟨[Qd m R [],Qe m h],false,[]⟩) rfl (hf m R h m0 ⋯ ⋯ hR hpos) rfl) ?_));rw[Qbu];exact Q7 (by ac_rfl) (Qfw (b:=true) (Qa4 (b:=false) (Qz (Qt (r:=⟨[Qd m R [],Qe m h],false,[]⟩) rfl ec rfl) rfl)) (λ_=>Q7 QR (Qew rfl (Zs _))) (λh=>by cases h))
noncomputable def QgO(QbE:Den):DS:=(Qc (sIf (Qs (dOp gGt (Qm 1 QbE [] (Qa vv0 Qb)) QnN)) (Qc Qu Qj) Qj) Qr5)
noncomputable def QdO(QbE:Den):DX:=(QM (sIf (Qs (dOp gGt (Qm 1 QbE [] (Qa vv0 Qb)) QnN)) (Qc Qu Qj) Qj) (xIf (Qs (dOp gGt (Qm 1 QbE [] (Qa vv0 Qb)) QnN)) (QM Qu (QbB "TooMany" (Qa (dC (.str "more than 300 heaps come again")) Qb)) xNo) xNo) xNo)
def Qsi{dh:Den}:ApF (Qx 6 (QgO dh)) (Qag 6 (QdO dh)):=Qfu (by unfold QgO QdO;ac_rfl)
def Qtg{dh:Den}{net:D}{v:Int}(h:dh [net]=slI v)(hv:300<v)(hf:QaS 6 [net]=[some (net,false),none,none,none,none,none])(hn:net.flat=false):Qag 6 (QdO dh) [net]=some "TooMany" :=by
 refine Qbw ?_;rw[hf];have ev:Qh 0 [some (net,false),none,none,none,none,none]=some ⟨net,false,[]⟩:=by
  unfold Qh;show(if net.flat=true then _ else _)=_;rw[if_neg (by rw[hn];decide)];rfl
 exact Q7 (by ac_rfl) (Qfw (b:=true) (Qz (QY (d:= .bl (decide (v>300))) (Qt (Qo ev (QI _)) h rfl) (rb:=reI 300) rfl rfl) (by rw[decide_eq_true ⋯])) (λ_=>Q7 QR (Qew rfl (Zs _))) (λh=>by cases h))
noncomputable def QjZ(QN:Den)(Qaa:Den)(Qbn:Den):DS:=(Qc (Qaj (Qm 1 QN [] (Qa vv0 Qb))) (Qc (QH (Qcc (Qa (QO (QT (Qm 1 Qbn [] (Qa vv0 Qb))) (.nm 1) [none,none,some 0] QaR (Qm 2 Qaa [] (Qa vv2 (Qa vv1 Qb)))) Qb))) Qj))
noncomputable def Qgy(Qaa:Den)(Qbn:Den)(QN:Den)(x_all_again:List D->Option Str)(x_need_plain:List D->Option Str):DX:=(QM (Qaj (Qm 1 QN [] (Qa vv0 Qb))) (QaX 1 x_need_plain (Qa vv0 Qb)) (QM (QH (Qcc (Qa (QO (QT (Qm 1 Qbn [] (Qa vv0 Qb))) (.nm 1) [none,none,some 0] QaR (Qm 2 Qaa [] (Qa vv2 (Qa vv1 Qb)))) Qb))) (QaX 1 x_all_again (Qa vv0 Qb)) xNo))
def QwQ{n:Nat}{d:Den}{xd:List D->Option Str}{fs:DA}{t:Tg}{cap:List (Option Nat)}{ft:DT}{fe:DE}(a:ApF d xd):Ap (QH (Qcc (Qa (QO (QT (Qm n d [] fs)) t cap ft fe) Qb))) (QaX n xd fs):=λU h=>by
 have e:=Ql2 a h;unfold QH Qcc Qa QO QT;rw[e];rfl
def QvF{dp dt da:Den}{xa xp:List D->Option Str}(h1:ApF da xa)(h2:ApF dp xp):ApF (Qx 1 (QjZ dp dt da)) (Qag 1 (Qgy dt da dp xa xp)):=Qfu (Qah (QQ h2) (Qah (QwQ h1) QaK))
structure QlH (xa:List D->Option Str) (xd:List D->Option Str):Prop where
 plain:∀(m:Int) (R L:Lpp),L≠[]->xd [Qd m R L]=some "NotPlain"
 many:∀(m:Nat) (R:Lpp),xa [Qd m R []]=some "TooMany" ->xd [Qd m R []]=some "TooMany"
def Qtp{dp dt da:Den}{xa xp:List D->Option Str}(h1:ApF da xa)(h2:ApF dp xp)(hp:QeE dp)(px:Qi9 xp):QlH xa (Qag 1 (Qgy dt da dp xa xp)) where
 plain:=λm R L hL=>Qbw (Q7 (QQ h2) (Qcy (r:=⟨[Qd m R L],_,_⟩) rfl rfl (px m R L hL)))
 many:=λm R h=>by
  refine Qbw (Qb6 (Qcp (Qt (r:=⟨[Qd m R []],false,[]⟩) rfl (hp m R) rfl) ?_));exact Q7 (QwQ h1) (Qcy (r:=⟨[Qd m R []],_,_⟩) rfl rfl h)
structure QcN (sub:Str->Str->Option Bool) (x:Str) (w:Nat):Prop where
 he:sub x "HeapError" =some true
 ve:sub x "ValueError" =some true
 np:sub x "NotPlain" =some (decide (w=0))
 nr:sub x "NoRow" =some (decide (w=1))
 nh:sub x "NoHeap" =some (decide (w=2))
 na:sub x "NotAgain" =some (decide (w=3))
 nt:sub x "NoTree" =some (decide (w=4))
 tm:sub x "TooMany" =some (decide (w=5))
 lt:w<6
noncomputable def Qg5(w:Nat):D:= .lst [.bl (decide (w=0)),.bl (decide (w=1)),.bl (decide (w=2)),.bl (decide (w=3)),.bl (decide (w=4)),.bl (decide (w=5)),.bl true]
noncomputable def Qkt(sub:Str->Str->Option Bool):DS:=(Qc (Qy 1 (QE (Qa (QeD sub ["NotPlain"] vv0) (Qa (QeD sub ["NoRow"] vv0) (Qa (QeD sub ["NoHeap"] vv0) (Qa (QeD sub ["NotAgain"] vv0) Qb)))))) (Qc (QH (QA vv1 (QE (Qa (QeD sub ["NoTree"] vv0) (Qa (QeD sub ["TooMany"] vv0) (Qa (QeD sub ["ValueError"] vv0) Qb)))))) Qj))
def Qkk(sub:Str->Str->Option Bool)(d:Den):Prop:=∀x w,QcN sub x w->d [.exc x]=some (Qg5 w,true)
def QtQ{sub:Str->Str->Option Bool}:Qkk sub (Qx 2 (Qkt sub)):=λx w h=>by
 have one:∀{U:En}{y:Str}{b:Bool},U[0]? =some (some (.exc x,true))->sub x y=some b->QeD sub [y] (Qh 0) U=some (reT (.bl b)):=λ{U y b} h0 hb=>(QAF (x:=x) ((Q3 h0).trans rfl) (any_cons hb (ys:=[]) rfl)).trans (by rw[Bool.or_false]);refine Q2 ?_;refine rsa (d:= .lst [.bl (decide (w=0)),.bl (decide (w=1)),.bl (decide (w=2)),.bl (decide (w=3))]) ((Qej (Qo (one rfl h.np) (Qo (one rfl h.nr) (Qo (one rfl h.nh) (Qo (one rfl h.na) (QI _))))) ⋯).trans rfl) ?_;refine QK (r:=⟨Qg5 w,true,[]⟩) ?_ ⟨rfl,rfl⟩;have e2:QE _ [some (.exc x,true),slT (.lst [.bl (decide (w=0)),.bl (decide (w=1)),.bl (decide (w=2)),.bl (decide (w=3))])]=some (reT (.lst [.bl (decide (w=4)),.bl (decide (w=5)),.bl true])):=(Qej (Qo (one (U:=[some (.exc x,true),slT (.lst [.bl (decide (w=0)),.bl (decide (w=1)),.bl (decide (w=2)),.bl (decide (w=3))])]) rfl h.nt) (Qo (one rfl h.tm) (Qo (one rfl h.ve) (QI _)))) ⋯).trans rfl;unfold QA;show(Option.bind (QE _ [some (.exc x,true),slT (.lst [.bl (decide (w=0)),.bl (decide (w=1)),.bl (decide (w=2)),.bl (decide (w=3))])]) _)=_;rw[e2];rfl
noncomputable def Qlv(Qaa:Den)(QaF:Den)(QbI:Den)(Qd8:Den)(x_tree_of:List D->Option Str)(x_heap_of:List D->Option Str)(x_all_trees:List D->Option Str)(sub:Str->Str->Option Bool):DS:=(Qc (QfN (Qc (sIf (Qs (dOp gEq vv2 kk0)) (Qc (Qaj (Qm 2 Qaa [] (Qa vv0 (Qa vv1 Qb)))) Qj) (Qc (sIf (Qs (dOp gEq vv2 kk1)) (Qc (Qaj (Qm 2 QaF [] (Qa vv0 (Qa vv1 Qb)))) Qj) (Qc (Qaj (Qm 1 QbI [] (Qa vv0 Qb))) Qj)) Qj)) Qj) (QM (sIf (Qs (dOp gEq vv2 kk0)) (Qc (Qaj (Qm 2 Qaa [] (Qa vv0 (Qa vv1 Qb)))) Qj) (Qc (sIf (Qs (dOp gEq vv2 kk1)) (Qc (Qaj (Qm 2 QaF [] (Qa vv0 (Qa vv1 Qb)))) Qj) (Qc (Qaj (Qm 1 QbI [] (Qa vv0 Qb))) Qj)) Qj)) (xIf (Qs (dOp gEq vv2 kk0)) (QM (Qaj (Qm 2 Qaa [] (Qa vv0 (Qa vv1 Qb)))) (QaX 2 x_tree_of (Qa vv0 (Qa vv1 Qb))) xNo) (QM (sIf (Qs (dOp gEq vv2 kk1)) (Qc (Qaj (Qm 2 QaF [] (Qa vv0 (Qa vv1 Qb)))) Qj) (Qc (Qaj (Qm 1 QbI [] (Qa vv0 Qb))) Qj)) (xIf (Qs (dOp gEq vv2 kk1)) (QM (Qaj (Qm 2 QaF [] (Qa vv0 (Qa vv1 Qb)))) (QaX 2 x_heap_of (Qa vv0 (Qa vv1 Qb))) xNo) (QM (Qaj (Qm 1 QbI [] (Qa vv0 Qb))) (QaX 1 x_all_trees (Qa vv0 Qb)) xNo)) xNo)) xNo) sub [("HeapError",some 3,(Qc (QH (Qm 1 Qd8 [] (Qa vv3 Qb))) Qj))]) (Qc (QH (QE Qb)) Qj))
def QkD(sub:Str->Str->Option Bool)(xt xh xa:List D->Option Str)(d:Den):Prop:=∀(m:Int) (R L:Lpp) (xs:List D) (x:Str) (w k:Nat),QcN sub x w->(k=0/\xt [Qd m R L,.lst xs]=some x∨k=1/\xh [Qd m R L,.lst xs]=some x∨k=2/\xa [Qd m R L]=some x)->d [Qd m R L,.lst xs,.int k]=some (Qg5 w,true)
def Qt0{dt dh da dk:Den}{xt xh xa:List D->Option Str}{sub:Str->Str->Option Bool}(h1:ApF dt xt)(h2:ApF dh xh)(h3:ApF da xa)(hk:Qkk sub dk):QkD sub xt xh xa (Qx 4 (Qlv dt dh da dk xt xh xa sub)):=λm R L xs x w k hw hc=>by
 have fin:∀(f:DS) (fx:DX),Ap f fx->fx [slF (Qd m R L),slF (.lst xs),slI k,none]=some (x,[slF (Qd m R L),slF (.lst xs),slI k,none])->Run (Qc (QfN f fx sub [("HeapError",some 3,(Qc (QH (Qm 1 dk [] (Qa (Qh 3) Qb))) Qj))]) (Qc (QH (QE Qb)) Qj)) [slF (Qd m R L),slF (.lst xs),slI k,none] (Rt λd fr=>d=Qg5 w/\fr=true):=λf fx ap e=>by
  refine QC (Qvf (x:=x) ap e hw.he ?_);exact QC (QbP (Qt (r:=⟨[.exc x],true,[]⟩) rfl (hk x w hw) rfl) ⟨rfl,rfl⟩)
 refine Q2 ?_;refine(fin _ _ (by ac_rfl) ?_).mono λo ho=>?_
 .have nx:∀{f:DS}{fx:DX}{U:En},Ap f fx->fx U=some (x,U)->QM f fx xNo U=some (x,U):=λ{f fx U} a e=>by
   unfold QM;rw[a U (by rw[e];exact λz=>by cases z)];exact e
  have th:∀{c:DT}{fa fb:DX}{U:En}{b:Bool},c U=some b->(b=true->fa U=some (x,U))->(b=false->fb U=some (x,U))->xIf c fa fb U=some (x,U):=λ{c fa fb U b} e q1 q2=>by
   unfold xIf;rw[e,Za];cases b with
   | true=>rw[if_pos rfl];exact q1 rfl
   | false=>rw[if_neg ∅];exact q2 rfl
  refine nx (by ac_rfl) ?_;rcases hc with⟨rfl,hc⟩ | ⟨rfl,hc⟩ | ⟨rfl,hc⟩
  .exact th (b:=true) rfl (λ_=>QiJ h1 (r:=⟨[Qd m R L,.lst xs],_,_⟩) rfl rfl hc) (λh=>by cases h)
  .exact th (b:=false) rfl (λh=>by cases h) (λ_=>nx (by ac_rfl) (th (b:=true) rfl (λ_=>QiJ h2 (r:=⟨[Qd m R L,.lst xs],_,_⟩) rfl rfl hc) (λh=>by cases h)))
  .exact th (b:=false) rfl (λh=>by cases h) (λ_=>nx (by ac_rfl) (th (b:=false) rfl (λh=>by cases h) (λ_=>QiJ h3 (r:=⟨[Qd m R L],_,_⟩) rfl rfl hc)))
 .exact ho
noncomputable def Qih(QeT:Den):DS:=(Qc (QH (dOp gEq (Qm 3 QeT [] (Qa vv0 (Qa vv1 (Qa vv2 Qb)))) (QA (QO (Qan kk6) (.nm 1) [none,none,some 3] QaR (dOp gEq vv2 vv1)) (QE (Qa (dC (.bl true)) Qb))))) Qj)
def Qhj(sub:Str->Str->Option Bool)(xt xh xa:List D->Option Str)(d:Den):Prop:=∀(m:Int) (R L:Lpp) (xs:List D) (x:Str) (w k:Nat),QcN sub x w->(k=0/\xt [Qd m R L,.lst xs]=some x∨k=1/\xh [Qd m R L,.lst xs]=some x∨k=2/\xa [Qd m R L]=some x)->d [Qd m R L,.lst xs,.int k,.int w]=some (.bl true,true)
def QuZ{ds:Den}{xt xh xa:List D->Option Str}{sub:Str->Str->Option Bool}(hs:QkD sub xt xh xa ds):Qhj sub xt xh xa (Qx 4 (Qih ds)):=λm R L xs x w k hw hc=>by
 have e:=hs m R L xs x w k hw hc;have e2:QA (QO (Qan (dC (.int 6))) (.nm 1) [none,none,some 3] QaR (dOp gEq (Qh 2) (Qh 1))) (QE (Qa (dC (.bl true)) Qb)) [slF (Qd m R L),slF (.lst xs),slI k,slI w]=some ⟨Qg5 w,true,[]⟩:=by
  have:=hw.lt;rcases(by omega:w=0∨w=1∨w=2∨w=3∨w=4∨w=5)with rfl | rfl | rfl | rfl | rfl | rfl<;>rfl
 refine Q2 ?_;refine QK (QY (d:= .bl true) (Qt (r:=⟨[Qd m R L,.lst xs,.int k],false,[]⟩) rfl e rfl) e2 ?_) ⟨rfl,rfl⟩;have:=hw.lt;rcases(by omega:w=0∨w=1∨w=2∨w=3∨w=4∨w=5)with rfl | rfl | rfl | rfl | rfl | rfl<;>rfl
noncomputable def Qem(QaF:Den)(Qaa:Den)(x_heap_of:List D->Option Str)(x_tree_of:List D->Option Str)(sub:Str->Str->Option Bool):DS:=(Qc (Qy 3 kk0) (Qc (QfN (Qc (Qaj (Qm 2 QaF [] (Qa vv0 (Qa vv1 Qb)))) Qj) (QM (Qaj (Qm 2 QaF [] (Qa vv0 (Qa vv1 Qb)))) (QaX 2 x_heap_of (Qa vv0 (Qa vv1 Qb))) xNo) sub [("NoTree",none,(Qc (Qy 3 (QA vv3 kk1)) Qj))]) (Qc (QfN (Qc (Qaj (Qm 2 Qaa [] (Qa vv0 (Qa vv2 Qb)))) Qj) (QM (Qaj (Qm 2 Qaa [] (Qa vv0 (Qa vv2 Qb)))) (QaX 2 x_tree_of (Qa vv0 (Qa vv2 Qb))) xNo) sub [("NotAgain",none,(Qc (Qy 3 (QA vv3 kk1)) Qj))]) (Qc (QH (dOp gEq vv3 kk2)) Qj))))
def Qpt(xt xh:List D->Option Str)(d:Den):Prop:=∀(m:Int) (R L:Lpp) (xs ys:List D),xh [Qd m R L,.lst xs]=some "NoTree" ->xt [Qd m R L,.lst ys]=some "NotAgain" ->d [Qd m R L,.lst xs,.lst ys]=some (.bl true,true)
def Qzg{dh dt:Den}{xh xt:List D->Option Str}{sub:Str->Str->Option Bool}(h1:ApF dh xh)(h2:ApF dt xt)(s1:sub "NoTree" "NoTree" =some true)(s2:sub "NotAgain" "NotAgain" =some true):Qpt xt xh (Qx 4 (Qem dh dt xh xt sub)):=λm R L xs ys hx hy=>by
 refine Q2 ?_;refine rsa (d:= .int 0) rfl ?_;refine run_seq (QoX (x:= "NoTree") (Qah (QQ h1) QaK) (QiJ h1 (r:=⟨[Qd m R L,.lst xs],_,_⟩) rfl rfl hx) s1 (run_seq (Qat (r:=reI 1) rfl (Qq ?_))));rw[Qbu];refine run_seq (QoX (x:= "NotAgain") (Qah (QQ h2) QaK) (QiJ h2 (r:=⟨[Qd m R L,.lst ys],_,_⟩) rfl rfl hy) s2 (run_seq (Qat (r:=reI 2) rfl (Qq ?_))));rw[Qbu];exact QK (r:=reT (.bl true)) rfl ⟨rfl,rfl⟩
def Qme(d:Den):Prop:=∀(m:Nat) (R:Lpp) (t:List Nat),0<m->m<=8->(∀s∈R,Good m s)->t.length=m->t.Pairwise (· < ·)->(∀k∈t,k<R.length)->∃b,d [Qd m R [],Qg t]=some (.bl b,true)/\(b=false->∃v,v<m/\Qai (Qi (QaB R t) []) (Qaw m) m v=none)
def QrU{du dd:Den}(hu:QiO du)(hd:Qlj dd):Qme (Qx 2 (Qdm du dd)):=λm R t m0 m8 hR tl tp tR=>by
 have eu:=hu t.length λi=>((t.getD i 0:Nat):Int);rw[← Qoe,tl]at eu;have ed:=hd m R t m8 hR tR;obtain⟨a,ha⟩:∃a,t[0]? =some a:=⟨_,Zq ⋯⟩;obtain⟨b,hb⟩:∃b,t[m-1]? =some b:=⟨_,Zq ⋯⟩;have bl:=tR b (ZC hb);obtain⟨v,⟨i,hi,ei⟩,_,hv⟩:=Qqt (by omega:0<m+1) (Qcq R m t m);refine⟨decide (v<=(m:Int)),?_,λz=>?_⟩
 rotate_left
 .have vm:=of_decide_eq_false z;refine ZW λw=>?_;have con:∀u,u<m->Qai (Qi (QaB R t) []) (Qaw m) m u≠none:=λu hu z=>w ⟨u,hu,z⟩;obtain⟨dep,Dp,_⟩:=QtJ hR tR con;rw[ei,Qqv hR Dp i ⋯]at vm;by_cases z:i<m
  .have:=(Dp.val i z).2;omega
  .rw[show i=m by omega,Dp.pit]at vm;omega
 have last:∀(U:En),U[1]? =some (slF (Qg t))->Qf (Qh 1) (Qcx (dC (.int 1))) U=some (reI b):=λU h1=>by
  unfold Qf;rw[Q3 h1,Za];show(atI (t.map λ(p:Nat)=>D.int (p:Int)) (-1)).map _=_;rw[QlM (by simp;omega),Zc,Zh,tl,hb];rfl
 refine Q2 ?_;refine QC (QL (b:=false) (QbU (a:=false) (b:=false) (Qa4 (b:=true) (Qz (Qt (r:=⟨[Qg t,.int m],false,[]⟩) rfl eu rfl) rfl)) (QbU (a:=false) (b:=false) (Qz (b:=false) (QsT (d:=Qg t) (ra:=reF (Qg t)) rfl rfl (QqC (r:=reF (Qg t)) rfl rfl tp ⋯) rfl (QkI 7 _)) rfl) (Qz (b:=false) (r:=reT (.bl false)) ((QdF (a:=(m:Int)) (b:=m) ((Qhk (l:=t) (r:=reF (Qg t)) rfl rfl).trans (by rw[tl])) rfl (rb:=reI m) rfl rfl).trans ⋯) rfl))) (λh=>by cases h) (λ_=>Qq ?_));refine QC (QL (b:=false) (QbU (a:=false) (b:=false) (Qz (b:=false) (QY (d:= .bl (decide ((a:Int)<0))) (Qev (l:=t) (i:=0) (v:=a) (ra:=reF (Qg t)) (rb:=reI 0) rfl rfl rfl rfl ∅ ha) (rb:=reI 0) rfl rfl) (by rw[decide_eq_false ⋯])) (Qz (b:=false) (QY (d:= .bl (decide ((R.length:Int)<=b))) (last _ rfl) (rb:=reI R.length) ((Qbp (xs:=R.map pairD) (r:=reF (Qr R)) rfl rfl).trans (by rw[Zc])) rfl) (by rw[decide_eq_false ⋯]))) (λh=>by cases h) (λ_=>Qq ?_));exact QK (r:=reT (.bl (decide (v<=(m:Int))))) ((QY (d:= .bl (decide (v<=(m:Int)))) (hv (r:=reT (Qe (m+1) (Qcq R m t m))) (Qt (r:=⟨[Qd m R [],Qg t],false,[]⟩) rfl ed rfl) rfl) (rb:=reI m) rfl rfl).trans rfl) ⟨rfl,rfl⟩
noncomputable def Qe4(QaN:Den):DS:=(Qc (Qy 3 (dOp QaC (dOp QbV vv2 kk7) (Qf vv0 kk0))) (Qc (Qy 4 (dOp QaC vv2 kk7)) (Qc (sIf (Qs (dOp gEq vv4 kk0)) (Qc (QH (QA (Qad vv1 QZ (QS vv3)) (Qad vv1 (QS (QA vv3 kk1)) QZ))) Qj) Qj) (Qc (sIf (Qs (dOp gEq vv4 kk1)) (Qc (QH (Qad (QA (Qad vv1 QZ (QS kk1)) vv1) QZ (QS (dBf Qlh (Qa kk2 (Qa (Qf vv0 kk0) Qb)))))) Qj) Qj) (Qc (sIf (QdQ (Qs (dOp gEq vv4 kk2)) (Qs (dOp gGt (Qf vv0 kk0) kk1))) (Qc (QH (Qij vv1 (Qcx kk1))) Qj) Qj) (Qc (sIf (Qs (dOp gEq vv4 kk3)) (Qc (QH (QA (QE (Qa (dOp Qa6 (Qcx kk1) (dOp QaC (dOp QbV vv2 kk7) QsB)) Qb)) (Qad vv1 (QS kk1) QZ))) Qj) Qj) (Qc (sIf (Qs (dOp gEq vv4 kk4)) (Qc (QH (QA (Qad vv1 QZ (QS (Qcx kk1))) (QE (Qa (QA (dBf Q6 (Qa (Qf vv0 kk1) Qb)) (dOp QaC (dOp QbV vv2 kk7) QsB)) Qb)))) Qj) Qj) (Qc (QaH (Qan (dBf Q6 (Qa (Qf vv0 kk1) Qb))) (.nm 5) (Qc (Qy 6 (Qcc (Qa (QA (QA (Qad vv1 QZ (QS vv3)) (Qad vv1 (QS (QA vv3 kk1)) QZ)) (QE (Qa vv5 Qb))) Qb))) (Qc (sIf (QdQ (Qs (dOp gEq vv4 kk5)) (QdQ (Qs (dOp (gIn true) vv5 vv1)) (QbG (Qs (Qm 2 QaN [] (Qa vv0 (Qa vv6 Qb))))))) (Qc (QH vv6) Qj) Qj) Qj))) (Qc (Qy 7 (QO (Qan (dBf Q6 (Qa (Qf vv0 kk1) Qb))) (.nm 1) [none,none,some 1] (Qs (dOp (gIn true) vv1 vv2)) vv1)) (Qc (QH (QA (Qcc (Qa (QA vv1 (Qad vv7 QZ (QS kk1))) Qb)) (QaE (QE (Qa (dBf Q6 (Qa (Qf vv0 kk1) Qb)) Qb)) (dBf QmJ (Qa (dOp gEq vv7 (QE Qb)) Qb))))) Qj))))))))))
def Qio(xn:List D->Option Str)(d:Den):Prop:=∀(m:Nat) (R:Lpp) (t:List Nat) (c:Int),0<m->m<=8->R.length<=200->(∀s∈R,Good m s)->QjC R m t->∃ts,d [Qd m R [],Qg t,.int c]=some (Qp ts,true)/\xn [Qd m R [],Qp ts]=some "NoTree" /\ts.length<=20
def QvM{x:Nat}{A:List Int}{U:En}{b:Bool}(h:U[x]? =some (some (Qp A,b))):Qij (Qh x) (Qcx (dC (.int 1))) U=some (reT (Qp A.reverse)):=by
 unfold Qij;rw[Q3 h,Za];have e:(if(Qp A).flat=true then HS.R.mk (Qp A) true []else if b=true then HS.R.mk (Qp A) true [x]else HS.R.mk (Qp A) false []).d=Qp A:=by cases b<;>rfl
 rw[e];show some (Qaq (A.map D.int).reverse _)=_;rw[← Zcx];unfold Qaq;rw[if_pos (QdZ _)];rfl
def QkS{fa fb:DE}{U:En}{ra rb:HS.R}{cs:List Int}{n:Nat}(ha:fa U=some ra)(ea:ra.d=Qp cs)(hb:fb U=some rb)(eb:rb.d= .int n):Qad fa QZ (QS fb) U=some (reT (Qp (cs.take (min n cs.length)))):=by
 unfold Qad QZ QS;simp only[ha,hb,Za,ea,eb,Qp,cutD,Zc,HT.Qf8,HT.Qju,ZcD,ZbF,← Zbi,Qaq,QdZ,if_true]
def Qd7{fa fb:DE}{U:En}{ra rb:HS.R}{A B:List Int}(ha:fa U=some ra)(ea:ra.d=Qp A)(hb:fb U=some rb)(eb:rb.d=Qp B)(hl:A.length+B.length<=16777216):QA fa fb U=some (reT (Qp (A++B))):=by
 unfold QA;rw[ha,Za,hb,Za,ea,eb];simp only[Qp,Zc,Qfx,if_pos hl,Qaq,← ZK,QdZ,if_true]
def Qy3{fa:DE}{U:En}{ra:HS.R}{T:List Int}(ha:fa U=some ra)(ea:ra.d=Qp T)(h:0<T.length):Qad fa QZ (QS (Qcx (dC (.int 1)))) U=some (reT (Qp (T.take (T.length-1)))):=by
 have cut:cutD (T.map D.int) none (some (-1))=(T.take (T.length-1)).map D.int:=by
  unfold cutD;have:HT.sIx (T.map D.int).length (T.map D.int).length (some (-1))=T.length-1:=by
   show(if(-1:Int)<0 then((-1:Int)+((T.map D.int).length:Int)).toNat else min (-1:Int).toNat (T.map D.int).length)=_;rw[if_pos ∅,Zc];omega
  rw[this,HT.Qf8,ZcD,ZbF,Zbi]
 unfold Qad QZ QS;rw[ha,Za,Za];show(Option.bind (some (some (-1:Int))) _)=_;rw[Za,ea];show some (Qaq (cutD (T.map D.int) none (some (-1))) ra.M)=_;rw[cut];unfold Qaq;rw[if_pos (QdZ _)];rfl
def Qqb{fa:DE}{U:En}{ra:HS.R}{T:List Int}(ha:fa U=some ra)(ea:ra.d=Qp T)(h:T.length<64):Qcc (Qa fa Qb) U=some (reT (Qp (QbT T))):=by
 unfold Qcc;rw[Qo ha (QI _),Za];show(match [ra.d]with | [.lst xs]=>_ | _=>none)=_;rw[ea];show(Qb1 (T.map D.int)).bind _=_;rw[Qdk,Za,if_pos h];rfl
def QpB{fa fb:DE}{U:En}{ra rb:HS.R}{t:List Nat}{k:Nat}(ha:fa U=some ra)(ea:ra.d= .int k)(hb:fb U=some rb)(eb:rb.d=Qg t):dOp (gIn true) fa fb U=some (reT (.bl (!t.contains k))):=Qf7 (neg:=true) ha ea hb eb
set_option maxHeartbeats 0 in
def QrH{di:Den}{xn:List D->Option Str}(hi:Qme di)(hx:Qws xn):Qio xn (Qx 8 (Qe4 di)):=λm R t c m0 m8 hRl hR T0=>by
 obtain⟨T,eT⟩:∃T,T=t.map λ(p:Nat)=>(p:Int):=⟨_,rfl⟩;have eN:Qg t=Qp T:=by rw[eT];exact Qdo t
 have lT:T.length=m:=by rw[eT,Zc];exact T0.len
 have a0:=ZP (c / 7) (by omega:(m:Int)≠0);have a1:=ZR (c / 7) (by omega:(0:Int)<m);have k0:=ZP c (by decide:(7:Int)≠0);have k1:=ZR c (by decide:(0:Int)<7);have w0:=ZP (c / 7) (by decide:(1000:Int)≠0);obtain⟨a,ea⟩:∃a:Nat,(a:Int)=c / 7 % m:=⟨(c / 7 % m).toNat,⋯⟩;have key:Run (Qe4 di) (QaS 8 [Qd m R [],Qg t,.int c]) (Rt λd fr=>∃ts,d=Qp ts/\fr=true/\xn [Qd m R [],Qp ts]=some "NoTree" /\ts.length<=20):=by
  have it:∀{U:En},U[0]? =some (slF (Qd m R []))->Qf (Qh 0) (dC (.int 0)) U=some (reI m):=λ{U} h=>(Qaz (m:=m) (R:=R) (L:=[]) (Q3 h) rfl).1;have lR:∀{U:En},U[0]? =some (slF (Qd m R []))->dBf Q6 (Qa (Qf (Qh 0) (dC (.int 1))) Qb) U=some (reI R.length):=λ{U} h=>by rw[Qbp (xs:=R.map pairD) (Qaz (m:=m) (R:=R) (L:=[]) (Q3 h) rfl).2.1 rfl,Zc]
  have c7:∀{U:En},U[2]? =some (slI c)->dOp QbV (Qh 2) (dC (.int 7)) U=some (reI (c / 7)):=λ{U} h=>Qlc (a:=c) (b:=7) ((Q3 h).trans rfl) rfl (QeI _ _) rfl ∅ ∅;rw[eN];refine rsa (d:= .int a) ((QaI (a:=c / 7) (b:=m) (c7 rfl) rfl (it rfl) rfl ⋯).trans (by rw[ea])) ?_;refine rsa (d:= .int (c % 7)) (QaI (a:=c) (b:=7) (ra:=reI c) rfl rfl rfl rfl ∅) ?_;generalize c % 7=kd at k0 k1;change Run _ [slF (Qd m R []),slF (Qp T),slI c,slI a,slI kd,none,none,none] _;have eq:∀{U:En}(n:Int),U[4]? =some (slI kd)->Qs (dOp gEq (Qh 4) (dC (.int n))) U=some (decide (kd=n)):=λ{U} n h=>Qz (Qe7 (a:=kd) (b:=n) ((Q3 h).trans rfl) rfl (QeI _ _) rfl) rfl;have tk:∀{U:En},U[1]? =some (slF (Qp T))->U[3]? =some (slI a)->Qad (Qh 1) QZ (QS (Qh 3)) U=some (reT (Qp (T.take a))):=λ{U} h1 h3=>(QkS (cs:=T) (n:=a) ((Q3 h1).trans rfl) rfl ((Q3 h3).trans rfl) rfl).trans (by rw[Zbh ⋯]);have dp:∀{U:En},U[1]? =some (slF (Qp T))->U[3]? =some (slI a)->Qad (Qh 1) (QS (QA (Qh 3) (dC (.int 1)))) QZ U=some (reT (Qp (T.drop (a+1)))):=λ{U} h1 h3=>Qex (ts:=T) (n:=a+1) ((Q3 h1).trans rfl) rfl ((Qac (a:=(a:Int)) (b:=1) ((Q3 h3).trans rfl) rfl (QeI _ _) rfl).trans rfl) rfl;have hA:(T.take a++T.drop (a+1)).length=m-1:=by rw[Zo,ZY,ZaB];omega
  have cut:∀{U:En},U[1]? =some (slF (Qp T))->U[3]? =some (slI a)->QA (Qad (Qh 1) QZ (QS (Qh 3))) (Qad (Qh 1) (QS (QA (Qh 3) (dC (.int 1)))) QZ) U=some (reT (Qp (T.take a++T.drop (a+1)))):=λ{U} h1 h3=>Qd7 (A:=T.take a) (B:=T.drop (a+1)) (tk h1 h3) rfl (dp h1 h3) rfl (by rw[Zo]at hA;omega);refine QC (QL (eq 0 rfl) (λ_=>QC (QbP (cut rfl rfl) ⟨_,rfl,rfl,hx.len m R _ ⋯,⋯⟩)) (λz0=>Qq ?_));refine QC (QL (eq 1 rfl) (λ_=>?_) (λz1=>Qq ?_))
  .have e1:Qad (Qh 1) QZ (QS (dC (.int 1))) [slF (Qd m R []),slF (Qp T),slI c,slI a,slI kd,none,none,none]=some (reT (Qp (T.take 1))):=(QkS (cs:=T) (n:=1) (ra:=reF (Qp T)) (rb:=reI 1) rfl rfl rfl rfl).trans (by rw[Zbh ⋯]);have e2:=Qd7 (A:=T.take 1) (B:=T) e1 rfl (fb:=Qh 1) (rb:=reF (Qp T)) rfl rfl (by rw[ZY];omega);have e3:dBf Qlh (Qa (dC (.int 2)) (Qa (Qf (Qh 0) (dC (.int 0))) Qb)) [slF (Qd m R []),slF (Qp T),slI c,slI a,slI kd,none,none,none]=some (reI ((max 2 m:Nat):Int)):=by
    unfold dBf;rw[Qo (QeI _ _) (Qo (it rfl) (QI _)),Za];show some (HS.R.mk (.int (if(m:Int)>2 then(m:Int)else 2)) true [])=_;congr 3;split<;>omega
   refine QC (QbP ((QkS (cs:=T.take 1++T) (n:=max 2 m) e2 rfl e3 rfl).trans rfl) ⟨_,rfl,rfl,?_,by rw[ZY];omega⟩);have ll:(T.take 1++T).length=m+1:=by rw[Zo,ZY];omega
   rw[ll];by_cases z:m=1
   .exact hx.len m R _ (by rw[ZY,ll];omega)
   .refine hx.rise m R _ ?_;obtain⟨x,xs,rfl⟩:∃x xs,T=x::xs:=List.exists_cons_of_length_pos ⋯;refine⟨(x,x),?_,Zak _⟩;obtain⟨q,hq⟩:∃q,min (max 2 m) (m+1)=q+2:=⟨min (max 2 m) (m+1)-2,⋯⟩;rw[hq];simp
  refine QC (QL (b:=decide (kd=2) && decide ((m:Int)>1)) (QfA (eq 2 rfl) (Qz (QY (d:= .bl (decide ((m:Int)>1))) (it rfl) (rb:=reI 1) rfl rfl) rfl)) (λz=>?_) (λz2=>Qq ?_))
  .rw[Zp,decide_eq_true_iff,decide_eq_true_iff]at z;refine QC (QbP (QvM (A:=T) (b:=false) rfl) ⟨_,rfl,rfl,?_,by rw[ZaW];omega⟩);refine hx.rise m R _ ?_;have hl:T.reverse.length=m:=by rw[ZaW];exact lT
   obtain⟨x,h1⟩:∃x,t[m-1]? =some x:=⟨_,Zq (by have:=T0.len;omega)⟩;obtain⟨y,h2⟩:∃y,t[m-2]? =some y:=⟨_,Zq (by have:=T0.len;omega)⟩;have lt:=Qjo T0.inc h2 h1 ⋯;refine⟨((x:Int),(y:Int)),ZC (i:=0) ?_,by show(y:Int)<=x;omega⟩;rw[ZaP,Zbe,List.getElem?_reverse ⋯,List.getElem?_reverse ⋯,lT,eT,Zh,Zh];constructor
   .rw[show m-1-0=m-1 by omega,h1];rfl
   .rw[show m-1-(1+0)=m-2 by omega,h2];rfl
  refine QC (QL (eq 3 rfl) (λ_=>?_) (λz3=>Qq ?_))
  .have e1:QE (Qa (dOp Qa6 (Qcx (dC (.int 1))) (dOp QaC (dOp QbV (Qh 2) (dC (.int 7))) (dC (.int 1000)))) Qb) [slF (Qd m R []),slF (Qp T),slI c,slI a,slI kd,none,none,none]=some (reT (Qp [-1-c / 7 % 1000])):=by
    refine(Qej (Qo (QY (d:= .int (-1-c / 7 % 1000)) (ra:=reI (-1)) rfl (QaI (a:=c / 7) (b:=1000) (c7 rfl) rfl rfl rfl ∅) rfl) (QI _)) ⋯).trans rfl
   have e2:Qad (Qh 1) (QS (dC (.int 1))) QZ [slF (Qd m R []),slF (Qp T),slI c,slI a,slI kd,none,none,none]=some (reT (Qp (T.drop 1))):=Qex (ts:=T) (n:=1) (ra:=reF (Qp T)) (rb:=reI 1) rfl rfl rfl rfl;refine QC (QbP (Qd7 (A:=[-1-c / 7 % 1000]) (B:=T.drop 1) e1 rfl e2 rfl (by rw[ZaB];simp;omega)) ⟨_,rfl,rfl,?_,by simp;omega⟩);obtain⟨z,hz⟩:∃z,([-1-c / 7 % 1000]++T.drop 1)[([-1-c / 7 % 1000]++T.drop 1).length-1]? =some z:=⟨_,Zq ⋯⟩;exact hx.rng m R _ (-1-c / 7 % 1000) z rfl hz (.inl ⋯)
  refine QC (QL (eq 4 rfl) (λ_=>?_) (λz4=>Qq ?_))
  .have e1:QE (Qa (QA (dBf Q6 (Qa (Qf (Qh 0) (dC (.int 1))) Qb)) (dOp QaC (dOp QbV (Qh 2) (dC (.int 7))) (dC (.int 1000)))) Qb) [slF (Qd m R []),slF (Qp T),slI c,slI a,slI kd,none,none,none]=some (reT (Qp [R.length+c / 7 % 1000])):=by
    refine(Qej (Qo (Qac (a:=(R.length:Int)) (b:=c / 7 % 1000) (lR rfl) rfl (QaI (a:=c / 7) (b:=1000) (c7 rfl) rfl rfl rfl ∅) rfl) (QI _)) ⋯).trans rfl
   have e2:Qad (Qh 1) QZ (QS (Qcx (dC (.int 1)))) [slF (Qd m R []),slF (Qp T),slI c,slI a,slI kd,none,none,none]=some (reT (Qp (T.take (T.length-1)))):=Qy3 (ra:=reF (Qp T)) rfl rfl ⋯;refine QC (QbP (Qd7 (A:=T.take (T.length-1)) (B:=[R.length+c / 7 % 1000]) e2 rfl e1 rfl (by rw[ZY];simp;omega)) ⟨_,rfl,rfl,?_,by simp;omega⟩);obtain⟨y,hy⟩:∃y,(T.take (T.length-1)++[(R.length:Int)+c / 7 % 1000])[0]? =some y:=⟨_,Zq ⋯⟩;exact hx.rng m R _ y (R.length+c / 7 % 1000) hy ⋯ (.inr ⋯)
  have tlen:=T0.len;have eA:T.take a++T.drop (a+1)=(t.take a++t.drop (a+1)).map λ(p:Nat)=>(p:Int):=by rw[eT,ZK,Zbi,Zco]
  have nd:t.Nodup:=T0.inc.imp λh=>ZH h;refine QC (QaA (toD:=λ(k:Nat)=> .int (k:Int)) (List.range R.length) (λ_ U=>∃j5 j6,U=[slF (Qd m R []),slF (Qp T),slI c,slI a,slI kd,j5,j6,none]) (Qbi (n:=R.length) (lR rfl) rfl ⋯) rfl ⟨none,none,rfl⟩ ?_ ?_)
  .rintro k k' U hk ⟨j5,j6,rfl⟩;have hk':k<R.length/\k=k':=by
    obtain⟨h1,h2⟩:=Ze.mp hk;simp at h1 h2;exact⟨h1,h2⟩
   obtain⟨hkR,rfl⟩:=hk';refine⟨[slF (Qd m R []),slF (Qp T),slI c,slI a,slI kd,slI k,j6,none],rfl,?_⟩;obtain⟨t2,p1,p2,p3⟩:=Qik (t.take a++t.drop (a+1)++[k]);have e1:Qcc (Qa (QA (QA (Qad (Qh 1) QZ (QS (Qh 3))) (Qad (Qh 1) (QS (QA (Qh 3) (dC (.int 1)))) QZ)) (QE (Qa (Qh 5) Qb))) Qb) [slF (Qd m R []),slF (Qp T),slI c,slI a,slI kd,slI k,j6,none]=some (reT (Qg t2)):=by
    refine(Qqb (T:=T.take a++T.drop (a+1)++[(k:Int)]) (Qd7 (A:=T.take a++T.drop (a+1)) (B:=[(k:Int)]) (cut rfl rfl) rfl (rb:=reT (Qp [(k:Int)])) rfl rfl (by rw[hA];simp;omega)) rfl (by rw[Zo,hA];simp;omega)).trans ?_;rw[eA,show((t.take a++t.drop (a+1)).map λ(p:Nat)=>(p:Int))++[(k:Int)]=(t.take a++t.drop (a+1)++[k]).map λ(p:Nat)=>(p:Int)from(ZK (f:=λ(p:Nat)=>(p:Int)) (l₁:=t.take a++t.drop (a+1)) (l₂:=[k])).symm];unfold Qp Qg;rw[p2]
   refine rsa e1 ?_;change Run _ [slF (Qd m R []),slF (Qp T),slI c,slI a,slI kd,slI k,slT (Qg t2),none] _;have en:Qs (dOp (gIn true) (Qh 5) (Qh 1)) [slF (Qd m R []),slF (Qp T),slI c,slI a,slI kd,slI k,slT (Qg t2),none]=some (!t.contains k):=Qz (QpB (t:=t) (k:=k) (ra:=reI k) rfl rfl (rb:=reF (Qp T)) rfl eN.symm) rfl;by_cases h5:kd=5/\k∉t
   .have nd2:(t.take a++t.drop (a+1)++[k]).Nodup:=by
     have sb:List.Sublist (t.take a++t.drop (a+1)) t:=by
      have:=List.Sublist.append (List.Sublist.refl (t.take a)) (List.drop_sublist_drop_left t (show a<=a+1 by omega));rwa[Zbk]at this
     refine Zat.mpr ⟨nd.sublist sb,⋯,λx hx y hy e=>?_⟩;rw[ZE]at hy;subst hy;exact h5.2 (e▸sb.subset hx)
    have l2:t2.length=m:=by rw[p1.length_eq,Zo,Zo,ZY,ZaB,Zbj];omega
    have r2:∀x∈t2,x<R.length:=λx hx=>by
     rcases ZJ.mp (p1.mem_iff.mp hx)with z | z
     .rcases ZJ.mp z with z | z
      .exact T0.lt x (List.mem_of_mem_take z)
      .exact T0.lt x (List.mem_of_mem_drop z)
     .rw[ZE.mp z];exact hkR
    obtain⟨b,eb,hb⟩:=hi m R t2 m0 m8 hR l2 (p3 nd2) r2;refine QC (QL (b:= !b) ((QfA (a:=true) (b:= !b) ((eq 5 rfl).trans (by rw[decide_eq_true h5.1])) (QfA (a:=true) (b:= !b) (en.trans (by simp[h5.2])) (Qa4 (b:=b) (Qz (Qt (r:=⟨[Qd m R [],Qg t2],false,[6]⟩) rfl eb rfl) rfl)))).trans rfl) (λz=>?_) (λ_=>Qq (Qq ⟨_,_,rfl⟩)));refine QC (QbP (r:=⟨Qg t2,true,[6]⟩) rfl ⟨t2.map λ(p:Nat)=>(p:Int),Qdo t2,rfl,?_,by rw[Zc];omega⟩);have:=hx.cut m R t2 m0 m8 hR l2 (p3 nd2) r2 (hb (by simpa using z));rwa[Qdo]at this
   .refine QC (QL (b:=false) ?_ (λz=>by cases z) (λ_=>Qq (Qq ⟨_,_,rfl⟩)));unfold QdQ;rw[eq 5 rfl,Za];by_cases z:kd=5
    .rw[if_pos (decide_eq_true z),en,Za,if_neg (by
      have:k∈t:=ZW λw=>h5 ⟨z,w⟩;simp[this])]
    .rw[if_neg (by simp[z])]
  .rintro U ⟨j5,j6,rfl⟩;have ec:=Qc1 (fi:=Qan (dBf Q6 (Qa (Qf (Qh 0) (dC (.int 1))) Qb))) (t:= .nm 1) (cap:=[none,none,some 1]) (ft:=Qs (dOp (gIn true) (Qh 1) (Qh 2))) (fe:=Qh 1) (U:=[slF (Qd m R []),slF (Qp T),slI c,slI a,slI kd,j5,j6,none]) (toD:=λ(k:Nat)=> .int (k:Int)) (keep:=λk=> !t.contains k) (out:=λ(k:Nat)=> .int (k:Int)) (List.range R.length) (Qbi (n:=R.length) (lR rfl) rfl ⋯) rfl λk _=>⟨[none,slI k,slF (Qp T)],rfl,Qz (QpB (t:=t) (k:=k) (ra:=reI k) rfl rfl (rb:=reF (Qp T)) rfl eN.symm) rfl,λ_=>⟨(reI k),rfl,rfl,rfl⟩⟩;refine rsa ec ?_;generalize (List.range R.length).filter (λk=> !t.contains k)=left;change Run _ [slF (Qd m R []),slF (Qp T),slI c,slI a,slI kd,j5,j6,slT (Qg left)] _;have el:Qg left=Qp (left.map λ(p:Nat)=>(p:Int)):=Qdo left;rw[el];generalize hB:(left.map λ(p:Nat)=>(p:Int))=B;have e1:Qcc (Qa (QA (Qh 1) (Qad (Qh 7) QZ (QS (dC (.int 1))))) Qb) [slF (Qd m R []),slF (Qp T),slI c,slI a,slI kd,j5,j6,slT (Qp B)]=some (reT (Qp (QbT (T++B.take (min 1 B.length))))):=Qqb (Qd7 (A:=T) (B:=B.take (min 1 B.length)) (ra:=reF (Qp T)) rfl rfl (QkS (cs:=B) (n:=1) (ra:=⟨Qp B,true,[7]⟩) (rb:=reI 1) rfl rfl rfl rfl) rfl (by rw[ZY];omega)) rfl (by rw[Zo,ZY];omega);have e2:QaE (QE (Qa (dBf Q6 (Qa (Qf (Qh 0) (dC (.int 1))) Qb)) Qb)) (dBf QmJ (Qa (dOp gEq (Qh 7) (QE Qb)) Qb)) [slF (Qd m R []),slF (Qp T),slI c,slI a,slI kd,j5,j6,slT (Qp B)]=some (reT (Qp (if B.isEmpty then [(R.length:Int)]else []))):=by
    have f1:QE (Qa (dBf Q6 (Qa (Qf (Qh 0) (dC (.int 1))) Qb)) Qb) [slF (Qd m R []),slF (Qp T),slI c,slI a,slI kd,j5,j6,slT (Qp B)]=some (reT (Qp [(R.length:Int)])):=(Qej (Qo (lR rfl) (QI _)) ⋯).trans rfl;have f2:dOp gEq (Qh 7) (QE Qb) [slF (Qd m R []),slF (Qp T),slI c,slI a,slI kd,j5,j6,slT (Qp B)]=some (reT (.bl B.isEmpty)):=(Qux (ra:=⟨Qp B,true,[7]⟩) (rb:=reT (.lst [])) rfl rfl (QC9 7 B) rfl).trans (by
     show some (HS.R.mk (.bl (deq (.lst (B.map D.int)) (.lst []))) true [])=_;rw[QAc];cases B<;>rfl)
    have f3:dBf QmJ (Qa (dOp gEq (Qh 7) (QE Qb)) Qb) [slF (Qd m R []),slF (Qp T),slI c,slI a,slI kd,j5,j6,slT (Qp B)]=some (reI (if B.isEmpty then 1 else 0)):=by
     unfold dBf;rw[Qo f2 (QI _),Za];rfl
    unfold QaE;rw[f1,Za,f3,Za];cases B.isEmpty<;>rfl
   have ls:(QbT (T++B.take (min 1 B.length))++if B.isEmpty then [(R.length:Int)]else []).length=m+1:=by
    rw[Zo,(QbL _).length_eq,Zo,ZY];cases B with
    | nil=>simp;omega
    | cons b r=>simp;omega
   exact QK (Qd7 (A:=QbT (T++B.take (min 1 B.length))) (B:=if B.isEmpty then [(R.length:Int)]else []) e1 rfl e2 rfl (by rw[Zo]at ls;omega)) ⟨_,rfl,rfl,hx.len m R _ ⋯,⋯⟩
 obtain⟨o,h1,h2⟩:=key;cases o with
 | rt d fr=>
  obtain⟨ts,rfl,rfl,h3,h4⟩:=h2;exact⟨ts,by unfold Qx;rw[h1];rfl,h3,h4⟩
 | _=>exact h2.elim
def QzV{fa fb:DE}{U:En}{ra rb:HS.R}(ha:fa U=some ra)(hb:fb U=some rb)(h1:ra.d.sim 8=true)(h2:rb.d.sim 8=true):dOp gNe fa fb U=some (reT (.bl (!deq ra.d rb.d))):=by
 refine QY ha hb ?_;unfold gNe;rw[h1,h2];rfl
def Qk6{R:Lpp}{m:Nat}{h:Mt1}{F:Nat->Option Int}{j:Nat}(hj:j<m)(hh:Q1 R [] j<=h j):QcE R m h F=false:=by
 unfold QcE;rw[Bool.and_eq_false_iff];refine .inl ?_;rw[← Bool.not_eq_true,ZZ];intro z;have:=of_decide_eq_true (z j (Zj.mpr hj));omega
def QoO{R:Lpp}{m:Nat}(hw:Qbz m R []){h:Mt1}{s:Int×Int}{u v:Nat}(hs:s∈R)(e1:s.1=u)(e2:s.2=v)(hu:u<m)(hv:v<m)(h1:h u=0)(h2:h v=0):QcE R m h (Qao (Qw m (Qi R [])) h m m)=false:=by
 have hR:=hw.good.1;have ne:u≠v:=by have:=hR s hs;obtain⟨_,_,_,_,g5⟩:=this;omega
 have one:∀{p x:Nat},p<m->x<m->p≠x->((s.1=p/\s.2=x)∨(s.2=p/\s.1=x))->1<=Qw m (Qi R []) p x:=λ{p x} hp hx npx he=>by
  have:=Qe8 hR hp (l:=[x]) ⋯ (by simpa using hx) (by simpa using npx);simp only[Zv,Zaw,ZQ,ZbH,ZaH]at this;rw[this];have:0<(R.map (QG p [x])).sum:=Qhs (λs _=>(QjO p _ s).1) ⟨s,hs,by
   unfold QG;rw[if_pos (by rcases he with⟨a,b⟩ | ⟨a,b⟩;exact .inl ⟨a,by simp;omega⟩;exact .inr ⟨a,by simp;omega⟩)];decide⟩
  omega
 have a1:Qax (Qw m (Qi R [])) u [u,v]=Qw m (Qi R []) u v:=by unfold Qax;simp[ne,Ne.symm ne]
 have a2:Qax (Qw m (Qi R [])) v [u,v]=Qw m (Qi R []) v u:=by unfold Qax;simp[ne,Ne.symm ne]
 have cold:=Qie (T:=Qw m (Qi R [])) (m:=m) hw.tp.pos (g:=h) (F:=[u,v]) (by simp[ne]) (λo ho=>by
  rcases Zk.mp ho with rfl | ho
  .exact hu
  .rw[ZE.mp ho];exact hv) (λo ho=>by
  rcases Zk.mp ho with rfl | ho
  .rw[a1,h1];have:=one hu hv ne (.inl ⟨e1,e2⟩);omega
  .rw[ZE.mp ho,a2,h2];have:=one hv hu (Ne.symm ne) (.inr ⟨e2,e1⟩);omega) m u Zi
 unfold QcE;rw[Bool.and_eq_false_iff];refine .inr ?_;rw[Bool.not_eq_false',ZbN];exact⟨u,Zj.mpr hu,by rw[(QdW m u hu).mpr cold];rfl⟩
noncomputable def QkE(Q0:Den):DS:=(Qc (Qy 3 (dOp QaC vv1 (Qf vv0 kk0))) (Qc (Qy 4 (dList (Qa vv2 Qb))) (Qc (Qb3 4 Qak vv3 (QA (QA (Qf vv4 vv3) kk1) (dOp QaC (dOp QbV vv1 kk8) kk5))) (Qc (Qy 5 (dList (Qa vv2 Qb))) (Qc (Qb3 5 Qak vv3 (dOp Qa6 (Qcx kk1) (dOp QaC (dOp QbV vv1 kk8) (dOp Qvx QDo kk9)))) (Qc (sIf (bOr (QbG (Qs (Qm 4 Q0 [] (Qa vv0 (Qa vv4 (Qa kk0 (Qa kk3 Qb))))))) (QbG (Qs (Qm 4 Q0 [] (Qa vv0 (Qa vv5 (Qa kk0 (Qa kk2 Qb)))))))) (Qc (QH (dC (.bl false))) Qj) Qj) (Qc (Qy 6 (QO (QT (Qf vv0 kk1)) (.nm 1) [none,none,some 0] (Qs (dOp gLt (Qf vv1 kk1) (Qf vv2 kk0))) vv1)) (Qc (sIf (Qs (dOp gNe vv6 (QE Qb))) (Qc (Qy 7 (dList (Qa vv2 Qb))) (Qc (QaH (QT (Qf vv6 (dOp QaC (dOp QbV vv1 kk8) (dBf Q6 (Qa vv6 Qb))))) (.nm 8) (Qc (Qb3 7 Qak vv8 kk0) Qj)) (Qc (sIf (QbG (Qs (Qm 4 Q0 [] (Qa vv0 (Qa vv7 (Qa kk0 (Qa kk3 Qb))))))) (Qc (QH (dC (.bl false))) Qj) Qj) Qj))) Qj) (Qc (QH (QhP (Qm 4 Q0 [] (Qa vv0 (Qa (Qad vv5 (QS kk1) QZ) (Qa kk0 (Qa kk1 Qb))))) (Qm 4 Q0 [] (Qa vv0 (Qa (QA vv2 (QE (Qa kk0 Qb))) (Qa kk0 (Qa kk1 Qb))))))) Qj)))))))))
def QiV(d:Den):Prop:=∀(m:Nat) (R:Lpp) (c:Int),0<m->m<=8->Qbz m R []->d [Qd m R [],.int c,Qe m λj=>Q1 R [] j-1]=some (.bl true,true)
set_option maxHeartbeats 0 in
def QrX{dr:Den}{xt xh xa:List D->Option Str}{sub:Str->Str->Option Bool}(hr:Qhj sub xt xh xa dr)(hx:Qjx xt)(w1:QcN sub "NoRow" 1)(w2:QcN sub "NoHeap" 2)(w3:QcN sub "NotAgain" 3):QiV (Qx 9 (QkE dr)):=λm R c m0 m8 hw=>by
 have hR:=hw.good.1;have hRl:R.length<=200:=hw.good.2.2.1;have sp:∀j,j<m->1<=Q1 R [] j:=λj hj=>hw.QoV hj;obtain⟨f,ef⟩:∃f:Nat->Int,f=λj=>Q1 R [] j-1:=⟨_,rfl⟩;have f0:∀j,j<m->0<=f j:=λj hj=>by rw[ef];have:=sp j hj;show 0<=Q1 R [] j-1;omega
 have a0:=ZP c (by omega:(m:Int)≠0);have a1:=ZR c (by omega:(0:Int)<m);obtain⟨a,ea⟩:∃a:Nat,(a:Int)=c % m:=⟨(c % m).toNat,⋯⟩;have am:a<m:= ⋯
 have g0:=ZP (c / 8) (by decide:(5:Int)≠0);have b0:=ZP (c / 8) (by decide:(1000000000:Int)≠0);have n3:∀h:Nat->Int,(∀j,j<m->0<=h j)->QcE R m h (Qao (Qw m (Qi R [])) h m m)=false->dr [Qd m R [],Qe m h,.int 0,.int 3]=slT (.bl true):=λh hp hc=>hr m R [] _ "NotAgain" 3 0 w3 (.inl ⟨rfl,hx.again m R h m0 m8 hRl hR hp hc⟩);have rm:=n3 (up f a (f a+1+c / 8 % 5)) (λj hj=>by
  rw[QbC];split
  .have:=f0 a am;omega
  .exact f0 j hj) (Qk6 am (by rw[QbC,if_pos rfl,ef];show Q1 R [] a<=Q1 R [] a-1+1+c / 8 % 5;omega))
 have rb:dr [Qd m R [],Qe m (up f a (-1-c / 8 % 1000000000)),.int 0,.int 2]=slT (.bl true):=hr m R [] _ "NoHeap" 2 0 w2 (.inl ⟨rfl,hx.burn.heap m R _ a am (by rw[QbC,if_pos rfl];omega)⟩);have rl:∀xs:List D,xs.length≠m->dr [Qd m R [],.lst xs,.int 0,.int 1]=slT (.bl true):=λxs hl=>hr m R [] xs "NoRow" 1 0 w1 (.inl ⟨rfl,hx.burn.row m R xs hl⟩);rw[← ef];refine Q2 ?_;have it:∀{U:En},U[0]? =some (slF (Qd m R []))->Qf (Qh 0) (dC (.int 0)) U=some (reI m):=λ{U} h=>(Qaz (m:=m) (R:=R) (L:=[]) (Q3 h) rfl).1;have c8:∀{U:En},U[1]? =some (slI c)->dOp QbV (Qh 1) (dC (.int 8)) U=some (reI (c / 8)):=λ{U} h=>Qlc (a:=c) (b:=8) ((Q3 h).trans rfl) rfl (QeI _ _) rfl ∅ ∅;refine rsa (d:= .int a) ((QaI (a:=c) (b:=m) (ra:=reI c) rfl rfl (it rfl) rfl ⋯).trans (by rw[ea])) ?_;refine rsa (Qky (m:=m) (f:=f) (rs:=⟨[Qe m f],false,[]⟩) rfl rfl) ?_;refine run_seq (Qf2 (m:=m) (f:=f) (i:=a) (v:=f a+1+c / 8 % 5) (ri:=reI a) rfl rfl rfl (Qac (a:=f a+1) (b:=c / 8 % 5) (Qac (a:=f a) (b:=1) (Qa0 (m:=m) (f:=f) (i:=a) (ra:=⟨Qe m f,true,[4]⟩) (rb:=reI a) rfl rfl rfl rfl am) rfl rfl rfl) rfl (QaI (a:=c / 8) (b:=5) (c8 rfl) rfl rfl rfl ∅) rfl) rfl ⋯ ⋯ ?_);rw[Zl];refine rsa (Qky (m:=m) (f:=f) (rs:=⟨[Qe m f],false,[]⟩) rfl rfl) ?_;refine run_seq (Qf2 (m:=m) (f:=f) (i:=a) (v:= -1-c / 8 % 1000000000) (ri:=reI a) rfl rfl rfl (QY (d:= .int (-1-c / 8 % 1000000000)) (ra:=reI (-1)) rfl (QaI (a:=c / 8) (b:=1000000000) (c8 rfl) rfl (rb:=reI 1000000000) rfl rfl ∅) rfl) rfl ⋯ ⋯ ?_);rw[Zl];change Run _ [slF (Qd m R []),slI c,slF (Qe m f),slI a,slT (Qe m (up f a (f a+1+c / 8 % 5))),slT (Qe m (up f a (-1-c / 8 % 1000000000))),none,none,none] _;generalize up f a (f a+1+c / 8 % 5)=hm at rm;generalize up f a (-1-c / 8 % 1000000000)=hb at rb;refine QC (QL (b:=false) ((QbU (a:=false) (b:=false) (Qa4 (b:=true) (Qz (Qt (r:=⟨[Qd m R [],Qe m hm,.int 0,.int 3],false,[4]⟩) rfl rm rfl) rfl)) (Qa4 (b:=true) (Qz (Qt (r:=⟨[Qd m R [],Qe m hb,.int 0,.int 2],false,[5]⟩) rfl rb rfl) rfl))).trans rfl) (λh=>by cases h) (λ_=>Qq ?_));have hl0:∀g:Nat->Int,Qe m g=Qp ((List.range m).map g):=λg=>by unfold Qe Qp;rw[ZO];rfl
 have ec:=Qc1 (fi:=QT (Qf (Qh 0) (dC (.int 1)))) (t:= .nm 1) (cap:=[none,none,some 0]) (ft:=Qs (dOp gLt (Qf (Qh 1) (dC (.int 1))) (Qf (Qh 2) (dC (.int 0))))) (fe:=Qh 1) (U:=[slF (Qd m R []),slI c,slF (Qe m f),slI a,slT (Qe m hm),slT (Qe m hb),none,none,none]) (toD:=pairD) (keep:=λs=>decide (s.2<(m:Int))) (out:=pairD) R (Qbb (Qaz (m:=m) (R:=R) (L:=[]) (Q3 (d:=Qd m R []) (b:=false) rfl) rfl).2.1 rfl) rfl λs _=>⟨[none,some (pairD s,true),slF (Qd m R [])],rfl,Qz (QY (d:= .bl (decide (s.2<(m:Int)))) (ra:=reI s.2) (rb:=reI m) rfl rfl rfl) rfl,λ_=>⟨⟨pairD s,true,[]⟩,rfl,rfl,rfl⟩⟩;refine rsa ec ?_;have hin:∀s∈R.filter (λs=>decide (s.2<(m:Int))),s∈R/\s.2<m:=λs hs=>⟨(ZA.mp hs).1,of_decide_eq_true (ZA.mp hs).2⟩;generalize R.filter (λs=>decide (s.2<(m:Int)))=N at hin;change Run _ [slF (Qd m R []),slI c,slF (Qe m f),slI a,slT (Qe m hm),slT (Qe m hb),slT (Qr N),none,none] _;refine QaO (P:=λU=>∃j6 j7 j8,U=[slF (Qd m R []),slI c,slF (Qe m f),slI a,slT (Qe m hm),slT (Qe m hb),j6,j7,j8]) ?_ ?_
 .refine QL (b:= !N.isEmpty) (Qz ((QzV (ra:=⟨Qr N,true,[6]⟩) (rb:=reT (.lst [])) rfl rfl (Quk 6 N) rfl).trans (by
   show some (HS.R.mk (.bl (!deq (.lst (N.map pairD)) (.lst []))) true [])=some (reT (.bl (!N.isEmpty)));rw[QAc];cases N<;>rfl)) rfl) (λz=>?_) (λ_=>Qq ⟨_,_,_,rfl⟩)
  have nl:0<N.length:=by
   cases N with
   | nil=>cases z
   | cons _ _=>simp
  have i0:=ZP (c / 8) (by omega:(N.length:Int)≠0);have i1:=ZR (c / 8) (by omega:(0:Int)<N.length);obtain⟨s,es⟩:∃s,N[(c / 8 % (N.length:Int)).toNat]? =some s:=⟨_,Zq ⋯⟩;obtain⟨sR,s2⟩:=hin s (ZC es);obtain⟨g1,g2,g3,g4,g5⟩:=hR s sR;have s12:=hw.good.2.2.2.2.1 s sR;obtain⟨u,eu⟩:∃u:Nat,s.1=u:=⟨s.1.toNat,⋯⟩;obtain⟨v,ev⟩:∃v:Nat,s.2=v:=⟨s.2.toNat,⋯⟩;have um:u<m:= ⋯
  have vm:v<m:= ⋯
  refine rsa (Qky (m:=m) (f:=f) (rs:=⟨[Qe m f],false,[]⟩) rfl rfl) ?_
  have eidx:Qf (Qh 6) (dOp QaC (dOp QbV (Qh 1) (dC (.int 8))) (dBf Q6 (Qa (Qh 6) Qb))) [slF (Qd m R []),slI c,slF (Qe m f),slI a,slT (Qe m hm),slT (Qe m hb),slT (Qr N),slT (Qe m f),none]=some ⟨pairD s,true,[]⟩:=
   Qqr (A:=N) (i:=c / 8 % (N.length:Int)) (s:=s) (ra:=⟨Qr N,true,[6]⟩) rfl rfl (QaI (a:=c / 8) (b:=N.length) (c8 rfl) rfl (by rw[Qbp (xs:=N.map pairD) (r:=⟨Qr N,true,[6]⟩) rfl rfl,Zc]) rfl ⋯) rfl i0 es
  have pd:pairD s= .tup [.int (u:Int),.int (v:Int)]:=by unfold pairD;rw[eu,ev]
  refine run_seq (QaA (toD:=λ(x:Nat)=> .int (x:Int)) [u,v] (λk U=>∃j8,U=[slF (Qd m R []),slI c,slF (Qe m f),slI a,slT (Qe m hm),slT (Qe m hb),slT (Qr N),slT (Qe m (([u,v].take k).foldl (λg x=>up g x 0) f)),j8]) (ir:=⟨[.int (u:Int),.int (v:Int)],[]⟩) (by
    unfold QT;show(Qf (Qh 6) (dOp QaC (dOp QbV (Qh 1) (dC (.int 8))) (dBf Q6 (Qa (Qh 6) Qb))) [slF (Qd m R []),slI c,slF (Qe m f),slI a,slT (Qe m hm),slT (Qe m hb),slT (Qr N),slT (Qe m f),none]).bind _=_;rw[eidx,Za,pd];rfl) rfl ⟨none,rfl⟩ ?_ ?_)
  .rintro k x U hk ⟨j8,rfl⟩;have xm:x<m:=by
    have:=ZC hk;rcases Zk.mp this with rfl | this
    .exact um
    .rw[ZE.mp this];exact vm
   refine⟨[slF (Qd m R []),slI c,slF (Qe m f),slI a,slT (Qe m hm),slT (Qe m hb),slT (Qr N),slT (Qe m (([u,v].take k).foldl (λg x=>up g x 0) f)),slI x],rfl,?_⟩;refine run_seq (Qf2 (m:=m) (i:=x) (v:=0) (ri:=reI x) (ra:=reI 0) rfl rfl rfl rfl rfl ⋯ ⋯ (Qq ⟨slI x,?_⟩));rw[Zl,ZbG,hk,ZbE];rfl
  .rintro U ⟨j8,rfl⟩;have ez:([u,v].take [u,v].length).foldl (λg x=>up g x 0) f=up (up f u 0) v 0:=rfl;rw[ez];have rz:=n3 (up (up f u 0) v 0) (λj hj=>by
    rw[QbC,QbC];split
    .omega
    .split
     .omega
     .exact f0 j hj) (QoO hw sR eu ev um vm (by rw[QbC,QbC];split<;>simp) (by rw[QbC,if_pos rfl]))
   exact QC (QL (b:=false) ((Qa4 (b:=true) (Qz (Qt (r:=⟨[Qd m R [],Qe m (up (up f u 0) v 0),.int 0,.int 3],false,[7]⟩) rfl rz rfl) rfl)).trans rfl) (λh=>by cases h) (λ_=>Qq (Qq ⟨_,_,_,rfl⟩)))
 rintro U ⟨j6,j7,j8,rfl⟩;have e1:Qad (Qh 5) (QS (dC (.int 1))) QZ [slF (Qd m R []),slI c,slF (Qe m f),slI a,slT (Qe m hm),slT (Qe m hb),j6,j7,j8]=some (reT (Qp (((List.range m).map hb).drop 1))):=Qex (ts:=(List.range m).map hb) (n:=1) (ra:=⟨Qe m hb,true,[5]⟩) (rb:=reI 1) rfl (hl0 hb) rfl rfl;have e2:QA (Qh 2) (QE (Qa (dC (.int 0)) Qb)) [slF (Qd m R []),slI c,slF (Qe m f),slI a,slT (Qe m hm),slT (Qe m hb),j6,j7,j8]=some (reT (Qp ((List.range m).map f++[0]))):=Qd7 (A:=(List.range m).map f) (B:=[0]) (ra:=reF (Qe m f)) (rb:=reT (Qp [0])) rfl (hl0 f) rfl rfl (by simp;omega);exact QK (Qo4 (a:=true) (b:=true) (Qt (Qo (r:=reF (Qd m R [])) rfl (Qo e1 (Qo (r:=reI 0) rfl (Qo (r:=reI 1) rfl (QI _))))) (rl _ (by simp;omega)) rfl) (Qt (Qo (r:=reF (Qd m R [])) rfl (Qo e2 (Qo (r:=reI 0) rfl (Qo (r:=reI 1) rfl (QI _))))) (rl _ ⋯) rfl)) ⟨rfl,rfl⟩
abbrev QB3(i:Int):Prop:=Builtin.Int.intBits i<=2^20
def QqY{n:Nat}(h:fa U=some r)(e:r.d=Q9 n m f):dBf Q6 (Qa fa Qb) U=some (reI n):=by
 rw[Qbp h e];simp
noncomputable def sm:Nat->(Nat->Int)->Int
 | 0,_=>0
 | n+1,f=>sm n f+f n
def QcL:∀{n:Nat},(∀i,i<n->f i=g i)->sm n f=sm n g
 | 0,_=>rfl
 | n+1,h=>by unfold sm;rw[QcL λi hi=>h i ⋯,h n ⋯]
def Qll(x y:Int)(f g:Mt1):∀n,sm n (λi=>x*f i+y*g i)=x*sm n f+y*sm n g
 | 0=>by simp[sm]
 | n+1=>by
  unfold sm;rw[Qll x y f g n,ZaZ,ZaZ];show _+(x*f n+y*g n)=_;omega
def Qjm:∀{n:Nat},(∀i,i<n->f i=0)->sm n f=0
 | 0,_=>rfl
 | n+1,h=>by unfold sm;rw[Qjm λi hi=>h i ⋯,h n ⋯];rfl
def QfZ:∀{n:Nat},c<n->(∀i,i<n->i≠c->f i=0)->sm n f=f c
 | 0,hc,_=> ⋯
 | n+1,hc,h=>by
  unfold sm;by_cases e:c=n
  .rw[Qjm λi hi=>h i ⋯ ⋯,e];omega
  .rw[QfZ (c:=c) ⋯ λi hi=>h i ⋯,h n ⋯ (Ne.symm e)];omega
def Qlz:∀{n:Nat},c<d->d<n->(∀i,i<n->i≠c->i≠d->f i=0)->sm n f=f c+f d
 | 0,_,hc,_=> ⋯
 | n+1,hcd,hd,h=>by
  unfold sm;by_cases e:d=n
  .rw[QfZ (c:=c) ⋯ λi hi ne=>h i ⋯ ne ⋯,e]
  .rw[Qlz (c:=c) (d:=d) hcd ⋯ λi hi=>h i ⋯,h n ⋯ ⋯ ⋯];omega
def Qqx(x:Int)(f:Mt1):∀n,sm n (λi=>f i*x)=sm n f*x
 | 0=>by simp[sm]
 | n+1=>by unfold sm;rw[Qqx x f n,ZaI]
noncomputable def skp(j c:Nat):Nat:=if c<j then c else c+1
noncomputable def sgn(j:Nat):Int:=if j % 2=0 then 1 else-1
def QkN(j:Nat):sgn (j+1)= -sgn j:=by
 unfold sgn;by_cases h:j % 2=0
 .rw[if_pos h,if_neg ⋯]
 .rw[if_neg h,if_pos ⋯];rfl
noncomputable def det:Nat->(Nat->Nat->Int)->Int
 | 0,_=>1
 | n+1,m=>sm (n+1) λj=>sgn j*m j 0*det n λc r=>m (skp j c) (r+1)
noncomputable def cup(m:Mt2)(c:Nat)(a:Mt1):Nat->Nat->Int:=λj=>if j=c then a else m j
def QJ(m:Mt2)(c:Nat)(a:Mt1):cup m c a c=a:=by unfold cup;rw[if_pos rfl]
def QF(m:Mt2)(a:Mt1)(h:j≠c):cup m c a j=m j:=by unfold cup;rw[if_neg h]
def QaG(m:Mt2)(c:Nat):cup m c (m c)=m:=by
 funext j;by_cases h:j=c
 .rw[h,QJ]
 .rw[QF _ _ h]
def QlX(m:Mt2)(c:Nat)(a b:Mt1):cup (cup m c a) c b=cup m c b:=by
 funext j;by_cases h:j=c
 .rw[h,QJ,QJ]
 .rw[QF _ _ h,QF _ _ h,QF _ _ h]
def Qav(m:Mt2)(a b:Mt1)(h:c≠d):cup (cup m c a) d b=cup (cup m d b) c a:=by
 funext j;by_cases h1:j=c
 .subst h1;rw[QF _ _ h,QJ,QJ]
 .by_cases h2:j=d
  .subst h2;rw[QJ,QF _ _ h1,QJ]
  .rw[QF _ _ h2,QF _ _ h1,QF _ _ h1,QF _ _ h2]
def QaQ:∀{n:Nat}{m k:Mt2},(∀j,j<n->∀r,r<n->m j r=k j r)->det n m=det n k
 | 0,_,_,_=>rfl
 | n+1,m,k,h=>by
  unfold det;refine QcL λj hj=>?_;rw[h j hj 0 ⋯,QaQ (n:=n) (m:=λc r=>m (skp j c) (r+1)) (k:=λc r=>k (skp j c) (r+1)) λc hc r hr=>h _ (by unfold skp;split<;>omega) _ ⋯]
def QiC(m:Mt2)(c:Nat)(v:Mt1):(λc' r=>cup m c v (skp c c') (r+1))=λc' r=>m (skp c c') (r+1):=by
 funext c' r;rw[QF _ _ (by unfold skp;split<;>omega)]
def QhH(m:Mt2)(v:Mt1)(h:c≠j):(λc' r=>cup m c v (skp j c') (r+1))=cup (λc' r=>m (skp j c') (r+1)) (if c<j then c else c-1) (λr=>v (r+1)):=by
 funext c' r;by_cases e:c'=if c<j then c else c-1
 .rw[e,QJ];have:skp j (if c<j then c else c-1)=c:=by
   unfold skp;by_cases q:c<j
   .rw[if_pos q,if_pos q]
   .rw[if_neg q,if_neg ⋯];omega
  rw[this,QJ]
 .rw[QF _ _ e,QF];intro z;refine e ?_;unfold skp at z;by_cases q:c'<j
  .rw[if_pos q]at z;rw[if_pos ⋯];omega
  .rw[if_neg q]at z;rw[if_neg ⋯];omega
def Qhh(x y:Int)(a b:Mt1):∀(n:Nat) (m:Mt2) (c:Nat),c<n->∀(a b:Mt1),det n (cup m c λr=>x*a r+y*b r)=x*det n (cup m c a)+y*det n (cup m c b)
 | 0,_,_,h,_,_=> ⋯
 | n+1,m,c,h,a,b=>by
  unfold det;rw[← Qll];refine QcL λj hj=>?_;by_cases e:j=c
  .subst e;rw[QiC,QiC,QiC,QJ,QJ,QJ];generalize det n _=q;generalize sgn j=s;simp only[ZaZ,ZaI,ZbP,Zbm]
  .rw[QhH m _ (Ne.symm e),QhH m _ (Ne.symm e),QhH m _ (Ne.symm e),QF _ _ e,QF _ _ e,QF _ _ e,Qhh x y a b n _ _ (by split<;>omega)];generalize det n _=q;generalize det n _=q';generalize sgn j*m j 0=s;simp only[ZaZ,Zbm]
def Qjp(h:c<n)(a b:Mt1):det n (cup m c λr=>a r+b r)=det n (cup m c a)+det n (cup m c b):=by
 have:=Qhh 1 1 a b n m c h a b;simpa only[ZaJ]using this
def Qhc(h:c<n)(x:Int)(a:Mt1):det n (cup m c λr=>x*a r)=x*det n (cup m c a):=by
 have:=Qhh x 0 a a n m c h a a;simpa only[Zaq,ZaH]using this
def Qjl:∀(n:Nat) (m:Mt2) (c:Nat),c+1<n->m c=m (c+1)->det n m=0
 | 0,_,_,h,_=> ⋯
 | n+1,m,c,h,e=>by
  unfold det;rw[Qlz (c:=c) (d:=c+1) ⋯ h]
  .have:(λc' r=>m (skp c c') (r+1))=λc' r=>m (skp (c+1) c') (r+1):=by
    funext c' r;unfold skp;by_cases q:c'<c
    .rw[if_pos q,if_pos ⋯]
    .rw[if_neg q];by_cases q2:c'=c
     .rw[if_pos ⋯,q2,e]
     .rw[if_neg ⋯]
   rw[this,QkN,e];generalize det n _=q;rw[Zbo,Zbo];omega
  .intro j hj h1 h2;have:det n (λc' r=>m (skp j c') (r+1))=0:=by
    by_cases q:c<j
    .refine Qjl n _ c ⋯ ?_;funext r;show m (skp j c) (r+1)=m (skp j (c+1)) (r+1);unfold skp;rw[if_pos q,if_pos ⋯,e]
    .refine Qjl n _ (c-1) ⋯ ?_;funext r;show m (skp j (c-1)) (r+1)=m (skp j (c-1+1)) (r+1);unfold skp;rw[if_neg ⋯,if_neg ⋯,show c-1+1=c by omega,e]
   rw[this,Zay]
def Qj4(hc:c<n)(hd:d<n)(hcd:c≠d)(hz:∀k:Nat->Nat->Int,k c=k d->det n k=0)(a b:Mt1):det n (cup (cup m c a) d b)= -det n (cup (cup m c b) d a):=by
 have z:=hz (cup (cup m c λr=>a r+b r) d λr=>a r+b r) (by rw[QJ,QF _ _ hcd,QJ]);have za:=hz (cup (cup m c a) d a) (by rw[QJ,QF _ _ hcd,QJ]);have zb:=hz (cup (cup m c b) d b) (by rw[QJ,QF _ _ hcd,QJ]);rw[Qjp hd,Qav _ _ _ hcd,Qjp hc,Qav _ _ _ hcd,Qjp hc,Qav _ _ _ (Ne.symm hcd),Qav _ _ _ (Ne.symm hcd),Qav _ _ _ (Ne.symm hcd),Qav _ _ _ (Ne.symm hcd),za,zb]at z;omega
def Qmr:∀(g n:Nat) (m:Mt2) (i:Nat),i+g+1<n->m i=m (i+g+1)->det n m=0
 | 0,n,m,i,h,e=>Qjl n m i h e
 | g+1,n,m,i,h,e=>by
  have:=Qj4 (m:=m) (c:=i+g+1) ⋯ ⋯ ⋯ (λk hk=>Qjl n k _ ⋯ hk) (m (i+g+1)) (m (i+g+1+1));rw[QaG,QaG]at this;rw[this,Qmr g n _ i ⋯]
  .rfl
  .rw[QF _ _ ⋯,QF _ _ ⋯,QF _ _ ⋯,QJ];exact e
def Qg0(hi:i<n)(hj:j<n)(hij:i≠j)(e:m i=m j):det n m=0:=by
 rcases Nat.lt_or_gt_of_ne hij with h | h
 .exact Qmr (j-i-1) n m i ⋯ (by rw[show i+(j-i-1)+1=j by omega];exact e)
 .exact Qmr (i-j-1) n m j ⋯ (by rw[show j+(i-j-1)+1=i by omega];exact e.symm)
def QdT(hc:c<n)(hd:d<n)(hcd:c≠d)(a b:Mt1):det n (cup (cup m c a) d b)= -det n (cup (cup m c b) d a):=Qj4 hc hd hcd (λk hk=>Qg0 hc hd hcd hk) a b
def Qha(h:c<n)(x:Mt1)(E:Mt2):∀k,det n (cup m c λr=>sm k λs=>x s*E s r)=sm k λs=>x s*det n (cup m c (E s))
 | 0=>by
  have:=Qhc (m:=m) h 0 λ_=>0;rw[Zaq]at this;unfold sm;simpa using this
 | k+1=>by
  unfold sm;rw[Qjp h,Qha h x E k,Qhc h]
def QoG:∀{n:Nat}(σ:Nat->Nat),(∀j,j<n+1->σ j<n)->∃i j,i<n+1/\j<n+1/\i≠j/\σ i=σ j
 | 0,σ,h=>absurd (h 0 ⋯) ⋯
 | n+1,σ,h=>by
  by_cases q:∃i,i<n+1/\σ i=σ (n+1)
  .obtain⟨i,hi,e⟩:=q;exact⟨i,n+1,⋯,⋯,⋯,e⟩
  .have ne:∀i,i<n+1->σ i≠σ (n+1):=λi hi e=>q ⟨i,hi,e⟩;have hv:=h (n+1) ⋯;obtain⟨i,j,hi,hj,hij,e⟩:=QoG (n:=n) (λj=>if σ (n+1)<σ j then σ j-1 else σ j) λj hj=>by
    have:=h j ⋯;have:=ne j hj;show(if σ (n+1)<σ j then σ j-1 else σ j)<n;by_cases c:σ (n+1)<σ j
    .rw[if_pos c];omega
    .rw[if_neg c];omega
   refine⟨i,j,⋯,⋯,hij,?_⟩;have a:=ne i hi;have b:=ne j hj;have e:(if σ (n+1)<σ i then σ i-1 else σ i)=(if σ (n+1)<σ j then σ j-1 else σ j):=e;by_cases c:σ (n+1)<σ i
   .rw[if_pos c]at e;by_cases d:σ (n+1)<σ j
    .rw[if_pos d]at e;omega
    .rw[if_neg d]at e;omega
   .rw[if_neg c]at e;by_cases d:σ (n+1)<σ j
    .rw[if_pos d]at e;omega
    .rw[if_neg d]at e;omega
def Qox{n:Nat}{E:Mt2}{x:Mt2}:∀(k:Nat) (W:Mt2) (σ:Nat->Nat),k<=n+1->(∀j,j<n+1->σ j<n)->(∀j,j<k->W j=λr=>sm n λs=>x j s*E s r)->(∀j,k<=j->j<n+1->W j=E (σ j))->det (n+1) W=0
 | 0,W,σ,hk,hσ,_,h2=>by
  obtain⟨i,j,hi,hj,hij,e⟩:=QoG σ hσ;exact Qg0 hi hj hij (by rw[h2 i ⋯ hi,h2 j ⋯ hj,e])
 | k+1,W,σ,hk,hσ,h1,h2=>by
  have:=Qha (n:=n+1) (m:=W) (c:=k) ⋯ (x k) E n;rw[← h1 k ⋯,QaG]at this;rw[this];refine Qjm λs hs=>?_;rw[Qox k (cup W k (E s)) (λj=>if j=k then s else σ j) ⋯ (λj hj=>by show(if j=k then s else σ j)<n;by_cases e:j=k;(rw[if_pos e];exact hs);(rw[if_neg e];exact hσ j hj)) (λj hj=>by rw[QF _ _ ⋯];exact h1 j ⋯) λj h3 h4=>?_,Zay];show cup W k (E s) j=E (if j=k then s else σ j);by_cases e:j=k
  .rw[e,QJ,if_pos rfl]
  .rw[QF _ _ e,if_neg e];exact h2 j ⋯ h4
noncomputable def cyc(m:Mt2)(a:Mt1)(l k:Nat):Nat->Nat->Int:=λc=>if c<k then m c else if c=k then a else if c<=l then m (c-1)else m c
def Qv1(m:Mt2)(a:Mt1)(hk:k<l)(hl:l<n):det n (cyc m a l k)= -det n (cyc m a l (k+1)):=by
 have h:=QdT (n:=n) (m:=cyc m a l k) (c:=k) (d:=k+1) ⋯ ⋯ ⋯ a (m k);have e1:cup (cup (cyc m a l k) k a) (k+1) (m k)=cyc m a l k:=by
  have q1:cyc m a l k k=a:=by unfold cyc;rw[if_neg ⋯,if_pos rfl]
  have q2:cyc m a l k (k+1)=m k:=by unfold cyc;rw[if_neg ⋯,if_neg ⋯,if_pos ⋯,Zbf]
  have:=QaG (cyc m a l k) k;rw[q1]at this;rw[this,← q2,QaG]
 have e2:cup (cup (cyc m a l k) k (m k)) (k+1) a=cyc m a l (k+1):=by
  funext c;by_cases h1:c=k+1
  .subst h1;rw[QJ];unfold cyc;rw[if_neg ⋯,if_pos rfl]
  .rw[QF _ _ h1];by_cases h2:c=k
   .subst h2;rw[QJ];unfold cyc;rw[if_pos ⋯]
   .rw[QF _ _ h2];unfold cyc;by_cases h3:c<k
    .rw[if_pos h3,if_pos ⋯]
    .rw[if_neg h3,if_neg h2,if_neg (show ¬c<k+1 by omega),if_neg h1]
 rw[e1,e2]at h;exact h
def QqQ(m:Mt2)(a:Mt1)(hl:l<n):∀g k,k+g=l->det n (cyc m a l k)=sgn g*det n (cup m l a)
 | 0,k,h=>by
  have:cyc m a l k=cup m l a:=by
   funext c;unfold cyc cup;by_cases h1:c=l
   .rw[if_neg ⋯,if_pos ⋯,if_pos h1]
   .rw[if_neg h1];by_cases h2:c<k
    .rw[if_pos h2]
    .rw[if_neg h2,if_neg ⋯,if_neg ⋯]
  rw[this];unfold sgn;simp
 | g+1,k,h=>by
  rw[Qv1 m a ⋯ hl,QqQ m a hl g (k+1) ⋯,QkN,Zbo]
def QAj(j:Nat):sgn j*sgn j=1:=by unfold sgn;split<;>rfl
noncomputable def bE(r s q:Nat):Int:=if q=0 then(if s=r then 1 else 0)else if s=q-1 then 1 else 0
def Qos(m:Mt2)(a:Mt1)(hr:r<n):det n m*a r=sm n λl=>det n (cup m l a)*m l r:=by
 have v0:∃v:Nat->Nat->Int,v=λj=>if j=0 then a else m (j-1):=⟨_,rfl⟩;obtain⟨v,hv⟩:=v0;have hv0:v 0=a:=by rw[hv];rfl
 have hvs:∀j,v (j+1)=m j:=λj=>by rw[hv];show(if j+1=0 then a else m (j+1-1))=_;rw[if_neg ⋯,Zbf]
 have z:det (n+1) (λj s=>if s=0 then v j r else v j (s-1))=0:=by
  have key:det (n+1) (λj q=>sm n λs=>v j s*bE r s q)=0:=
   Qox (n+1) _ (λ_=>r) ⋯ (λ_ _=>hr) (λj _=>rfl) (λj h1 h2=> ⋯)
  rw[← key];refine QaQ λj hj s hs=>?_;by_cases e:s=0
  .subst e;rw[if_pos rfl,QfZ hr]
   .unfold bE;rw[if_pos rfl,if_pos rfl,ZbQ]
   .intro i _ ne;unfold bE;rw[if_pos rfl,if_neg ne,Zay]
  .rw[if_neg e,QfZ (c:=s-1) ⋯]
   .unfold bE;rw[if_neg e,if_pos rfl,ZbQ]
   .intro i _ ne;unfold bE;rw[if_neg e,if_neg ne,Zay]
 unfold det at z;have term:∀j,(sgn j*(if(0:Nat)=0 then v j r else v j (0-1))*det n λc q=>if q+1=0 then v (skp j c) r else v (skp j c) (q+1-1))=sgn j*v j r*det n λc=>v (skp j c):=λj=>by
  rw[if_pos rfl];congr 1
 have first:∀(k:Nat) (f:Mt1),sm (k+1) f=f 0+sm k λi=>f (i+1):=λk f=>by
  induction k with
  | zero=>show 0+f 0=f 0+0;omega
  | succ k ih=>show sm (k+1) f+f (k+1)=_;rw[ih];show _=f 0+(sm k (λi=>f (i+1))+f (k+1));omega
 rw[QcL λj _=>term j,first]at z;have t0:(λc=>v (skp 0 c))=m:=by funext c;unfold skp;rw[if_neg ⋯,hvs]
 have tl:∀l,l<n->sgn (l+1)*v (l+1) r*det n (λc=>v (skp (l+1) c))= -(det n (cup m l a)*m l r):=λl hl=>by
  have:(λc=>v (skp (l+1) c))=cyc m a l 0:=by
   funext c;unfold skp cyc;by_cases h0:c=0
   .subst h0;rw[if_pos (show 0<l+1 by omega),if_neg (show ¬0<0 by omega),if_pos rfl,hv0]
   .obtain⟨c',rfl⟩:∃c',c=c'+1:=⟨c-1,⋯⟩;rw[if_neg (show ¬c'+1<0 by omega),if_neg h0];by_cases h1:c'+1<=l
    .rw[if_pos (show c'+1<l+1 by omega),if_pos h1,hvs,Zbf]
    .rw[if_neg (show ¬c'+1<l+1 by omega),if_neg h1,hvs]
  rw[this,QqQ m a hl l 0 ⋯,hvs,QkN];have q:=QAj l;generalize det n (cup m l a)=d at *;generalize m l r=x at *;have: -sgn l*x*(sgn l*d)= -(sgn l*sgn l*(d*x)):=by
   rw[Zbo,Zbo,ZbP,Zbm x,← ZbP,Zcb x d]
  rw[this,q,ZaJ]
 rw[t0,hv0]at z;have neg:=Qll (-1) 0 (λl=>det n (cup m l a)*m l r) (λ_=>0) n;rw[QcL (g:=λl=> -1*(det n (cup m l a)*m l r)+0*0) λl hl=>by rw[tl l hl];omega]at z;have s0:sgn 0=1:=rfl;rw[neg,s0,ZaJ]at z;rw[Zcb];omega
def QuC(m:Mt2)(u a:Mt1)(hk:k<n)(hi:i<n)(hki:k≠i):det n m*det n (cup (cup m k u) i a)=det n (cup m k u)*det n (cup m i a)-det n (cup m i u)*det n (cup m k a):=by
 have h1:det n m*det n (cup (cup m k u) i a)=det n (cup (cup m i a) k λr=>det n m*u r):=by
  rw[Qhc hk,Qav _ _ _ hki]
 have h2:det n (cup (cup m i a) k λr=>det n m*u r)=det n (cup (cup m i a) k λr=>sm n λl=>det n (cup m l u)*m l r):=by
  refine QaQ λj hj r hr=>?_;by_cases e:j=k
  .subst e;rw[QJ,QJ];exact Qos m u hr
  .rw[QF _ _ e,QF _ _ e]
 rw[h1,h2,Qha hk (λl=>det n (cup m l u)) m n];have tk:det n (cup (cup m i a) k (m k))=det n (cup m i a):=by rw[Qav _ _ _ (Ne.symm hki),QaG]
 have ti:det n (cup (cup m i a) k (m i))= -det n (cup m k a):=by
  rw[QdT hi hk (Ne.symm hki),QaG]
 have tn:∀l,l<n->l≠k->l≠i->det n (cup (cup m i a) k (m l))=0:=λl hl h1 h2=>Qg0 hk hl (Ne.symm h1) (by rw[QJ,QF _ _ h1,QF _ _ h2]);rcases Nat.lt_or_gt_of_ne hki with h | h
 .rw[Qlz h hi λl hl a b=>by rw[tn l hl a b,Zay],tk,ti,Int.mul_neg];omega
 .rw[Qlz h hk λl hl a b=>by rw[tn l hl b a,Zay],tk,ti,Int.mul_neg];omega
noncomputable def QD(j r:Nat):Int:=if j=r then 1 else 0
def QeP:∀n,det n QD=1
 | 0=>rfl
 | n+1=>by
  unfold det;rw[QfZ (c:=0) ⋯ λi _ ne=>by unfold QD;rw[if_neg ne,Zay,Zaq]];have:(λc r=>QD (skp 0 c) (r+1))=QD:=by
   funext c r;have e:skp 0 c=c+1:=by unfold skp;rw[if_neg ⋯]
   rw[e];unfold QD;by_cases h:c=r
   .rw[if_pos h,if_pos ⋯]
   .rw[if_neg h,if_neg ⋯]
  rw[this,QeP n];unfold QD sgn;simp
def Qpl(a:Mt1)(hi:i<n):det n (cup QD i a)=a i:=by
 have:=Qos QD a hi;rw[QeP,ZaJ,QfZ (c:=i) hi λl _ ne=>by rw[show QD l i=0 by unfold QD;rw[if_neg ne],Zay]]at this;rw[this,show QD i i=1 by unfold QD;rw[if_pos rfl],ZbQ]
structure Clr (n N k:Nat) (A m R:Mt2) (d:Int):Prop where
 le:k<=n
 det:HS.det n m=d
 nz:d≠0
 ent:∀i j,i<n->j<N->R i j=HS.det n (cup m i (A j))
 own:∀j,j<k->m j=A j
def Clr.start(n N:Nat)(A:Mt2):Clr n N 0 A QD (λi j=>A j i) 1:=⟨⋯,QeP n,∅,λi j hi _=>(Qpl (A j) hi).symm,λj hj=> ⋯⟩
def Clr.exact{n N k:Nat}{A m R:Mt2}{d:Int}(h:Clr n N k A m R d)(hk:k<n)(kN:k<N){i j:Nat}(hi:i<n)(hj:j<N)(ne:i≠k):R k k*R i j-R i k*R k j=d*HS.det n (cup (cup m k (A k)) i (A j)):=by
 rw[h.ent k k hk kN,h.ent i j hi hj,h.ent i k hi kN,h.ent k j hk hj,← QuC m (A k) (A j) hk hi (Ne.symm ne),h.det]
def Clr.step{n N k:Nat}{A m R R':Mt2}{d:Int}(h:Clr n N k A m R d)(hk:k<n)(kN:k<N)(hp:R k k≠0)(h1:∀j,j<N->R' k j=R k j)(h2:∀i j,i<n->i≠k->j<N->∀q,R k k*R i j-R i k*R k j=d*q->R' i j=q):Clr n N (k+1) A (cup m k (A k)) R' (R k k):=by
 refine⟨hk,(h.ent k k hk kN).symm,hp,λi j hi hj=>?_,λj hj=>?_⟩
 .by_cases e:i=k
  .subst e;rw[h1 j hj,h.ent i j hi hj,QlX]
  .exact h2 i j hi e hj _ (h.exact hk kN hi hj e)
 .by_cases e:j=k
  .subst e;rw[QJ]
  .rw[QF _ _ e];exact h.own j ⋯
def Clr.tell{n N k:Nat}{A m R:Mt2}{d:Int}(h:Clr n N k A m R d){j r:Nat}(hj:j<N)(hr:r<n):d*A j r=sm n λl=>R l j*m l r:=by
 have:=Qos m (A j) hr;rw[h.det]at this;rw[this];exact QcL λl hl=>by rw[h.ent l j hl hj]
noncomputable def bnd(B:Nat):Nat->Nat
 | 0=>1
 | n+1=>(n+1)*(B*bnd B n)
def Qtn:∀{n:Nat},(∀i,i<n->(f i).natAbs<=C)->(sm n f).natAbs<=n*C
 | 0,_=>by simp[sm]
 | n+1,h=>by
  unfold sm;have h1:=Qtn (n:=n) λi hi=>h i ⋯;have h2:=h n ⋯;have:=Int.natAbs_add_le (sm n f) (f n);rw[Nat.succ_mul];omega
def QxR(j:Nat):(sgn j).natAbs=1:=by unfold sgn;split<;>rfl
def QmN:∀{n:Nat}{m:Mt2},(∀j,j<n->∀r,r<n->(m j r).natAbs<=B)->(det n m).natAbs<=bnd B n
 | 0,_,_=>by show(1:Int).natAbs<=1;decide
 | n+1,m,h=>by
  unfold det bnd;refine Qtn λj hj=>?_;rw[Int.natAbs_mul,Int.natAbs_mul,QxR,Nat.one_mul];refine ZcE (h j hj 0 ⋯) (QmN λc hc r hr=>h _ ?_ _ ⋯);unfold skp;split<;>omega
def Qpz:∀{n:Nat},k<=n->(∀i,k<=i->i<n->f i=0)->sm n f=sm k f
 | 0,h,_=>by rw[Nat.le_zero.mp h]
 | n+1,h,z=>by
  by_cases e:k=n+1
  .rw[e]
  .show sm n f+f n=sm k f;rw[Qpz (n:=n) ⋯ λi h1 h2=>z i h1 ⋯,z n ⋯ ⋯,ZaH]
def Qhp(h:i.natAbs<2^2000):QB3 i:=ZN (PyProof.Rows.intBits_le h) ∅
def Qsl(hd:d≠0)(h:a=d*q):QgE a d=q:=by
 rw[QqM,h,Int.mul_fdiv_cancel_left q hd]
def QBd(ha:fa U=some ra)(ea:ra.d= .int a)(hb:fb U=some rb)(eb:rb.d= .int b):dOp Qa6 fa fb U=some (reI (a-b)):=by
 refine QY ha hb ?_;rw[ea,eb];rfl
def Qx0(ha:fa U=some ra)(ea:ra.d= .int a)(hb:fb U=some rb)(eb:rb.d= .int b)(hz:b≠0)(h2:b.natAbs<2^2000)(h:a=b*q):dOp QbV fa fb U=some (reI q):=by
 refine QY ha hb ?_;rw[ea,eb];show(if QeV b=true then some (D.int (QgE a b))else none)=_;have:QeV b=true:=by
  unfold QeV;simp only[Zp,decide_eq_true_eq];exact⟨hz,Zz h2 (ZaU ∅ ∅)⟩
 rw[if_pos this,Qsl hz h]
noncomputable def Qp7:DS:=(Qc (QH (QO (QcP vv0 vv1) (.tp [1,2]) [none,none,none,some 2,some 3,some 0,some 1] QaR (dOp QbV (dOp Qa6 (QaE (Qf vv6 vv3) vv1) (QaE (Qf vv5 vv3) vv2)) vv4))) Qj)
def QmH(d:Den):Prop:=∀(N k:Nat) (a p q:Mt1) (b:Int),k<N->b≠0->b.natAbs<2^2000->(∀j,j<N->(a j).natAbs<2^2000/\(p j).natAbs<2^2000)->(∀j,j<N->p k*a j-a k*p j=b*q j)->d [Qe N a,Qe N p,.int k,.int b]=some (Qe N q,true)
def QwE:QmH (Qx 4 Qp7):=λN k a p q b hk hb hb2 hs hq=>
 Q2 (QK (Qa1 (List.range N) (QqT rfl rfl rfl rfl) rfl λi hi=>⟨[none,slI (a i),slI (p i),slI k,slI b,slF (Qe N a),slF (Qe N p)],rfl,reI (q i),by
  have hi':=Zj.mp hi;refine Qx0 (QBd (QcW (Qa0 rfl rfl rfl rfl hk) rfl rfl rfl (QqK (Qhp (hs k hk).2) (Qhp (hs i hi').1))) rfl (QcW (Qa0 rfl rfl rfl rfl hk) rfl rfl rfl (QqK (Qhp (hs k hk).1) (Qhp (hs i hi').2))) rfl) rfl rfl rfl hb hb2 (hq i hi'),rfl,rfl⟩) ⟨rfl,rfl⟩)
noncomputable def Qjd(Qeh:Den)(QeU:Den):DS:=(Qc (Qy 1 (Qdh vv0)) (Qc (Qy 2 kk1) (Qc (QaH (Qan (dBf Q6 (Qa vv0 Qb))) (.nm 3) (Qc (Qy 1 (Qm 2 Qeh [] (Qa vv1 (Qa vv3 Qb)))) (Qc (Qy 4 (Qdh (Qf vv1 vv3))) (Qc (sIf (Qs (dOp gEq (Qf vv4 vv3) kk0)) (Qc (QH (Qal (Qa vv1 (Qa kk0 Qb)))) Qj) Qj) (Qc (Qy 1 (QO (QT vv1) (.nm 1) [none,none,some 3,some 2,some 4] QaR (Qm 4 QeU [] (Qa vv1 (Qa vv4 (Qa vv2 (Qa vv3 Qb))))))) (Qc (Qb3 1 Qak vv3 vv4) (Qc (Qy 2 (Qdh (Qf vv4 vv3))) Qj))))))) (Qc (QH (Qal (Qa vv1 (Qa vv2 Qb)))) Qj))))
def QoD(h:fs U=some r)(e:den (r.ds++dfl)=some (d,false))(hn:r.ds.length+dfl.length=n):Qm n den dfl fs U=some (R.norm ⟨d,false,r.M⟩):=by
 unfold Qm;rw[h,Za,if_pos hn,e];rfl
def QsG{k:Nat}(hx:U[x]? =some (slT (Q9 n N g)))(hi:fi U=some (reI k))(ha:fa U=some (reF (Qe N p)))(hk:k<n)
  (q:Q (.nx (U.set x (slF (Q9 n N (λi j=>if i=k then p j else g i j)))))):Run (Qb3 x Qak fi fa) U Q:=by
 refine⟨_,?_,q⟩;unfold Qb3;rw[ha,Za,hx];have hn:(HS.R.mk (Qe N p) false []).norm=(reF (Qe N p)):=by unfold R.norm Qe;rfl
 simp only[Qak,Za,hi,Q9,Qc5,Zc,ZF,hn];rw[QdV (show(0:Int)<=k by omega) ⋯];simp only[Za,Zl];have e:((List.range n).map λi=>Qe N (g i)).set k (Qe N p)=(List.range n).map λi=>Qe N (λj=>if i=k then p j else g i j):=by
  refine Zaj λi=>?_;rw[Zci];by_cases h:k=i
  .subst h;rw[if_pos rfl,if_pos (by simpa using hk),Zh,ZL hk];simp
  .rw[if_neg h,Zh,Zh];by_cases h2:i<n
   .rw[ZL h2];simp only[ZT,if_neg (Ne.symm h)]
   .rw[Zt (by simpa using h2)];rfl
 rw[e];rfl
noncomputable def QrJ:DS:=(Qc (QH (QO (QT vv0) (.nm 1) [none,none] QaR (dOp Qa6 kk0 vv1))) Qj)
def QnW(d:Den):Prop:=∀(n:Nat) (a:Mt1),d [Qe n a]=some (Qe n λi=>0-a i,true)
def QAf:QnW (Qx 1 QrJ):=λn a=>Q2 (QK (Qa1 (List.range n) (Qbb rfl rfl) rfl λi _=>⟨[none,slI (a i)],rfl,reI (0-a i),rfl,rfl,rfl⟩) ⟨rfl,rfl⟩)
noncomputable def Qp0(Qdr:Den)(Qas:Den):DS:=(Qc (QH (QO (QT (Qm 1 Qas [] (Qa vv0 Qb))) (.nm 1) [none,none] QaR (Qm 1 Qdr [] (Qa vv1 Qb)))) Qj)
def QkJ(d:Den):Prop:=∀(m:Nat) (R L:Lpp),m<=1000->R.length+R.length+L.length<=1000000->(∀s∈R,Good m s)->(∀s∈L,Good m s)->d [Qd m R L]=some (Q9 m m λi j=>0-Qw m (Qi R L) i j,true)
def QtU(ho:QnW dop)(ht:QgY dt):QkJ (Qx 1 (Qp0 dop dt)):=λm R L hm hl hR hL=>by
 have et:=ht m R L hm hl hR hL;generalize Qw m (Qi R L)=T at *;exact Q2 (QK (Qa1 (List.range m) (Qbb (Qt rfl et rfl) rfl) rfl λi _=>⟨[none,slF (Qe m (T i))],rfl,reT (Qe m λj=>0-T i j),Qt rfl (ho m (T i)) rfl,rfl,rfl⟩) ⟨rfl,rfl⟩)
def QCt(h:g1 U=some true):bOr g1 g2 U=some true:=by unfold bOr;rw[h];rfl
def QAW(h:fa U=some ⟨.tup [a,b],fr,M⟩):Qf fa (dC (.int 1)) U=some (HS.R.norm ⟨b,fr,M⟩):=by
 unfold Qf;rw[h];rfl
noncomputable def QlA(f:Mt2)(k:Nat)(p:Mt1)(i:Nat)(q:Mt1):Nat->Nat->Int:=λl j=>if l=i then q j else if l=k then p j else f l j
def Qq1{n N k:Nat}{g:Mt2}{p:Mt1}(hk:k<n):((List.range n).map λi=>Qe N (g i)).set k (Qe N p)=(List.range n).map λi=>Qe N (λj=>if i=k then p j else g i j):=by
 refine Zaj λi=>?_;rw[Zci];by_cases h:k=i
 .subst h;rw[if_pos rfl,if_pos (by simpa using hk),Zh,ZL hk];simp
 .rw[if_neg h,Zh,Zh];by_cases h2:i<n
  .rw[ZL h2];simp only[ZT,if_neg (Ne.symm h)]
  .rw[Zt (by simpa using h2)];rfl
def QyT{i k:Nat}(hx:x<U.length)(ey:fy (U.set x none)=some ⟨Q9 n N f,by',[]⟩)(e1:f1 (U.set x none)=some (reI k))(e2:g1 (U.set x none)=some ⟨Qe N p,b1,[]⟩)(e3:f2 (U.set x none)=some (reI i))(e4:g2 (U.set x none)=some ⟨Qe N q,b2,[]⟩)(hk:k<n)(hi:i<n)
  (h:Q (.nx ((U.set x none).set x (slF (Q9 n N (QlA f k p i q)))))):Run (Qke x fy f1 g1 f2 g2) U Q:=by
 refine⟨_,?_,h⟩;unfold Qke Qrh;rw[if_pos (by simpa using hx),ey,Za];simp only[Q9,e1,e2,e3,e4,Za,Zc,ZF];rw[QdV (show(0:Int)<=k by omega) ⋯,QdV (show(0:Int)<=i by omega) ⋯];simp only[Za,Zl,Qq1 hk];rw[Qq1 hi];rfl
noncomputable def Ql3(Qdr:Den):DS:=(Qc (Qy 2 (QO (Qdy vv1 (dBf Q6 (Qa vv0 Qb))) (.nm 1) [none,none,some 1,some 0] (Qs (dOp gNe (Qf (Qf vv3 vv1) vv2) kk0)) vv1)) (Qc (sIf (bOr (QbG (Qs vv2)) (Qs (dOp gEq (Qf vv2 kk0) vv1))) (Qc (QH vv0) Qj) Qj) (Qc (Qke 3 vv0 vv1 (Qf vv0 (Qf vv2 kk0)) (Qf vv2 kk0) (Qm 1 Qdr [] (Qa (Qf vv0 vv1) Qb))) (Qc (QH vv3) Qj))))
def QkO(d:Den):Prop:=∀(n N k:Nat) (f:Mt2),k<n->n<=1000->k<N->∃g,d [Q9 n N f,.int k]=some (Q9 n N g,false)∧
 ((g=f/\(f k k=0->∀i,k<=i->i<n->f i k=0))∨∃i,k<i/\i<n/\f i k≠0/\g=QlA f k (f i) i λj=>0-f k j)
def Qt3(ho:QnW dop):QkO (Qx 4 (Ql3 dop)):=λn N k f hk hn kN=>by
 have eI:=Qc1 (fi:=Qdy (Qh 1) (dBf Q6 (Qa (Qh 0) Qb))) (t:= .nm 1) (cap:=[none,none,some 1,some 0]) (ft:=Qs (dOp gNe (Qf (Qf (Qh 3) (Qh 1)) (Qh 2)) (dC (.int 0)))) (fe:=Qh 1) (U:=[slF (Q9 n N f),slI k,none,none])
  (List.range (n-k)) (Qm1 rfl rfl (QqY rfl rfl) rfl ⋯ ⋯ ⋯ ⋯) rfl λi hi=>⟨[none,slI ((k:Int)+i),slI k,slF (Q9 n N f)],rfl,by
   have hi':=Zj.mp hi;refine Qz (QdF (Qa0 ((Qhn rfl rfl rfl rfl ⋯ ⋯).trans (by rw[show((k:Int)+i).toNat=k+i by omega])) rfl rfl rfl kN) rfl rfl rfl) rfl,λ_=>⟨(reI ((k:Int)+i)),rfl,rfl,rfl⟩⟩
 have hmem:∀i,i∈(List.range (n-k)).filter (λi=> !decide (f (k+i) k=0))↔i<n-k/\f (k+i) k≠0:=λi=>by simp
 have hfst:∀i,f (k+i) k≠0->i<n-k->∀a l,(List.range (n-k)).filter (λi=> !decide (f (k+i) k=0))=a::l->f k k≠0->a=0:=λi _ hi a l e h0=>by
  have hr:List.range (n-k)=0::(List.range (n-k-1)).map (· +1):=by
   rw[show n-k=(n-k-1)+1 by omega,ZbD];rfl
  rw[hr,ZaD,if_pos (by show(!decide (f (k+0) k=0))=true;rw[Nat.add_zero,decide_eq_false h0];rfl)]at e;exact(List.cons.inj e).1.symm
 generalize (List.range (n-k)).filter (λi=> !decide (f (k+i) k=0))=xs at eI hmem hfst;cases xs with
 | nil=>
  refine⟨f,?_,.inl ⟨rfl,λ_ i h1 h2=>?_⟩⟩
  .refine Q2 ?_;refine rsa eI ?_;refine QC (QL ((QCt (Qa4 (show Qs (Qh 2) _=some false from rfl)))) (λ_=>?_) (λh=>by cases h));exact QC (QbP rfl ⟨rfl,rfl⟩)
  .by_cases z:f i k=0
   .exact z
   .have:=(hmem (i-k)).mpr ⟨⋯,by rw[show k+(i-k)=i by omega];exact z⟩;simp at this
 | cons a l=>
  obtain⟨ha,hz⟩:=(hmem a).mp Zi;have eidx:∀U:En,U[2]? =some (slT (.lst ((a::l).map λ(i:Nat)=>D.int ((k:Int)+i))))->Qf (Qh 2) (dC (.int 0)) U=some (reI ((k:Int)+a)):=λU hU=>by
   unfold Qf;rw[show Qh 2 U=some ⟨.lst ((a::l).map λ(i:Nat)=>D.int ((k:Int)+i)),true,[2]⟩ by unfold Qh;rw[hU];rfl,Za,show dC (.int 0) U=some (reI 0)from rfl,Za];dsimp only;simp only[D.items,Zv,Za];rw[QfC (show(0:Int)<=0 by decide) ⋯];rfl
  by_cases h0:a=0
  .subst h0;refine⟨f,?_,.inl ⟨rfl,λz=>absurd z (by simpa using hz)⟩⟩;refine Q2 ?_;refine rsa eI ?_;refine QC (QL (b:=true) ((QbU (Qa4 (show Qs (Qh 2) _=some true from rfl)) (Qz (Qe7 (ra:=reI k) ?_ rfl rfl rfl) ⋯)).trans rfl) (λ_=>?_) (λh=>by cases h))
   .rw[eidx _ rfl];show some (HS.R.mk (.int ((k:Int)+(0:Nat))) true [])=_;rw[show(k:Int)+(0:Nat)=k by omega]
   .exact QC (QbP rfl ⟨rfl,rfl⟩)
  .have hkk:f k k=0:=by
    by_cases z:f k k=0
    .exact z
    .exact absurd (hfst a hz ha a l rfl z) h0
   refine⟨_,?_,.inr ⟨k+a,⋯,⋯,hz,rfl⟩⟩;refine Q2 ?_;refine rsa eI ?_;refine QC (QL (b:=false) ((QbU (Qa4 (show Qs (Qh 2) _=some true from rfl)) (Qz (Qe7 (eidx _ rfl) rfl rfl rfl) ?_)).trans rfl) (λh=>by cases h) (λ_=>Qq ?_))
   .show D.bl _=_;rw[decide_eq_false ⋯]
   refine run_seq (QyT (i:=k+a) (p:=f (k+a)) (q:=λj=>0-f k j) (by':=false) (b1:=false) (b2:=true) (show 3<4 by decide) rfl rfl ?_ ?_ ?_ hk ⋯ ?_)
   .exact(Qhn rfl rfl (eidx _ rfl) rfl ⋯ ⋯).trans (by rw[show((k:Int)+a).toNat=k+a by omega])
   .exact(eidx _ rfl).trans (by rw[show((k+a:Nat):Int)=(k:Int)+a by simp])
   .exact Qt (r:=⟨[Qe N (f k)],false,[]⟩) (Qo ((Qhn (i:=k) (ra:=reF (Q9 n N f)) rfl rfl rfl rfl ⋯ ⋯).trans (by rw[Zl])) (QI _)) (ho N (f k)) rfl
   .exact QC (QbP rfl ⟨rfl,rfl⟩)
def QrL(n:Nat)(m:Mt2):Prop:=∀j,j<n->∀r,r<n->(m j r).natAbs<=2^240
def Qso(hn:n<=8):bnd (2^240) n<2^2000:=by
 have h:∀k,k<9->bnd (2^240) k<2^2000:= nofun
 exact h n ⋯
def QrL.put(h:QrL n m)(ha:∀r,r<n->(a r).natAbs<=2^240):QrL n (cup m i a):=λj hj r hr=>by
 by_cases e:j=i
 .subst e;rw[QJ];exact ha r hr
 .rw[QF _ _ e];exact h j hj r hr
structure QdS (n N k:Nat) (A m R:Mt2) (d:Int):Prop where
 clr:Clr n N k A m R d
 col:QrL n m
def QdS.start(n N:Nat)(A:Mt2):QdS n N 0 A QD (λi j=>A j i) 1:=⟨Clr.start n N A,λj _ r _=>by unfold QD;split<;>decide⟩
def QdS.small{n N k:Nat}{A m R:Mt2}{d:Int}(h:QdS n N k A m R d)(hn:n<=8)(hA:∀j,j<N->∀r,r<n->(A j r).natAbs<=2^240):d.natAbs<2^2000/\∀i j,i<n->j<N->(R i j).natAbs<2^2000:=by
 have b:=Qso hn;refine⟨?_,λi j hi hj=>?_⟩
 .rw[← h.clr.det];exact Zbc (QmN h.col) b
 .rw[h.clr.ent i j hi hj];exact Zbc (QmN (h.col.put (hA j hj))) b
def QdS.step{n N k:Nat}{A m R R':Mt2}{d:Int}(h:QdS n N k A m R d)(hk:k<n)(kN:k<N)(hA:∀j,j<N->∀r,r<n->(A j r).natAbs<=2^240)(hp:R k k≠0)(h1:∀j,j<N->R' k j=R k j)(h2:∀i j,i<n->i≠k->j<N->∀q,R k k*R i j-R i k*R k j=d*q->R' i j=q):QdS n N (k+1) A (cup m k (A k)) R' (R k k):=
 ⟨h.clr.step hk kN hp h1 h2,h.col.put (hA k kN)⟩
def QdS.swap{n N k:Nat}{A m R:Mt2}{d:Int}(h:QdS n N k A m R d){i:Nat}(hk:k<n)(hi:i<n)(hki:k<i):∃m',QdS n N k A m' (QlA R k (R i) i λj=>0-R k j) d:=by
 have ne:k≠i:= ⋯
 have neg:∀(c:Nat),c<n->∀(M:Mt2) (a:Mt1),HS.det n (cup M c λr=> -a r)= -HS.det n (cup M c a):=λc hc M a=>by
  have:=Qhc (m:=M) hc (-1) a;simpa only[Zbo,ZaJ]using this
 obtain⟨c1,c2⟩:=h;refine⟨cup (cup m k (m i)) i λr=> -m k r,⟨c1.le,?_,c1.nz,λl j hl hj=>?_,λj hj=>?_⟩,λj hj r hr=>?_⟩
 .rw[neg i hi,QdT hk hi ne,Int.neg_neg,QaG,QaG];exact c1.det
 .unfold QlA;by_cases e2:l=i
  .subst e2;rw[if_pos rfl];show 0-R k j=_;rw[c1.ent k j hk hj,QlX,QdT hk hl ne,Qav _ _ _ ne];have:=QaG m l;rw[this];omega
  .rw[if_neg e2];by_cases e1:l=k
   .subst e1;rw[if_pos rfl,c1.ent i j hi hj,Qav _ _ _ (Ne.symm ne),QlX,neg i hi,QdT hl hi ne,Int.neg_neg,QaG]
   .rw[if_neg e1,c1.ent l j hl hj,Qav _ _ _ (Ne.symm e2),neg i hi,Qav _ _ _ (Ne.symm e1),QdT hk hi ne,Int.neg_neg,Qav _ _ _ e1,QaG,Qav _ _ _ e2,QaG]
 .rw[QF _ _ ⋯,QF _ _ ⋯];exact c1.own j hj
 .by_cases e1:j=i
  .subst e1;rw[QJ,Int.natAbs_neg];exact c2 k hk r hr
  .rw[QF _ _ e1];by_cases e2:j=k
   .subst e2;rw[QJ];exact c2 i hi r hr
   .rw[QF _ _ e2];exact c2 j hj r hr
def Clr.stuck{n N k:Nat}{A m R:Mt2}{d:Int}(h:Clr n N k A m R d)(hk:k<n)(kN:k<N)(hz:∀i,k<=i->i<n->R i k=0):HS.det n A=0:=by
 have t:∀r,r<n->d*A k r=sm k λl=>R l k*A l r:=λr hr=>by
  rw[h.tell kN hr,Qpz (k:=k) ⋯ λl h1 h2=>by rw[hz l h1 h2,Zaq]];exact QcL λl hl=>by rw[h.own l hl]
 have e:d*HS.det n A=0:=by
  have e1:HS.det n (cup A k λr=>d*A k r)=d*HS.det n A:=by rw[Qhc hk,QaG]
  rw[← e1];have e2:HS.det n (cup A k λr=>d*A k r)=HS.det n (cup A k λr=>sm k λl=>R l k*A l r):=QaQ λj hj r hr=>by
   by_cases q:j=k
   .subst q;rw[QJ,QJ];exact t r hr
   .rw[QF _ _ q,QF _ _ q]
  rw[e2,Qha hk (λl=>R l k) A k];exact Qjm λi hi=>by rw[Qg0 (show i<n by omega) hk ⋯ (by rw[QJ,QF _ _ ⋯]),Zay]
 rcases Int.mul_eq_zero.mp e with z | z
 .exact absurd z h.nz
 .exact z
def Clr.all{n N:Nat}{A m R:Mt2}{d:Int}(h:Clr n N n A m R d):d=HS.det n A:=by
 rw[← h.det];exact QaQ λj hj r _=>by rw[h.own j hj]
def QhV(d:Den):Prop:=∀(n N:Nat) (A:Mt2),n<=8->n<=N->(∀j,j<N->∀r,r<n->(A j r).natAbs<=2^240)->∃R,d [Q9 n N (λi j=>A j i)]=some (.tup [Q9 n N R,.int (det n A)],false)/\(det n A≠0->∃m,QdS n N n A m R (det n A))
def Qp4(hp:QkO dp)(ht:QmH dt):QhV (Qx 5 (Qjd dp dt)):=λn N A n8 hN hA=>by
 have key:Run (Qjd dp dt) [slF (Q9 n N (λi j=>A j i)),none,none,none,none] λo=>match o with | .rt d fr=>fr=false/\∃R,d= .tup [Q9 n N R,.int (det n A)]/\(det n A≠0->∃m,QdS n N n A m R (det n A)) | _=>False:=by
  refine run_seq (Qat (Qkd rfl) ?_);refine rsa rfl ?_;refine QC (QaA (List.range n) (λk U=>∃m R b j3 j4,QdS n N k A m R b/\U=[slF (Q9 n N (λi j=>A j i)),slF (Q9 n N R),slI b,j3,j4]) (Qbi (QqY rfl rfl) rfl ⋯) rfl ⟨_,_,_,none,none,QdS.start n N A,rfl⟩ ?_ ?_)
  .rintro k k' U hk ⟨m0,R0,b,j3,j4,C0,rfl⟩;obtain⟨hkn,rfl⟩:=Qeq hk;have kN:k<N:= ⋯
   obtain⟨R,ep,hR⟩:=hp n N k R0 hkn ⋯ kN;have hC:∃m,QdS n N k A m R b/\(R k k=0->det n A=0):=by
    rcases hR with⟨rfl,hz⟩ | ⟨i,h1,h2,h3,rfl⟩
    .exact⟨m0,C0,λz=>C0.clr.stuck hkn kN (hz z)⟩
    .obtain⟨m',C'⟩:=C0.swap hkn h2 h1;refine⟨m',C',λz=>absurd z ?_⟩;unfold QlA;rw[if_neg ⋯,if_pos rfl];exact h3
   obtain⟨m,C,hzero⟩:=hC;obtain⟨sb,sR⟩:=C.small n8 hA;refine⟨[slF (Q9 n N (λi j=>A j i)),slF (Q9 n N R0),slI b,slI k,j4],rfl,?_⟩;refine run_seq (Qat (r:=reF (Q9 n N R)) ((QoD (r:=⟨[Q9 n N R0,.int k],false,[]⟩) rfl ep rfl).trans rfl) ?_);refine run_seq (Qat ((Qkd (Qhn rfl rfl rfl rfl ⋯ ⋯)).trans rfl) ?_);refine QC (QL (Qz (Qe7 (Qa0 rfl rfl rfl rfl kN) rfl rfl rfl) rfl) (λh=>?_) (λh=>Qq ?_))
   .have dz:=hzero (of_decide_eq_true h);refine QC (QbP rfl ?_);exact⟨rfl,R,by rw[dz],λz=>absurd dz z⟩
   have pv:R k k≠0:=of_decide_eq_false h;have ex:∀i j,∃q,i<n->i≠k->j<N->R k k*R i j-R i k*R k j=b*q:=λi j=>by
    by_cases h:i<n/\i≠k/\j<N
    .exact⟨_,λh1 h2 h3=>C.clr.exact hkn kN h1 h3 h2⟩
    .exact⟨0,λh1 h2 h3=>absurd ⟨h1,h2,h3⟩ h⟩
   have zz:∀j,R k k*R k j-R k k*R k j=b*0:=λj=>by rw[Int.sub_self,Zay]
   have eT:∀i,i<n->dt [Qe N (R i),Qe N (R k),.int k,.int b]=slT (Qe N (λj=>if i=k then 0 else(ex i j).choose)):=λi hi=>
    ht N k (R i) (R k) _ b kN C.clr.nz sb (λj hj=>⟨sR i j hi hj,sR k j hkn hj⟩) λj hj=>by
     by_cases e:i=k
     .rw[if_pos e,e];exact zz j
     .rw[if_neg e];exact(ex i j).choose_spec hi e hj
   refine rsa (Qa1 (List.range n) (Qbb rfl rfl) rfl λi hi=>⟨[none,slF (Qe N (R i)),slI k,slI b,slF (Qe N (R k))],rfl,reT (Qe N (λj=>if i=k then 0 else(ex i j).choose)),Qt rfl (eT i (Zj.mp hi)) rfl,rfl,rfl⟩) ?_;refine run_seq (QsG rfl rfl rfl hkn ?_);refine run_seq (Qat ((Qkd (Qa0 rfl rfl rfl rfl kN)).trans rfl) (Qq ?_));rw[QoW rfl];refine⟨_,_,_,_,_,C.step (R':=λi j=>if i=k then R k j else(λi j=>if i=k then 0 else(ex i j).choose) i j) hkn kN hA pv (λj _=>by show(if k=k then R k j else _)=_;rw[if_pos rfl]) (λi j hi ne hj q hq=>?_),rfl⟩;show(if i=k then R k j else if i=k then 0 else(ex i j).choose)=q;rw[if_neg ne,if_neg ne];exact Int.eq_of_mul_eq_mul_left C.clr.nz (((ex i j).choose_spec hi ne hj).symm.trans hq)
  .rintro U ⟨m,R,b,j3,j4,C,rfl⟩;rw[ZF]at C;have hb:=C.clr.all;subst hb;exact QK rfl ⟨rfl,R,rfl,λ_=>⟨m,C⟩⟩
 obtain⟨o,h1,h2⟩:=key;cases o with
 | rt d fr=>
  obtain⟨rfl,R,rfl,C⟩:=h2;exact⟨R,by show Option.bind (Qjd dp dt [slF (Q9 n N (λi j=>A j i)),none,none,none,none]) outD=_;rw[h1];rfl,C⟩
 | _=>exact h2.elim
noncomputable def QuB(Qgp:Den):DS:=(Qc (QH (Qf (Qm 1 Qgp [] (Qa vv0 Qb)) kk1)) Qj)
def QiM(d:Den):Prop:=∀(n:Nat) (f:Mt2),n<=8->(∀i,i<n->∀j,j<n->(f i j).natAbs<=2^240)->d [Q9 n n f]=some (.int (det n λj i=>f i j),true)
def QrG(hc:QhV dc):QiM (Qx 1 (QuB dc)):=λn f n8 hf=>by
 obtain⟨R,e,_⟩:=hc n n (λj i=>f i j) n8 (Zs n) (λj hj r hr=>hf r hr j hj);refine Q2 ?_;refine QK (r:=reI (det n λj i=>f i j)) ?_ ⟨rfl,rfl⟩;have e1:=QoD (fs:=Qa (Qh 0) Qb) (U:=[slF (Q9 n n f)]) rfl e rfl;exact(QAW (e1.trans rfl)).trans rfl
def Qbz.small{m:Nat}{R L:Lpp}(hw:Qbz m R L){i j:Nat}(hi:i<m)(hj:j<m):(Qw m (Qi R L) i j).natAbs<=600:=by
 have g:=hw.good;have gs:=Qbl g.1 g.2.1;rw[QcO hi hj λs hs=>⟨(gs s hs).1,(gs s hs).2.1⟩];refine ZN (QgD i j _) ?_;unfold Qi;rw[Zo,Zo,Zc];omega
noncomputable def QiZ(T:Mt2):Nat->Nat->Int:=λi j=>0-T i j
def Qbz.big{m:Nat}{R L:Lpp}(hw:Qbz m R L):∀j,j<m->∀r,r<m->(QiZ (Qw m (Qi R L)) j r).natAbs<=2^200:=λj hj r hr=>by
 have:=hw.small hj hr;have:(600:Nat)<=2^200:= ∅
 unfold QiZ;omega
structure Alt (n:Nat) (φ:(Nat->Nat->Int)->Int):Prop where
 congr:∀{m k:Mt2},(∀j,j<n->∀r,r<n->m j r=k j r)->φ m=φ k
 lin:∀(m:Mt2) (c:Nat),c<n->∀(x y:Int) (a b:Mt1),φ (cup m c λr=>x*a r+y*b r)=x*φ (cup m c a)+y*φ (cup m c b)
 alt:∀{m:Mt2}{i j:Nat},i<n->j<n->i≠j->m i=m j->φ m=0
section
def Alt.add(h:Alt n φ)(hc:c<n)(a b:Mt1):φ (cup m c λr=>a r+b r)=φ (cup m c a)+φ (cup m c b):=by
 have:=h.lin m c hc 1 1 a b;simpa only[ZaJ]using this
def Alt.mul(h:Alt n φ)(hc:c<n)(x:Int)(a:Mt1):φ (cup m c λr=>x*a r)=x*φ (cup m c a):=by
 have:=h.lin m c hc x 0 a a;simpa only[Zaq,ZaH]using this
def Alt.swap(h:Alt n φ)(hc:c<n)(hd:d<n)(hcd:c≠d)(a b:Mt1):φ (cup (cup m c a) d b)= -φ (cup (cup m c b) d a):=by
 have z:=h.alt (m:=cup (cup m c λr=>a r+b r) d λr=>a r+b r) hc hd hcd (by rw[QJ,QF _ _ hcd,QJ]);have za:=h.alt (m:=cup (cup m c a) d a) hc hd hcd (by rw[QJ,QF _ _ hcd,QJ]);have zb:=h.alt (m:=cup (cup m c b) d b) hc hd hcd (by rw[QJ,QF _ _ hcd,QJ]);rw[h.add hd,Qav _ _ _ hcd,h.add hc,Qav _ _ _ hcd,h.add hc,Qav _ _ _ (Ne.symm hcd),Qav _ _ _ (Ne.symm hcd),Qav _ _ _ (Ne.symm hcd),Qav _ _ _ (Ne.symm hcd),za,zb]at z;omega
def Alt.sum(h:Alt n φ)(hc:c<n)(x:Mt1)(E:Mt2):∀k,φ (cup m c λr=>sm k λs=>x s*E s r)=sm k λs=>x s*φ (cup m c (E s))
 | 0=>by
  have:=h.mul (m:=m) hc 0 λ_=>0;rw[Zaq]at this;unfold sm;simpa using this
 | k+1=>by
  unfold sm;rw[h.add hc,h.sum hc x E k,h.mul hc]
def QqI(n:Nat):Alt n (det n):=⟨QaQ,λm c hc x y a b=>Qhh x y a b n m c hc a b,λhi hj hij e=>Qg0 hi hj hij e⟩
def Qkn(h:Alt n φ):∀(g t:Nat) (σ:Nat->Nat),t+g=n->(∀j,j<t->σ j=j)->(∀j,j<n->σ j<n)->φ (λj=>QD (σ j))=det n (λj=>QD (σ j))*φ QD
 | 0,t,σ,e,hp,hn=>by
  have h1:∀j,j<n->∀r,r<n->QD (σ j) r=QD j r:=λj hj r _=>by rw[hp j ⋯]
  rw[h.congr h1,QaQ h1,QeP,ZaJ]
 | g+1,t,σ,e,hp,hn=>by
  by_cases ht:σ t=t
  .exact Qkn h g (t+1) σ ⋯ (λj hj=>by
    by_cases z:j=t
    .rw[z];exact ht
    .exact hp j ⋯) hn
  .by_cases ex:∃i,i<n/\σ i=t
   .obtain⟨i,hi,hs⟩:=ex;have hti:t<i:=by
     rcases Nat.lt_trichotomy i t with z | z | z
     .have:=hp i z;omega
     .subst z;exact absurd hs ht
     .exact z
    have hne:t≠i:= ⋯
    have sw:∀{ψ:(Nat->Nat->Int)->Int},Alt n ψ->ψ (λj=>QD (σ j))= -ψ (λj=>QD (if j=t then σ i else if j=i then σ t else σ j)):=λ{ψ} hψ=>by
     have:=hψ.swap (m:=λj=>QD (σ j)) ⋯ hi hne (QD (σ t)) (QD (σ i));have e1:cup (cup (λj=>QD (σ j)) t (QD (σ t))) i (QD (σ i))=λj=>QD (σ j):=by
      rw[QaG (λj=>QD (σ j)) t,QaG (λj=>QD (σ j)) i]
     have e2:cup (cup (λj=>QD (σ j)) t (QD (σ i))) i (QD (σ t))=λj=>QD (if j=t then σ i else if j=i then σ t else σ j):=by
      funext j;by_cases z1:j=i
      .subst z1;rw[QJ,if_neg (Ne.symm hne),if_pos rfl]
      .rw[QF _ _ z1];by_cases z2:j=t
       .subst z2;rw[QJ,if_pos rfl]
       .rw[QF _ _ z2,if_neg z2,if_neg z1]
     rw[e1,e2]at this;exact this
    rw[sw h,sw (QqI n),Zbo];congr 1;refine Qkn h g (t+1) _ ⋯ (λj hj=>?_) (λj hj=>?_)
    .by_cases z:j=t
     .rw[if_pos z,hs,z]
     .rw[if_neg z,if_neg ⋯];exact hp j ⋯
    .split
     .exact hn i hi
     .split
      .exact hn t ⋯
      .exact hn j hj
   .obtain⟨k,hk⟩:∃k,n=k+1:=⟨n-1,⋯⟩;obtain⟨i,j,hi,hj,hij,he⟩:=QoG (n:=k) (λj=>if σ j<t then σ j else σ j-1) λj hj=>by
     have h1:=hn j ⋯;have h2:σ j≠t:=λz=>ex ⟨j,⋯,z⟩;split<;>omega
    have hs:σ i=σ j:=by
     have h1:σ i≠t:=λz=>ex ⟨i,⋯,z⟩;have h2:σ j≠t:=λz=>ex ⟨j,⋯,z⟩;split at he<;>split at he<;>omega
    have e1:(λj=>QD (σ j)) i=(λj=>QD (σ j)) j:=by show QD (σ i)=QD (σ j);rw[hs]
    rw[h.alt ⋯ ⋯ hij e1,(QqI n).alt ⋯ ⋯ hij e1,Zaq]
def QlL(h:Alt n φ)(m:Mt2):φ m=det n m*φ QD:=by
 have key:∀k,k<=n->∀m:Nat->Nat->Int,(∃σ:Nat->Nat,∀j,k<=j->j<n->σ j<n/\m j=QD (σ j))->φ m=det n m*φ QD:=by
  intro k
  induction k with
  | zero=>
   rintro _ m ⟨σ,hσ⟩;have h1:∀j,j<n->∀r,r<n->m j r=(λj=>QD (σ j)) j r:=λj hj r _=>by rw[(hσ j ⋯ hj).2]
   rw[h.congr h1,QaQ h1];exact Qkn h n 0 σ ⋯ (λj hj=> ⋯) λj hj=>(hσ j ⋯ hj).1
  | succ k ih=>
   rintro hk m ⟨σ,hσ⟩;have hcol:∀j,j<n->∀r,r<n->m j r=cup m k (λr=>sm n λs=>m k s*QD s r) j r:=λj hj r hr=>by
    by_cases z:j=k
    .subst z;rw[QJ,QfZ hr λi _ ne=>by rw[show QD i r=0 by unfold QD;rw[if_neg ne],Zay],show QD r r=1 by unfold QD;rw[if_pos rfl],ZbQ]
    .rw[QF _ _ z]
   rw[h.congr hcol,QaQ hcol,h.sum ⋯,Qha ⋯,← Qqx];refine QcL λs hs=>?_;rw[ZbP];congr 1;refine ih ⋯ _ ⟨λj=>if j=k then s else σ j,λj h1 h2=>?_⟩;show(if j=k then s else σ j)<n/\cup m k (QD s) j=QD (if j=k then s else σ j);by_cases z:j=k
   .subst z;rw[if_pos rfl,QJ];exact⟨hs,rfl⟩
   .rw[if_neg z,QF _ _ z];exact hσ j ⋯ h2
 exact key n (Zs n) m ⟨id,λj h1 h2=> ⋯⟩
end
noncomputable def rup(m:Mt2)(c:Nat)(a:Mt1):Nat->Nat->Int:=λj r=>if r=c then a j else m j r
def Qqh(x y:Int):∀(n:Nat) (m:Mt2) (c:Nat),c<n->∀(a b:Mt1),det n (rup m c λj=>x*a j+y*b j)=x*det n (rup m c a)+y*det n (rup m c b)
 | 0,_,_,h,_,_=> ⋯
 | n+1,m,c,h,a,b=>by
  unfold det;rw[← Qll];refine QcL λj hj=>?_;cases c with
  | zero=>
   have e:∀a:Nat->Int,(λc' r=>rup m 0 a (skp j c') (r+1))=λc' r=>m (skp j c') (r+1):=λa=>by
    funext c' r;unfold rup;rw[if_neg ⋯]
   rw[e,e,e];unfold rup;simp only[if_pos];generalize det n _=q;generalize sgn j=s;simp only[ZaZ,ZaI,ZbP,Zbm]
  | succ c=>
   have e:∀a:Nat->Int,(λc' r=>rup m (c+1) a (skp j c') (r+1))=rup (λc' r=>m (skp j c') (r+1)) c λc'=>a (skp j c'):=λa=>by
    funext c' r;unfold rup;by_cases z:r=c
    .rw[if_pos ⋯,if_pos z]
    .rw[if_neg ⋯,if_neg z]
   rw[e,e,e,Qqh x y n _ c ⋯ (λc'=>a (skp j c')) λc'=>b (skp j c')];have e0:∀a:Nat->Int,rup m (c+1) a j 0=m j 0:=λa=>by unfold rup;rw[if_neg ⋯]
   rw[e0,e0,e0];generalize det n _=q;generalize det n _=q';generalize sgn j*m j 0=s;simp only[ZaZ,Zbm]
noncomputable def trp(a b r:Nat):Nat:=if r=a then b else if r=b then a else r
def Qwu(m:Mt2)(ha:a<n)(hb:b<n)(hab:a≠b):det n (λj r=>m j (trp a b r))= -det n m:=by
 have tb:∀r,r<n->trp a b r<n:=λr hr=>by
  unfold trp;split
  .exact hb
  .split
   .exact ha
   .exact hr
 have h:Alt n λm=>det n λj r=>m j (trp a b r):=by
  have hcup:∀(m:Mt2) (c:Nat) (v:Mt1),(λj r=>cup m c v j (trp a b r))=cup (λj r=>m j (trp a b r)) c λr=>v (trp a b r):=λm c v=>by
   funext j r;by_cases z:j=c
   .subst z;rw[QJ,QJ]
   .rw[QF _ _ z,QF _ _ z]
  refine⟨λhm=>QaQ λj hj r hr=>hm j hj _ (tb r hr),λm c hc x y v w=>?_,λ{m i j} hi hj hij e=>Qg0 hi hj hij (by funext r;rw[e])⟩;rw[hcup,hcup,hcup,← Qhh x y (λr=>v (trp a b r)) (λr=>w (trp a b r)) n _ c hc]
 have e:=QlL h m;rw[e];have u:det n (λj r=>QD j (trp a b r))= -1:=by
  have e1:=QdT (m:=QD) ha hb hab (QD b) (QD a);rw[show cup (cup QD a (QD a)) b (QD b)=QD by rw[QaG,QaG],QeP]at e1;rw[← e1];refine QaQ λj hj r hr=>?_;by_cases z1:j=b
  .subst z1;rw[QJ];unfold QD trp;by_cases q1:r=a
   .rw[if_pos q1,if_pos rfl,if_pos q1.symm]
   .rw[if_neg q1];by_cases q2:r=j
    .rw[if_pos q2,if_neg (Ne.symm hab),if_neg ⋯]
    .rw[if_neg q2,if_neg (λz=>q2 z.symm),if_neg (λz=>q1 z.symm)]
  .rw[QF _ _ z1];by_cases z2:j=a
   .subst z2;rw[QJ];unfold QD trp;by_cases q1:r=j
    .rw[if_pos q1,if_neg hab,if_neg ⋯]
    .rw[if_neg q1];by_cases q2:r=b
     .rw[if_pos q2,if_pos rfl,if_pos q2.symm]
     .rw[if_neg q2,if_neg (λz=>q1 z.symm),if_neg (λz=>q2 z.symm)]
   .rw[QF _ _ z2];unfold QD trp;by_cases q1:r=a
    .rw[if_pos q1,if_neg z1,if_neg ⋯]
    .rw[if_neg q1];by_cases q2:r=b
     .rw[if_pos q2,if_neg z2,if_neg ⋯]
     .rw[if_neg q2]
 rw[u];omega
def QAw(ha:a<n)(hb:b<n)(hab:a≠b)(e:∀j,j<n->m j a=m j b):det n m=0:=by
 have h:=Qwu m ha hb hab;have:det n (λj r=>m j (trp a b r))=det n m:=QaQ λj hj r hr=>by
  unfold trp;split
  .rename_i z;rw[z];exact(e j hj).symm
  .split
   .rename_i z;rw[z];exact e j hj
   .rfl
 omega
def Qu6(n:Nat)(m:Mt2):det n (λj r=>m r j)=det n m:=by
 have h:Alt n λm=>det n λj r=>m r j:=by
  have hcup:∀(m:Mt2) (c:Nat) (v:Mt1),(λj r=>cup m c v r j)=rup (λj r=>m r j) c v:=λm c v=>by
   funext j r;unfold rup;by_cases z:r=c
   .subst z;rw[QJ,if_pos rfl]
   .rw[QF _ _ z,if_neg z]
  refine⟨λhm=>QaQ λj hj r hr=>hm r hr j hj,λm c hc x y v w=>?_,λ{m i j} hi hj hij e=>QAw hi hj hij λk _=>by rw[e]⟩;rw[hcup,hcup,hcup,Qqh x y n _ c hc v w]
 have e:=QlL h m;rw[e,QaQ (m:=λj r=>QD r j) (k:=QD) λj _ r _=>by
  unfold QD;by_cases z:r=j
  .rw[if_pos z,if_pos z.symm]
  .rw[if_neg z,if_neg (Ne.symm z)],QeP,ZbQ]
def Qrb(d:Den):Prop:=∀(m:Nat) (R L:Lpp),m<=8->Qbz m R L->d [Qd m R L]=some (Q9 m m (QiZ (Qw m (Qi R L))),true)
def Qxj(h:QkJ d):Qrb d:=λm R L m8 hw=>by
 have hg:=hw.good;exact h m R L ⋯ ⋯ hg.1 hg.2.1
section
variable {m n0:Nat}{T Lf Rt Lb Rb:Mt2}{len:Mt1}
end
section
variable {m n0:Nat}{T Lf Rt Lb Rb:Mt2}{len:Mt1}
end
noncomputable def Qrs(Qe0:Den)(Qgn:Den):DS:=(Qc (QH (Qm 1 Qgn [] (Qa (Qm 1 Qe0 [] (Qa vv0 Qb)) Qb))) Qj)
def Qrx(d:Den):Prop:=∀(m:Nat) (R L:Lpp),m<=8->Qbz m R L->d [Qd m R L]=some (.int (det m (QiZ (Qw m (Qi R L)))),true)
def QBc(ht:Qrb dt)(hm:QiM dm):Qrx (Qx 1 (Qrs dt dm)):=λm R L m8 hw=>by
 have em:=hm m (QiZ (Qw m (Qi R L))) m8 λi hi j hj=>ZN (hw.big i hi j hj) (ZaU ∅ ∅);rw[Qu6 m (QiZ (Qw m (Qi R L)))]at em;exact Q2 (QK (Qt (Qo (Qt rfl (ht m R L m8 hw) rfl) (QI _)) em rfl) ⟨rfl,rfl⟩)
noncomputable def Rd2(w h:Nat):List (Int×Int):=List.replicate w (0,2)++List.replicate 3 (0,1)++List.replicate h (1,2)
def QAb{w h:Nat}(hw:1<=w)(hh:1<=h)(hl:w+3+h<=200):Qbz 2 (Rd2 w h) []:=by
 have e:(List.replicate w ((0:Int),(2:Int),false)++List.replicate 3 (0,1,false)++List.replicate h (1,2,false)).map Qcz=Rd2 w h:=by
  rw[ZK,ZK,List.map_replicate,List.map_replicate,List.map_replicate];rfl
 rw[← e];refine QmR (λA ⟨p,hp,hA⟩=>?_) (λx hx=>?_) (by simp;omega)
 .rcases(by omega:p=0∨p=1)with rfl | rfl
  .exact⟨(0,2,false),Zd _ (Zd _ (List.mem_replicate.mpr ⟨⋯,rfl⟩)),∅,hA,.inl rfl⟩
  .exact⟨(1,2,false),Zg _ (List.mem_replicate.mpr ⟨⋯,rfl⟩),∅,hA,.inl rfl⟩
 .rcases ZJ.mp hx with hx | hx
  .rcases ZJ.mp hx with hx | hx
   .rw[(List.mem_replicate.mp hx).2];exact⟨⟨∅,∅,∅,∅,∅⟩,λz=>by cases z⟩
   .rw[(List.mem_replicate.mp hx).2];exact⟨⟨∅,∅,∅,∅,∅⟩,λz=>by cases z⟩
  .rw[(List.mem_replicate.mp hx).2];exact⟨⟨∅,∅,∅,∅,∅⟩,λz=>by cases z⟩
def QyM(M:Mt2):det 2 M=M 0 0*M 1 1-M 1 0*M 0 1:=by
 simp[det,sm,sgn,skp];rw[Zbo];omega
def QjE(n:Nat)(x:Int):(List.replicate n x).sum=n*x:=by
 induction n with
 | zero=>simp
 | succ n ih=>
  rw[Zab,ZQ,ih,ZcB,ZaI];omega
def QwJ{w h:Nat}:Q1 (Rd2 w h) [] 0=w+3/\Q1 (Rd2 w h) [] 1=h+3:=by
 unfold Q1 Rd2;constructor
 .simp only[ZK,List.map_replicate,ZaS,QjE,Zaw,ZbH];simp[isI]
 .simp only[ZK,List.map_replicate,ZaS,QjE,Zaw,ZbH];simp[isI];omega
def QAD{w h:Nat}:((Rd2 w h).map (QG 0 [1])).sum=3/\((Rd2 w h).map (QG 1 [0])).sum=3:=by
 unfold Rd2;constructor
 .simp only[ZK,List.map_replicate,ZaS,QjE];simp[QG]
 .simp only[ZK,List.map_replicate,ZaS,QjE];simp[QG]
def QBw{w h:Nat}(h1:1<=w)(h2:1<=h)(hl:w+3+h<=200):det 2 (QiZ (Qw 2 (Qi (Rd2 w h) [])))=w*h+3*(w+h):=by
 have nw:=QAb h1 h2 hl;have hR:=nw.good.1;have a:=nw.neg (i:=0) ∅;have b:=nw.neg (i:=1) ∅;have c:=Qe8 hR (p:=0) ∅ (l:=[1]) ⋯ ⋯ ⋯;have d:=Qe8 hR (p:=1) ∅ (l:=[0]) ⋯ ⋯ ⋯;simp only[Zv,Zaw,ZQ,ZbH,ZaH]at c d;rw[QAD.1]at c;rw[QAD.2]at d;rw[QwJ.1]at a;rw[QwJ.2]at b;rw[QyM];unfold QiZ;rw[a,b,c,d,show((w:Int)+3)*((h:Int)+3)=w*h+3*(w+h)+9 by rw[ZaI,ZaZ,ZaZ];omega];omega
noncomputable def Qgr(Q0:Den):DS:=(Qc (Qy 1 (QA kk7 (dOp QaC vv0 kk9))) (Qc (Qy 2 kk1) (Qc (QdH (Qs (dOp gLe (QA (QaE vv1 vv2) (QaE kk3 (QA vv1 vv2))) QnN)) (Qc (Qy 2 (QA vv2 kk1)) Qj)) (Qc (Qy 3 (Qal (Qa kk2 (Qa (QA (QA (QaE (QE (Qa (Qal (Qa kk0 (Qa kk2 Qb))) Qb)) vv1) (QaE (QE (Qa (Qal (Qa kk0 (Qa kk1 Qb))) Qb)) kk3)) (QaE (QE (Qa (Qal (Qa kk1 (Qa kk2 Qb))) Qb)) vv2)) (Qa (QE Qb) Qb))))) (Qc (QH (dOr (dOp gGt (dBf Q6 (Qa (Qf vv3 kk1) Qb)) QDn) (Qm 4 Q0 [] (Qa vv3 (Qa (QE Qb) (Qa kk2 (Qa kk5 Qb))))))) Qj)))))
def Qkm(d:Den):Prop:=∀c:Int,d [.int c]=some (.bl true,true)
def Ql4{fs:DA}{U:En}{r:RA}{s:HS.R}(h:fs U=some r)(e:Qal (λ_=>some r) U=some s):Qal fs U=some s:=by
 unfold Qal at e ⊢;rw[h];exact e
def QvT(n:Nat)(p:Int×Int):(List.replicate n [pairD p]).flatten=(List.replicate n p).map pairD:=by
 induction n with
 | zero=>rfl
 | succ n ih=>rw[Zab,Zao,ih,Zab,Zv];rfl
def Qmi{fa fb:DE}{U:En}{rb:HS.R}{p:Int×Int}{n:Nat}(ha:fa U=some (reT (.lst [pairD p])))(hb:fb U=some rb)(eb:rb.d= .int n)(hn:n<=1000):QaE fa fb U=some (reT (Qr (List.replicate n p))):=by
 unfold QaE;rw[ha,hb,Za,Za,eb];show(if 1*(n:Int).toNat<=sizeLine/\_ then _ else none)=_;rw[if_pos ⟨by rw[Qfx];omega,⋯,⋯,rfl⟩,Zl,QvT];rfl
def Qti{fa fb:DE}{U:En}{A B:Lpp}(ha:fa U=some (reT (Qr A)))(hb:fb U=some (reT (Qr B)))(hl:A.length+B.length<=16777216):QA fa fb U=some (reT (Qr (A++B))):=by
 unfold QA;rw[ha,hb,Za,Za];show(if(A.map pairD).length+(B.map pairD).length<=sizeLine then some (Qaq (A.map pairD++B.map pairD) [])else none)=_;rw[if_pos (by rw[Zc,Zc,Qfx];exact hl),← ZK];unfold Qaq;rw[if_pos (QbK (λ_=>rfl) _)];rfl
set_option maxHeartbeats 0 in
def Quv{dr dh:Den}{xt xh xa:List D->Option Str}{sub:Str->Str->Option Bool}(hr:Qhj sub xt xh xa dr)(hx:QlH (Qag 6 (QdO dh)) xa)(hh:Qrx dh)(w5:QcN sub "TooMany" 5):Qkm (Qx 4 (Qgr dr)):=λc=>by
 have k0:=ZP c (by decide:(9:Int)≠0);have k1:=ZR c (by decide:(0:Int)<9);obtain⟨w,ew⟩:∃w:Nat,(w:Int)=7+c % 9:=⟨(7+c % 9).toNat,⋯⟩;have w7:7<=w:= ⋯
 have w15:w<=15:= ⋯
 refine Q2 ?_;refine rsa (d:= .int w) ((Qac (a:=7) (b:=c % 9) rfl rfl (QaI (a:=c) (b:=9) (ra:=reI c) rfl rfl rfl rfl ∅) rfl).trans (by rw[ew])) ?_;refine rsa (d:= .int ((1:Nat):Int)) rfl ?_;refine QaO (P:=λU=>∃h:Nat,1<=h/\h<=40/\(300:Int)<w*h+3*(w+h)/\U=[slI c,slI w,slI h,none]) ?_ ?_
 .refine Qui (λn U=>∃h:Nat,1<=h/\h<=40/\n=40-h/\U=[slI c,slI w,slI h,none]) ?_ 39 _ ⟨1,⋯,⋯,⋯,rfl⟩;rintro n U ⟨h,h1,h40,rfl,rfl⟩;have mul:(w:Int)*h<=15*40/\7*(h:Int)<=w*h:=by
   have a:=ZcE w15 h40;have b:=ZcE w7 (Zs h);exact⟨by exact_mod_cast a,by exact_mod_cast b⟩
  refine⟨decide ((w:Int)*h+3*(w+h)<=300),Qz (QY (d:= .bl (decide ((w:Int)*h+3*(w+h)<=300))) (Qac (a:=(w:Int)*h) (b:=3*(w+h)) (QcW (a:=w) (b:=h) (ra:=reI w) (rb:=reI h) rfl rfl rfl rfl (QfG ⋯)) rfl (QcW (a:=3) (b:=w+h) (ra:=reI 3) rfl rfl (Qac (a:=(w:Int)) (b:=h) (ra:=reI w) (rb:=reI h) rfl rfl rfl rfl) rfl (QfG ∅)) rfl) (rb:=reI 300) rfl rfl) rfl,λz=>?_,λz=>?_⟩
  .have z:=of_decide_eq_false z;exact⟨h,h1,h40,⋯,rfl⟩
  .have z:=of_decide_eq_true z;refine rsa (d:= .int ((h+1:Nat):Int)) ((Qac (a:=(h:Int)) (b:=1) (ra:=reI h) rfl rfl rfl rfl).trans rfl) ?_;exact Qq ⟨40-(h+1),⋯,h+1,⋯,⋯,rfl,rfl⟩
 rintro U ⟨h,h1,h40,hm,rfl⟩;have et:Qal (Qa (dC (.int 2)) (Qa (QA (QA (QaE (QE (Qa (Qal (Qa (dC (.int 0)) (Qa (dC (.int 2)) Qb))) Qb)) (Qh 1)) (QaE (QE (Qa (Qal (Qa (dC (.int 0)) (Qa (dC (.int 1)) Qb))) Qb)) (dC (.int 3)))) (QaE (QE (Qa (Qal (Qa (dC (.int 1)) (Qa (dC (.int 2)) Qb))) Qb)) (Qh 2))) (Qa (QE Qb) Qb))) [slI c,slI w,slI h,none]=some (reT (Qd ((2:Nat):Int) (Rd2 w h) [])):=by
  have e:=Qti (Qti (Qmi (p:=(0,2)) (n:=w) (fa:=QE (Qa (Qal (Qa (dC (.int 0)) (Qa (dC (.int 2)) Qb))) Qb)) (fb:=Qh 1) (U:=[slI c,slI w,slI h,none]) rfl (rb:=reI w) rfl rfl ⋯) (Qmi (p:=(0,1)) (n:=3) (fa:=QE (Qa (Qal (Qa (dC (.int 0)) (Qa (dC (.int 1)) Qb))) Qb)) (fb:=dC (.int 3)) rfl (rb:=reI 3) rfl rfl ⋯) (by simp;omega)) (Qmi (p:=(1,2)) (n:=h) (fa:=QE (Qa (Qal (Qa (dC (.int 1)) (Qa (dC (.int 2)) Qb))) Qb)) (fb:=Qh 2) rfl (rb:=reI h) rfl rfl ⋯) (by simp;omega);exact Ql4 (Qo (fa:=dC (.int 2)) (QeI _ _) (Qo e (Qo (fa:=QE Qb) (r:=reT (.lst [])) rfl (QI _)))) rfl
 refine rsa et ?_;have nw:=QAb (w:=w) (h:=h) ⋯ h1 ⋯;have rr:=hr ((2:Nat):Int) (Rd2 w h) [] [] "TooMany" 5 2 w5 (.inr (.inr ⟨rfl,hx.many 2 _ (Qtg (hh 2 (Rd2 w h) [] ∅ nw) (by rw[QBw ⋯ h1 ⋯];omega) rfl rfl)⟩));have el:dBf Q6 (Qa (Qf (Qh 3) (dC (.int 1))) Qb) [slI c,slI w,slI h,slT (Qd ((2:Nat):Int) (Rd2 w h) [])]=some (reT (.int (Rd2 w h).length)):=by rw[Qbp (xs:=(Rd2 w h).map pairD) (Qaz (m:=((2:Nat):Int)) (R:=Rd2 w h) (L:=[]) (Q3 (d:=Qd ((2:Nat):Int) (Rd2 w h) []) (b:=true) rfl) rfl).2.1 rfl,Zc]
 refine QK ((QBt (a:=decide (((Rd2 w h).length:Int)>40)) (b:=true) (QY (d:= .bl (decide (((Rd2 w h).length:Int)>40))) el (rb:=reI 40) rfl rfl) (Qt (r:=⟨[Qd ((2:Nat):Int) (Rd2 w h) [],.lst [],.int 2,.int 5],true,[3]⟩) rfl rr rfl)).trans (by rw[Bool.or_true])) ⟨rfl,rfl⟩
def QyF{m:Nat}{T:Mt2}{f:Mt1}(h0:∀j,j<m->0<=f j)(h1:∀j,j<m->f j<0-T j j):Told m T f (λ_=>0)/\∀j,Qbr m T f (λ_=>0) j=f j:=by
 have e:∀j,Qbr m T f (λ_=>0) j=f j:=λj=>by
  unfold Qbr;have:(λi=>(0:Int)*T i j)=λ_=>0:=funext λi=>Zaq _;rw[this,Qcj];omega
 exact⟨⟨.nil,λj hj=>by rw[e];exact h0 j hj,λj hj=>by rw[e];exact h1 j hj⟩,e⟩
noncomputable def Qnp(Qd3:Den)(QdE:Den)(QdG:Den)(Q4:Den)(QcA:Den)(Q0:Den)(Qbx:Den)(Qdd:Den)(QcY:Den)(QaF:Den)(Qa3:Den)(Qaa:Den)(QaN:Den):DS:=(Qc (Qy 1 (Qm 1 Qd3 [] (Qa vv0 Qb))) (Qc (Qy 2 (Qm 3 QdE [] (Qa vv0 (Qa QAz (Qa vv1 Qb))))) (Qc (Qy 3 (QO (Qan (Qf vv1 kk0)) (.nm 1) [none,none,some 1] QaR (dOp Qa6 (Qm 2 QdG [] (Qa vv2 (Qa vv1 Qb))) kk1))) (Qc (Qy 4 (Qm 2 Q4 [] (Qa vv0 (Qa QCM Qb)))) (Qc (Qy 5 (Qm 3 QcA [] (Qa vv1 (Qa vv2 (Qa vv4 Qb))))) (Qc (Qy 6 (QA (QE (Qa (QA (Qf vv3 kk0) kk1) Qb)) (Qad vv3 (QS kk1) QZ))) (Qc (sIf (bOr (QbG (Qs (Qm 4 Q0 [] (Qa vv1 (Qa vv5 (Qa kk1 (Qa kk4 Qb))))))) (QbG (Qs (Qm 3 Qbx [] (Qa vv1 (Qa vv5 (Qa vv6 Qb))))))) (Qc (QH (dC (.bl false))) Qj) Qj) (Qc (sIf (bOr (QbG (Qs (Qm 3 Qdd [] (Qa vv1 (Qa (Qm 2 Q4 [] (Qa vv0 (Qa QCX Qb))) (Qa vv3 Qb)))))) (QbG (Qs (Qm 1 QcY [] (Qa (Qm 2 Q4 [] (Qa vv0 (Qa QDj Qb))) Qb))))) (Qc (QH (dC (.bl false))) Qj) Qj) (Qc (Qy 7 (Qal (Qa (Qf vv1 kk0) (Qa (QO (Qan (Qf vv1 kk0)) (.nm 1) [none,none,some 1] QaR (Qal (Qa vv1 (Qa (Qf vv2 kk0) Qb)))) (Qa (QE (Qa (Qal (Qa (dOp QaC (dOp QbV vv4 kk7) (Qf vv1 kk0)) (Qa (Qf vv1 kk0) Qb))) Qb)) Qb))))) (Qc (QaH (Qan kk3) (.nm 8) (Qc (sIf (QbG (Qs (Qm 4 Q0 [] (Qa vv7 (Qa (Qf (QE (Qa vv5 (Qa (Qad vv3 (QS kk1) QZ) (Qa vv2 (Qa vv6 Qb))))) (dOp QaC (Qm 2 Q4 [] (Qa vv0 (Qa QCI Qb))) kk4)) (Qa vv8 (Qa kk0 Qb))))))) (Qc (QH (dC (.bl false))) Qj) Qj) Qj)) (Qc (Qy 9 (Qm 2 QaF [] (Qa vv1 (Qa vv2 Qb)))) (Qc (QH (QhP (Qm 2 Qa3 [] (Qa vv9 (Qa (Qf vv1 kk0) Qb))) (Qm 2 QaN [] (Qa vv1 (Qa (Qm 2 Qaa [] (Qa vv1 (Qa vv3 Qb))) Qb))))) Qj))))))))))))
def Qyk{fa fb:DE}{U:En}{ra rb:HS.R}{xs:List D}{k:Nat}{d:D}(ha:fa U=some ra)(ea:ra.d= .lst xs)(hb:fb U=some rb)(eb:rb.d= .int k)(h:xs[k]? =some d):∃r,Qf fa fb U=some r/\r.d=d:=by
 refine⟨HS.R.norm ⟨d,ra.fr,ra.M⟩,?_,R.Qdc _⟩;unfold Qf;rw[ha,hb,Za,Za,ea,eb];show(atI xs (k:Int)).map _=_;have:atI xs (k:Int)=some d:=by
  have kl:k<xs.length:=(Ze.mp h).1;unfold atI ixN;rw[if_pos (Int.natCast_nonneg k),if_pos (Int.ofNat_lt.mpr kl),Zl];exact h
 rw[this];rfl
def Qvd{m:Nat}{f:Mt1}(m0:0<m):Qp ([f 0+1]++((List.range m).map f).drop 1)=Qe m (up f 0 (f 0+1)):=by
 have e:Qe m (up f 0 (f 0+1))=Qp ((List.range m).map (up f 0 (f 0+1))):=by unfold Qe Qp;rw[ZO];rfl
 rw[e];congr 1;refine Zaj λi=>?_;cases i with
 | zero=>
  rw[Zh,ZL m0];show some (f 0+1)=some (up f 0 (f 0+1) 0);rw[QbC,if_pos rfl]
 | succ i=>
  rw[List.singleton_append,List.getElem?_cons_succ,Zbe,Zh,Zh,Nat.add_comm 1 i];by_cases z:i+1<m
  .rw[ZL z];show some (f (i+1))=some (up f 0 (f 0+1) (i+1));rw[QbC,if_neg ⋯]
  .rw[Zt (by simp;omega)];rfl
set_option maxHeartbeats 0 in
def QBl{dn dl dsp dc dspo dr dby dhe dma dh du dt di:Den}{xn xt xh xa xg:List D->Option Str}{sub:Str->Str->Option Bool}(hn:Qoq dn)(hl:QmO dl)(hs:QmG dsp)(hc:QiB dc)(hso:Qio xn dspo)(hr:Qhj sub xt xh xa dr)(hb:Qpt xt xh dby)(hhe:QiV dhe)(hma:Qkm dma)(hh:Qki dh)(hu:QiO du)(ht:Qkx dt)(hi:QkM di)(xh1:Qms xn xh)(xt1:Qjx xt)(xa1:QlH xg xa)(w0:QcN sub "NotPlain" 0)(w4:QcN sub "NoTree" 4)(ns:List Int)(hns:ns.length<=63):
  Qx 10 (Qnp dn dl dsp dc dspo dr dby dhe dma dh du dt di) [.lst (ns.map .int)]=slT (.bl true):=by
 obtain⟨m,R,en,m0,m8,hw⟩:=hn ns hns;have hR:=hw.good.1;have hRl:R.length<=200:=hw.good.2.2.1;obtain⟨t,et,T0⟩:=hl ns 26 m R m0 m8 hw;obtain⟨ts,es,xs1,_⟩:=hso m R t (ns.getD 34 0) m0 m8 hRl hR T0;obtain⟨f,ef⟩:∃f:Nat->Int,f=λj=>Q1 R [] j-1:=⟨_,rfl⟩;have sp:∀j,j<m->1<=Q1 R [] j:=λj hj=>hw.QoV hj;have fj:∀j,f j=Q1 R [] j-1:=λj=>by rw[ef]
 obtain⟨dep,Dp,hF⟩:=QtJ hR T0.lt T0.con;have eh:=hh m R t dep m0 m8 hRl hR T0 Dp hF;have x1:=hr m R [] (ts.map .int) "NoTree" 4 1 w4 (.inr (.inl ⟨rfl,xh1.tree m R _ xs1⟩));have xm:xt [Qd m R [],Qe m (up f 0 (f 0+1))]=some "NotAgain" :=xt1.again m R _ m0 m8 hRl hR (λj hj=>by
  rw[QbC];have:=sp j hj;have:=sp 0 m0;split
  .rw[fj];omega
  .rw[fj];omega) (Qk6 m0 (by rw[QbC,if_pos rfl,fj];omega))
 have x2:=hb m R [] (ts.map .int) ((List.range m).map λj=> .int (up f 0 (f 0+1) j)) (xh1.tree m R _ xs1) xm;have x3:=hhe m R (ns.getD 35 0) m0 m8 hw;rw[← ef]at x3;have x4:=hma (ns.getD 36 0);obtain⟨t0,a0⟩:=QyF (m:=m) (T:=Qw m (Qi R [])) (f:=f) (λj hj=>by rw[fj];have:=sp j hj;omega) (λj hj=>by rw[hw.neg hj,fj];omega);have hbu:=QrI hw (f:=f) (λj _=>by rw[fj];exact Zak _) t0;have cm:QcE R m f (Qao (Qw m (Qi R [])) f m m)=true:=Qsd λi hi=>by
  refine⟨λz=>?_,by rw[fj];omega⟩;have hcold:=(QdW m i hi).mp z;exact hbu i hi ((QdW m i hi).mpr (Qi1 hw.tp.pos (λj _=>by rw[a0];exact Zak _) m i hcold))
 obtain⟨t2,mk,et2,tl2,tp2,Dp2,_⟩:=ht m R f m0 m8 hRl hR (λj hj=>by rw[fj];have:=sp j hj;omega) cm;have ei2:=hi m R t2 mk m0 m8 hR tl2 tp2 Dp2;have it:∀{U:En}{b:Bool},U[1]? =some (some (Qd m R [],b))->Qf (Qh 1) (dC (.int 0)) U=some (reI m):=λ{U b} h=>(Qaz (m:=m) (R:=R) (L:=[]) (Q3 h) (by cases b<;>rfl)).1;have cell:∀{U:En}(k:Nat),U[0]? =some (slF (.lst (ns.map .int)))->Qm 2 dc [] (Qa (Qh 0) (Qa (dC (.int k)) Qb)) U=some (reI (ns.getD k 0)):=λ{U} k h0=>by
  refine Qt (Qo (Q3 h0) (Qo (QeI _ _) (QI _))) ?_ rfl;exact hc ns k
 refine Q2 ?_;refine rsa (Qt (r:=⟨[.lst (ns.map .int)],false,[]⟩) rfl en rfl) ?_;refine rsa (Qt (r:=⟨[.lst (ns.map .int),.int 26,Qd m R []],false,[1]⟩) rfl et rfl) ?_;refine rsa (d:=Qe m f) ((Qa1 (toD:=λ(k:Nat)=> .int (k:Int)) (out:=λ(k:Nat)=> .int (Q1 R [] k-1)) (List.range m) (Qbi (n:=m) (it rfl) rfl ⋯) rfl λp hp=>⟨[none,slI p,slF (Qd m R [])],rfl,reI (Q1 R [] p-1),QY (d:= .int (Q1 R [] p-1)) (rb:=reI 1) (Qt (r:=⟨[Qd m R [],.int p],false,[]⟩) rfl (hs m R [] p ⋯ hR) rfl) rfl rfl,rfl,rfl⟩).trans (by rw[ef];rfl)) ?_;refine rsa (d:= .int (ns.getD 34 0)) (cell 34 rfl) ?_;refine rsa (Qt (r:=⟨[Qd m R [],Qg t,.int (ns.getD 34 0)],true,[1,2]⟩) rfl es rfl) ?_;change Run _ [slF (.lst (ns.map .int)),slT (Qd m R []),slT (Qg t),slT (Qe m f),slI (ns.getD 34 0),slT (Qp ts),none,none,none,none] _;have hl0:Qe m f=Qp ((List.range m).map f):=by unfold Qe Qp;rw[ZO];rfl
 have e6:QA (QE (Qa (QA (Qf (Qh 3) (dC (.int 0))) (dC (.int 1))) Qb)) (Qad (Qh 3) (QS (dC (.int 1))) QZ) [slF (.lst (ns.map .int)),slT (Qd m R []),slT (Qg t),slT (Qe m f),slI (ns.getD 34 0),slT (Qp ts),none,none,none,none]=some (reT (Qe m (up f 0 (f 0+1)))):=by
  rw[← Qvd m0];refine Qd7 (A:=[f 0+1]) (B:=((List.range m).map f).drop 1) ((Qej (Qo (Qac (a:=f 0) (b:=1) (Qa0 (m:=m) (f:=f) (i:=0) (ra:=⟨Qe m f,true,[3]⟩) (rb:=reI 0) rfl rfl rfl rfl m0) rfl rfl rfl) (QI _)) ⋯).trans rfl) rfl (Qex (ts:=(List.range m).map f) (n:=1) (ra:=⟨Qe m f,true,[3]⟩) (rb:=reI 1) rfl hl0 rfl rfl) rfl (by simp;omega)
 refine rsa e6 ?_;change Run _ [slF (.lst (ns.map .int)),slT (Qd m R []),slT (Qg t),slT (Qe m f),slI (ns.getD 34 0),slT (Qp ts),slT (Qe m (up f 0 (f 0+1))),none,none,none] _;refine QC (QL (b:=false) ((QbU (a:=false) (b:=false) (Qa4 (b:=true) (Qz (Qt (r:=⟨[Qd m R [],Qp ts,.int 1,.int 4],true,[1,5]⟩) rfl x1 rfl) rfl)) (Qa4 (b:=true) (Qz (Qt (r:=⟨[Qd m R [],Qp ts,Qe m (up f 0 (f 0+1))],true,[1,5,6]⟩) rfl x2 rfl) rfl))).trans rfl) (λh=>by cases h) (λ_=>Qq ?_));refine QC (QL (b:=false) ((QbU (a:=false) (b:=false) (Qa4 (b:=true) (Qz (Qt (Qo (r:=⟨Qd m R [],true,[1]⟩) rfl (Qo (cell 35 rfl) (Qo (r:=⟨Qe m f,true,[3]⟩) rfl (QI _)))) x3 rfl) rfl)) (Qa4 (b:=true) (Qz (Qt (Qo (cell 36 rfl) (QI _)) x4 rfl) rfl))).trans rfl) (λh=>by cases h) (λ_=>Qq ?_));have c7:dOp QaC (dOp QbV (Qh 4) (dC (.int 7))) (Qf (Qh 1) (dC (.int 0))) [slF (.lst (ns.map .int)),slT (Qd m R []),slT (Qg t),slT (Qe m f),slI (ns.getD 34 0),slT (Qp ts),slT (Qe m (up f 0 (f 0+1))),none,none,none]=some (reI (ns.getD 34 0 / 7 % m)):=QaI (a:=ns.getD 34 0 / 7) (b:=m) (Qlc (a:=ns.getD 34 0) (b:=7) (ra:=reI (ns.getD 34 0)) rfl rfl rfl rfl ∅ ∅) rfl (it rfl) rfl ⋯;have e7:Qal (Qa (Qf (Qh 1) (dC (.int 0))) (Qa (QO (Qan (Qf (Qh 1) (dC (.int 0)))) (.nm 1) [none,none,some 1] QaR (Qal (Qa (Qh 1) (Qa (Qf (Qh 2) (dC (.int 0))) Qb)))) (Qa (QE (Qa (Qal (Qa (dOp QaC (dOp QbV (Qh 4) (dC (.int 7))) (Qf (Qh 1) (dC (.int 0)))) (Qa (Qf (Qh 1) (dC (.int 0))) Qb))) Qb)) Qb))) [slF (.lst (ns.map .int)),slT (Qd m R []),slT (Qg t),slT (Qe m f),slI (ns.getD 34 0),slT (Qp ts),slT (Qe m (up f 0 (f 0+1))),none,none,none]=some (reT (Qd m ((List.range m).map λ(p:Nat)=>((p:Int),(m:Int))) [(ns.getD 34 0 / 7 % m,(m:Int))])):=by
  have er:=Qa1 (fi:=Qan (Qf (Qh 1) (dC (.int 0)))) (t:= .nm 1) (cap:=[none,none,some 1]) (fe:=Qal (Qa (Qh 1) (Qa (Qf (Qh 2) (dC (.int 0))) Qb))) (U:=[slF (.lst (ns.map .int)),slT (Qd m R []),slT (Qg t),slT (Qe m f),slI (ns.getD 34 0),slT (Qp ts),slT (Qe m (up f 0 (f 0+1))),none,none,none]) (toD:=λ(k:Nat)=> .int (k:Int)) (out:=λ(k:Nat)=>pairD ((k:Int),(m:Int))) (List.range m) (Qbi (n:=m) (it rfl) rfl ⋯) rfl λp hp=>⟨[none,slI p,slF (Qd m R [])],rfl,⟨pairD ((p:Int),(m:Int)),true,[]⟩,rfl,rfl,rfl⟩;have e8:QE (Qa (Qal (Qa (dOp QaC (dOp QbV (Qh 4) (dC (.int 7))) (Qf (Qh 1) (dC (.int 0)))) (Qa (Qf (Qh 1) (dC (.int 0))) Qb))) Qb) [slF (.lst (ns.map .int)),slT (Qd m R []),slT (Qg t),slT (Qe m f),slI (ns.getD 34 0),slT (Qp ts),slT (Qe m (up f 0 (f 0+1))),none,none,none]=some (reT (Qr [(ns.getD 34 0 / 7 % m,(m:Int))])):=by
   have e9:Qal (Qa (dOp QaC (dOp QbV (Qh 4) (dC (.int 7))) (Qf (Qh 1) (dC (.int 0)))) (Qa (Qf (Qh 1) (dC (.int 0))) Qb)) [slF (.lst (ns.map .int)),slT (Qd m R []),slT (Qg t),slT (Qe m f),slI (ns.getD 34 0),slT (Qp ts),slT (Qe m (up f 0 (f 0+1))),none,none,none]=some ⟨pairD (ns.getD 34 0 / 7 % m,(m:Int)),true,[]⟩:=by
    exact Ql4 (Qo c7 (Qo (it rfl) (QI _))) rfl
   exact(Qej (Qo e9 (QI _)) ⋯).trans rfl
  refine(Ql4 (Qo (it rfl) (Qo er (Qo e8 (QI _)))) rfl).trans ?_;show some _=some _;congr 2;unfold Qd Qr;rw[ZO];rfl
 refine rsa e7 ?_;generalize ((List.range m).map λ(p:Nat)=>((p:Int),(m:Int)))=R7;generalize hL7:[(ns.getD 34 0 / 7 % (m:Int),(m:Int))]=L7;have nL:L7≠[]:=by rw[← hL7];simp
 have x7:∀(xs:List D) (k:Nat),k<3->dr [Qd m R7 L7,.lst xs,.int k,.int 0]=slT (.bl true):=λxs k hk=>by
  refine hr m R7 L7 xs "NotPlain" 0 k w0 ?_;rcases(by omega:k=0∨k=1∨k=2)with rfl | rfl | rfl
  .exact .inl ⟨rfl,xt1.burn.plain m R7 L7 xs nL⟩
  .exact .inr (.inl ⟨rfl,xh1.plain m R7 L7 xs nL⟩)
  .exact .inr (.inr ⟨rfl,xa1.plain m R7 L7 nL⟩)
 change Run _ [slF (.lst (ns.map .int)),slT (Qd m R []),slT (Qg t),slT (Qe m f),slI (ns.getD 34 0),slT (Qp ts),slT (Qe m (up f 0 (f 0+1))),slT (Qd m R7 L7),none,none] _;refine QC (QaA (toD:=λ(k:Nat)=> .int (k:Int)) (List.range 3) (λ_ U=>∃j8,U=[slF (.lst (ns.map .int)),slT (Qd m R []),slT (Qg t),slT (Qe m f),slI (ns.getD 34 0),slT (Qp ts),slT (Qe m (up f 0 (f 0+1))),slT (Qd m R7 L7),j8,none]) (Qbi (n:=3) (r:=reI 3) rfl rfl ⋯) rfl ⟨none,rfl⟩ ?_ ?_)
 .rintro k k' U hk ⟨j8,rfl⟩;obtain⟨hk3,rfl⟩:=Qeq hk;refine⟨[slF (.lst (ns.map .int)),slT (Qd m R []),slT (Qg t),slT (Qe m f),slI (ns.getD 34 0),slT (Qp ts),slT (Qe m (up f 0 (f 0+1))),slT (Qd m R7 L7),slI k,none],rfl,?_⟩;have q0:=ZP (ns.getD 37 0) (by decide:(4:Int)≠0);have q1:=ZR (ns.getD 37 0) (by decide:(0:Int)<4);obtain⟨i,ei⟩:∃i:Nat,(i:Int)=ns.getD 37 0 % 4:=⟨(ns.getD 37 0 % 4).toNat,⋯⟩;have ex:∃xs,([Qp ts,Qp (((List.range m).map f).drop 1),Qg t,Qe m (up f 0 (f 0+1))]:List D)[i]? =some (.lst xs):=by
   rcases(by omega:i=0∨i=1∨i=2∨i=3)with rfl | rfl | rfl | rfl<;>exact⟨_,rfl⟩
  obtain⟨xs,hxs⟩:=ex;have eL:=Qej (U:=[slF (.lst (ns.map .int)),slT (Qd m R []),slT (Qg t),slT (Qe m f),slI (ns.getD 34 0),slT (Qp ts),slT (Qe m (up f 0 (f 0+1))),slT (Qd m R7 L7),slI k,none]) (Qo (fa:=Qh 5) (r:=⟨Qp ts,true,[5]⟩) rfl (Qo (Qex (fa:=Qh 3) (fb:=dC (.int 1)) (ts:=(List.range m).map f) (n:=1) (ra:=⟨Qe m f,true,[3]⟩) (rb:=reI 1) rfl hl0 rfl rfl) (Qo (fa:=Qh 2) (r:=⟨Qg t,true,[2]⟩) rfl (Qo (fa:=Qh 6) (r:=⟨Qe m (up f 0 (f 0+1)),true,[6]⟩) rfl (QI _))))) ⋯;obtain⟨rx,y1,y2⟩:=Qyk (fb:=dOp QaC (Qm 2 dc [] (Qa (Qh 0) (Qa (dC (.int 37)) Qb))) (dC (.int 4))) (k:=i) (d:= .lst xs) eL rfl (rb:=reI i) ((QaI (a:=ns.getD 37 0) (b:=4) (cell 37 rfl) rfl rfl rfl ∅).trans (by rw[ei])) rfl hxs;have eR:=x7 xs k hk3;rw[← y2]at eR;exact QC (QL (b:=false) ((Qa4 (b:=true) (Qz (Qt (Qo (r:=⟨Qd m R7 L7,true,[7]⟩) rfl (Qo y1 (Qo (r:=reI k) rfl (Qo (r:=reI 0) rfl (QI _))))) eR rfl) rfl)).trans rfl) (λh=>by cases h) (λ_=>Qq (Qq ⟨_,rfl⟩)))
 .rintro U ⟨j8,rfl⟩;refine rsa (Qt (r:=⟨[Qd m R [],Qg t],true,[1,2]⟩) rfl eh rfl) ?_;exact QK (Qo4 (a:=true) (b:=true) (Qt (Qo (r:=⟨Qe m (Qci R dep t),true,[9]⟩) rfl (Qo (it rfl) (QI _))) (hu m _) rfl) (Qt (Qo (r:=⟨Qd m R [],true,[1]⟩) rfl (Qo (Qt (r:=⟨[Qd m R [],Qe m f],true,[1,3]⟩) rfl et2 rfl) (QI _))) ei2 rfl)) ⟨rfl,rfl⟩
end HS
def HS.some_of{α:Type}{x:Option α}{d:α}(h:x.isSome=true):x=some (x.getD d):=by cases x with | none=>cases h | some a=>rfl
namespace Law
open PySem L2 HS
noncomputable section
def top(i:Nat):Stmt:=PySem.Challenge.pw_heapstill_k55_trees_refused.main.body.getD i (.Pass ⟨0,0,0,0⟩)
abbrev cst:List (Str×Int):=[("MOST_HEAPS",300)]
abbrev Sc(s:Stmt)(P:List Str):Prop:=QbR (namesOf (Qn s)) P (Qn s)
def scM{s:Stmt}{P:List Str}(h1:(Qn s).kind= .function)(h2:(Qn s).isCoroutine=false)(h3:(Qn s).isGenerator=false)(h4:(namesOf (Qn s)).Nodup/\(namesOf (Qn s)).take P.length=P/\(∀x∈P,(Qn s).names.lookup x=some .local ∨(Qn s).names.lookup x=some .cell)/\∀y∈(Qn s).names,y.2≠ .free):Sc s P:=⟨h1,h2,h3,h4.1,h4.2.1,h4.2.2.1,h4.2.2.2⟩
noncomputable abbrev Cp(s:Stmt)(Γ:List (Str×FnR)):Option DS:=QaW 60 (Qei s Γ cst) (QaT s)
noncomputable abbrev Dn(s:Stmt)(g:DS):Den:=Qx (namesOf (Qn s)).length g
noncomputable abbrev Gc(x:Str)(n:Nat)(d:Den)(Γ:List (Str×FnR)):List (Str×FnR):=(x,⟨n,[],d⟩)::Γ
structure Kn (x:Str) (s:Stmt) (P:List Str) (Γ:List (Str×FnR)) (g:DS):Prop where
 a:Sc s P
 b:QaD x s P
 c:Cp s Γ=some g
def eqQ(P:Den->Prop)(d:Den){e:Den}(h:P e)(q:d=e:=by kernel_rfl):P d:=q▸h
def kc{Pr:Program}{w:World}{K:PySem.W.Frag}{mg:Str->Option Value}{h:Heap}{x:Str}{s:Stmt}{P:List Str}{k:Nat}{Γ:List (Str×FnR)}{g:DS}(X:K.In h)(G:h.Ns mainGlobals mg)(M:Qd4 mg cst)(t:∀b:Heap,QbH Pr w K mg b k Γ)(q:Kn x s P Γ g)(F:Fact K x s)(b:Heap):QbH Pr w K mg b (k+1) ((x,⟨P.length,[],Dn s g⟩)::Γ):=(t b).cons (Qco X G F q.a q.b M (t b) q.c)
local macro_rules | `(tactic| trivial)=> `(tactic| (refine⟨scM rfl rfl rfl nofun,λ_ _ _ _ _ _=>?_,some_of nofun⟩;repeat' first | exact l0 rfl | refine lc λ_=>?_))
noncomputable abbrev cls:List Str:=["NoRow","NoHeap","NotPlain","TooMany","NotAgain","NoTree"]
noncomputable abbrev QDe:List (Str×List (Str×Bool)):=[("NoRow",[("NotPlain",false),("NoRow",true),("NoHeap",false),("NotAgain",false),("NoTree",false),("TooMany",false),("ValueError",true),("HeapError",true)]),("NoHeap",[("NotPlain",false),("NoRow",false),("NoHeap",true),("NotAgain",false),("NoTree",false),("TooMany",false),("ValueError",true),("HeapError",true)]),("NotPlain",[("NotPlain",true),("NoRow",false),("NoHeap",false),("NotAgain",false),("NoTree",false),("TooMany",false),("ValueError",true),("HeapError",true)]),("TooMany",[("NotPlain",false),("NoRow",false),("NoHeap",false),("NotAgain",false),("NoTree",false),("TooMany",true),("ValueError",true),("HeapError",true)]),("NotAgain",[("NotPlain",false),("NoRow",false),("NoHeap",false),("NotAgain",true),("NoTree",false),("TooMany",false),("ValueError",true),("HeapError",true)]),("NoTree",[("NotPlain",false),("NoRow",false),("NoHeap",false),("NotAgain",false),("NoTree",true),("TooMany",false),("ValueError",true),("HeapError",true)])]
noncomputable abbrev sub:=QwN QDe
noncomputable abbrev CpT(s:Stmt)(Γ:List (Str×FnR))(Γx:List (Str×(Nat×(List D->Option Str))))(hΓ:List (Str×FnR)):Option DS:=QaW 60 (thT 60 s Γ cst ⟨Γx,cls⟩ sub hΓ) (QaT s)
noncomputable abbrev CpH(s:Stmt)(hΓ:List (Str×FnR)):Option DS:=Qi0 (Qei s [] cst) sub hΓ (QaT s)
noncomputable abbrev CpX(s:Stmt)(Γ:List (Str×FnR))(Γx:List (Str×(Nat×(List D->Option Str)))):Option DX:=Qfb 60 (Qei s Γ cst) ⟨Γx,cls⟩ (QaT s)
abbrev QbO:=top 10
def QiA:Sc QbO ["net","rows"]:=scM rfl rfl rfl nofun
def Qj3:QaD "need_rows" QbO ["net","rows"]:=λ_ _ _ _ _ _=>lc λ_=>lc λ_=>l0 rfl
noncomputable def QiQ:=(CpX QbO [] []).getD xNo
def Qo1:CpX QbO [] []=some QiQ:=some_of nofun
noncomputable abbrev Qdg:=Qag (namesOf (Qn QbO)).length QiQ
noncomputable abbrev Qf6:List (Str×(Nat×(List D->Option Str))):=("need_rows",(2,Qdg))::[]
def Qka:=(Cp QbO []).getD Qu
def QpL:Cp QbO []=some Qka:=some_of nofun
abbrev Qa7:=Dn QbO Qka
abbrev QdK:=Gc "need_rows" 2 Qa7 []
abbrev Qbt:=top 11
def Qh4:Sc Qbt ["net","heaps"]:=scM rfl rfl rfl nofun
def Qiw:QaD "need_heaps" Qbt ["net","heaps"]:=λ_ _ _ _ _ _=>lc λ_=>lc λ_=>l0 rfl
noncomputable def Qh5:=(CpX Qbt QdK Qf6).getD xNo
def QnA:CpX Qbt QdK Qf6=some Qh5:=some_of nofun
noncomputable abbrev QcT:=Qag (namesOf (Qn Qbt)).length Qh5
noncomputable abbrev Qfg:List (Str×(Nat×(List D->Option Str))):=("need_heaps",(2,QcT))::Qf6
def QiH:=(Cp Qbt QdK).getD Qu
def QpK:Cp Qbt QdK=some QiH:=some_of nofun
abbrev QaU:=Dn Qbt QiH
abbrev QfS:=Gc "need_heaps" 2 QaU QdK
abbrev QmA:=top 13
def Qra:=(Cp QmA QfS).getD Qu
def Qx7:Kn "steps" QmA ["roads","lanes"] QfS Qra:=by trivial
abbrev QcB:=Dn QmA Qra
abbrev QmI:=Gc "steps" 2 QcB QfS
abbrev QfW:=top 14
def QiL:=(Cp QfW QmI).getD Qu
def Qpm:Kn "toll_table" QfW ["net"] QmI QiL:=by trivial
abbrev Qas:=Dn QfW QiL
abbrev QfU:=Gc "toll_table" 1 Qas QmI
abbrev QgK:=top 15
def QjN:=(Cp QgK QfU).getD Qu
def QpS:Kn "span_list" QgK ["net"] QfU QjN:=by trivial
abbrev Qe1:=Dn QgK QjN
abbrev QgM:=Gc "span_list" 1 Qe1 QfU
abbrev QmD:=top 18
def Qqy:=(Cp QmD QgM).getD Qu
def Qyo:Kn "leads" QmD ["many","roads","lanes"] QgM Qqy:=by trivial
abbrev Qhg:=Dn QmD Qqy
abbrev Qmg:=Gc "leads" 3 Qhg QgM
abbrev QhE:=top 19
def QkZ:=(Cp QhE Qmg).getD Qu
def Qst:Kn "is_plain" QhE ["net"] Qmg QkZ:=by trivial
abbrev QbF:=Dn QhE QkZ
abbrev Qee:=Gc "is_plain" 1 QbF Qmg
abbrev Qbq:=top 20
def Qh3:Sc Qbq ["net"]:=scM rfl rfl rfl nofun
def Qh9:QaD "need_plain" Qbq ["net"]:=λ_ _ _ _ _ _=>lc λ_=>l0 rfl
noncomputable def Qh6:=(CpX Qbq Qee Qfg).getD xNo
def QnH:CpX Qbq Qee Qfg=some Qh6:=some_of nofun
noncomputable abbrev QbA:=Qag (namesOf (Qn Qbq)).length Qh6
noncomputable abbrev Qfm:List (Str×(Nat×(List D->Option Str))):=("need_plain",(1,QbA))::Qfg
def Qje:=(Cp Qbq Qee).getD Qu
def Qpp:Cp Qbq Qee=some Qje:=some_of nofun
abbrev QN:=Dn Qbq Qje
abbrev QfV:=Gc "need_plain" 1 QN Qee
abbrev Qfn:=top 24
def QhX:=(Cp Qfn QfV).getD Qu
def QnD:Kn "roads_among" Qfn ["toll","place","places"] QfV QhX:=by trivial
abbrev QaM:=Dn Qfn QhX
abbrev QcV:=Gc "roads_among" 3 QaM QfV
abbrev Qe6:=top 26
def Qqd:Sc Qe6 ["net","heap"]:=scM rfl rfl rfl nofun
def Qtk:QaD "fire" Qe6 ["net","heap"]:=λ_ _ _ _ _ _=>lc λ_=>lc λ_=>l0 rfl
noncomputable def Qrc:=(CpX Qe6 QcV Qfm).getD xNo
def QyQ:CpX Qe6 QcV Qfm=some Qrc:=some_of nofun
noncomputable abbrev Qhm:=Qag (namesOf (Qn Qe6)).length Qrc
noncomputable abbrev Qmc:List (Str×(Nat×(List D->Option Str))):=("fire",(2,Qhm))::Qfm
def QtB:=(Cp Qe6 QcV).getD Qu
def Qzo:Cp Qe6 QcV=some QtB:=some_of nofun
abbrev QcR:=Dn Qe6 QtB
abbrev Qoj:=Gc "fire" 2 QcR QcV
abbrev Qfr:=top 27
def Qh7:=(Cp Qfr Qoj).getD Qu
def Qnx:Kn "comes_again" Qfr ["net","heap"] Qoj Qh7:=by trivial
abbrev QaZ:=Dn Qfr Qh7
abbrev Qfl:=Gc "comes_again" 2 QaZ Qoj
abbrev Qhz:=top 32
def Qk0:=(Cp Qhz Qfl).getD Qu
def Qrn:Kn "opposite" Qhz ["line"] Qfl Qk0:=by trivial
abbrev Qdr:=Dn Qhz Qk0
abbrev Qht:=Gc "opposite" 1 Qdr Qfl
abbrev Qge:=top 35
def QiD:=(Cp Qge Qht).getD Qu
def Qoa:Kn "with_pivot" Qge ["lines","at"] Qht QiD:=by trivial
abbrev Qeh:=Dn Qge QiD
abbrev Qf3:=Gc "with_pivot" 2 Qeh Qht
abbrev QgG:=top 36
def QjT:=(Cp QgG Qf3).getD Qu
def QpV:Kn "taken_off" QgG ["line","pivot_line","at","before"] Qf3 QjT:=by trivial
abbrev QeU:=Dn QgG QjT
abbrev QgQ:=Gc "taken_off" 4 QeU Qf3
abbrev Qi7:=top 34
def Qm2:=(Cp Qi7 QgQ).getD Qu
def Qty:Kn "cleared" Qi7 ["lines"] QgQ Qm2:=by trivial
abbrev Qgp:=Dn Qi7 Qm2
abbrev Qis:=Gc "cleared" 1 Qgp QgQ
abbrev Qi5:=top 37
def Qm3:=(Cp Qi5 Qis).getD Qu
def Qur:Kn "measure" Qi5 ["table"] Qis Qm3:=by trivial
abbrev Qgn:=Dn Qi5 Qm3
abbrev Qjc:=Gc "measure" 1 Qgn Qis
abbrev QgA:=top 41
def Qj1:=(Cp QgA Qjc).getD Qu
def QpZ:Kn "net_table" QgA ["net"] Qjc Qj1:=by trivial
abbrev Qe0:=Dn QgA Qj1
abbrev QgB:=Gc "net_table" 1 Qe0 Qjc
abbrev QhG:=top 50
def QlP:=(Cp QhG QgB).getD Qu
def Qrr:Kn "how_many" QhG ["net"] QgB QlP:=by trivial
abbrev QbE:=Dn QhG QlP
abbrev Qed:=Gc "how_many" 1 QbE QgB
abbrev QbN:=top 51
def Qja:Sc QbN ["net"]:=scM rfl rfl rfl nofun
def QjL:QaD "all_again" QbN ["net"]:=λ_ _ _ _ _ _=>lc λ_=>l0 rfl
noncomputable def Qit:=(CpX QbN Qed Qmc).getD xNo
def Qpo:CpX QbN Qed Qmc=some Qit:=some_of nofun
noncomputable abbrev Qdi:=Qag (namesOf (Qn QbN)).length Qit
noncomputable abbrev QfY:List (Str×(Nat×(List D->Option Str))):=("all_again",(1,Qdi))::Qmc
def QjI:=(Cp QbN Qed).getD Qu
def Qp1:Cp QbN Qed=some QjI:=some_of nofun
abbrev Qbn:=Dn QbN QjI
abbrev Qgz:=Gc "all_again" 1 Qbn Qed
abbrev QgN:=top 57
def Qkc:=(Cp QgN Qgz).getD Qu
def QpX:Kn "road_ends" QgN ["net","place"] Qgz Qkc:=by trivial
abbrev QeR:=Dn QgN Qkc
abbrev QgU:=Gc "road_ends" 2 QeR Qgz
abbrev Qfk:=top 56
def Qh2:=(Cp Qfk QgU).getD Qu
def QnB:Kn "own_choices" Qfk ["net","place","marks"] QgU Qh2:=by trivial
abbrev QW:=Dn Qfk Qh2
abbrev QcX:=Gc "own_choices" 3 QW QgU
abbrev QcH:=top 53
def Qk5:Sc QcH ["net","heap"]:=scM rfl rfl rfl nofun
def Qnj:QaD "tree_of" QcH ["net","heap"]:=λ_ _ _ _ _ _=>lc λ_=>lc λ_=>l0 rfl
noncomputable def QkQ:=(CpX QcH QcX QfY).getD xNo
def Qsh:CpX QcH QcX QfY=some QkQ:=some_of nofun
noncomputable abbrev Qce:=Qag (namesOf (Qn QcH)).length QkQ
noncomputable abbrev QhC:List (Str×(Nat×(List D->Option Str))):=("tree_of",(2,Qce))::QfY
def Qm6:=(Cp QcH QcX).getD Qu
def Quh:Cp QcH QcX=some Qm6:=some_of nofun
abbrev Qaa:=Dn QcH Qm6
abbrev Qjh:=Gc "tree_of" 2 Qaa QcX
abbrev Qfs:=top 58
def QhY:=(Cp Qfs Qjh).getD Qu
def QnE:Kn "tree_depths" Qfs ["net","tree"] Qjh QhY:=by trivial
abbrev Q5:=Dn Qfs QhY
abbrev QcQ:=Gc "tree_depths" 2 Q5 Qjh
abbrev QbM:=top 59
def Qi2:Sc QbM ["net","tree"]:=scM rfl rfl rfl nofun
def Qj2:QaD "need_tree" QbM ["net","tree"]:=λ_ _ _ _ _ _=>lc λ_=>lc λ_=>l0 rfl
noncomputable def Qib:=(CpX QbM QcQ QhC).getD xNo
def Qpn:CpX QbM QcQ QhC=some Qib:=some_of nofun
noncomputable abbrev QbZ:=Qag (namesOf (Qn QbM)).length Qib
noncomputable abbrev QfO:List (Str×(Nat×(List D->Option Str))):=("need_tree",(2,QbZ))::QhC
def QjQ:=(Cp QbM QcQ).getD Qu
def QpT:Cp QbM QcQ=some QjQ:=some_of nofun
abbrev Qa8:=Dn QbM QjQ
abbrev QdN:=Gc "need_tree" 2 Qa8 QcQ
abbrev QcG:=top 54
def Qlf:Sc QcG ["net","tree"]:=scM rfl rfl rfl nofun
def QmS:QaD "heap_of" QcG ["net","tree"]:=λ_ _ _ _ _ _=>lc λ_=>lc λ_=>l0 rfl
noncomputable def Qlw:=(CpX QcG QdN QfO).getD xNo
def Qrj:CpX QcG QdN QfO=some Qlw:=some_of nofun
noncomputable abbrev Qb9:=Qag (namesOf (Qn QcG)).length Qlw
noncomputable abbrev QhK:List (Str×(Nat×(List D->Option Str))):=("heap_of",(2,Qb9))::QfO
def Qne:=(Cp QcG QdN).getD Qu
def QsE:Cp QcG QdN=some Qne:=some_of nofun
abbrev QaF:=Dn QcG Qne
abbrev Qfa:=Gc "heap_of" 2 QaF QdN
abbrev QbJ:=top 55
def Qil:Sc QbJ ["net"]:=scM rfl rfl rfl nofun
def QjH:QaD "all_trees" QbJ ["net"]:=λ_ _ _ _ _ _=>lc λ_=>l0 rfl
noncomputable def QiT:=(CpX QbJ Qfa QhK).getD xNo
def Qop:CpX QbJ Qfa QhK=some QiT:=some_of nofun
noncomputable abbrev Qcw:=Qag (namesOf (Qn QbJ)).length QiT
noncomputable abbrev Qd9:List (Str×(Nat×(List D->Option Str))):=("all_trees",(1,Qcw))::QhK
def QjM:=(Cp QbJ Qfa).getD Qu
def QpN:Cp QbJ Qfa=some QjM:=some_of nofun
abbrev QbI:=Dn QbJ QjM
abbrev QgH:=Gc "all_trees" 1 QbI Qfa
abbrev QeA:=top 61
def Qg7:=(Cp QeA QgH).getD Qu
def Qmw:Kn "_law_cell_at" QeA ["_law_script","_law_k"] QgH Qg7:=by trivial
abbrev Q4:=Dn QeA Qg7
abbrev QeH:=Gc "_law_cell_at" 2 Q4 QgH
abbrev Qgb:=top 62
def QiK:=(Cp Qgb QeH).getD Qu
def Qpr:Kn "_law_whole" Qgb ["_law_found"] QeH QiK:=by trivial
abbrev Qef:=Dn Qgb QiK
abbrev QfR:=Gc "_law_whole" 1 Qef QeH
abbrev Qhu:=top 63
def QkU:=(Cp Qhu QfR).getD Qu
def QrE:Kn "_law_net" Qhu ["_law_script"] QfR QkU:=by trivial
abbrev Qd3:=Dn Qhu QkU
abbrev QhD:=Gc "_law_net" 1 Qd3 QfR
abbrev Qf0:=top 64
def Qii:=(Cp Qf0 QhD).getD Qu
def QoR:Kn "_law_roads" Qf0 ["_law_net_here","_law_place","_law_others"] QhD Qii:=by trivial
abbrev Qea:=Dn Qf0 Qii
abbrev QfT:=Gc "_law_roads" 3 Qea QhD
abbrev QgP:=top 65
def Qj7:=(Cp QgP QfT).getD Qu
def QpW:Kn "_law_span" QgP ["_law_net_here","_law_place"] QfT Qj7:=by trivial
abbrev QdG:=Dn QgP Qj7
abbrev QgT:=Gc "_law_span" 2 QdG QfT
abbrev Qgx:=top 66
def Qj5:=(Cp Qgx QgT).getD Qu
def Qp6:Kn "_law_tree" Qgx ["_law_script","_law_at","_law_net_here"] QgT Qj5:=by trivial
abbrev QdE:=Dn Qgx Qj5
abbrev QgS:=Gc "_law_tree" 3 QdE QgT
abbrev Qet:=top 67
def Qg3:=(Cp Qet QgS).getD Qu
def Qmf:Kn "_law_numbers" Qet ["_law_found","_law_many_here"] QgS Qg3:=by trivial
abbrev Qa3:=Dn Qet Qg3
abbrev Qez:=Gc "_law_numbers" 2 Qa3 QgS
abbrev Qfi:=top 68
def QhZ:=(Cp Qfi Qez).getD Qu
def Qny:Kn "_law_depths" Qfi ["_law_net_here","_law_tree_here"] Qez QhZ:=by trivial
abbrev QcU:=Dn Qfi QhZ
abbrev Qfh:=Gc "_law_depths" 2 QcU Qez
abbrev Qeu:=top 69
def Qhd:=(Cp Qeu Qfh).getD Qu
def Ql5:Kn "_law_is_tree" Qeu ["_law_net_here","_law_tree_here"] Qfh Qhd:=by trivial
abbrev QaN:=Dn Qeu Qhd
abbrev QeM:=Gc "_law_is_tree" 2 QaN Qfh
abbrev Qer:=top 70
def Qhb:=(Cp Qer QeM).getD Qu
def Ql0:Kn "_law_spoiled" Qer ["_law_net_here","_law_tree_here","_law_cell"] QeM Qhb:=by trivial
abbrev QcA:=Dn Qer Qhb
abbrev Qes:=Gc "_law_spoiled" 3 QcA QeM
abbrev Qdf:=top 71
def QnJ:Sc Qdf ["_law_e"]:=scM rfl rfl rfl nofun
def QpH:QaD "_law_kinds" Qdf ["_law_e"]:=λ_ _ _ _ _ _=>lc λ_=>l0 rfl
def QiX:=(CpH Qdf []).getD Qu
def QpE:CpH Qdf []=some QiX:=some_of nofun
abbrev Qd8:=Dn Qdf QiX
noncomputable abbrev QdP:=Gc "_law_kinds" 1 Qd8 []
abbrev QdL:=top 72
def Qod:Sc QdL ["_law_net_here","_law_thing","_law_way"]:=scM rfl rfl rfl nofun
def QpM:QaD "_law_said" QdL ["_law_net_here","_law_thing","_law_way"]:=λ_ _ _ _ _ _=>lc λ_=>lc λ_=>lc λ_=>l0 rfl
def QjR:=(CpT QdL Qes Qd9 QdP).getD Qu
def QpU:CpT QdL Qes Qd9 QdP=some QjR:=some_of nofun
abbrev QeT:=Dn QdL QjR
abbrev QgL:=Gc "_law_said" 3 QeT Qes
abbrev QeK:=top 73
def Qg2:=(Cp QeK QgL).getD Qu
def Qmn:Kn "_law_refused" QeK ["_law_net_here","_law_thing","_law_way","_law_due"] QgL Qg2:=by trivial
abbrev Q0:=Dn QeK Qg2
abbrev QeN:=Gc "_law_refused" 4 Q0 QgL
abbrev Qcg:=top 74
def QkF:Sc Qcg ["_law_net_here","_law_wrong","_law_heap"]:=scM rfl rfl rfl nofun
def Qk4:QaD "_law_by_names" Qcg ["_law_net_here","_law_wrong","_law_heap"]:=λ_ _ _ _ _ _=>lc λ_=>lc λ_=>lc λ_=>l0 rfl
def Qgu:=(CpT Qcg QeN Qd9 QdP).getD Qu
def Qk1:CpT Qcg QeN Qd9 QdP=some Qgu:=some_of nofun
abbrev Qbx:=Dn Qcg Qgu
abbrev Qeb:=Gc "_law_by_names" 3 Qbx QeN
abbrev QfX:=top 75
def Qi6:=(Cp QfX Qeb).getD Qu
def Qof:Kn "_law_heaps" QfX ["_law_net_here","_law_cell","_law_full"] Qeb Qi6:=by trivial
abbrev Qdd:=Dn QfX Qi6
abbrev QfQ:=Gc "_law_heaps" 3 Qdd Qeb
abbrev QgR:=top 76
def Qj9:=(Cp QgR QfQ).getD Qu
def QpQ:Kn "_law_many" QgR ["_law_cell"] QfQ Qj9:=by trivial
abbrev QcY:=Dn QgR Qj9
abbrev QjX:=Gc "_law_many" 1 QcY QfQ
abbrev Qk8:=top 77
def QzG:Sc Qk8 ["_law_script"]:=scM rfl rfl rfl nofun
def QCa:QaD "law" Qk8 ["_law_script"]:=λ_ _ _ _ _ _=>lc λ_=>l0 rfl
def QwX:=(Cp Qk8 QjX).getD Qu
def QBE:Cp Qk8 QjX=some QwX:=some_of nofun
abbrev Qr7:=Dn Qk8 QwX
def QjK:Qa7=Qx 3 (HS.QdM):=by kernel_rfl
def QiN:QaU=Qx 3 (HS.Qdn Qa7):=by kernel_rfl
def Qq7:QcB=Qx 4 (HS.QmP):=by kernel_rfl
def Qn2:Qas=Qx 5 (HS.Qf1 QcB):=by kernel_rfl
def QyU:Qhg=Qx 8 (HS.QqO QcB):=by kernel_rfl
def Qiu:QN=Qx 1 (HS.Qda QbF):=by kernel_rfl
def Qtq:QcR=Qx 8 (HS.QlO QN QaU Qas QaM):=by kernel_rfl
def QpP:Qbn=Qx 6 (HS.QgO QbE):=by kernel_rfl
def QmU:Qaa=Qx 7 (HS.Qgo QcR QaZ QW):=by kernel_rfl
def Qkb:Qa8=Qx 2 (HS.QdJ Q5):=by kernel_rfl
def Qm4:QaF=Qx 7 (HS.Qgl QN Qa8 Q5 QW):=by kernel_rfl
def QpR:QbI=Qx 1 (HS.QjZ QN Qaa Qbn):=by kernel_rfl
def Qhi:QaN=Qx 2 (HS.Qdm Qa3 QcU):=by kernel_rfl
def Qlp:Qbx=Qx 4 (HS.Qem QaF Qaa Qb9 Qce sub):=by kernel_rfl
def Qp9:QcY=Qx 4 (HS.Qgr Q0):=by kernel_rfl
def QBV:Qr7=Qx 10 (HS.Qnp Qd3 QdE QdG Q4 QcA Q0 Qbx Qdd QcY QaF Qa3 Qaa QaN):=by kernel_rfl
def QiR:Qdg=Qag 3 (HS.QeY):=by kernel_rfl
def Qh1:QcT=Qag 3 (HS.QdX Qa7 Qdg):=by kernel_rfl
def Qh0:QbA=Qag 1 (HS.Qek QbF):=by kernel_rfl
def Qqf:Qhm=Qag 8 (HS.Qlq QaM Qas QaU QN QcT QbA):=by kernel_rfl
def Qiz:Qdi=Qag 6 (HS.QdO QbE):=by kernel_rfl
def Qlx:Qce=Qag 7 (HS.Qgt QW QaZ QcR Qhm):=by kernel_rfl
def Qic:QbZ=Qag 2 (HS.QcZ Q5):=by kernel_rfl
def QlJ:Qb9=Qag 7 (HS.Qgw QW Q5 Qa8 QN QbZ QbA):=by kernel_rfl
def Qix:Qcw=Qag 1 (HS.Qgy Qaa Qbn QN Qdi QbA):=by kernel_rfl
end
end Law
namespace HS
open PySem PySem.Spec L2
def Qwf(mg:Str->Option Value):List Str->Prop
 | []=>True
 | x::r=>mg x=none/\Qwf mg r
def Qpu{mg:Str->Option Value}:∀{l:List Str},Qwf mg l->∀x∈l,mg x=none
 | [],_,x,h=>by simp at h
 | y::r,h,x,hx=>by
  rcases Zk.mp hx with rfl | hx
  .exact h.1
  .exact Qpu h.2 x hx
def QuH(mg:Str->Option Value):List (Str×Int)->Prop
 | []=>True
 | (x,i)::r=>(∃t,mg x=some (.int i t))/\QuH mg r
def Qoy{mg:Str->Option Value}:∀{l:List (Str×Int)},QuH mg l->∀x i,look x l=some i->∃t,mg x=some (.int i t)
 | [],_,x,i,h=>by cases h
 | (y,j)::r,h,x,i,hx=>by
  unfold look at hx;split at hx
  .rename_i e;cases hx;subst e;exact h.1
  .exact Qoy h.2 x i hx
def QBe{mg:Str->Option Value}{cs:List (Str×Int)}(b:Qwf mg Qpx)(c:QuH mg cs):Qd4 mg cs:=⟨Qpu b,Qoy c⟩
end HS
def HS.QCe{K:Fgg}{mg:PySem.Str->Option PySem.Value}{h:PySem.Heap}{x:PySem.Str}{i:Int}{t:PySem.Tok}(X:K.In h)(G:h.Ns PySem.mainGlobals mg)(a:PySem.W.nsIn K PySem.mainGlobals x=some (some (.int i t))):∃t,mg x=some (.int i t):=⟨t,ZaV X G a⟩
namespace Law
open HS
def Qsa:=eqQ QiB Q4 Qy1
def QzK:=eqQ Qmu Qef QuR
def QCC:=eqQ Qoq Qd3 (Qyn Qsa)
def QAl:=eqQ Qml Qea QrT
def QBS:=eqQ QmG QdG (QuE QAl)
def QBM:=eqQ QmO QdE (QuY Qsa)
def Qwj:=eqQ QiO Qa3 (Qx8 QzK)
def QBj:=eqQ Qlj QcU Qx2
def QCB:QkM QaN:=by rw[Qhi];exact Qp8 Qwj QBj
def QCU:Qme QaN:=by rw[Qhi];exact QrU Qwj QBj
def Qro:QgY Qas:=by rw[Qn2,Qq7];exact Qyq
def QwM:QkX Qa7:=by rw[QjK];exact Qxt
def QzI:Qmv QaU:=by rw[QiN];exact Qu1 QwM
def QsD:=eqQ Qjn QbF QuV
def Qig:QeE QN:=by rw[Qiu];exact QuP QsD
def QA2:=eqQ Ql9 QaM QwD
def QrQ:Qjg QcR:=by rw[Qtq];exact Qyc Qig QzI Qro QA2
def Qz5:=eqQ QoP Qe1 (Qw0 Qro)
def QsV:=eqQ Qjz QaZ (QvB QrQ Qz5)
def Qzw:QlW Qhg:=by rw[QyU];exact Qu8 λR L h=>by rw[Qq7];exact Qns ⋯
def Qsr:=eqQ QiI Q5 (Qyd Qzw)
def QBa:Qmx Qa8:=by rw[Qkb];exact QvZ Qsr
def QBL:=eqQ QlZ QeR Qvq
def QzE:=eqQ Qn1 QW (QAZ QBL)
def QxV:Qkx Qaa:=by rw[QmU];exact QtO QrQ QsV QzE
def QxU:Qki QaF:=by rw[Qm4];exact QsR Qig QBa Qsr QzE
def Qzt:=eqQ QnW Qdr QAf
def QxW:=eqQ QkJ Qe0 (QtU Qzt Qro)
def QCN:=eqQ QkO Qeh (Qt3 Qzt)
def QCV:=eqQ QmH QeU QwE
def QDf:=eqQ QhV Qgp (Qp4 QCN QCV)
def QCj:=eqQ QiM Qgn (QrG QDf)
def QCF:=eqQ Qrx QbE (QBc (Qxj QxW) QCj)
def Quq:ApF Qa7 Qdg:=by rw[QjK,QiR];exact Qxv
def QBD:QrK Qdg:=by rw[QiR];exact QwC
def Qre:ApF QaU QcT:=by rw[QiN,Qh1];exact Qvg Quq
def QzF:Qo7 QcT:=by rw[Qh1];exact Qtl Quq QwM QBD
def QfI:ApF QN QbA:=by rw[Qiu,Qh0];exact QvQ
def QpC:Qi9 QbA:=by rw[Qh0];exact Qth QsD
def Qtb:ApF QcR Qhm:=by rw[Qtq,Qqf];exact Qy0 Qre QfI
def QBu:QnZ Qhm:=by rw[Qqf];exact Qv2 Qre QfI Qig QzF QpC
def QqA:ApF Qa8 QbZ:=by rw[Qkb,Qic];exact Qv3
def Qzv:Qws QbZ:=by rw[Qic];exact QyW Qsr
def QpJ:ApF QaF Qb9:=by rw[Qm4,QlJ];exact QtM QqA QfI
def Qy8:Qms QbZ Qb9:=by rw[QlJ];exact Qr0 QqA QfI Qig QpC
def QoE:ApF Qaa Qce:=by rw[QmU,Qlx];exact Qs0 Qtb
def Qqz:Qjx Qce:=by rw[Qlx];exact Qss Qtb QBu QrQ QsV
def Qqp:ApF Qbn Qdi:=by rw[QpP,Qiz];exact Qsi
def Qyv:ApF QbI Qcw:=by rw[QpR,Qix];exact QvF Qqp QfI
def Qs7:QlH Qdi Qcw:=by rw[Qix];exact Qtp Qqp QfI Qig QpC
def QBT:=eqQ (Qkk sub) Qd8 QtQ
def QB1:=eqQ (QkD sub Qce Qb9 Qcw) QeT (Qt0 QoE QpJ Qyv QBT)
def Qv6:=eqQ (Qhj sub Qce Qb9 Qcw) Q0 (QuZ QB1)
def hBy:Qpt Qce Qb9 Qbx:=by rw[Qlp];exact Qzg QpJ QoE nofun nofun
def w0:QcN sub "NotPlain" 0:=⟨nofun,nofun,nofun,nofun,nofun,nofun,nofun,nofun,∅⟩
def w1:QcN sub "NoRow" 1:=⟨nofun,nofun,nofun,nofun,nofun,nofun,nofun,nofun,∅⟩
def w2:QcN sub "NoHeap" 2:=⟨nofun,nofun,nofun,nofun,nofun,nofun,nofun,nofun,∅⟩
def w3:QcN sub "NotAgain" 3:=⟨nofun,nofun,nofun,nofun,nofun,nofun,nofun,nofun,∅⟩
def w4:QcN sub "NoTree" 4:=⟨nofun,nofun,nofun,nofun,nofun,nofun,nofun,nofun,∅⟩
def w5:QcN sub "TooMany" 5:=⟨nofun,nofun,nofun,nofun,nofun,nofun,nofun,nofun,∅⟩
def QzD:=eqQ (Qio QbZ) QcA (QrH QCU Qzv)
def QAV:=eqQ QiV Qdd (QrX Qv6 Qqz w1 w2 w3)
def QCn:Qkm QcY:=by rw[Qp9];refine Quv Qv6 ?_ QCF w5;rw[← Qiz];exact Qs7
def QA8(ns:List Int)(h:ns.length<=63):∃fr,Qr7 [.lst (ns.map .int)]=some (.bl true,fr):=by
 rw[QBV];exact⟨true,QBl QCC QBM QBS Qsa QzD Qv6 hBy QAV QCn QxU Qwj QxV QCB Qy8 Qqz Qs7 w0 w4 ns h⟩
end Law
namespace PySem.W.Fast
def tw5860706082567494087:=0
def tw6014088112246262190:=0
def tw1037645740297624659:=0
def tw9539433720084066555:=0
def tw16130406768521338384:=0
def tw18032756796703542608:=0
def tw8052435697802365623:=0
def tw8316022658430748320:=0
def tw1182099633711762125:=0
def tw15710418407204315315:=0
def tw16493987554058808562:=0
def tw11327326251474738938:=0
def tw7949965471355650280:=0
def tw2664900830069076172:=0
def tw2819622255971559081:=0
def tw15163306469261119989:=0
def tw10491621118626409040:=0
def tw11653346797031707449:=0
def tw1247889430066755066:=0
def tw7387089669764210971:=0
def tw245109291923928064:=0
def tw7932709041876292074:=0
def tw1073955552788375002:=0
def tw12264605295123920696:=0
def tw11173564315649640338:=0
def tw9152137157301313232:=0
def tw9652727562500538169:=0
def tw16797932078849075739:=0
def tw10888171952066508605:=0
def tw1220784830835253954:=0
def tw11464129559424147518:=0
def tw1251805906629689788:=0
def tw7344871885379689777:=0
def tw8664016927923095223:=0
def tw9514103751680791965:=0
def tw15563029163522517535:=0
def tw5748774974019743369:=0
def tw2652883447225087319:=0
def tw4785478957760686706:=0
def tw3514838132487297641:=0
def tw1630746632432283014:=0
def tw13874409610563858248:=0
def tw2487624413895298827:=0
def tw17643598152254587457:=0
def tw61898941966181129:=0
def tw3347474225292288594:=0
def tw12163491280664277655:=0
def tw4607643684638969677:=0
def tw8910159580740688534:=0
def tw14029332255938622928:=0
def tw6565847014121003407:=0
def tw623745849966895852:=0
def tw12138253990393535434:=0
def tw11812607808065926873:=0
def tw2238679521310645701:=0
def tw14791623638008578703:=0
def tw6038054324277096239:=0
def tw13189298359248475221:=0
def tw16066505523323308110:=0
def tw8549975230262761168:=0
def tw16887343117303622639:=0
def tw16652702121797616616:=0
def tw12559884081305704304:=0
def tw5487065458254859101:=0
def tw13352011183602744078:=0
def tw13040577824184007718:=0
def tw14657745493002184320:=0
def tw17943362079137499715:=0
def tw3922608865131132953:=0
def tw12366126997569228142:=0
def tw9191605343298467127:=0
def tw674983087477157219:=0
def tw9047944054765607522:=0
def tw4675572186023197502:=0
def tw9708391646528420490:=0
def tw9488608464192367552:=0
def tw17026394057957921962:=0
def tw17766007353840103843:=0
def tw16140384538226879308:=0
def tw1920427632598764897:=0
def tw2191076839981846703:=0
def tw16405556091435427741:=0
def tw2776578428887600331:=0
def tw5977581215341786011:=0
def tw9637238907510801203:=0
def tw8810073779610487742:=0
def tw10775716634423054114:=0
def tw4057925353635709458:=0
def tw15672789490774498501:=0
def tw12424633675524382529:=0
def tw9404202519422240881:=0
def tw6077139552166463498:=0
def tw9502383446495578543:=0
def tw2340087820442480123:=0
def tw11784385759766245739:=0
def tw2477803179839048255:=0
def tw3620906893141195284:=0
def tw9117675313562950204:=0
def tw18228007259724956827:=0
def tw2189494970809006389:=0
def tw3125675396262653596:=0
def tw10444679065044455324:=0
def tw11508850648951095082:=0
def tw1784821533659670947:=0
def tw14393152652735881862:=0
def tw2827755363126028111:=0
def tw8628990151730404373:=0
def tw6819075953484345584:=0
def tw12083234156224211125:=0
def tw7729214892279523779:=0
def tw2911234033441998804:=0
def tw14871326476256335299:=0
def tw16325104014548926076:=0
def tw15462536902157363625:=0
def tw17444738462731089478:=0
def tw13399677507453560546:=0
def tw2440930036249256842:=0
def tw4234063569735364931:=0
def tw7139834054672886045:=0
def tw1778631929454212011:=0
def tw7107423040169756646:=0
def tw11869865459895651984:=0
def tw3943532607033860452:=0
def tw2145827360190527139:=0
def tw15883437959808723706:=0
def tw7800246338281603625:=0
def tw3061703689235822470:=0
def tw10144306686143620481:=0
def tw4710581233084036493:=0
def tw16619006414865779300:=0
def tw16640658063089789829:=0
def tw596619437048908975:=0
def tw10400935884708089712:=0
def tw3164086600204638522:=0
def tw6352996317532544323:=0
def tw4485162485748548953:=0
def tw15538433327279455924:=0
def tw5565117141342795572:=0
def tw331514996993967288:=0
def tw11935659766897134801:=0
def tw8126344204416826804:=0
def tw15503150711454863618:=0
def tw13691775624652465043:=0
def tw17717935489793592041:=0
def tw17348819427676439083:=0
def tw784843342124124561:=0
def tw8798266662769679066:=0
def tw4745426978544257918:=0
def tw17563596574211485040:=0
def tw15150783972742035818:=0
def tw6254824798778477896:=0
def tw8866704866045669435:=0
def tw10478902886192082582:=0
def tw10048791767305150515:=0
def tw13435851703662990096:=0
def tw12239443135536230026:=0
def tw6620598912952437301:=0
def tw15590782290649566356:=0
def tw15154455293926234302:=0
def tw14303945742845048821:=0
def tw13859569018484851842:=0
def tw12321570123841849666:=0
def tw5023855370456446307:=0
def tw12715980064229219318:=0
end PySem.W.Fast
local macro_rules | `(tactic| trivial)=> `(tactic| ((try dsimp only[L2.KOf]);refine' HS.fact_mk ?a ?l ?c ?k;(case a=>k_is);(case l=>k_is);(case c=>k_is);(case k=>k_is)))
open PySem PySem.W PyProof.Rows HS
set_option maxRecDepth 100000 in
set_option maxHeartbeats 0 in
theorem PySem.Challenge.cw_heapstill_k55_trees_refused_holds : PySem.Challenge.rw_heapstill_k55_trees_refused.Holds := by
 w_on;o_law;k_head;(case hw=>w_witness2)
 k_fill
 refine HS.Qvo (l:=PySem.Challenge.rw_heapstill_k55_trees_refused) (k:=43) (x:= "_law_script") (den:=Law.Qr7) rfl rfl ⟨rfl,∅,∅⟩ (λw h Y=>PySem.W.kIn_of Y) Law.QA8 ?F
 case F=>
  intro w mg fa h KX G hmg;have M:HS.Qd4 mg Law.cst:=by
   have n_MOST_HEAPS:∃t,mg "MOST_HEAPS" =some (.int 300 t):=by refine' HS.QCe KX G ?a;(case a=>first | k_is | exact rfl | (dsimp only[L2.KOf];k_is))
   refine HS.QBe ⟨?_,?_,?_,?_,?_,?_,?_,?_,?_,?_,?_,?_,?_,?_,?_,?_,?_,?_,?_,True.intro⟩ ⟨n_MOST_HEAPS,True.intro⟩<;>exact PySem.W.mg_none_of KX G (by k_is)
  have t0:∀base:Heap,HS.QbH (PySem.Challenge.rw_heapstill_k55_trees_refused).prog w (L2.KOf KX) mg base 0 []:=λ_=>HS.QbH.nil;have hcl:∀x∈Law.cls,HS.QiS (L2.KOf KX) x:=HS.QqN (by refine⟨?_,?_,?_,?_,?_,?_,trivial⟩<;>(dsimp only[L2.KOf];refine' HS.Qyy ?a ?b;(case a=>k_is);(case b=>k_exc)));have hsub:HS.QbY (L2.KOf KX) Law.sub:=by
   refine HS.Qyb ⟨⟨?_,?_,?_,?_,?_,?_,?_,?_,?_,trivial⟩,⟨?_,?_,?_,?_,?_,?_,?_,?_,?_,trivial⟩,⟨?_,?_,?_,?_,?_,?_,?_,?_,?_,trivial⟩,⟨?_,?_,?_,?_,?_,?_,?_,?_,?_,trivial⟩,⟨?_,?_,?_,?_,?_,?_,?_,?_,?_,trivial⟩,⟨?_,?_,?_,?_,?_,?_,?_,?_,?_,trivial⟩,trivial⟩<;>(dsimp only[L2.KOf];first | (refine' HS.QBB ?a ?b ?c ?d ?e ?f ?g;(case a=>k_is);(case b=>k_is);(case c=>k_is);(case d=>k_is);(case e=>k_is);(case f=>k_is);(case g=>k_is)) | (refine' HS.QvD ?a ?b ?c ?d;(case a=>k_is);(case b=>k_is);(case c=>kts_exm);(case d=>kit_is)) | (refine' HS.QxO ?a ?b ?c ?d;(case a=>k_is);(case b=>k_is);(case c=>kts_exm);(case d=>kit_is)))
  have x0:∀base:Heap,HS.Qfe (PySem.Challenge.rw_heapstill_k55_trees_refused).prog w (L2.KOf KX) mg base 0 []:=λ_=>HS.Qfe.nil;have h0:∀base:Heap,HS.QeL (PySem.Challenge.rw_heapstill_k55_trees_refused).prog w (L2.KOf KX) mg base 0 []:=λ_=>HS.QeL.nil;have y1:=λb=>(x0 b).cons (HS.Qdz KX G (by trivial) Law.QiA Law.Qj3 M (t0 b) (x0 b) hcl Law.Qo1);have t1:=λb=>(t0 b).cons (HS.Qco KX G (by trivial) Law.QiA Law.Qj3 M (t0 b) Law.QpL);have y2:=λb=>(y1 b).cons (HS.Qdz KX G (by trivial) Law.Qh4 Law.Qiw M (t1 b) (y1 b) hcl Law.QnA);have t2:=λb=>(t1 b).cons (HS.Qco KX G (by trivial) Law.Qh4 Law.Qiw M (t1 b) Law.QpK);have t3:=Law.kc KX G M t2 Law.Qx7 (by trivial);have t4:=Law.kc KX G M t3 Law.Qpm (by trivial);have t5:=Law.kc KX G M t4 Law.QpS (by trivial);have t6:=Law.kc KX G M t5 Law.Qyo (by trivial);have t7:=Law.kc KX G M t6 Law.Qst (by trivial);have y3:=λb=>(y2 b).mono (k:=7) (Zag rfl);have y4:=λb=>(y3 b).cons (HS.Qdz KX G (by trivial) Law.Qh3 Law.Qh9 M (t7 b) (y3 b) hcl Law.QnH);have t8:=λb=>(t7 b).cons (HS.Qco KX G (by trivial) Law.Qh3 Law.Qh9 M (t7 b) Law.Qpp);have t9:=Law.kc KX G M t8 Law.QnD (by trivial);have y5:=λb=>(y4 b).mono (k:=9) (Zag rfl);have y6:=λb=>(y5 b).cons (HS.Qdz KX G (by trivial) Law.Qqd Law.Qtk M (t9 b) (y5 b) hcl Law.QyQ);have t10:=λb=>(t9 b).cons (HS.Qco KX G (by trivial) Law.Qqd Law.Qtk M (t9 b) Law.Qzo);have t11:=Law.kc KX G M t10 Law.Qnx (by trivial);have t12:=Law.kc KX G M t11 Law.Qrn (by trivial);have t13:=Law.kc KX G M t12 Law.Qoa (by trivial);have t14:=Law.kc KX G M t13 Law.QpV (by trivial);have t15:=Law.kc KX G M t14 Law.Qty (by trivial);have t16:=Law.kc KX G M t15 Law.Qur (by trivial);have t17:=Law.kc KX G M t16 Law.QpZ (by trivial);have t18:=Law.kc KX G M t17 Law.Qrr (by trivial);have y7:=λb=>(y6 b).mono (k:=18) (Zag rfl);have y8:=λb=>(y7 b).cons (HS.Qdz KX G (by trivial) Law.Qja Law.QjL M (t18 b) (y7 b) hcl Law.Qpo);have t19:=λb=>(t18 b).cons (HS.Qco KX G (by trivial) Law.Qja Law.QjL M (t18 b) Law.Qp1);have t20:=Law.kc KX G M t19 Law.QpX (by trivial);have t21:=Law.kc KX G M t20 Law.QnB (by trivial);have y9:=λb=>(y8 b).mono (k:=21) (Zag rfl);have y10:=λb=>(y9 b).cons (HS.Qdz KX G (by trivial) Law.Qk5 Law.Qnj M (t21 b) (y9 b) hcl Law.Qsh);have t22:=λb=>(t21 b).cons (HS.Qco KX G (by trivial) Law.Qk5 Law.Qnj M (t21 b) Law.Quh);have t23:=Law.kc KX G M t22 Law.QnE (by trivial);have y11:=λb=>(y10 b).mono (k:=23) (Zag rfl);have y12:=λb=>(y11 b).cons (HS.Qdz KX G (by trivial) Law.Qi2 Law.Qj2 M (t23 b) (y11 b) hcl Law.Qpn);have t24:=λb=>(t23 b).cons (HS.Qco KX G (by trivial) Law.Qi2 Law.Qj2 M (t23 b) Law.QpT);have y13:=λb=>(y12 b).cons (HS.Qdz KX G (by trivial) Law.Qlf Law.QmS M (t24 b) (y12 b) hcl Law.Qrj);have t25:=λb=>(t24 b).cons (HS.Qco KX G (by trivial) Law.Qlf Law.QmS M (t24 b) Law.QsE);have y14:=λb=>(y13 b).cons (HS.Qdz KX G (by trivial) Law.Qil Law.QjH M (t25 b) (y13 b) hcl Law.Qop);have t26:=λb=>(t25 b).cons (HS.Qco KX G (by trivial) Law.Qil Law.QjH M (t25 b) Law.QpN);have t27:=Law.kc KX G M t26 Law.Qmw (by trivial);have t28:=Law.kc KX G M t27 Law.Qpr (by trivial);have t29:=Law.kc KX G M t28 Law.QrE (by trivial);have t30:=Law.kc KX G M t29 Law.QoR (by trivial);have t31:=Law.kc KX G M t30 Law.QpW (by trivial);have t32:=Law.kc KX G M t31 Law.Qp6 (by trivial);have t33:=Law.kc KX G M t32 Law.Qmf (by trivial);have t34:=Law.kc KX G M t33 Law.Qny (by trivial);have t35:=Law.kc KX G M t34 Law.Ql5 (by trivial);have t36:=Law.kc KX G M t35 Law.Ql0 (by trivial);have z1:=λb=>(h0 b).mono (k:=36) (Zag rfl);have z2:=λb=>(z1 b).cons (HS.QyB KX G (by trivial) Law.QnJ Law.QpH M hsub (z1 b) Law.QpE);have t37:=λb=>(t36 b).up (ZaE _);have y15:=λb=>(y14 b).mono (k:=37) (Zag rfl);have t38:=λb=>(t37 b).cons (HS.Qq8 KX G (by trivial) Law.Qod Law.QpM M (t37 b) (y15 b) hcl hsub (z2 b) Law.QpU);have t39:=Law.kc KX G M t38 Law.Qmn (by trivial);have y16:=λb=>(y14 b).mono (k:=39) (Zag rfl);have z3:=λb=>(z2 b).mono (k:=39) (Zag rfl);have t40:=λb=>(t39 b).cons (HS.Qq8 KX G (by trivial) Law.QkF Law.Qk4 M (t39 b) (y16 b) hcl hsub (z3 b) Law.Qk1);have t41:=Law.kc KX G M t40 Law.Qof (by trivial);have t42:=Law.kc KX G M t41 Law.QpQ (by trivial);exact HS.QBv KX G hmg (by trivial) Law.QzG Law.QCa M t42 Law.QBE
