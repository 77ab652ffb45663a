import PyProof.Rows.All
import Wide.All
import OpenK.AllK
import Wide.FinOn
import Lean
import PyProof.EqAt
import PyProof.EqKinds
import PyProof.TupleCall
import PyProof.Rows.TupTab
import PyProof.DictRoadsH
import PyProof.StrWalks
import PyProof.SliceStr2
import PyProof.StrBlockI
import PyProof.StrBlockG
import PyProof.StrCalls2
import KE.KIntText
import PyProof.Rows.StrSplitMax
import PyProof.ZipIter
import PyProof.EnumMake
import PyProof.Rows.FactsT2
import PyProof.Rows.EnumRows
import PyProof.P3In
import PyProof.NeData
import KE.KUnpack
import PyProof.Rows.TupDisplay
import PyProof.Rows.SumAny
import PyProof.Rows.MinMaxN
import PyProof.Rows.ListRangeD
import PyProof.Rows.Range3
import PyProof.Rows.RuleM_int
import PyProof.Rows.SortShell
import PyProof.Rows.StrNews2
import PyProof.Rows.FStrParts
import PyProof.Rows.SeqMore
import PyProof.DictWalks
import PyProof.ListRange
import PyProof.Rows.SetFrom
import PyProof.CollectIter
import PyProof.SetRoads
import KE.KTryOn
import PyProof.ExcBaseAll.ValueError
import PyProof.RulesAs
import PyProof.ExcAttrAll.ValueError
import PyProof.Rows.RegTopCatchBFacts
import KE.RegKTryMore
import KE.RegKIsAll
import KE.KPar
import PyProof.Rows.ReprOcc
import PyProof.StrLawsIdx
import PyProof.StrLawsIn
import PyProof.StrLawsJoin
import PyProof.StrLawsTight
import PyProof.StrLawsChain
import KE.IntTextText
import PyProof.StrLawsFirst
import PySem.Challenge.RW_heapstill_k73_texts_refused
set_option Elab.async false
set_option linter.all false
set_option maxRecDepth 100000
local macro_rules | `(⋯)=> `(by first | with_reducible assumption | with_reducible exact Int.natCast_nonneg _ | with_reducible exact Int.ofNat_lt.2 (by assumption) | omega | simp)
local macro_rules | `(∅)=> `(by decide) | `(nofun)=> `(by decide+kernel)
def Za:= @Option.bind_some
def Zb:= @Option.map_eq_some_iff
def Zc:= @List.mem_cons_of_mem
def Zd:= @List.length_append
def Ze:= @Nat.le_refl
def Zf:= @Bool.and_eq_true
def Zg:= @List.mem_append_right
def Zh:= @Nat.le_succ
def Zi:= @List.mem_singleton
def Zj:= @List.getElem?_eq_some_iff
def Zk:= @List.mem_append_left
def Zl:= @List.getElem?_set_ne
def Zm:= @Nat.lt_of_lt_of_le
def Zn:= @List.mem_cons
def Zo:= @List.length_map
def Zp:= @List.getElem?_set_self
def Zq:= @PySem.Heap.lt_size
def Zr:= @List.size_toArray
def Zs:= @List.map_cons
def Zt:= @List.lookup_cons
def Zu:= @PySem.Heap.get?_push_of_some
def Zv:= @List.getElem?_map
def Zw:= @List.mem_cons_self
def Zx:= @Nat.le_trans
def Zy:= @List.mem_of_getElem?
def Zz:= @List.mem_map
def ZA:= @PySem.Heap.get?_push_size
def ZC:= @List.all_eq_true
def ZD:= @List.getElem?_eq_none
def ZE:= @Nat.ne_of_lt
def ZF:= @List.map_map
def ZG:= @List.mem_append
def ZH:= @Nat.lt_irrefl
def ZI:= @List.length_singleton
def ZJ:= @List.append_nil
def ZK:= @Bool.false_ne_true
def ZL:= @List.drop_eq_getElem_cons
def ZM:= @List.length_cons
def ZN:= @List.count_eq_zero
def ZO:= @Option.map_some
def ZP:= @PySem.mem_of_lookup
def ZQ:= @Nat.zero_le
def ZR:= @List.replicate_succ
def ZS:= @Int.toNat_natCast
def ZT:= @Bool.not_eq_true'
def ZU:= @List.length_range
def ZV:= @List.map_append
def ZW:= @List.flatten_cons
def ZX:= @List.count_append
def ZY:= @List.length_replicate
def ZZ:= @List.nodup_nil
def Zaa:= @List.mem_filterMap
def Zab:= @List.sum_cons
def Zac:= @PySem.W.mg_of
def Zad:= @List.getD_eq_getElem?_getD
def Zae:= @List.getElem?_append_left
def Zaf:= @List.count_pos_iff
def Zag:= @List.getElem?_eq_getElem
def Zah:= @List.nodup_iff_count
def Zai:= @Array.length_toList
def Zaj:= @List.getElem?_range
def Zak:= @List.take_of_length_le
def Zal:= @List.take_length
def Zam:= @Bool.false_and
def Zan:= @List.take_append_drop
def Zao:= @List.set_eq_take_append_cons_drop
def Zap:= @List.nodup_cons
def Zaq:= @List.count_cons
def Zar:= @PySem.W.kia_one
def Zas:= @Bool.eq_iff_iff
def Zat:= @Bool.or_eq_false_iff
def Zau:= @Nat.pow_le_pow_right
def Zav:= @PySem.W.hideAll_get
def Zaw:= @PySem.F.plainAttrs_list
def Zax:= @List.eq_nil_of_length_eq_zero
def Zay:= @PySem.W.of_hideAll
def Zaz:= @PySem.Heap.get?_update_other
def ZaA:= @Bool.false_or
def ZaB:= @PyProof.Rows.callWith_type1
def ZaC:= @List.append_assoc
def ZaD:= @List.any_eq_false
def ZaE:= @List.getElem?_append_right
def ZaF:= @List.mem_of_mem_take
def ZaG:= @List.length_drop
def ZaH:= @List.cons_append
def ZaI:= @List.not_mem_nil
def ZaJ:= @List.map_congr_left
def ZaK:= @Bool.and_self
def ZaL:= @List.length_set
def ZaM:= @Bool.or_eq_true
def ZaN:= @Nat.min_eq_left
def ZaO:= @List.filter_append
def ZaP:= @List.mem_range
def ZaQ:= @PySem.W.cellsFrom_some
def ZaR:= @Nat.lt_succ_of_lt
def ZaS:= @List.any_map
def ZaT:= @List.nodup_append
def ZaU:= @Bool.and_false
def ZaV:= @List.take_succ
def ZaW:= @PyProof.Rows.boot_int
def ZaX:= @List.mem_flatten
def ZaY:= @Nat.min_le_right
def ZaZ:= @List.foldlM_cons
def Zba:= @List.drop_length
def Zbb:= @Nat.min_eq_right
def Zbc:= @List.all_cons
def Zbd:= @Nat.add_le_add_right
def Zbe:= @List.mem_of_mem_drop
def Zbf:= @List.of_mem_zip
def Zbg:= @PyProof.Rows.boot_isinstance
def Zbh:= @List.filterMap_cons
def Zbi:= @List.map_nil
def Zbj:= @List.all_nil
def Zbk:= @PySem.W.callWith_K
def Zbl:= @PySem.Heap.size_push
def Zbm:= @Classical.byContradiction
def Zbn:= @PySem.F.slot_list_extend
def Zbo:= @PySem.F.type_list_extend
def Zbp:= @Bool.and_true
def Zbq:= @Bool.true_and
def Zbr:= @List.length_take
def Zbs:= @List.getElem?_replicate
def Zbt:= @List.filter_cons
def Zbu:= @PyProof.Rows.boot_list
def Zbv:= @List.drop_eq_nil_of_le
def Zbw:= @List.drop_of_length_le
def Zbx:= @Int.emod_nonneg
def Zby:= @Nat.log2_lt
def Zbz:= @Bool.not_true
def ZbA:= @Bool.or_false
abbrev Mt2:=Nat->Nat->Int
abbrev Mt1:=Nat->Int
abbrev Lpp:=List (Int×Int)
abbrev LAd:=List PySem.Addr
abbrev Fgg:=PySem.W.Frag
namespace L2
open PySem PySem.Spec PyProof.Rows
noncomputable abbrev Key:=Sum Int Str
noncomputable def Qur:Key->Value->Bool
 | .inl k,v=>Value.isInt k v
 | .inr x,v=>Value.isStrOf x v
noncomputable def QAW(w:World):Key->Int
 | .inl k=>hashInt k
 | .inr x=>hashStr w x
def Qbi:∀{k:Key}{v:Value},Qur k v=true->(∃i t,k=Sum.inl i/\v=Value.int i t)∨(∃x t,k=Sum.inr x/\v=Value.str x t)
 | .inl i,v,h=>by
  obtain⟨t,e⟩:=Value.isInt_shape (k:=i) (v:=v) h;exact .inl ⟨i,t,rfl,e⟩
 | .inr x,v,h=>by
  obtain⟨t,e⟩:=Value.isStrOf_shape (x:=x) (v:=v) h;exact .inr ⟨x,t,rfl,e⟩
def Qzj(a b:Int):decide ((Sum.inl a:Key)=Sum.inl b)=(a == b):=by
 by_cases e:a=b
 .subst e;simp
 .have h:¬(Sum.inl a:Key)=Sum.inl b:=λq=>e (Sum.inl.inj q);rw[decide_eq_false h];exact(beq_eq_false_iff_ne.mpr e).symm
def Qxz(a b:Str):decide ((Sum.inr a:Key)=Sum.inr b)=decide (a=b):=by
 by_cases e:a=b
 .subst e;simp
 .have h:¬(Sum.inr a:Key)=Sum.inr b:=λq=>e (Sum.inr.inj q);rw[decide_eq_false h,decide_eq_false e]
def Qxx(a:Int)(b:Str):decide ((Sum.inl a:Key)=Sum.inr b)=false:=decide_eq_false (λq=>nomatch q)
def Qx2(a:Str)(b:Int):decide ((Sum.inr a:Key)=Sum.inl b)=false:=decide_eq_false (λq=>nomatch q)
noncomputable def QlP(prog:Program)(w:World):PySem.KeyKind prog w Key where
 is:=Qur
 hash:=QAW w
 inj:=λv a b ha hb=>by
  rcases Qbi ha with⟨i,t,rfl,rfl⟩ | ⟨x,t,rfl,rfl⟩
  .rcases Qbi hb with⟨j,u,rfl,e⟩ | ⟨y,u,rfl,e⟩
   .injection e with e1 _;rw[e1]
   .exact nomatch e
  .rcases Qbi hb with⟨j,u,rfl,e⟩ | ⟨y,u,rfl,e⟩
   .exact nomatch e
   .injection e with e1 _;rw[e1]
 byValue:=λk v h=>by
  rcases Qbi h with⟨i,t,rfl,rfl⟩ | ⟨x,t,rfl,rfl⟩<;>rfl
 pyHash:=λhv h=>by
  rcases Qbi hv with⟨i,t,rfl,rfl⟩ | ⟨x,t,rfl,rfl⟩
  .exact wpAny_pyHash_int h
  .exact wpAny_pyHash_str h
 eqBool:=λhu hv h=>by
  rcases Qbi hu with⟨i,t,rfl,rfl⟩ | ⟨x,t,rfl,rfl⟩
  .rcases Qbi hv with⟨j,u,rfl,rfl⟩ | ⟨y,u,rfl,rfl⟩
   .rw[Qzj]at h;exact wpAny_eqBool_int h
   .rw[Qxx]at h;exact SeqAt.EqAt.int_str i t y u _ _ _ _ h
  .rcases Qbi hv with⟨j,u,rfl,rfl⟩ | ⟨y,u,rfl,rfl⟩
   .rw[Qx2]at h;exact SeqAt.EqAt.str_int x t j u _ _ _ _ h
   .rw[Qxz]at h;exact wpAny_eqBool_str h
 «strs» :=λk x t v h=>by
  rcases Qbi h with⟨i,u,rfl,e⟩ | ⟨y,u,rfl,e⟩
  .exact nomatch e
  .injection e with e1 _;subst e1;cases v<;>rfl
inductive V where
 | non | bl (b:Bool) | int (i:Int) | str (x:Str) | byt (b:Array UInt8) | flt (b:UInt64) | ref (a:Addr) | ty (n:String)
 deriving DecidableEq
def RelV:V->Value->Prop
 | .non,u=>u=Value.none
 | .bl b,u=>u=Value.bool b
 | .int i,u=>∃t,u=Value.int i t
 | .str x,u=>∃t,u=Value.str x t
 | .byt b,u=>∃t,u=Value.bytes b t
 | .flt b,u=>∃t,u=Value.float b t
 | .ref a,u=>u=Value.ref a
 | .ty n,u=>u=Value.type n
abbrev QH:List V->List Value->Prop:=Paired RelV
def QH.length{xs:List V}{us:List Value}(r:QH xs us):xs.length=us.length:=Paired.length r
def QH.get:∀{xs:List V}{us:List Value}{i:Nat}{x:V},QH xs us->xs[i]? =some x->∃u,us[i]? =some u/\RelV x u
 | _,_,_,_,.nil,e=>by simp at e
 | _,_,0,_,.cons r _,e=>by simp at e;subst e;exact⟨_,rfl,r⟩
 | _,_,i+1,x,.cons _ t,e=>by
  obtain⟨u,h1,h2⟩:=QH.get (i:=i) (x:=x) t (by simpa using e);exact⟨u,by simpa using h1,h2⟩
def QH.set{x:V}{u:Value}(r:RelV x u):∀{xs:List V}{us:List Value}(i:Nat),QH xs us->QH (xs.set i x) (us.set i u)
 | _,_,_,.nil=> .nil
 | _,_,0,.cons _ t=> .cons r t
 | _,_,i+1,.cons q t=> .cons q (QH.set r i t)
def exK{α β γ δ:Type}{P Q R:α->β->γ->δ->Prop}{G:Prop}(k:∀a b c d,P a b c d->Q a b c d->R a b c d->G)(h:∃a b c d,P a b c d/\Q a b c d/\R a b c d):G:=let ⟨a,b,c,d,p,q,r⟩:=h;k a b c d p q r
def exJ{α β:Type}{P Q R:α->β->Prop}{G:Prop}(k:∀a b,P a b->Q a b->R a b->G)(h:∃a b,P a b/\Q a b/\R a b):G:=let ⟨a,b,p,q,r⟩:=h;k a b p q r
def QH.append{xs ys:List V}{us ws:List Value}(h:QH xs us)(s:QH ys ws):QH (xs++ys) (us++ws):=by
 induction h with
 | nil=>exact s
 | cons r t ih=>exact .cons r ih
def QH.take:∀{xs:List V}{us:List Value}(n:Nat),QH xs us->QH (xs.take n) (us.take n)
 | _,_,0,_=> .nil
 | _,_,_+1,.nil=> .nil
 | _,_,n+1,.cons r t=> .cons r (QH.take n t)
def QH.drop:∀{xs:List V}{us:List Value}(n:Nat),QH xs us->QH (xs.drop n) (us.drop n)
 | _,_,0,r=>r
 | _,_,_+1,.nil=> .nil
 | _,_,n+1,.cons _ t=>QH.drop n t
def Qxl:Option V->Option Value->Prop
 | some v,some u=>RelV v u
 | none,none=>True
 | _,_=>False
def KV{κ:Type}:List (κ×V)->List (κ×Value)->Prop:=Paired λ(p:κ×V) (q:κ×Value)=>p.1=q.1/\RelV p.2 q.2
noncomputable def kV:Key->V
 | .inl i=> .int i
 | .inr x=> .str x
inductive HO where
 | lst (xs:List V)
 | tup (xs:List V)
 | dK (kvs:List (Key×V)) | dT (kvs:List (List Key×V))
 | set (S:Int->Bool) (n:Nat)
 | ins (C dx:Addr) (fs:List (Str×V))
 | own (x:Addr)
 | xd (fs:List (Str×V))
 | met (f x:Addr)
 | rng (lo hi:Int)
 | frz (o:Obj) (u:HO)
 | tbl (ps:Array Value)
 | ext (φ:Heap->Prop)
noncomputable abbrev Hp:=Addr->Option HO
noncomputable def upd(H:Hp)(a:Addr)(o:HO):Hp:=λb=>if b=a then some o else H b
def QaM{H:Hp}{a:Addr}{o:HO}:upd H a o a=some o:=by unfold upd;rw[if_pos rfl]
def QQ{H:Hp}{a b:Addr}{o:HO}(h:b≠a):upd H a o b=H b:=by unfold upd;rw[if_neg h]
def Qm4{H:Hp}{a b:Addr}{o u:HO}(h:H a=some o)(h':H b=some u)(d:o≠u):a≠b:=by
 intro e;subst e;rw[h]at h';exact d (Option.some.inj h')
def QbA{H:Hp}{a b:Addr}{o:HO}(h:H a=some o)(h':H b=none):a≠b:=by
 intro e;subst e;rw[h]at h';cases h'
section
variable (P:Program) (w:World)
def Qb4(H:Hp)(h:Heap)(a:Addr):HO->Prop
 | .lst xs=>xs.length<=sizeLine/\∃(its:List Value) (n:Nat),QH xs its/\h.get? a=some {cls:= .type "list",data:= .seq its.toArray n}
 | .tup xs=>xs.length<=sizeLine/\∃its:List Value,QH xs its/\IsTup h a its.toArray
 | .dK kvs=>kvs.length<=sizeLine/\(a == sysModules)=false/\∃vs,KV kvs vs/\h.DictOf (QlP P w) a vs
 | .dT kvs=>kvs.length<=sizeLine/\(a == sysModules)=false/\∃xs:List (List Key×Addr×Value),
   Paired (λ(p:List Key×V) (q:List Key×Addr×Value)=>p.1=q.1/\H q.2.1=some (.tup (p.1.map kV))/\RelV p.2 q.2.2) kvs xs∧
   ∃o es ep,h.get? a=some o/\o.ExactDict/\o.data= .dict es ep/\es.toList=xs.map (entryOfKey (tupleKind (QlP P w)))/\(xs.map (·.1)).Nodup
 | .set S n=>h.SetOf (intKind P w) a S n
 | .ins C dx fs=>H dx=some (.own a)/\fs.length<=1000/\dx≠a/\h.get? a=some (PySem.W.instObj C dx)∧
   ∃mA,h.Ns1 dx mA/\(∀f,Qxl (fs.lookup f) (mA f))/\PySem.Within mA (fs.map (·.1))
 | .own _=>∃o,h.get? a=some o
 | .xd fs=>∃mA,h.Ns1 a mA/\∀f,Qxl (fs.lookup f) (mA f)
 | .rng lo hi=>∃t u v,h.get? a=some {cls:= .type "range",data:= .fields #[.int lo t,.int hi u,.int 1 v]}
 | .frz o u=>h.get? a=some o/\Qb4 H h a u
 | .tbl ps=>h.get? a=some {cls:= .none,data:= .fields ps}
 | .met f x=>h.get? a=some (PySem.W.methodObj (.ref f) (.ref x))
 | .ext φ=>φ h/\(∃o,h.get? a=some o)/\∀h1 h2:Heap,φ h1->(∀o,h1.get? a=some o->h2.get? a=some o)->φ h2
def HOk(H:Hp)(h:Heap):Prop:=∀a o,H a=some o->Qb4 P w H h a o
end
section
variable {P:Program}{w:World}{H H':Hp}{h h':Heap}{a:Addr}{o:HO}
def Qb4.lt(x:Qb4 P w H h a o):a<h.objs.size:=by
 cases o with
 | lst xs=>obtain⟨_,_,_,_,e⟩:=x;exact Zq e
 | tup xs=>obtain⟨_,_,_,p⟩:=x;exact p.lt
 | dK kvs=>obtain⟨_,_,_,_,o,_,_,e,_⟩:=x;exact Zq e
 | dT kvs=>obtain⟨_,_,_,_,o,_,_,e,_⟩:=x;exact Zq e
 | set S n=>obtain⟨o,_,_,_,e,_⟩:=x;exact Zq e
 | ins C dx fs=>obtain⟨_,_,_,e,_⟩:=x;exact Zq e
 | own y=>obtain⟨_,e⟩:=x;exact Zq e
 | xd fs=>obtain⟨_,⟨_,_,_,e,_⟩,_⟩:=x;exact Zq e
 | rng lo hi=>obtain⟨_,_,_,e⟩:=x;exact Zq e
 | frz ob u=>obtain⟨e,_⟩:=x;exact Zq e
 | tbl ps=>exact Zq (show h.get? a=some _ from x)
 | met f y=>exact Zq (show h.get? a=some _ from x)
 | ext φ=>obtain⟨_,⟨_,e⟩,_⟩:=x;exact Zq e
def Paired.Qxj{α β:Type}{F G:α->β->Prop}:∀{l₁:List α}{l₂:List β},Paired F l₁ l₂->(∀a b,F a b->G a b)->Paired G l₁ l₂
 | _,_,.nil,_=> .nil
 | _,_,.cons r t,f=> .cons (f _ _ r) (Paired.Qxj t f)
def Qb4.QgR(x:Qb4 P w H h a o)(k:∀b u,(b=a∨H b=some (.own a))->h.get? b=some u->h'.get? b=some u)
  (ho:∀b,H b=some (.own a)->H' b=some (.own a)) (ht:∀b xs,H b=some (.tup xs)->H' b=some (.tup xs)):Qb4 P w H' h' a o:=by
 induction o with
 | lst xs=>obtain⟨z,its,n,r,e⟩:=x;exact⟨z,its,n,r,k _ _ (.inl rfl) e⟩
 | tup xs=>obtain⟨z,its,r,ob,e,c⟩:=x;exact⟨z,its,r,ob,k _ _ (.inl rfl) e,c⟩
 | dK kvs=>obtain⟨z,y,vs,r,ob,es,ep,e,c⟩:=x;exact⟨z,y,vs,r,ob,es,ep,k _ _ (.inl rfl) e,c⟩
 | dT kvs=>
  obtain⟨z,y,xs,r,ob,es,ep,e,c⟩:=x;exact⟨z,y,xs,Paired.Qxj r λp q z=>⟨z.1,ht _ _ z.2.1,z.2.2⟩,ob,es,ep,k _ _ (.inl rfl) e,c⟩
 | set S n=>obtain⟨ob,es,ep,t,e,c⟩:=x;exact⟨ob,es,ep,t,k _ _ (.inl rfl) e,c⟩
 | ins C dx fs=>
  obtain⟨d,z,ne,e,mA,⟨od,es,ep,e2,c⟩,r⟩:=x;exact⟨ho _ d,z,ne,k _ _ (.inl rfl) e,mA,⟨od,es,ep,k _ _ (.inr d) e2,c⟩,r⟩
 | own y=>obtain⟨ob,e⟩:=x;exact⟨ob,k _ _ (.inl rfl) e⟩
 | xd fs=>obtain⟨mA,⟨od,es,ep,e,c⟩,r⟩:=x;exact⟨mA,⟨od,es,ep,k _ _ (.inl rfl) e,c⟩,r⟩
 | rng lo hi=>obtain⟨t,u,v,e⟩:=x;exact⟨t,u,v,k _ _ (.inl rfl) e⟩
 | frz ob u ih=>obtain⟨e,q⟩:=x;exact⟨k _ _ (.inl rfl) e,ih q⟩
 | tbl ps=>
  have e:h.get? a=some {cls:= .none,data:= .fields ps}:=x;show h'.get? a=some {cls:= .none,data:= .fields ps};exact k a _ (.inl rfl) e
 | met f y=>
  have e:h.get? a=some (PySem.W.methodObj (.ref f) (.ref y)):=x;show h'.get? a=some (PySem.W.methodObj (.ref f) (.ref y));exact k a _ (.inl rfl) e
 | ext φ=>obtain⟨p,⟨o,e⟩,st⟩:=x;exact⟨st _ _ p λo q=>k _ _ (.inl rfl) q,⟨o,k _ _ (.inl rfl) e⟩,st⟩
def HOk.lt(x:HOk P w H h)(e:H a=some o):a<h.objs.size:=(x a o e).lt
def HOk.fresh(x:HOk P w H h)(e:h.objs.size<=a):H a=none:=by
 cases q:H a with
 | none=>rfl
 | some u=>exact absurd (Zm (x.lt q) e) (ZH _)
def HOk.kept(x:HOk P w H h)(k:∀b u,h.get? b=some u->h'.get? b=some u):HOk P w H h':=λa o e=>
 (x a o e).QgR (λb u _ q=>k b u q) (λ_ q=>q) λ_ _ q=>q
def HOk.laid(x:HOk P w H h)(k:∀b u,h.get? b=some u->h'.get? b=some u)(hp:h.objs.size<=a)(new:Qb4 P w (upd H a o) h' a o):HOk P w (upd H a o) h':=λb u e=>by
 have hn:=x.fresh hp;by_cases hb:b=a
 .subst hb;rw[QaM]at e;cases e;exact new
 .rw[QQ hb]at e;exact(x b u e).QgR (λc v _ q=>k c v q) (λc q=>by rw[QQ (QbA q hn)];exact q) λc xs q=>by rw[QQ (QbA q hn)];exact q
end
def Rd(H:Hp)(a:Addr)(u:HO):Prop:=H a=some u∨∃o,H a=some (.frz o u)
def Rd.ok{P:Program}{w:World}{H:Hp}{h:Heap}{a:Addr}{u:HO}(r:Rd H a u)(x:HOk P w H h):Qb4 P w H h a u:=by
 rcases r with r | ⟨o,r⟩
 .exact x a u r
 .obtain⟨_,q⟩:=x a _ r;exact q
def Mut:Option HO->Prop
 | some (.lst _)=>True
 | some (.dK _)=>True
 | some (.dT _)=>True
 | some (.set _ _)=>True
 | some (.ins _ _ _)=>True
 | some (.ext _)=>True
 | _=>False
section
variable {P:Program}{w:World}{H:Hp}{h h':Heap}{x e:Addr}{o':HO}
def HOk.write(ok:HOk P w H h)(mu:Mut (H x))(he:e=x∨H e=some (.own x))(k:∀b u,b≠e->h.get? b=some u->h'.get? b=some u)(heo:∃u,h'.get? e=some u)
  (new:Qb4 P w (upd H x o') h' x o'):HOk P w (upd H x o') h':=λb u q=>by
 have nown:∀c y,H c=some (.own y)->c≠x:=λc y r z=>by subst z;rw[r]at mu;exact mu
 have ntup:∀c xs,H c=some (.tup xs)->c≠x:=λc xs r z=>by subst z;rw[r]at mu;exact mu
 by_cases hb:b=x
 .subst hb;rw[QaM]at q;cases q;exact new
 .rw[QQ hb]at q;by_cases hbe:b=e
  .have q':H b=some (.own x):=by
    rcases he with z | z
    .exact absurd (hbe.trans z) hb
    .rw[hbe];exact z
   rw[q]at q';cases q';obtain⟨v,hv⟩:=heo;exact⟨v,by rw[hbe];exact hv⟩
  .refine(ok b u q).QgR (λc v hc r=>k c v ?_ r) (λc r=>by rw[QQ (nown c b r)];exact r) λc xs r=>by rw[QQ (ntup c xs r)];exact r
   rcases hc with rfl | hc
   .exact hbe
   .rintro rfl;rcases he with z | z
    .exact nown c b hc z
    .rw[hc]at z;cases z;exact hb rfl
end
structure Un (fs ex:LAd) (H H':Hp) (h h':Heap):Prop where
 keep:∀b o,h.get? b=some o->H b=none->b∉fs->b∉ex->h'.get? b=some o
 slot:∀b o,h.get? b=some o->H b=none->b∈fs->b∉ex->∃sl,h'.get? b=some {o with slots:=sl}
 free:∀b o,h.get? b=some o->H b=none->b∉ex->H' b=none
 there:∀b o,h.get? b=some o->b∉ex->∃o',h'.get? b=some o'
 tups:∀b xs,H b=some (.tup xs)->H' b=some (.tup xs)
 frzs:∀b o u,H b=some (.frz o u)->H' b=some (.frz o u)
 tbls:∀b ps,H b=some (.tbl ps)->∃more,H' b=some (.tbl (ps++more))
section
variable {fs fs' ex ex':LAd}{H H1 H2:Hp}{h h1 h2 h':Heap}{a x e:Addr}{o:HO}
def Un.any(u:Un fs ex H H1 h h1){b:Addr}{ob:Obj}(q:h.get? b=some ob)(n:H b=none)(hx:b∉ex):∃sl,h1.get? b=some {ob with slots:=sl}:=by
 by_cases hb:b∈fs
 .exact u.slot b ob q n hb hx
 .exact⟨ob.slots,u.keep b ob q n hb hx⟩
def Un.kept(k:∀b u,h.get? b=some u->h'.get? b=some u):Un fs ex H H h h':=
 ⟨λb ob q _ _ _=>k b ob q,λb ob q _ _ _=>⟨ob.slots,k b ob q⟩,λ_ _ _ n _=>n,λb ob q _=>⟨ob,k b ob q⟩,λ_ _ q=>q,λ_ _ _ q=>q,λ_ ps q=>⟨#[],by rw[q];simp⟩⟩
def Un.refl:Un fs ex H H h h:=Un.kept λ_ _ q=>q
def Un.laid(k:∀b u,h.get? b=some u->h'.get? b=some u)(hp:h.objs.size<=a)(hn:H a=none):Un fs ex H (upd H a o) h h' where
 keep:=λb u q _ _ _=>k b u q
 slot:=λb u q _ _ _=>⟨u.slots,k b u q⟩
 free:=λb u q n _=>by rw[QQ (ZE (Zm (Zq q) hp))];exact n
 there:=λb u q _=>⟨u,k b u q⟩
 tups:=λb xs q=>by rw[QQ (QbA q hn)];exact q
 frzs:=λb u xs q=>by rw[QQ (QbA q hn)];exact q
 tbls:=λb ps q=>⟨#[],by rw[QQ (QbA q hn),q];simp⟩
def Un.write(mu:Mut (H x))(he:e=x∨H e=some (.own x))(k:∀b u,b≠e->h.get? b=some u->h'.get? b=some u)(heo:∃u,h'.get? e=some u):Un fs ex H (upd H x o) h h':=by
 have hx:∀b,H b=none->b≠x:=λb n z=>by subst z;rw[n]at mu;exact mu
 have hb:∀b,H b=none->b≠e:=λb n z=>by
  subst z;rcases he with r | r
  .exact hx b n r
  .rw[n]at r;cases r
 have hm:∀b u,H b=some u->¬Mut (some u)->b≠x:=λb u q nm z=>by subst z;rw[q]at mu;exact nm mu
 refine⟨λb u q n _ _=>k b u (hb b n) q,λb u q n _ _=>⟨u.slots,k b u (hb b n) q⟩,λb u q n _=>by rw[QQ (hx b n)];exact n,λb u q _=>?_,
  λb xs q=>by rw[QQ (hm b _ q λz=>z)];exact q,λb u xs q=>by rw[QQ (hm b _ q λz=>z)];exact q,λb ps q=>⟨#[],by rw[QQ (hm b _ q λz=>z),q];simp⟩⟩
 by_cases hbe:b=e
 .subst hbe;exact heo
 .exact⟨u,k b u hbe q⟩
end
noncomputable def trk(h:Heap)(H:Hp):List Addr:=(List.range h.objs.size).filter λa=>(H a).isSome
noncomputable def QhT(h:Heap)(H:Hp):Heap:=PySem.W.hideAll h (trk h H)
def QrV(h:Heap)(H:Hp):(QhT h H).objs.size=h.objs.size:=PySem.W.hideAll_size _ _
def Qs8{h:Heap}{H:Hp}{b:Addr}{o:Obj}(e:h.get? b=some o)(n:H b=none):(QhT h H).get? b=some o:=
 Zav _ e λhm=>by
  have q:(H b).isSome=true:=(List.mem_filter.mp hm).2;rw[n]at q;simp at q
def QvU{h:Heap}{H:Hp}{b:Addr}{o:Obj}(e:(QhT h H).get? b=some o):h.get? b=some o/\H b=none:=by
 have e':h.get? b=some o:=Zay (trk h H) e;refine⟨e',?_⟩;cases q:H b with
 | none=>rfl
 | some x=>
  have hm:b∈trk h H:=List.mem_filter.mpr ⟨ZaP.mpr (Zq e'),by simp[q]⟩;have z:(QhT h H).get? b=none:=PySem.W.hideAll_none (trk h H) hm;rw[z]at e;cases e
structure Mod (K:Fgg) (mg:Str->Option Value) (base:Heap):Prop where
 kin:K.In base
 glob:base.Ns mainGlobals mg
 blt:∃mb,base.Ns builtinsNs mb/\∀x:Str,x≠ "__name__" ->mb x=bootBuiltins x
 nolimit:base.NoLimit
structure Cx where
 prog:Program
 w:World
 K:PySem.W.Frag
 mg:Str->Option Value
 base:Heap
 A:Around
 N:List Str
 s₀:Shared
 H₀:Hp
 env:Env
 outer:List Env
 stack:List Env
 ex:List Addr
 fn:Str->Bool
 calm:Bool
 pn:List (Addr×Obj)
 xe:Value->Shared->Prop
noncomputable def frs(l:List Env):List Addr:=l.filterMap (·.frame)
noncomputable abbrev Cx.fs(X:Cx):List Addr:=frs X.outer
def Vis(sc:Scope)(x:Str):Prop:=sc.names.lookup x=some .local ∨sc.names.lookup x=some .cell∨sc.names.lookup x=some .free
def Loc(sc:Scope)(x:Str):Prop:=sc.names.lookup x=some .local ∨sc.names.lookup x=some .cell
def Look(env:Env)(h:Heap)(m:Str->Option Value)(x:Str)(u:Value):Prop:=
 (env.kindOf x=some .local /\m x=some u)∨((env.kindOf x=some .cell∨env.kindOf x=some .free)/\∃c,env.cells.lookup x=some c/\h.IsCell c (some u))
structure Cx.Ok (X:Cx):Prop where
 mod:Mod X.K X.mg X.base
 kind:X.env.scope.kind= .function
 glob:X.env.globals=mainGlobals
 blt:X.env.builtins=builtinsNs
 above:X.s₀.heap.objs.size<=X.env.locals
 inj:∀x y c,X.env.cells.lookup x=some c->X.env.cells.lookup y=some c->x=y
 has:∀x,(X.env.kindOf x=some .cell∨X.env.kindOf x=some .free)->∃c,X.env.cells.lookup x=some c
 cab:∀x c,X.fn x=true->X.env.cells.lookup x=some c->X.s₀.heap.objs.size<=c
 hd:X.calm=true->X.A.handled=none
 frames:X.A.frames=some X.stack
 stk:X.stack=X.outer∨(X.stack=X.env::X.outer/\X.env.frame=some X.env.locals)
 exf:∀b∈X.ex,b≠X.env.locals/\∀x c,X.env.cells.lookup x=some c->c≠b
 bs:∀b o,X.base.get? b=some o->X.s₀.heap.get? b=some o/\X.H₀ b=none
 bsz:X.base.objs.size<=X.s₀.heap.objs.size
 noex:∀b o,X.base.get? b=some o->b∉X.ex
 exfs:∀b∈X.ex,b∉X.fs
 Qel:X.s₀.heap.FunFrames X.base X.outer
 frf:∀b∈X.fs,X.H₀ b=none
structure Inv (X:Cx) (pins:List (Addr×Obj)) (σ:List (Option V)) (H:Hp) (s:Shared):Prop where
 ok:X.Ok
 os:s.os=X.s₀.os
 bare:AllBare s.gens
 base:Un X.fs X.ex X.H₀ H X.s₀.heap s.heap
 loc:∃m,s.heap.Ns X.env.locals m/\∀(i:Nat) (x:Str) (v:V),X.N[i]? =some x->σ[i]? =some (some v)->Vis X.env.scope x->∃u,RelV v u/\Look X.env s.heap m x u
 cell:∀x c,X.env.cells.lookup x=some c->∃v,s.heap.IsCell c v
 free:H X.env.locals=none
 freeC:∀x c,X.env.cells.lookup x=some c->H c=none
 pin:∀p∈X.pn++pins,s.heap.get? p.1=some p.2/\H p.1=none/\p.1≠X.env.locals/\p.1∉X.fs/\∀v,p.2.data≠ .cell v
 hok:HOk X.prog X.w H s.heap
 len:σ.length=X.N.length
section
variable {X:Cx}{pins:List (Addr×Obj)}{σ:List (Option V)}{H H':Hp}{s:Shared}{h':Heap}
def Cx.Ok.QAF(ok:X.Ok){b:Addr}{o:Obj}(e:X.base.get? b=some o):b∉X.fs:=λhb=>by
 have:=(ok.Qel.mem hb).1;rw[e]at this;cases this
def Inv.bs(I:Inv X pins σ H s):∀b o,X.base.get? b=some o->s.heap.get? b=some o/\H b=none:=λb o e=>
 ⟨I.base.keep b o (I.ok.bs b o e).1 (I.ok.bs b o e).2 (I.ok.QAF e) (I.ok.noex b o e),I.base.free b o (I.ok.bs b o e).1 (I.ok.bs b o e).2 (I.ok.noex b o e)⟩
def Inv.bk(I:Inv X pins σ H s):∀b o,X.base.get? b=some o->s.heap.get? b=some o:=λb o e=>(I.bs b o e).1
def Inv.mod(I:Inv X pins σ H s):Mod X.K X.mg X.base:=I.ok.mod
def Inv.kIn(I:Inv X pins σ H s):X.K.In s.heap:=I.ok.mod.kin.keeps I.bk
def Inv.lt(I:Inv X pins σ H s):X.env.locals<s.heap.objs.size:=let ⟨_,hn,_⟩:=I.loc;hn.lt
def Inv.sz(I:Inv X pins σ H s):X.s₀.heap.objs.size<=s.heap.objs.size:=Zx I.ok.above (Nat.le_of_lt I.lt)
def Inv.Qyj(I:Inv X pins σ H s){a:Addr}(h:s.heap.objs.size<=a):a∉X.fs:=λhb=>by
 obtain⟨_,o,ho,_⟩:=I.ok.Qel.mem hb;exact absurd (Zm (Zq ho) (Zx I.sz h)) (ZH _)
def Inv.cne(I:Inv X pins σ H s):∀x c,X.env.cells.lookup x=some c->c≠X.env.locals:=λx c e z=>by
 obtain⟨v,o,ho,hd⟩:=I.cell x c e;obtain⟨m,⟨o',es,ep,ho',hd',_⟩,_⟩:=I.loc;rw[z,ho']at ho;cases ho;rw[hd']at hd;cases hd
def Inv.Qel(I:Inv X pins σ H s):s.heap.FunFrames X.base X.outer:=by
 have all:∀(l:List Env),(∀b∈frs l,b∈X.fs)->X.s₀.heap.FunFrames X.base l->s.heap.FunFrames X.base l:=by
  intro l
  induction l with
  | nil=>intro _ _;trivial
  | cons env r ih=>
   intro hs hl;obtain⟨hk,⟨L,o,hf,hn,ho,hd⟩,hr⟩:=hl;have hL:L∈X.fs:=hs L (by unfold frs;rw[Zbh,hf];exact Zw);obtain⟨sl,e⟩:=I.base.slot L o ho (I.ok.frf L hL) hL λz=>I.ok.exfs L z hL;exact⟨hk,⟨L,_,hf,hn,e,hd⟩,ih (λb hb=>hs b (by unfold frs;rw[Zbh,hf];exact Zc _ hb)) hr⟩
 exact all X.outer (λ_ hb=>hb) I.ok.Qel
def Inv.stack(I:Inv X pins σ H s):s.heap.FunFrames X.base X.stack:=by
 rcases I.ok.stk with e | ⟨e,hf⟩
 .rw[e];exact I.Qel
 .rw[e];obtain⟨m,hn,_⟩:=I.loc;refine .cons (by rw[I.ok.kind];decide) hf hn ?_ I.Qel;exact Heap.get?_none_of_le (Zx I.ok.bsz I.ok.above)
def Inv.QdA(I:Inv X pins σ H s):∀b∈frs X.stack,b∈X.env.locals::X.fs:=λb hb=>by
 rcases I.ok.stk with e | ⟨e,hf⟩
 .rw[e]at hb;exact Zc _ hb
 .rw[e]at hb;unfold frs at hb;rw[Zbh,hf]at hb;exact hb
def Inv.Qlv(I:Inv X pins σ H s):∀b∈frs X.stack,H b=none:=λb hb=>by
 rcases Zn.mp (I.QdA b hb)with e | hb
 .rw[e];exact I.free
 .obtain⟨_,o,ho,_⟩:=I.ok.Qel.mem hb;exact I.base.free b o ho (I.ok.frf b hb) λz=>I.ok.exfs b z hb
def Inv.step{g':Array GenState}{t':Nat}{d':Drawn}{ch:LAd}(I:Inv X pins σ H s)
  (hch:∀b∈ch,(b∈X.ex∨X.s₀.heap.objs.size<=b)/\b≠X.env.locals/\(∀x c,X.env.cells.lookup x=some c->c≠b)/\∀p∈X.pn++pins,p.1≠b)
  (keep:∀b o,b≠X.env.locals->b∉X.fs->b∉ch->s.heap.get? b=some o->H b=none->h'.get? b=some o)
  (slot:∀b o,b≠X.env.locals->b∈X.fs->b∉ch->s.heap.get? b=some o->H b=none->∃sl,h'.get? b=some {o with slots:=sl}) (free:∀b o,b∉ch->s.heap.get? b=some o->H b=none->H' b=none)
  (there:∀b o,b∉ch->s.heap.get? b=some o->∃o',h'.get? b=some o')
  (tups:∀b xs,H b=some (.tup xs)->H' b=some (.tup xs)) (frzs:∀b o u,H b=some (.frz o u)->H' b=some (.frz o u)) (tbls:∀b ps,H b=some (.tbl ps)->∃more,H' b=some (.tbl (ps++more)))
  (ns:∀m,s.heap.Ns X.env.locals m->h'.Ns X.env.locals m) (hok:HOk X.prog X.w H' h') (hg:AllBare g'):
  Inv X pins σ H' {s with heap:=h',gens:=g',drawn:=d',toks:=t'}:=by
 have neL:∀b o,X.s₀.heap.get? b=some o->b≠X.env.locals:=λb o e=>ZE (Zm (Zq e) I.ok.above);have neC:∀b o,X.s₀.heap.get? b=some o->b∉X.ex->b∉ch:=λb o e hx hb=>by
  rcases(hch b hb).1 with z | z
  .exact hx z
  .exact absurd (Zm (Zq e) z) (ZH _)
 have cellK:∀x c,X.env.cells.lookup x=some c->∀v,s.heap.IsCell c v->h'.IsCell c v:=λx c e v Z=>by
  obtain⟨o,ho,hd⟩:=Z;have nch:c∉ch:=λz=>(hch c z).2.2.1 x c e rfl;by_cases hc:c∈X.fs
  .obtain⟨sl,q⟩:=slot c o (I.cne x c e) hc nch ho (I.freeC x c e);exact⟨_,q,hd⟩
  .exact⟨o,keep c o (I.cne x c e) hc nch ho (I.freeC x c e),hd⟩
 refine⟨I.ok,I.os,hg,⟨λb o e n hb hx=>?_,λb o e n hb hx=>?_,λb o e n hx=>?_,λb o e hx=>?_,λb xs e=>tups b xs (I.base.tups b xs e),λb o xs e=>frzs b o xs (I.base.frzs b o xs e),λb ps e=>?_⟩,?_,λx c e=>?_,?_,λx c e=>?_,λp hp=>?_,hok,I.len⟩
 .exact keep b o (neL b o e) hb (neC b o e hx) (I.base.keep b o e n hb hx) (I.base.free b o e n hx)
 .obtain⟨sl,e1⟩:=I.base.slot b o e n hb hx;obtain⟨sl',e2⟩:=slot b _ (neL b o e) hb (neC b o e hx) e1 (I.base.free b o e n hx);exact⟨sl',e2⟩
 .obtain⟨o',e1⟩:=I.base.there b o e hx;exact free b o' (neC b o e hx) e1 (I.base.free b o e n hx)
 .obtain⟨o',e1⟩:=I.base.there b o e hx;exact there b o' (neC b o e hx) e1
 .obtain⟨m1,e1⟩:=I.base.tbls b ps e;obtain⟨m2,e2⟩:=tbls b _ e1;exact⟨m1++m2,by rw[e2,Array.append_assoc]⟩
 .obtain⟨m,hn,hl⟩:=I.loc;refine⟨m,ns m hn,λi x v e1 e2 e3=>?_⟩;obtain⟨u,r,l⟩:=hl i x v e1 e2 e3;refine⟨u,r,?_⟩;rcases l with l | ⟨k,c,e,z⟩
  .exact .inl l
  .exact .inr ⟨k,c,e,cellK x c e _ z⟩
 .obtain⟨v,z⟩:=I.cell x c e;exact⟨v,cellK x c e v z⟩
 .obtain⟨m,⟨o,_,_,ho,_⟩,_⟩:=I.loc;exact free _ o (λz=>(hch _ z).2.1 rfl) ho I.free
 .obtain⟨v,o,ho,hd⟩:=I.cell x c e;exact free c o (λz=>(hch c z).2.2.1 x c e rfl) ho (I.freeC x c e)
 .obtain⟨e,n,ne,nf,d⟩:=I.pin p hp;have nch:p.1∉ch:=λz=>(hch p.1 z).2.2.2 p hp rfl;exact⟨keep p.1 p.2 ne nf nch e n,free p.1 p.2 nch e n,ne,nf,d⟩
def Inv.un{t':Nat}(I:Inv X pins σ H s)(u:Un X.fs [] H H' s.heap h')(hok:HOk X.prog X.w H' h'):Inv X pins σ H' {s with heap:=h',toks:=t'}:=by
 obtain⟨m,⟨o,es,ep,ho,r⟩,_⟩:=id I.loc;obtain⟨sl,hL⟩:=u.any ho I.free ⋯;exact I.step (g':=s.gens) (d':=s.drawn) (ch:=[]) (λ_ z=>nomatch z) (λb o _ hb _ e n=>u.keep b o e n hb ⋯) (λb o _ hb _ e n=>u.slot b o e n hb ⋯) (λb o _ e n=>u.free b o e n ⋯) (λb o _ e=>u.there b o e ⋯) u.tups u.frzs u.tbls (λm' hm=>by
  obtain⟨o',es',ep',ho',r'⟩:=hm;rw[ho]at ho';cases ho';exact⟨_,es',ep',hL,r'⟩) hok I.bare
def Inv.call{g':Array GenState}{t':Nat}{d':Drawn}{ch:LAd}(I:Inv X pins σ H s)(u:Un (frs X.stack) ch H H' s.heap h')(hok:HOk X.prog X.w H' h')(hg:AllBare g')
  (hch:∀b∈ch,(b∈X.ex∨X.s₀.heap.objs.size<=b)/\b≠X.env.locals/\(∀x c,X.env.cells.lookup x=some c->c≠b)/\∀p∈X.pn++pins,p.1≠b):
  Inv X pins σ H' {s with heap:=h',gens:=g',drawn:=d',toks:=t'}:=by
 obtain⟨m,⟨o,es,ep,ho,r⟩,_⟩:=id I.loc;obtain⟨sl,hL⟩:=u.any ho I.free λz=>(hch _ z).2.1 rfl;exact I.step (ch:=ch) hch (λb o hL hb hc e n=>u.keep b o e n (λz=>(Zn.mp (I.QdA b z)).elim hL hb) hc) (λb o _ _ hc e n=>u.any e n hc) (λb o hc e n=>u.free b o e n hc) (λb o hc e=>u.there b o e hc) u.tups u.frzs u.tbls (λm' hm=>by
  obtain⟨o',es',ep',ho',r'⟩:=hm;rw[ho]at ho';cases ho';exact⟨_,es',ep',hL,r'⟩) hok hg
def Inv.turned{t':Nat}{it:Addr}(I:Inv X pins σ H s)(k:∀b o,b≠it->s.heap.get? b=some o->h'.get? b=some o)(hn:H it=none)(hL:it≠X.env.locals)
  (h1:it∈X.ex∨X.s₀.heap.objs.size<=it) (h2:∀x c,X.env.cells.lookup x=some c->c≠it) (h3:∀p∈X.pn++pins,p.1≠it):Inv X pins σ H {s with heap:=h',toks:=t'}:=by
 have nit:∀b u,H b=some u->b≠it:=λb u e z=>by rw[z,hn]at e;cases e
 refine I.step (g':=s.gens) (d':=s.drawn) (ch:=[it]) (λb hb=>?_) (λb o _ _ hc e _=>k b o (λz=>hc (by simp[z])) e) (λb o _ _ hc e _=>⟨o.slots,k b o (λz=>hc (by simp[z])) e⟩) (λ_ _ _ _ n=>n)
  (λb o hc e=>⟨o,k b o (λz=>hc (by simp[z])) e⟩) (λ_ _ e=>e) (λ_ _ _ e=>e) (λb ps e=>⟨#[],by rw[e];simp⟩) (λm hm=>?_) (λb u e=>?_) I.bare
 .have e:b=it:=by simpa using hb
  subst e;exact⟨h1,hL,h2,h3⟩
 .obtain⟨o,es,ep,ho,r⟩:=hm;exact⟨o,es,ep,k _ o (Ne.symm hL) ho,r⟩
 .refine(I.hok b u e).QgR (λc v hc q=>k c v ?_ q) (λ_ q=>q) λ_ _ q=>q;rcases hc with z | z
  .rw[z];exact nit b u e
  .exact nit c _ z
def Inv.tok(I:Inv X pins σ H s)(t:Nat):Inv X pins σ H {s with toks:=t}:=I.un (h':=s.heap) (t':=t) Un.refl I.hok
def Inv.kept{t':Nat}(I:Inv X pins σ H s)(k:∀b u,s.heap.get? b=some u->h'.get? b=some u):Inv X pins σ H {s with heap:=h',toks:=t'}:=I.un (Un.kept k) (I.hok.kept k)
def Inv.laid{a:Addr}{o:HO}{t':Nat}(I:Inv X pins σ H s)(k:∀b u,s.heap.get? b=some u->h'.get? b=some u)(hp:s.heap.objs.size<=a)(new:Qb4 X.prog X.w (upd H a o) h' a o):
  Inv X pins σ (upd H a o) {s with heap:=h',toks:=t'}:=I.un (Un.laid k hp (I.hok.fresh hp)) (I.hok.laid k hp new)
def Inv.write{x e:Addr}{o:HO}{t':Nat}(I:Inv X pins σ H s)(mu:Mut (H x))(he:e=x∨H e=some (.own x))(k:∀b u,b≠e->s.heap.get? b=some u->h'.get? b=some u)(heo:∃u,h'.get? e=some u)
  (new:Qb4 X.prog X.w (upd H x o) h' x o):Inv X pins σ (upd H x o) {s with heap:=h',toks:=t'}:=I.un (Un.write mu he k heo) (I.hok.write mu he k heo new)
def Inv.weak{σ':List (Option V)}(I:Inv X pins σ H s)(hl:σ'.length=σ.length)(w:∀(i:Nat) v,σ'[i]? =some (some v)->σ[i]? =some (some v)):Inv X pins σ' H s:=
 ⟨I.ok,I.os,I.bare,I.base,let ⟨m,hn,hl'⟩:=I.loc;⟨m,hn,λi x v e1 e2 e3=>hl' i x v e1 (w i v e2) e3⟩,I.cell,I.free,I.freeC,I.pin,I.hok,hl.trans I.len⟩
def Inv.QpF{pins':List (Addr×Obj)}(I:Inv X pins σ H s)(h:∀p∈pins',s.heap.get? p.1=some p.2/\H p.1=none/\p.1≠X.env.locals/\p.1∉X.fs/\∀v,p.2.data≠ .cell v):Inv X pins' σ H s:=
 ⟨I.ok,I.os,I.bare,I.base,I.loc,I.cell,I.free,I.freeC,λp hp=>(ZG.mp hp).elim (λz=>I.pin p (Zk _ z)) (h p),I.hok,I.len⟩
def Qkd{N:List Str}(hN:N.Nodup){i j:Nat}{x:Str}(a:N[i]? =some x)(b:N[j]? =some x):i=j:=by
 obtain⟨h1,e1⟩:=Zj.mp a;obtain⟨h2,e2⟩:=Zj.mp b;exact(List.getElem_inj hN).mp (e1.trans e2.symm)
def Qmk{M:Model}{A:Around}{E:Value->Shared->Prop}{i:Nat}{x:Str}{v:V}{u:Value}{Q:Unit->Shared->Prop}(I:Inv X pins σ H s)(hN:X.N.Nodup)(hi:X.N[i]? =some x)(hx:Loc X.env.scope x)(r:RelV v u)
  (h:∀s',Inv X pins (σ.set i (some v)) H s'->(∃a,Heap.SameBut a s.heap s'.heap/\(a=X.env.locals∨X.env.cells.lookup x=some a))->Q () s') (hf:X.fn x=true∨X.env.scope.names.lookup x=some .local :=by first | exact .inl rfl | exact .inr rfl | assumption):wpAny M A (storeName X.env x u) Q E s:=by
 obtain⟨m,hn,hl⟩:=id I.loc;have hcls:(X.env.scope.kind == .class || (X.env.scope.kind == .module && X.env.locals != X.env.globals))=false:=by rw[I.ok.kind];rfl
 have hiσ:i<σ.length:=by rw[I.len];exact(Zj.mp hi).1
 have cne:=I.cne;have tracked:∀{a:Addr}{h':Heap},(∃o,s.heap.get? a=some o/\H a=none)->Heap.SameBut a s.heap h'->HOk X.prog X.w H h':=λ{a h'} ha hs b ob e=>by
  obtain⟨_,_,hfree⟩:=ha;refine(I.hok b ob e).QgR (λc w' hc q=>(hs.2 c ?_).trans q) (λ_ q=>q) λ_ _ q=>q;rintro rfl;rcases hc with rfl | hc
  .rw[hfree]at e;cases e
  .rw[hfree]at hc;cases hc
 rcases hx with hk | hk
 .refine wpAny_storeName_local hk hn (λh' hn' hs=>?_) hcls;obtain⟨oL,_,_,hoL,_⟩:=id hn;refine h _ ⟨I.ok,I.os,I.bare,⟨λb o e n hb hx=>?_,λb o e n hb hx=>?_,I.base.free,λb o e hx=>?_,I.base.tups,I.base.frzs,I.base.tbls⟩,⟨_,hn',λj y v' e1 e2 e3=>?_⟩,λy c e=>?_,I.free,I.freeC,λp hp=>?_,tracked ⟨oL,hoL,I.free⟩ hs,by simpa using I.len⟩ ⟨_,hs,.inl rfl⟩
  .exact(hs.2 b (ZE (Zm (Zq e) I.ok.above))).trans (I.base.keep b o e n hb hx)
  .obtain⟨sl,e1⟩:=I.base.slot b o e n hb hx;exact⟨sl,(hs.2 b (ZE (Zm (Zq e) I.ok.above))).trans e1⟩
  .obtain⟨o',e1⟩:=I.base.there b o e hx;exact⟨o',(hs.2 b (ZE (Zm (Zq e) I.ok.above))).trans e1⟩
  .by_cases hj:j=i
   .subst hj;rw[hi]at e1;cases e1;rw[Zp hiσ]at e2;cases e2;exact⟨u,r,.inl ⟨hk,⋯⟩⟩
   .rw[Zl (Ne.symm hj)]at e2;obtain⟨u',r',q⟩:=hl j y v' e1 e2 e3;refine⟨u',r',?_⟩;rcases q with⟨k,e⟩ | ⟨k,c,e,z⟩
    .refine .inl ⟨k,?_⟩;have:y≠x:=λe=>hj (Qkd hN e1 (e▸hi));simp[this,e]
    .exact .inr ⟨k,c,e,z.sameBut hs (cne y c e)⟩
  .obtain⟨w',z⟩:=I.cell y c e;exact⟨w',z.sameBut hs (cne y c e)⟩
  .obtain⟨e,n,ne,nf,d⟩:=I.pin p hp;exact⟨(hs.2 p.1 ne).trans e,n,ne,nf,d⟩
 .have hfn:X.fn x=true:=by
   rcases hf with z | z
   .exact z
   .rw[z]at hk;cases hk
  obtain⟨c,hc⟩:=I.ok.has x (.inl hk);obtain⟨w',z⟩:=I.cell x c hc;refine wpAny_storeName_cell I.ok.kind hk hc z (λh' hc' hs=>?_);obtain⟨oc,hoc,hocd⟩:=id z;refine h {s with heap:=h'} ⟨I.ok,I.os,I.bare,⟨λb o e n hb hx=>?_,λb o e n hb hx=>?_,I.base.free,λb o e hx=>?_,I.base.tups,I.base.frzs,I.base.tbls⟩,⟨m,hn.sameBut hs (Ne.symm (cne x c hc)),λj y v' e1 e2 e3=>?_⟩,λy c' e=>?_,I.free,I.freeC,λp hp=>?_,tracked ⟨oc,hoc,I.freeC x c hc⟩ hs,by simpa using I.len⟩ ⟨c,hs,.inr hc⟩
  .exact(hs.2 b (ZE (Zm (Zq e) (I.ok.cab x c hfn hc)))).trans (I.base.keep b o e n hb hx)
  .obtain⟨sl,e1⟩:=I.base.slot b o e n hb hx;exact⟨sl,(hs.2 b (ZE (Zm (Zq e) (I.ok.cab x c hfn hc)))).trans e1⟩
  .obtain⟨o',e1⟩:=I.base.there b o e hx;exact⟨o',(hs.2 b (ZE (Zm (Zq e) (I.ok.cab x c hfn hc)))).trans e1⟩
  .by_cases hj:j=i
   .subst hj;rw[hi]at e1;cases e1;rw[Zp hiσ]at e2;cases e2;exact⟨u,r,.inr ⟨.inl hk,c,hc,hc'⟩⟩
   .rw[Zl (Ne.symm hj)]at e2;obtain⟨u',r',q⟩:=hl j y v' e1 e2 e3;refine⟨u',r',?_⟩;rcases q with q | ⟨k,c',e,z'⟩
    .exact .inl q
    .refine .inr ⟨k,c',e,z'.sameBut hs ?_⟩;rintro rfl;exact hj (Qkd hN e1 (I.ok.inj _ _ _ e hc▸hi))
  .by_cases hcc:c'=c
   .subst hcc;exact⟨_,hc'⟩
   .obtain⟨w2,z2⟩:=I.cell y c' e;exact⟨w2,z2.sameBut hs hcc⟩
  .obtain⟨e,n,ne,nf,d⟩:=I.pin p hp;refine⟨(hs.2 p.1 ?_).trans e,n,ne,nf,d⟩;intro q;rw[q,hoc]at e;have q':oc=p.2:=Option.some.inj e;exact d w' (by rw[← q'];exact hocd)
def QhF{M:Model}{A:Around}{E:Value->Shared->Prop}{i:Nat}{x:Str}{v:V}{u:Value}{Q:Unit->Shared->Prop}(I:Inv X pins σ H s)(hN:X.N.Nodup)(hi:X.N[i]? =some x)(hx:Loc X.env.scope x)(r:RelV v u)
  (h:∀s',Inv X pins (σ.set i (some v)) H s'->Q () s') (hf:X.fn x=true∨X.env.scope.names.lookup x=some .local :=by first | exact .inl rfl | exact .inr rfl | assumption):wpAny M A (storeName X.env x u) Q E s:=
 Qmk I hN hi hx r (λs' I' _=>h s' I') hf
def Inv.Qp3{s':Shared}{ch:LAd}(I:Inv X pins σ H s)(ho:s'.os=s.os)(u:Un (frs X.stack) ch H H' s.heap s'.heap)(hok:HOk X.prog X.w H' s'.heap)(hg:AllBare s'.gens)
  (hch:∀b∈ch,(b∈X.ex∨X.s₀.heap.objs.size<=b)/\b≠X.env.locals/\(∀x c,X.env.cells.lookup x=some c->c≠b)/\∀p∈X.pn++pins,p.1≠b):Inv X pins σ H' s':=by
 obtain⟨h',g',d',t',o'⟩:=s';have e:o'=s.os:=ho;subst e;exact I.call (g':=g') (t':=t') (d':=d') u hok hg hch
end
abbrev XK:=Value->Option Addr->Hp->Prop
noncomputable abbrev St:=List (Option V)
abbrev VK:=V->Hp->Prop
abbrev TE:=St->Hp->VK->Prop
abbrev TT:=St->Hp->(Bool->Hp->Prop)->Prop
abbrev TA:=St->Hp->(List V->Hp->Prop)->Prop
structure Ends where
 nx:St->Hp->Prop
 rt:VK
 bk:St->Hp->Prop:=λ_ _=>False
 ct:St->Hp->Prop:=λ_ _=>False
abbrev TS:=Ends->St->Hp->Prop
def EP(X:Cx)(pins:List (Addr×Obj))(σ:St)(Q:VK)(u:Value)(s':Shared):Prop:=∃v H',Inv X pins σ H' s'/\RelV v u/\Q v H'
def TP(X:Cx)(pins:List (Addr×Obj))(σ:St)(Q:Bool->Hp->Prop)(b:Bool)(s':Shared):Prop:=∃H',Inv X pins σ H' s'/\Q b H'
def AP(X:Cx)(pins:List (Addr×Obj))(σ:St)(Q:List V->Hp->Prop)(us:List Value)(s':Shared):Prop:=∃vs H',Inv X pins σ H' s'/\QH vs us/\Q vs H'
def SP(X:Cx)(pins:List (Addr×Obj))(D:Ends)(f:Flow)(s':Shared):Prop:=
 match f with
 | .next=>∃σ' H',Inv X pins σ' H' s'/\D.nx σ' H'
 | .brk=>∃σ' H',Inv X pins σ' H' s'/\D.bk σ' H'
 | .cont=>∃σ' H',Inv X pins σ' H' s'/\D.ct σ' H'
 | .ret u=>∃v σ' H',Inv X pins σ' H' s'/\RelV v u/\D.rt v H'
def PE(X:Cx)(e:Expr)(t:TE):Prop:=
 ∀(pins:List (Addr×Obj)) (s:Shared) (σ:St) (H:Hp) (Q:VK),Inv X pins σ H s->t σ H Q->wpAny (model X.prog X.w) X.A (eval e X.env) (EP X pins σ Q) X.xe s
def PT(X:Cx)(e:Expr)(t:TT):Prop:=
 ∀(pins:List (Addr×Obj)) (s:Shared) (σ:St) (H:Hp) (Q:Bool->Hp->Prop),Inv X pins σ H s->t σ H Q->wpAny (model X.prog X.w) X.A (isTrue e X.env (eval e X.env)) (TP X pins σ Q) X.xe s
def PW(X:Cx)(e:Expr)(t:TT):Prop:=
 ∀(whole:Sem Value) (pins:List (Addr×Obj)) (s:Shared) (σ:St) (H:Hp) (Q:Bool->Hp->Prop),Inv X pins σ H s->t σ H Q->wpAny (model X.prog X.w) X.A (isTrue e X.env whole) (TP X pins σ Q) X.xe s
def PW.pt{X:Cx}{e:Expr}{t:TT}(h:PW X e t):PT X e t:=h _
def PA(X:Cx)(es:List Expr)(t:TA):Prop:=
 ∀(pos:Pos) (pins:List (Addr×Obj)) (s:Shared) (σ:St) (H:Hp) (Q:List V->Hp->Prop),Inv X pins σ H s->t σ H Q->wpAny (model X.prog X.w) X.A (spliced (backTo pos (starEach es X.env))) (AP X pins σ Q) X.xe s
def PS(X:Cx)(st:Stmt)(t:TS):Prop:=
 ∀(pins:List (Addr×Obj)) (s:Shared) (σ:St) (H:Hp) (D:Ends),Inv X pins σ H s->t D σ H->wpAny (model X.prog X.w) X.A (exec st X.env) (SP X pins D) X.xe s
def PSs(X:Cx)(st:List Stmt)(t:TS):Prop:=
 ∀(pins:List (Addr×Obj)) (s:Shared) (σ:St) (H:Hp) (D:Ends),Inv X pins σ H s->t D σ H->wpAny (model X.prog X.w) X.A (execs st X.env) (SP X pins D) X.xe s
def thn{α:Type}{t:Sem α}{Q Q':α->Shared->Prop}{M:Model}{A:Around}{E:Value->Shared->Prop}{s:Shared}(h:wpAny M A t Q E s)(hQ:∀a s,Q a s->Q' a s):wpAny M A t Q' E s:=wpAny_mono h hQ λ_ _ x=>x
section
variable {X:Cx}
noncomputable def QdQ(i:Nat):TE:=λσ H Q=>∃v,σ[i]? =some (some v)/\Q v H
noncomputable def tC(v:V):TE:=λ_ H Q=>Q v H
def Qyf{i:Nat}{x:Str}{pos:Pos}(hN:X.N[i]? =some x)(hv:Vis X.env.scope x)(hd:(x == ("__debug__" :Str))=false:=by decide)(hcd:(x == ("__classdict__" :Str))=false:=by decide):PE X (.Name x pos) (QdQ i):=by
 intro pins s σ H Q I h;obtain⟨v,e,h⟩:=h;obtain⟨m,hn,hl⟩:=I.loc;obtain⟨u,r,l⟩:=hl i x v hN e hv;have fin:EP X pins σ Q u s:=⟨v,H,I,r,h⟩;rcases l with⟨hk,hm⟩ | ⟨hk,c,hc,hcell⟩
 .exact wpAny_Name (wpAny_loadName_local I.ok.kind hk hn hm fin) hd
 .rcases hk with hk | hk
  .exact wpAny_Name (wpAny_loadName_cell I.ok.kind hk hc hcell fin) hd
  .exact wpAny_Name (wpAny_loadName_free I.ok.kind hk hc hcell fin hcd) hd
def QrZ{i j pos}:PE X (.Constant (.int i) j pos) (tC (.int i)):=λ_ _ _ H _ I h=>wpAny_Constant_int ⟨.int i,H,I.tok _,⟨_,rfl⟩,h⟩
def Qup{b j pos}:PE X (.Constant (.bool b) j pos) (tC (.bl b)):=λ_ _ _ H _ I h=>Constant_bool ⟨.bl b,H,I,rfl,h⟩
def Qrz{j pos}:PE X (.Constant .none j pos) (tC .non):=λ_ _ _ H _ I h=>Constant_none ⟨.non,H,I,rfl,h⟩
def Qrs{x j pos}:PE X (.Constant (.str x) j pos) (tC (.str x)):=λ_ _ _ H _ I h=>Calls.Constant_str ⟨.str x,H,I.tok _,⟨_,rfl⟩,h⟩
def Gl(X:Cx)(x:Str):Prop:=X.env.kindOf x=some .globalImplicit
def QeJ{E:Value->Shared->Prop}{pins:List (Addr×Obj)}{s:Shared}{σ:St}{H:Hp}{x:Str}{u:Value}{pos:Pos}{Q:Value->Shared->Prop}(I:Inv X pins σ H s)(hg:Gl X x)(hm:X.mg x=some u)(h:Q u s)
  (hd:(x == ("__debug__" :Str))=false:=by decide):wpAny (model X.prog X.w) X.A (eval (.Name x pos) X.env) Q E s:=
 Calls.Name_function_global I.ok.kind hg (Calls.loadGlobal_global (by rw[I.ok.glob];exact I.mod.glob.keeps I.bk) hm h) hd
def Qhb{E:Value->Shared->Prop}{pins:List (Addr×Obj)}{s:Shared}{σ:St}{H:Hp}{x:Str}{u:Value}{pos:Pos}{Q:Value->Shared->Prop}(I:Inv X pins σ H s)(hg:Gl X x)(hm:X.mg x=none)(hv:bootBuiltins x=some u)(h:Q u s)
  (hn:x≠ "__name__" :=by decide) (hd:(x == ("__debug__" :Str))=false:=by decide):wpAny (model X.prog X.w) X.A (eval (.Name x pos) X.env) Q E s:=by
 obtain⟨mb,h1,h2⟩:=I.mod.blt;exact Calls.Name_function_global I.ok.kind hg (Calls.loadGlobal_builtin (by rw[I.ok.glob];exact I.mod.glob.keeps I.bk) hm (by rw[I.ok.blt];exact h1.keeps I.bk) ((h2 x hn).trans hv) h) hd
def QpR{x:Str}{v:V}{u:Value}{pos:Pos}(hg:Gl X x)(hm:X.mg x=some u)(r:RelV v u)(hd:(x == ("__debug__" :Str))=false:=by decide):PE X (.Name x pos) (tC v):=
 λ_ _ _ H _ I h=>QeJ I hg hm ⟨v,H,I,r,h⟩ hd
def Qhi{x:Str}{v:V}{u:Value}{pos:Pos}(hg:Gl X x)(hm:X.mg x=none)(hv:bootBuiltins x=some u)(r:RelV v u)(hn:x≠ "__name__" :=by decide)(hd:(x == ("__debug__" :Str))=false:=by decide):PE X (.Name x pos) (tC v):=
 λ_ _ _ H _ I h=>Qhb I hg hm hv ⟨v,H,I,r,h⟩ hn hd
variable {a b:Expr}{ta tb:TE}{pos:Pos}
variable {tA tB':TT}{rest:List Expr}
noncomputable def QAI(t u:TT):TT:=λσ H Q=>t σ H λc H1=>if c=true then u σ H1 Q else Q false H1
noncomputable def tOr(t u:TT):TT:=λσ H Q=>t σ H λc H1=>if c=true then Q true H1 else u σ H1 Q
noncomputable def QA3(t:TT):TT:=λσ H Q=>t σ H λc H1=>Q (!c) H1
def QvW(ha:PT X a tA):PW X (.BoolOp .And [a] pos) tA:=by
 intro wh pins s σ H Q I h;refine isTrue_and (thn (ha pins s σ H Q I h) λc s1 e=>?_);cases c with
 | true=>exact isTrue_and_nil e
 | false=>exact e
def Qyp(ha:PT X a tA):PW X (.BoolOp .Or [a] pos) tA:=by
 intro wh pins s σ H Q I h;refine isTrue_or (thn (ha pins s σ H Q I h) λc s1 e=>?_);cases c with
 | false=>exact isTrue_or_nil e
 | true=>exact e
def Qyd(ha:PT X a tA)(hb:PW X (.BoolOp .And (b::rest) pos) tB'):PW X (.BoolOp .And (a::b::rest) pos) (QAI tA tB'):=by
 intro wh pins s σ H Q I h;refine isTrue_and (thn (ha pins s σ H _ I h) λc s1 Z=>?_);obtain⟨H1,I1,q1⟩:=Z;cases c with
 | true=>exact hb wh pins s1 σ H1 Q I1 q1
 | false=>exact⟨H1,I1,q1⟩
def Qz9(ha:PT X a tA)(hb:PW X (.BoolOp .Or (b::rest) pos) tB'):PW X (.BoolOp .Or (a::b::rest) pos) (tOr tA tB'):=by
 intro wh pins s σ H Q I h;refine isTrue_or (thn (ha pins s σ H _ I h) λc s1 Z=>?_);obtain⟨H1,I1,q1⟩:=Z;cases c with
 | true=>exact⟨H1,I1,q1⟩
 | false=>exact hb wh pins s1 σ H1 Q I1 q1
def Qx8(ha:PT X a tA):PT X (.UnaryOp .Not a pos) (QA3 tA):=by
 intro pins s σ H Q I h;exact isTrue_not (ha pins s σ H (λc H1=>Q (!c) H1) I h)
def Qx4{op}{t:TE}(h:PE X a t):PE X (.BoolOp op [a] pos) t:=λpins s σ H Q I hw=>BoolOp_one (h pins s σ H Q I hw)
noncomputable def tIf(t:TT)(ta tb:TE):TE:=λσ H Q=>t σ H λc H1=>if c=true then ta σ H1 Q else tb σ H1 Q
def QhN{c:Expr}(hc:PT X c tA)(ha:PE X a ta)(hb:PE X b tb):PE X (.IfExp c a b pos) (tIf tA ta tb):=by
 intro pins s σ H Q I h;refine wpAny_IfExp (thn (hc pins s σ H _ I h) λd s1 Z=>?_);obtain⟨H1,I1,q1⟩:=Z;cases d with
 | true=>exact ha pins s1 σ H1 Q I1 q1
 | false=>exact hb pins s1 σ H1 Q I1 q1
end
def SqL(K:Fgg)(H:Hp)(a:Addr)(xs:List V):Prop:=
 Rd H a (.lst xs)∨
  ∃(o:Obj) (its:Array Value) (n:Nat),K.lookup a=some o/\o.cls= .type "list" /\o.dict=none/\o.data= .seq its n/\its.size<=sizeLine/\QH xs its.toList
def SqT(K:Fgg)(H:Hp)(a:Addr)(xs:List V):Prop:=
 Rd H a (.tup xs)∨
  ∃(o:Obj) (its:Array Value) (n:Nat),K.lookup a=some o/\o.cls= .type "tuple" /\o.data= .seq its n/\its.size<=sizeLine/\QH xs its.toList
noncomputable def QAO:Value->Option V
 | .none=>some .non
 | .bool b=>some (.bl b)
 | .int i _=>some (.int i)
 | .str x _=>some (.str x)
 | .bytes b _=>some (.byt b)
 | .float b _=>some (.flt b)
 | .ref a=>some (.ref a)
 | .type n=>some (.ty n)
 | _=>none
def RelV.abs{x:V}{u:Value}(r:RelV x u):QAO u=some x:=by
 cases x with
 | non=>cases r;rfl
 | bl _=>cases r;rfl
 | int _=>obtain⟨t,rfl⟩:=r;rfl
 | str _=>obtain⟨t,rfl⟩:=r;rfl
 | byt _=>obtain⟨t,rfl⟩:=r;rfl
 | flt _=>obtain⟨t,rfl⟩:=r;rfl
 | ref _=>cases r;rfl
 | ty _=>cases r;rfl
def RelV.inj{x y:V}{u:Value}(r:RelV x u)(q:RelV y u):x=y:=Option.some.inj (r.abs.symm.trans q.abs)
def QH.inj:∀{xs ys:List V}{us:List Value},QH xs us->QH ys us->xs=ys
 | _,_,_,.nil,.nil=>rfl
 | _,_,_,.cons r t,.cons r' t'=>by rw[r.inj r',QH.inj t t']
section
variable {X:Cx}{pins:List (Addr×Obj)}{σ:St}{H:Hp}{s:Shared}{a:Addr}{xs ys:List V}
def SqL.of{K:Fgg}(h:H a=some (.lst xs)):SqL K H a xs:= .inl (.inl h)
def SqT.of{K:Fgg}(h:H a=some (.tup xs)):SqT K H a xs:= .inl (.inl h)
def Inv.list(I:Inv X pins σ H s)(h:SqL X.K H a xs):∃its:List Value,QH xs its/\PlainL s.heap a its.toArray/\xs.length<=sizeLine:=by
 rcases h with h | ⟨o,its,n,hk,hc,hd,hs,hz,r⟩
 .obtain⟨z,its,n,r,e⟩:=h.ok I.hok;exact⟨its,r,⟨_,n,e,rfl,rfl,rfl⟩,z⟩
 .refine⟨its.toList,r,⟨o,n,I.kIn a o hk,hc,hd,by simpa using hs⟩,?_⟩;have e:=r.length;simp only[Zai]at e;omega
def Inv.tuple(I:Inv X pins σ H s)(h:SqT X.K H a xs):∃its:List Value,QH xs its/\IsTup s.heap a its.toArray/\xs.length<=sizeLine:=by
 rcases h with h | ⟨o,its,n,hk,hc,hs,hz,r⟩
 .obtain⟨z,its,r,p⟩:=h.ok I.hok;exact⟨its,r,p,z⟩
 .refine⟨its.toList,r,⟨o,I.kIn a o hk,hc,n,by simpa using hs⟩,?_⟩;have e:=r.length;simp only[Zai]at e;omega
def Inv.Qno(I:Inv X pins σ H s)(h:SqL X.K H a xs)(h':SqL X.K H a ys):xs=ys:=by
 obtain⟨its,r,⟨o,n,e,_,_,d⟩,_⟩:=I.list h;obtain⟨its',r',⟨o',n',e',_,_,d'⟩,_⟩:=I.list h';rw[e]at e';cases e';rw[d]at d';injection d' with d1 _;have:its=its':=by simpa using congrArg Array.toList d1
 subst this;exact r.inj r'
def Inv.QqZ(I:Inv X pins σ H s)(h:SqT X.K H a xs)(h':SqT X.K H a ys):xs=ys:=by
 obtain⟨its,r,⟨o,e,_,n,d⟩,_⟩:=I.tuple h;obtain⟨its',r',⟨o',e',_,n',d'⟩,_⟩:=I.tuple h';rw[e]at e';cases e';rw[d]at d';injection d' with d1 _;have:its=its':=by simpa using congrArg Array.toList d1
 subst this;exact r.inj r'
end
noncomputable abbrev Cx.Qgh(X:Cx)(E:Value->Shared->Prop):Cx:={X with xe:=E}
noncomputable abbrev Cx.nox(X:Cx):Cx:=X.Qgh λ_ _=>False
def Cx.Ok.Qgh{X:Cx}(ok:X.Ok)(E:Value->Shared->Prop):(X.Qgh E).Ok:=
 ⟨ok.mod,ok.kind,ok.glob,ok.blt,ok.above,ok.inj,ok.has,ok.cab,ok.hd,ok.frames,ok.stk,ok.exf,ok.bs,ok.bsz,ok.noex,ok.exfs,ok.Qel,ok.frf⟩
def Cx.Ok.Qfl{X:Cx}{E:Value->Shared->Prop}(ok:(X.Qgh E).Ok):X.Ok:=
 ⟨ok.mod,ok.kind,ok.glob,ok.blt,ok.above,ok.inj,ok.has,ok.cab,ok.hd,ok.frames,ok.stk,ok.exf,ok.bs,ok.bsz,ok.noex,ok.exfs,ok.Qel,ok.frf⟩
section
variable {X:Cx}{pins:List (Addr×Obj)}{σ:St}{H:Hp}{s:Shared}{E:Value->Shared->Prop}
def Inv.Qgh(I:Inv X pins σ H s)(E:Value->Shared->Prop):Inv (X.Qgh E) pins σ H s:=⟨I.ok.Qgh E,I.os,I.bare,I.base,I.loc,I.cell,I.free,I.freeC,I.pin,I.hok,I.len⟩
def Inv.Qfl(I:Inv (X.Qgh E) pins σ H s):Inv X pins σ H s:=⟨I.ok.Qfl,I.os,I.bare,I.base,I.loc,I.cell,I.free,I.freeC,I.pin,I.hok,I.len⟩
def SP.Qfl{D:Ends}{f:Flow}{s':Shared}(h:SP (X.Qgh E) pins D f s'):SP X pins D f s':=by
 cases f with
 | next=>obtain⟨σ',H',I,q⟩:=h;exact⟨σ',H',I.Qfl,q⟩
 | brk=>obtain⟨σ',H',I,q⟩:=h;exact⟨σ',H',I.Qfl,q⟩
 | cont=>obtain⟨σ',H',I,q⟩:=h;exact⟨σ',H',I.Qfl,q⟩
 | ret u=>obtain⟨v,σ',H',I,r,q⟩:=h;exact⟨v,σ',H',I.Qfl,r,q⟩
def PSs.nox{st:List Stmt}{t:TS}(h:PSs X.nox st t):PSs X st t:=λpins s σ H D I hw=>
 wpAny_mono (h pins s σ H D (I.Qgh _) hw) (λ_ _ q=>q.Qfl) λ_ _ z=>False.elim z
end
section
variable {X:Cx}{st:Stmt}{rest:List Stmt}{t u:TS}{e:Expr}{te:TE}{pos:Pos}
noncomputable def Qqn:TS:=λD σ H=>D.nx σ H
noncomputable def QAE(t u:TS):TS:=λD σ H=>t {D with nx:=u D} σ H
def Qvp:PSs X [] Qqn:=λ_ _ σ H _ I h=>wpAny_execs_nil ⟨σ,H,I,h⟩
def QfX(h1:PS X st t)(h2:PSs X rest u):PSs X (st::rest) (QAE t u):=by
 intro pins s σ H D I h;refine wpAny_execs_cons (thn (h1 pins s σ H {D with nx:=u D} I h) λf s1 q=>?_);cases f with
 | next=>
  obtain⟨σ',H',I',q⟩:=q;exact h2 pins s1 σ' H' D I' q
 | ret v=>exact q
 | brk=>exact q
 | cont=>exact q
def QwM(h1:PS X st t):PSs X [st] t:=by
 intro pins s σ H D I h;refine wpAny_execs_cons (thn (h1 pins s σ H D I h) λf s1 q=>?_);cases f with
 | next=>exact wpAny_execs_nil q
 | ret v=>exact q
 | brk=>exact q
 | cont=>exact q
noncomputable def Qzo:TS:=λD σ H=>D.bk σ H
noncomputable def QAy:TS:=λD σ H=>D.ct σ H
def Qwh:PS X (.Pass pos) Qqn:=λ_ _ σ H _ I h=>wpAny_Pass ⟨σ,H,I,h⟩
def QsD:PS X (.Break pos) Qzo:=λ_ _ σ H _ I h=>wpAny_Break ⟨σ,H,I,h⟩
def Qo0:PS X (.Continue pos) QAy:=λ_ _ σ H _ I h=>wpAny_Continue ⟨σ,H,I,h⟩
def Inv.quiet{pins:List (Addr×Obj)}{σ:St}{H:Hp}{s:Shared}(I:Inv X pins σ H s):interactive X.env=false:=by simp[interactive,I.ok.kind]
def QyL{x j pos pos'}:PS X (.Expr (.Constant (.str x) j pos) pos') Qqn:=λ_ s σ H _ I h=>wpAny_Expr (Calls.Constant_str (show SP X _ _ .next {s with toks:=s.toks+1}from⟨σ,H,I.tok _,h⟩)) I.quiet
noncomputable def QfH(te:TE):TS:=λD σ H=>te σ H λ_ H1=>D.nx σ H1
def Qg9(he:PE X e te)(hs:swapsWith e none pos.line X.env=pure false:=by rfl):PS X (.Expr e pos) (QfH te):=by
 intro pins s σ H D I h;exact wpAny_Expr_any (thn (he pins s σ H _ I h) λv s1 ⟨x,H1,I1,r1,q1⟩=>⟨σ,H1,I1,q1⟩) I.quiet hs
noncomputable def QA5(te:TE):TS:=λD σ H=>te σ H D.rt
def Qrn(he:PE X e te):PS X (.Return (some e) pos) (QA5 te):=by
 intro pins s σ H D I h;exact wpAny_Return_some (thn (he pins s σ H _ I h) λv s1 ⟨x,H1,I1,r1,q1⟩=>⟨x,σ,H1,I1,r1,q1⟩)
noncomputable def Qzu:TS:=λD _ H=>D.rt .non H
def QvM:PS X (.Return none pos) Qzu:=λ_ _ σ H _ I h=>wpAny_Return_none ⟨.non,σ,H,I,rfl,h⟩
noncomputable def QAJ(c:TT)(t u:TS):TS:=λD σ H=>c σ H λb H1=>if b=true then t D σ H1 else u D σ H1
def Qux{c:Expr}{a b:List Stmt}{tc:TT}(hc:PT X c tc)(ha:PSs X a t)(hb:PSs X b u):PS X (.If c a b pos) (QAJ tc t u):=by
 intro pins s σ H D I h;refine wpAny_If (thn (hc pins s σ H _ I h) λd s1 Z=>?_);obtain⟨H1,I1,q1⟩:=Z;cases d with
 | true=>exact ha pins s1 σ H1 D I1 q1
 | false=>exact hb pins s1 σ H1 D I1 q1
noncomputable def QxB:TS:=λ_ _ _=>False
def Qs2:PS X st QxB:=λ_ _ _ _ _ _ h=>h.elim
end
abbrev TG:=V->St->Hp->(St->Hp->Prop)->Prop
abbrev TGs:=List V->St->Hp->(St->Hp->Prop)->Prop
def PG(X:Cx)(target:Expr)(t:TG):Prop:=
 ∀(pins:List (Addr×Obj)) (s:Shared) (σ:St) (H:Hp) (v:V) (u:Value) (Q:St->Hp->Prop),Inv X pins σ H s->RelV v u->t v σ H Q→
  wpAny (model X.prog X.w) X.A (assign target X.env u) (λ_ s'=>∃σ' H',Inv X pins σ' H' s'/\Q σ' H') X.xe s
def PGs(X:Cx)(ts:List Expr)(t:TGs):Prop:=
 ∀(pins:List (Addr×Obj)) (s:Shared) (σ:St) (H:Hp) (vs:List V) (us:List Value) (Q:St->Hp->Prop),Inv X pins σ H s->QH vs us->t vs σ H Q→
  wpAny (model X.prog X.w) X.A (assignInOrder ((assignEach ts X.env).map (·.2)) us) (λ_ s'=>∃σ' H',Inv X pins σ' H' s'/\Q σ' H') X.xe s
abbrev QnY:=V->V->V->Hp->(Hp->Prop)->Prop
def Qt7(X:Cx)(t:QnY):Prop:=
 ∀(pins:List (Addr×Obj)) (s:Shared) (σ:St) (H:Hp) (o i v:V) (ov iv u:Value) (Q:Hp->Prop),Inv X pins σ H s->RelV o ov->RelV i iv->RelV v u->t o i v H Q→
  wpAny (model X.prog X.w) X.A (setItem ov iv u) (λ_ s'=>∃H',Inv X pins σ H' s'/\Q H') X.xe s
abbrev TIp:=V->V->Hp->VK->Prop
def PIp(X:Cx)(op:Operator)(t:TIp):Prop:=
 ∀(pins:List (Addr×Obj)) (s:Shared) (σ:St) (H:Hp) (x y:V) (v u:Value) (Q:VK),Inv X pins σ H s->RelV x v->RelV y u->t x y H Q→
  wpAny (model X.prog X.w) X.A (inplaceOp op v u) (EP X pins σ Q) X.xe s
section
variable {X:Cx}{pos:Pos}
noncomputable def Qe1(i:Nat):TG:=λv σ H Q=>Q (σ.set i (some v)) H
def Qpd{i:Nat}{x:Str}(hN:X.N.Nodup)(hi:X.N[i]? =some x)(hx:Loc X.env.scope x)(hf:X.fn x=true∨X.env.scope.names.lookup x=some .local :=by first | exact .inl rfl | exact .inr rfl | assumption):PG X (.Name x pos) (Qe1 i):=by
 intro pins s σ H v u Q I r h;exact wpAny_assign_Name (QhF I hN hi hx r (λs' I'=>⟨_,H,I',h⟩) hf)
noncomputable def QyX:TGs:=λvs σ H Q=>vs=[]/\Q σ H
noncomputable def QuM(t:TG)(u:TGs):TGs:=λvs σ H Q=>∃v r,vs=v::r/\t v σ H λσ' H'=>u r σ' H' Q
def Qw2:PGs X [] QyX:=by
 intro pins s σ H vs us Q I r h;obtain⟨e,h⟩:=h;subst e;cases r;exact assignInOrder_nil ⟨σ,H,I,h⟩
def Qst{e:Expr}{es:List Expr}{t:TG}{u:TGs}(h1:PG X e t)(h2:PGs X es u)
  (hs:(assignEach (e::es) X.env).map (·.2)=assign e X.env::(assignEach es X.env).map (·.2):=by rfl):PGs X (e::es) (QuM t u):=by
 intro pins s σ H vs us Q I r h;obtain⟨v,vr,e1,h⟩:=h;subst e1;cases r with
 | cons r rr=>
  rw[hs];refine assignInOrder_cons (thn (h1 pins s σ H _ _ _ I r h) λ_ s1 Z=>?_);obtain⟨σ1,H1,I1,q1⟩:=Z;exact h2 pins s1 σ1 H1 _ _ Q I1 rr q1
noncomputable def QA7(K:Fgg)(n:Nat)(t:TGs):TG:=λv σ H Q=>∃a xs,v= .ref a/\SqT K H a xs/\xs.length=n/\t xs σ H Q
def QxQ{es:List Expr}{k:Nat}{t:TGs}{n:Nat}(hc:X.calm=true)(h:PGs X es t)
  (hn:(assignEach es X.env).length=n:=by rfl) (hst:(assignEach es X.env).findIdx? (·.1)=none:=by rfl):PG X (.Tuple es k pos) (QA7 X.K n t):=by
 intro pins s σ H v u Q I r hw;obtain⟨a,xs,e1,hq,hl,hw⟩:=hw;subst e1;cases r;obtain⟨its,rv,ht,hz⟩:=I.tuple hq;refine assign_Tuple_tuple (I.ok.hd hc) ht (by simp[hn,← hl,rv.length]) hst λh' hx=>?_;have I1:Inv X pins σ H {s with heap:=h'}:=I.kept (t':=s.toks) λb o e=>hx b o (ZE (Zq e)) e;exact h pins _ σ H xs _ Q I1 (by simpa using rv) hw
noncomputable def Qge(to ti:TE)(t:QnY):TG:=λv σ H Q=>to σ H λo H1=>ti σ H1 λi H2=>t o i v H2 λH3=>Q σ H3
def Qyg{o i:Expr}{to ti:TE}{t:QnY}(ho:PE X o to)(hi:PE X i ti)(hs:Qt7 X t)
  (ha:∀v,assign (.Subscript o i pos) X.env v=(do
   let ov ← holding [v] (eval o X.env)
   let iv ← holding [v,ov] (eval i X.env)
   standAt pos
   holding [v,ov,iv] (setItem ov iv v)
   release [v,ov,iv] []):=by intro _;rfl):PG X (.Subscript o i pos) (Qge to ti t):=by
 intro pins s σ H v u Q I r h;rw[ha];refine wpAny_bind (wpAny_holding (thn (ho pins s σ H _ I h) λov s1=>exJ λx H1 I1 r1 q1=>?_));refine wpAny_bind (wpAny_holding (thn (hi pins s1 σ H1 _ I1 q1) λiv s2=>exJ λy H2 I2 r2 q2=>?_));refine wpAny_bind (wpAny_standAt (wpAny_bind (wpAny_holding (thn (hs pins s2 σ H2 x y v ov iv u _ I2 r1 r2 r q2) λ_ s3 Z=>?_))));obtain⟨H3,I3,q3⟩:=Z;exact wpAny_release ⟨σ,H3,I3,q3⟩
noncomputable def QjU(te:TE)(g:TG):TS:=λD σ H=>te σ H λx H1=>g x σ H1 D.nx
def QxF{tg e:Expr}{te:TE}{g:TG}(he:PE X e te)(hg:PG X tg g)(hs:swapsWithSole [tg] e pos.line X.env=pure false:=by rfl)(hw:swappedStores [tg] e X.env=pure none:=by rfl)
  (h1:(assignEach [tg] X.env).map (·.2)=[assign tg X.env]:=by rfl):PS X (.Assign [tg] e pos) (QjU te g):=by
 intro pins s σ H D I h;refine wpAny_Assign_stores (thn (he pins s σ H _ I h) λv s1 ⟨x,H1,I1,r1,q1⟩=>?_) hs hw;rw[h1];exact thn (hg pins s1 σ H1 x v _ I1 r1 q1) λ_ s2 q=>q
def Qgd{i:Nat}{x:Str}{e:Expr}{te:TE}{pos':Pos}(hN:X.N.Nodup)(hi:X.N[i]? =some x)(hx:Loc X.env.scope x)(he:PE X e te)(hs:swapsWith e (some (.Name x pos')) pos.line X.env=pure false:=by rfl)(hf:X.fn x=true∨X.env.scope.names.lookup x=some .local :=by first | exact .inl rfl | exact .inr rfl | assumption):
  PS X (.Assign [.Name x pos'] e pos) (QjU te (Qe1 i)):=by
 intro pins s σ H D I h;refine wpAny_Assign_Name (thn (he pins s σ H _ I h) λv s1 ⟨y,H1,I1,r1,q1⟩=>?_) hs;exact QhF I1 hN hi hx r1 (λs2 I2=>⟨_,H1,I2,q1⟩) hf
noncomputable def QAi(to ti te:TE)(tget:V->V->Hp->VK->Prop)(tip:TIp)(tset:QnY):TS:=λD σ H=>to σ H λo H1=>ti σ H1 λi H2=>tget o i H2 λx H3=>te σ H3 λy H4=>tip x y H4 λz H5=>tset o i z H5 λH6=>D.nx σ H6
def Qxb(X:Cx)(t:V->V->Hp->VK->Prop):Prop:=
 ∀(pins:List (Addr×Obj)) (s:Shared) (σ:St) (H:Hp) (o i:V) (ov iv:Value) (Q:VK),Inv X pins σ H s->RelV o ov->RelV i iv->t o i H Q→
  wpAny (model X.prog X.w) X.A (getItem ov iv) (EP X pins σ Q) X.xe s
def QvB{o i e:Expr}{to ti te:TE}{tget:V->V->Hp->VK->Prop}{tip:TIp}{tset:QnY}{op:Operator}{tpos:Pos}(ho:PE X o to)(hi:PE X i ti)(hg:Qxb X tget)(he:PE X e te)(hp:PIp X op tip)(hs:Qt7 X tset)
  (ha:∀ov iv new,augStore i ov iv new=(do holding [new,ov,iv] (setItem ov iv new);release [new,ov,iv] [];pure .next):=by intros;rfl):PS X (.AugAssign (.Subscript o i tpos) op e pos) (QAi to ti te tget tip tset):=by
 intro pins s σ H D I h;refine wpAny_AugAssign_SubscriptAny (thn (ho pins s σ H _ I h) λov s1 ⟨x1,H1,I1,r1,q1⟩=>?_) ha;refine thn (hi pins s1 σ H1 _ I1 q1) λiv s2=>exJ λx2 H2 I2 r2 q2=>?_;refine thn (hg pins s2 σ H2 x1 x2 ov iv _ I2 r1 r2 q2) λold s3=>exJ λx3 H3 I3 r3 q3=>?_;refine thn (he pins s3 σ H3 _ I3 q3) λv s4=>exJ λx4 H4 I4 r4 q4=>?_;refine thn (hp pins s4 σ H4 x3 x4 old v _ I4 r3 r4 q4) λnew s5=>exJ λx5 H5 I5 r5 q5=>?_;exact thn (hs pins s5 σ H5 x1 x2 x5 ov iv new _ I5 r1 r2 r5 q5) λ_ s6 ⟨H6,I6,q6⟩=>⟨σ,H6,I6,q6⟩
end
section
variable {X:Cx}{pos:Pos}
end
structure It where
 go:Nat->Hp->Prop
 yld:Nat->Hp->V->Hp->Prop
 stop:Nat->Hp->Prop
def Qc2(X:Cx)(pins:List (Addr×Obj))(H:Hp)(b:Addr):Prop:=
 H b=none/\b≠X.env.locals/\b∉X.fs/\(b∈X.ex∨X.s₀.heap.objs.size<=b)/\(∀x c,X.env.cells.lookup x=some c->c≠b)/\∀p∈X.pn++pins,p.1≠b
def Inv.Qof{X:Cx}{pins:List (Addr×Obj)}{σ:St}{H H':Hp}{s:Shared}{b:Addr}(I:Inv X pins σ H s)(hb:s.heap.objs.size<=b)(hn:H' b=none):Qc2 X pins H' b:=by
 refine⟨hn,Nat.ne_of_gt (Zm I.lt hb),I.Qyj hb,.inr (Zx I.sz hb),λx c e z=>?_,λp hp z=>?_⟩
 .obtain⟨v,q⟩:=I.cell x c e;exact absurd (Zm q.lt (by rw[z];exact hb)) (ZH _)
 .exact absurd (Zm (Zq (I.pin p hp).1) (by rw[z];exact hb)) (ZH _)
structure Turn (P:Program) (w:World) (K:Fgg) (tg:Expr) (J:It) (fp:LAd) (it:Addr) (tn:Nat->Heap->Prop):Prop where
 mem:it∈fp
 obj:∀i h,tn i h->∀b∈fp,∃o,h.get? b=some o/\∀v,o.data≠ .cell v
 keep:∀i h h',tn i h->(∀b∈fp,∀o,h.get? b=some o->h'.get? b=some o)->tn i h'
 item:∀(X:Cx),X.prog=P->X.w=w->X.K=K->X.calm=true->∀(i:Nat) (pins:List (Addr×Obj)) (s:Shared) (σ:St) (H:Hp) (E:Value->Shared->Prop),Inv X pins σ H s->(∀b∈fp,Qc2 X pins H b)->tn i s.heap->J.go i H→
  wpAny (model P w) X.A (pyNext (.ref it)) (λr s1=>∃u,r=some u∧
   wpAny (model P w) X.A (letOwnedTupleGo tg (.ref it) u) (λ_ s2=>∃x H',Inv X pins σ H' s2/\RelV x u/\J.yld i H x H'/\tn (i+1) s2.heap/\∀b∈fp,H' b=none) E s1) E s
 done:∀(X:Cx),X.prog=P->X.w=w->X.K=K->X.calm=true->∀(i:Nat) (pins:List (Addr×Obj)) (s:Shared) (σ:St) (H:Hp) (E:Value->Shared->Prop),Inv X pins σ H s->(∀b∈fp,Qc2 X pins H b)->tn i s.heap->J.stop i H→
  wpAny (model P w) X.A (pyNext (.ref it)) (λr s1=>r=none/\Inv X pins σ H s1) E s
 self:∀(A:Around) (i:Nat) (s:Shared) (Q:Value->Shared->Prop) (E:Value->Shared->Prop),tn i s.heap->Q (.ref it) s->wpAny (model P w) A (pyIter (.ref it)) Q E s
abbrev TI:=St->Hp->(It->Hp->Prop)->Prop
def PIE(X:Cx)(pins:List (Addr×Obj))(σ:St)(tg:Expr)(R:It->Hp->Prop)(itv:Value)(s2:Shared):Prop:=
 ∃(it:Addr) (fp:LAd) (tn:Nat->Heap->Prop) (J:It) (H':Hp),itv= .ref it/\Inv X pins σ H' s2/\Turn X.prog X.w X.K tg J fp it tn/\tn 0 s2.heap/\(∀b∈fp,Qc2 X pins H' b)/\R J H'
def PI(X:Cx)(tg iter:Expr)(wi:TI):Prop:=
 ∀(pins:List (Addr×Obj)) (s:Shared) (σ:St) (H:Hp) (R:It->Hp->Prop),Inv X pins σ H s->wi σ H R→
  wpAny (model X.prog X.w) X.A (eval iter X.env) (λv s1=>wpAny (model X.prog X.w) X.A (pyIter v) (PIE X pins σ tg R) X.xe s1) X.xe s
def QmY{M:Model}{A:Around}{E:Value->Shared->Prop}{s:Shared}{tg:Expr}{it:Addr}{u:Value}{o:Obj}{n:String}{vs:Array Value}{Q:Unit->Shared->Prop}(ho:s.heap.get? it=some o)(hc:o.cls= .type n)(hd:o.data= .fields vs)
    (hn:["enumerate","zip","dict_itemiterator","dict_reverseitemiterator","odict_iterator","itertools.zip_longest","itertools.pairwise"].contains n=false) (hQ:Q () s):wpAny M A (letOwnedTupleGo tg (.ref it) u) Q E s:=by
  unfold letOwnedTupleGo
  cases tg<;>first
    | exact wpAny_pure hQ
    | (cases u<;>first
        | exact wpAny_pure hQ
        | (refine wpAny_bind (wpAny_load ho ?_)
           rw[hc,hd];show wpAny M A (if(["enumerate","zip","dict_itemiterator","dict_reverseitemiterator","odict_iterator","itertools.zip_longest","itertools.pairwise"].contains n && vs[0]? == some (rawInt _))=true then _ else _) Q E s;rw[if_neg (by intro h;rw[hn,Zam]at h;cases h)];exact wpAny_pure hQ))
noncomputable def Itl(K:Fgg)(a:Addr):It:=
 ⟨λi H=>∃xs x,SqL K H a xs/\xs[i]? =some x,λi H x H'=>H'=H/\∀xs,SqL K H a xs->xs[i]? =some x,λi H=>∃xs,SqL K H a xs/\xs.length<=i⟩
noncomputable def Itt(K:Fgg)(a:Addr):It:=
 ⟨λi H=>∃xs x,SqT K H a xs/\xs[i]? =some x,λi H x H'=>H'=H/\∀xs,SqT K H a xs->xs[i]? =some x,λi H=>∃xs,SqT K H a xs/\xs.length<=i⟩
noncomputable def Itr(lo:Int)(n:Nat):It:=⟨λi _=>i<n,λi H x H'=>H'=H/\x= .int (lo+i),λi _=>n<=i⟩
def Qsm{P:Program}{w:World}{K:Fgg}{tg:Expr}(a it:Addr):Turn P w K tg (Itl K a) [it] it (λi h=>h.IsListIter it a i) where
 mem:= ⋯
 obj:=λi h st b hb=>by
  have e:b=it:=by simpa using hb
  subst e;obtain⟨o,e,c,d⟩:=st;exact⟨o,e,λv z=>by rw[d]at z;cases z⟩
 keep:=λi h h' st k=>st.at λo e=>k it ⋯ o e
 item:=by
  intro X hP hw hK hc i pins s σ H E I hf st hg;subst hP hw hK;obtain⟨xs,x,hq,hx⟩:=hg;obtain⟨its,rv,p,hz⟩:=I.list hq;obtain⟨u,hu,ru⟩:=rv.get hx;obtain⟨f0,f1,f2,f3,f4,f5⟩:=hf it ⋯;refine wpAny_pyNext_list_item st p.isList (x:=u) (by simpa using hu) λh' st' sb=>?_;have I1:Inv X pins σ H {s with heap:=h'}:=I.turned (t':=s.toks) (λb o hb e=>(sb.2 b hb).trans e) f0 f1 f3 f4 f5;obtain⟨o,e,c,d⟩:=id st';exact⟨u,rfl,QmY (s:={s with heap:=h'}) e c d ∅ ⟨x,H,I1,ru,⟨rfl,λys hy=>by rw[I.Qno hy hq];exact hx⟩,st',λb hb=>(hf b hb).1⟩⟩
 done:=by
  intro X hP hw hK hc i pins s σ H E I hf st hg;subst hP hw hK;obtain⟨xs,hq,hx⟩:=hg;obtain⟨its,rv,p,hz⟩:=I.list hq;obtain⟨f0,f1,f2,f3,f4,f5⟩:=hf it ⋯;have hl:=rv.length;exact wpAny_pyNext_list_end (I.ok.hd hc) st p.isList (by simp;omega) λh' eb=>⟨rfl,I.turned (t':=s.toks) (λb o hb e=>eb b o hb e) f0 f1 f3 f4 f5⟩
 self:=λ_ _ _ _ _ st h=>wpAny_pyIter_listiter st h
def QqE{P:Program}{w:World}{K:Fgg}{tg:Expr}(a it:Addr):Turn P w K tg (Itt K a) [it] it (λi h=>h.IsTupleIter it a i) where
 mem:= ⋯
 obj:=λi h st b hb=>by
  have e:b=it:=by simpa using hb
  subst e;obtain⟨o,e,c,d⟩:=st;exact⟨o,e,λv z=>by rw[d]at z;cases z⟩
 keep:=λi h h' st k=>st.at λo e=>k it ⋯ o e
 item:=by
  intro X hP hw hK hc i pins s σ H E I hf st hg;subst hP hw hK;obtain⟨xs,x,hq,hx⟩:=hg;obtain⟨its,rv,p,hz⟩:=I.tuple hq;obtain⟨u,hu,ru⟩:=rv.get hx;obtain⟨f0,f1,f2,f3,f4,f5⟩:=hf it ⋯;refine wpAny_pyNext_tuple_item st (show s.heap.IsTuple a its.toArray from p) (x:=u) (by simpa using hu) λh' st' sb=>?_;have I1:Inv X pins σ H {s with heap:=h'}:=I.turned (t':=s.toks) (λb o hb e=>(sb.2 b hb).trans e) f0 f1 f3 f4 f5;obtain⟨o,e,c,d⟩:=id st';exact⟨u,rfl,QmY (s:={s with heap:=h'}) e c d ∅ ⟨x,H,I1,ru,⟨rfl,λys hy=>by rw[I.QqZ hy hq];exact hx⟩,st',λb hb=>(hf b hb).1⟩⟩
 done:=by
  intro X hP hw hK hc i pins s σ H E I hf st hg;subst hP hw hK;obtain⟨xs,hq,hx⟩:=hg;obtain⟨its,rv,p,hz⟩:=I.tuple hq;obtain⟨f0,f1,f2,f3,f4,f5⟩:=hf it ⋯;have hl:=rv.length;exact wpAny_pyNext_tuple_end (I.ok.hd hc) st (show s.heap.IsTuple a its.toArray from p) (by simp;omega) λh' eb=>⟨rfl,I.turned (t':=s.toks) (λb o hb e=>eb b o hb e) f0 f1 f3 f4 f5⟩
 self:=λ_ _ _ _ _ st h=>wpAny_pyIter_tupleiter st h
def Qp9{P:Program}{w:World}{K:Fgg}{tg:Expr}(it:Addr)(lo:Int)(n:Nat):Turn P w K tg (Itr lo n) [it] it (λi h=>IsRangeIter h it (lo+(i:Nat)*1) ((n:Int)-(i:Nat)) 1) where
 mem:= ⋯
 obj:=λi h st b hb=>by
  have e:b=it:=by simpa using hb
  subst e;exact⟨_,st,λv z=>by
   have z':Data.fields _=Data.cell v:=z;cases z'⟩
 keep:=λi h h' st k=>k it ⋯ _ st
 item:=by
  intro X hP hw hK hc i pins s σ H E I hf st hg;subst hP hw hK;obtain⟨f0,f1,f2,f3,f4,f5⟩:=hf it ⋯;have W:=Walks.range (prog:=X.prog) (w:=X.w) (I.ok.hd hc) it lo 1 n;refine W.item i s _ _ hg st λv h' tk hv st' kk=>?_;obtain⟨t,rfl⟩:=hv;have I1:Inv X pins σ H {s with heap:=h',toks:=tk}:=I.turned (λb o hb e=>kk b o (by simpa using hb) e) f0 f1 f3 f4 f5;refine⟨_,rfl,QmY (s:={s with heap:=h',toks:=tk}) (n:= "range_iterator") st' rfl rfl ∅ ⟨.int (lo+i),H,I1,⟨t,?_⟩,⟨rfl,rfl⟩,st',λb hb=>(hf b hb).1⟩⟩;rw[Int.mul_one]
 done:=by
  intro X hP hw hK hc i pins s σ H E I hf st hg;subst hP hw hK;obtain⟨f0,f1,f2,f3,f4,f5⟩:=hf it ⋯;exact wpAny_pyNext_range_end (I.ok.hd hc) st (by have:n<=i:=hg;omega) λh' eb=>⟨rfl,I.turned (t':=s.toks) (λb o hb e=>eb b o hb e) f0 f1 f3 f4 f5⟩
 self:=λ_ _ _ _ _ st h=>wpAny_pyIter_rangeiter st h
section
variable {X:Cx}{tg:Expr}
def Qts{pins:List (Addr×Obj)}{σ:St}{H:Hp}{s:Shared}{R:It->Hp->Prop}{E:Value->Shared->Prop}{lo hi:Int}{t u v:Tok}{tk:Nat}(I:Inv X pins σ H s)(h1: -(2^62)<=lo)(h2:lo<2^62)(h3: -(2^62)<=hi)(h4:hi<2^62)
  (q:R (Itr lo (hi-lo).toNat) H):wpAny (model X.prog X.w) X.A (pyIter (.ref s.heap.objs.size)) (PIE X pins σ tg R) E {s with heap:=s.heap.push {cls:= .type "range",data:= .fields #[.int lo t,.int hi u,.int 1 v]},toks:=tk}:=by
 refine wpAny_pyIter_range (IsRange.new ..) (small_one h1 h2 h3 h4) ?_;have I1:Inv X pins σ H {s with heap:=s.heap.push {cls:= .type "range",data:= .fields #[.int lo t,.int hi u,.int 1 v]},toks:=tk}:=I.kept λb o e=>Zu _ e
 refine⟨(s.heap.push {cls:= .type "range",data:= .fields #[.int lo t,.int hi u,.int 1 v]}).objs.size,[(s.heap.push {cls:= .type "range",data:= .fields #[.int lo t,.int hi u,.int 1 v]}).objs.size],_,_,H,rfl,
  I1.kept (t':=tk) λb o e=>Zu _ e,Qp9 _ lo (hi-lo).toNat,?_,λb hb=>?_,q⟩
 .have e1:lo+((0:Nat):Int)*1=lo:= ⋯
  have e2:(((hi-lo).toNat:Nat):Int)-((0:Nat):Int)=Builtin.Range.rangeSize lo hi 1:=by rw[rangeSize_one];split<;>omega
  show IsRangeIter _ _ (lo+((0:Nat):Int)*1) ((((hi-lo).toNat:Nat):Int)-((0:Nat):Int)) 1;rw[e1,e2];exact ZA _ rfl
 .have e:b=(s.heap.push {cls:= .type "range",data:= .fields #[.int lo t,.int hi u,.int 1 v]}).objs.size:=by simpa using hb
  subst e;exact I1.Qof (Ze _) (I1.hok.fresh (Ze _))
noncomputable def Qz5(ta:TA):TI:=λσ H R=>ta σ H λvs H1=>∃j:Int,vs=[.int j]/\ -(2^62)<=j/\j<2^62/\R (Itr 0 j.toNat) H1
def Qq8{a:Expr}{ta:TA}{p pos:Pos}(hg:Gl X "range")(hm:X.mg "range" =none)(ha:PA X [a] ta)(hs:starEach [a] X.env=[(false,eval a X.env)]:=by rfl):PI X tg (.Call (.Name "range" p) [a] [] pos) (Qz5 ta):=by
 intro pins s σ H R I h;refine Call_ (Qhb I hg hm boot_range (ZaB (thn (ha pos pins s σ H _ I h) λus s1 ⟨vs,H1,I1,r1,q1⟩=>?_) hs rfl));obtain⟨j,e,q1,q2,q⟩:=q1;subst e;cases r1 with
 | cons r rr=>
  cases rr;obtain⟨t,rfl⟩:=r;exact call_range_1 (Qts I1 ⋯ ⋯ q1 q2 (by simpa using q))
noncomputable def QAK(wi:TI)(g:TG)(tb:TS):TS:=λD σ H=>wi σ H λJ H1=>∃W:Nat->Nat->St->Hp->Prop,(∃m,W 0 m σ H1)/\∀i m σ H,W i m σ H→
 (J.stop i H/\D.nx σ H)∨(J.go i H/\∃N:St->Hp->Prop,(∀σ' H',N σ' H'->∃m',m'<m/\W (i+1) m' σ' H')/\∀x H',J.yld i H x H'->g x σ H' λσ2 H2=>tb {D with nx:=N,ct:=N,bk:=D.nx} σ2 H2)
noncomputable def Qg8(fp:LAd)(h:Heap):List (Addr×Obj):=fp.filterMap λb=>(h.get? b).map λo=>(b,o)
def QfJ{fp:LAd}{h:Heap}{b:Addr}{o:Obj}(hb:b∈fp)(e:h.get? b=some o):(b,o)∈Qg8 fp h:=Zaa.mpr ⟨b,hb,by rw[e];rfl⟩
def Qr5{fp:LAd}{h:Heap}{p:Addr×Obj}(hp:p∈Qg8 fp h):p.1∈fp/\h.get? p.1=some p.2:=by
 obtain⟨b,hb,e⟩:=Zaa.mp hp;cases q:h.get? b with
 | none=>rw[q]at e;cases e
 | some o=>
  rw[q]at e;have e':(b,o)=p:=Option.some.inj e;subst e';exact⟨hb,q⟩
def Inv.pinned{pins:List (Addr×Obj)}{σ:St}{H:Hp}{s:Shared}{fp:LAd}(I:Inv X pins σ H s)(hf:∀b∈fp,Qc2 X pins H b)(ho:∀b∈fp,∃o,s.heap.get? b=some o/\∀v,o.data≠ .cell v):Inv X (pins++Qg8 fp s.heap) σ H s:=
 I.QpF λp hp=>(ZG.mp hp).elim (λz=>I.pin p (Zg _ z)) λz=>by
  obtain⟨hb,e⟩:=Qr5 z;obtain⟨f0,f1,f2,_⟩:=hf p.1 hb;obtain⟨o,e',d⟩:=ho p.1 hb;rw[e]at e';cases e';exact⟨e,f0,f1,f2,d⟩
def Inv.Qf2{pins pl:List (Addr×Obj)}{σ:St}{H:Hp}{s:Shared}(I:Inv X (pins++pl) σ H s):Inv X pins σ H s:=I.QpF λp hp=>I.pin p (Zg _ (Zk _ hp))
def QqV{iter:Expr}{body:List Stmt}{wi:TI}{g:TG}{tb:TS}{pos:Pos}(hp:PassesOwn (model X.prog X.w) X.A X.env X.xe)(hc:X.calm=true)(hi:PI X tg iter wi)(hg:PG X tg g)(hb:PSs X body tb)
  (hs:∀x,foldedSetIterable iter X.env x=pure x:=by intro _;rfl):PS X (.For tg iter body [] pos) (QAK wi g tb):=by
 intro pins s σ H D I h;refine wpAny_For (thn (hi pins s σ H _ I h) λv s1 h1=>thn h1 λitv s2 h2=>?_) hs;obtain⟨it,fp,tn,J,H2,e,I2,T,st2,f2,W,⟨m0,w0⟩,turn⟩:=h2;subst e;have stat:∀{H':Hp},(∀b∈fp,H' b=none)->∀b∈fp,Qc2 X pins H' b:=λhn b hb=>⟨hn b hb,(f2 b hb).2⟩;refine codeAny_forLoop_any (λn s'=>∃i σ' H',Inv X pins σ' H' s'/\tn i s'.heap/\(∀b∈fp,H' b=none)/\W i n σ' H') ?_ m0 ⟨0,σ,H2,I2,st2,λb hb=>(f2 b hb).1,w0⟩;rintro n s3 ⟨i,σ3,H3,I3,st3,fr3,w3⟩;rcases turn i n σ3 H3 w3 with⟨stop,qn⟩ | ⟨go,N,hN,step⟩
 .refine wpAny_passesOwn hp (thn (T.done X rfl rfl rfl hc i pins s3 σ3 H3 X.xe I3 (stat fr3) st3 stop) λr s4 Z=>?_);obtain⟨hr,I4⟩:=Z;subst hr;exact wpAny_execs_nil ⟨σ3,H3,I4,qn⟩
 .refine wpAny_passesOwn hp (thn (T.item X rfl rfl rfl hc i pins s3 σ3 H3 X.xe I3 (stat fr3) st3 go) λr s4 Z=>?_);obtain⟨u,hr,h4⟩:=Z;subst hr;refine wpAny_passesOwn hp (thn h4 λ_ s5 Z=>?_);obtain⟨x,H5,I5,r5,y5,st5,fr5⟩:=Z;have I5':=I5.pinned (stat fr5) (T.obj _ _ st5);refine wpAny_passesOwn hp (thn (hg _ s5 σ3 H5 x u _ I5' r5 (step x H5 y5)) λ_ s6 Z=>?_);obtain⟨σ6,H6,I6,q6⟩:=Z;refine wpAny_passesOwn hp (thn (hb _ s6 σ6 H6 _ I6 q6) λf s7 q7=>?_);have again:∀{σ7:St}{H7:Hp},Inv X (pins++Qg8 fp s5.heap) σ7 H7 s7->N σ7 H7->∃m,m<n/\∃i σ' H',Inv X pins σ' H' s7/\tn i s7.heap/\(∀b∈fp,H' b=none)/\W i m σ' H':=λ{σ7 H7} I7 n7=>by
   obtain⟨m',hm,w7⟩:=hN σ7 H7 n7;refine⟨m',hm,i+1,σ7,H7,I7.Qf2,T.keep _ _ _ st5 λb hb o e=>(I7.pin (b,o) (Zg _ (Zg _ (QfJ hb e)))).1,λb hb=>?_,w7⟩;obtain⟨o,e,d⟩:=T.obj _ _ st5 b hb;exact(I7.pin (b,o) (Zg _ (Zg _ (QfJ hb e)))).2.1
  cases f with
  | next=>obtain⟨σ7,H7,I7,n7⟩:=q7;exact again I7 n7
  | cont=>obtain⟨σ7,H7,I7,n7⟩:=q7;exact again I7 n7
  | brk=>obtain⟨σ7,H7,I7,q7⟩:=q7;exact⟨σ7,H7,I7.Qf2,q7⟩
  | ret v=>obtain⟨x7,σ7,H7,I7,r7,q7⟩:=q7;exact⟨x7,σ7,H7,I7.Qf2,r7,q7⟩
end
abbrev R2:=V->V->Hp->VK->Prop
def OpR(X:Cx)(f:Value->Value->Sem Value)(r:R2):Prop:=
 ∀(pins:List (Addr×Obj)) (s:Shared) (σ:St) (H:Hp) (x y:V) (v u:Value) (Q:VK),Inv X pins σ H s->RelV x v->RelV y u->r x y H Q→
  wpAny (model X.prog X.w) X.A (f v u) (EP X pins σ Q) X.xe s
def UnR(X:Cx)(f:Value->Sem Value)(r:V->Hp->VK->Prop):Prop:=
 ∀(pins:List (Addr×Obj)) (s:Shared) (σ:St) (H:Hp) (x:V) (v:Value) (Q:VK),Inv X pins σ H s->RelV x v->r x H Q→
  wpAny (model X.prog X.w) X.A (f v) (EP X pins σ Q) X.xe s
def Qbo(X:Cx)(f:Value)(r:List V->Hp->VK->Prop):Prop:=
 ∀(pins:List (Addr×Obj)) (s:Shared) (σ:St) (H:Hp) (xs:List V) (us:List Value) (Q:VK),Inv X pins σ H s->QH xs us->r xs H Q→
  wpAny (model X.prog X.w) X.A (call f us) (EP X pins σ Q) X.xe s
def QBf(X:Cx)(r:V->Hp->(Bool->Hp->Prop)->Prop):Prop:=
 ∀(pins:List (Addr×Obj)) (s:Shared) (σ:St) (H:Hp) (x:V) (v:Value) (Q:Bool->Hp->Prop),Inv X pins σ H s->RelV x v->r x H Q→
  wpAny (model X.prog X.w) X.A (truthy v) (TP X pins σ Q) X.xe s
noncomputable def tOp(r:R2)(ta tb:TE):TE:=λσ H Q=>ta σ H λx H1=>tb σ H1 λy H2=>r x y H2 Q
noncomputable def tUn(r:V->Hp->VK->Prop)(ta:TE):TE:=λσ H Q=>ta σ H λx H1=>r x H1 Q
noncomputable def rI(C:Int->Int->Prop)(g:Int->Int->V):R2:=λx y H Q=>∃i j,x= .int i/\y= .int j/\C i j/\Q (g i j) H
noncomputable def rI0(g:Int->Int->V):R2:=λx y H Q=>∃i j,x= .int i/\y= .int j/\Q (g i j) H
def rU(g:Int->V):V->Hp->VK->Prop:=λx H Q=>∃i,x= .int i/\Q (g i) H
section
variable {X:Cx}{a b c:Expr}{ta tb tc:TE}{pos:Pos}
def QpT(ha:PE X a ta)(hb:PE X b tb){pins:List (Addr×Obj)}{s:Shared}{σ:St}{H:Hp}{R:V->V->Hp->Prop}(I:Inv X pins σ H s)
  (h:ta σ H λx H1=>tb σ H1 λy H2=>R x y H2) {Q:Value->Shared->Prop}{f:Value->Value->Sem Value}
  (hf:∀v u s2 x y H2,Inv X pins σ H2 s2->RelV x v->RelV y u->R x y H2->wpAny (model X.prog X.w) X.A (f v u) Q X.xe s2):
  wpAny (model X.prog X.w) X.A (eval a X.env) (λv s₁=>wpAny (model X.prog X.w) X.A (eval b X.env) (λu s₂=>wpAny (model X.prog X.w) X.A (f v u) Q X.xe s₂) X.xe s₁) X.xe s:=by
 refine thn (ha pins s σ H _ I h) λv s1=>exJ λx H1 I1 r1 q1=>?_;refine thn (hb pins s1 σ H1 _ I1 q1) λu s2=>exJ λy H2 I2 r2 q2=>?_;exact hf v u s2 x y H2 I2 r1 r2 q2
def Qm1{op:Operator}{r:R2}(ho:OpR X (binaryOp op) r)(ha:PE X a ta)(hb:PE X b tb):PE X (.BinOp a op b pos) (tOp r ta tb):=by
 intro pins s σ H Q I h;exact wpAny_BinOp (QpT ha hb I h λv u s2 x y H2 I2 rx ry q=>ho pins s2 σ H2 x y v u Q I2 rx ry q)
def QzY{op:UnaryOp}{r:V->Hp->VK->Prop}(ho:UnR X (unaryOp op) r)(ha:PE X a ta):PE X (.UnaryOp op a pos) (tUn r ta):=by
 intro pins s σ H Q I h;exact UnaryOp_ (thn (ha pins s σ H _ I h) λv s1 ⟨x,H1,I1,r1,q1⟩=>ho pins s1 σ H1 x v Q I1 r1 q1)
def QBm{op:Operator}{r:R2}(ho:OpR X (inplaceOp op) r){pins:List (Addr×Obj)}{s:Shared}{σ:St}{H:Hp}{x y:V}{v u:Value}{Q:VK}(I:Inv X pins σ H s)
  (rx:RelV x v) (ry:RelV y u) (q:r x y H Q):wpAny (model X.prog X.w) X.A (inplaceOp op v u) (EP X pins σ Q) X.xe s:=ho pins s σ H x y v u Q I rx ry q
def opI{f:Value->Value->Sem Value}{C:Int->Int->Prop}{g:Int->Int->Int}
  (rule:∀(i j:Int) (t u:Tok) (s:Shared) (Q:Value->Shared->Prop) (E:Value->Shared->Prop),C i j->Q (.int (g i j) s.toks) {s with toks:=s.toks+1}->wpAny (model X.prog X.w) X.A (f (.int i t) (.int j u)) Q E s):
  OpR X f (rI C λi j=> .int (g i j)):=by
 intro pins s σ H x y v u Q I rx ry h;obtain⟨i,j,rfl,rfl,hc,q⟩:=h;obtain⟨t,rfl⟩:=rx;obtain⟨t',rfl⟩:=ry;exact rule i j t t' s _ _ hc ⟨.int (g i j),H,I.tok _,⟨_,rfl⟩,q⟩
def Qqx{f:Value->Value->Sem Value}{g:Int->Int->Int}
  (rule:∀(i j:Int) (t u:Tok) (s:Shared) (Q:Value->Shared->Prop) (E:Value->Shared->Prop),Q (.int (g i j) s.toks) {s with toks:=s.toks+1}->wpAny (model X.prog X.w) X.A (f (.int i t) (.int j u)) Q E s):
  OpR X f (rI0 λi j=> .int (g i j)):=by
 intro pins s σ H x y v u Q I rx ry h;obtain⟨i,j,rfl,rfl,q⟩:=h;obtain⟨t,rfl⟩:=rx;obtain⟨t',rfl⟩:=ry;exact rule i j t t' s _ _ ⟨.int (g i j),H,I.tok _,⟨_,rfl⟩,q⟩
def Qql{f:Value->Value->Sem Value}{g:Int->Int->Bool}
  (rule:∀(i j:Int) (t u:Tok) (s:Shared) (Q:Value->Shared->Prop) (E:Value->Shared->Prop),Q (.bool (g i j)) s->wpAny (model X.prog X.w) X.A (f (.int i t) (.int j u)) Q E s):
  OpR X f (rI0 λi j=> .bl (g i j)):=by
 intro pins s σ H x y v u Q I rx ry h;obtain⟨i,j,rfl,rfl,q⟩:=h;obtain⟨t,rfl⟩:=rx;obtain⟨t',rfl⟩:=ry;exact rule i j t t' s _ _ ⟨.bl (g i j),H,I,rfl,q⟩
def Qyz:OpR X (binaryOp .Add) (rI0 λi j=> .int (i+j)):=Qqx λ_ _ _ _ _ _ _ q=>add_int q
def QyM:OpR X (binaryOp .Sub) (rI0 λi j=> .int (i-j)):=Qqx λ_ _ _ _ _ _ _ q=>sub_int q
def QwF:OpR X (inplaceOp .Add) (rI0 λi j=> .int (i+j)):=Qqx λ_ _ _ _ _ _ _ q=>iadd_int q
def QuW:OpR X (inplaceOp .Sub) (rI0 λi j=> .int (i-j)):=Qqx λ_ _ _ _ _ _ _ q=>isub_int q
def unI{f:Value->Sem Value}{g:Int->Int}
  (rule:∀(i:Int) (t:Tok) (s:Shared) (Q:Value->Shared->Prop) (E:Value->Shared->Prop),Q (.int (g i) s.toks) {s with toks:=s.toks+1}->wpAny (model X.prog X.w) X.A (f (.int i t)) Q E s):
  UnR X f (rU λi=> .int (g i)):=by
 intro pins s σ H x v Q I rx h;obtain⟨i,rfl,q⟩:=h;obtain⟨t,rfl⟩:=rx;exact rule i t s _ _ ⟨.int (g i),H,I.tok _,⟨_,rfl⟩,q⟩
def Qxc:UnR X (unaryOp .USub) (rU λi=> .int (-i)):=unI λ_ _ _ _ _ q=>neg_int q
end
section
variable {X:Cx}{a b c:Expr}{ta tb tc:TE}{pos:Pos}
def QgV{pins:List (Addr×Obj)}{σ:St}{H:Hp}{s:Shared}{Q:VK}{k k':Bool}(I:Inv X pins σ H s)(q:Q (.bl k) H)(e:k=k'):EP X pins σ Q (.bool k') s:=by
 subst e;exact⟨.bl k,H,I,rfl,q⟩
def QAu:OpR X (compareOp .Lt) (rI0 λi j=> .bl (decide (i<j))):=Qql λ_ _ _ _ _ _ _ q=>lt_int q
def QzE:OpR X (compareOp .LtE) (rI0 λi j=> .bl (decide (i<=j))):=Qql λ_ _ _ _ _ _ _ q=>le_int q
def QzJ:OpR X (compareOp .Gt) (rI0 λi j=> .bl (decide (j<i))):=Qql λ_ _ _ _ _ _ _ q=>gt_int q
def Qz7:OpR X (compareOp .GtE) (rI0 λi j=> .bl (decide (j<=i))):=Qql λ_ _ _ _ _ _ _ q=>ge_int q
def QrI:OpR X (compareOp .In) (λx y H Q=>∃i j,x= .str i/\y= .str j/\Q (.bl (!(Builtin.Str.occurrences j i 0 j.length 1).isEmpty)) H):=by
 intro pins s σ H x y v u Q I rx ry h;obtain⟨i,j,rfl,rfl,q⟩:=h;obtain⟨t,rfl⟩:=rx;obtain⟨t',rfl⟩:=ry;exact in_str (QgV I q rfl)
def QxE:OpR X (compareOp .Is) (λx y H Q=>y= .non/\Q (.bl (decide (x= .non))) H):=by
 intro pins s σ H x y v u Q I rx ry h;obtain⟨rfl,q⟩:=h;cases ry;refine is_none_gen (QgV I q ?_)
 cases x<;>first
  | (cases rx;rfl)
  | (obtain⟨t,rfl⟩:=rx;rfl)
def Qvw:OpR X (compareOp .IsNot) (λx y H Q=>y= .non/\Q (.bl (!decide (x= .non))) H):=by
 intro pins s σ H x y v u Q I rx ry h;obtain⟨rfl,q⟩:=h;cases ry;refine isnot_none_gen (QgV I q ?_)
 cases x<;>first
  | (cases rx;rfl)
  | (obtain⟨t,rfl⟩:=rx;rfl)
def Qnp:OpR X (compareOp .NotIn) (λx y H Q=>∃i j,x= .str i/\y= .str j/\Q (.bl (!(!(Builtin.Str.occurrences j i 0 j.length 1).isEmpty))) H):=by
 intro pins s σ H x y v u Q I rx ry h;obtain⟨i,j,rfl,rfl,q⟩:=h;obtain⟨t,rfl⟩:=rx;obtain⟨t',rfl⟩:=ry;exact notIn_str (QgV I q rfl)
def OpR.or{f:Value->Value->Sem Value}{r r':R2}(h:OpR X f r)(h':OpR X f r'):OpR X f (λx y H Q=>r x y H Q∨r' x y H Q):=by
 intro pins s σ H x y v u Q I rx ry q;rcases q with q | q
 .exact h pins s σ H x y v u Q I rx ry q
 .exact h' pins s σ H x y v u Q I rx ry q
def Qu4{op:CmpOp}{r:R2}(ho:OpR X (compareOp op) r)(ha:PE X a ta)(hb:PE X b tb)(hm:behindInMarks op b=false):PE X (.Compare a [op] [b] pos) (tOp r ta tb):=by
 intro pins s σ H Q I h;exact wpAny_Compare1 (QpT ha hb I h λv u s2 x y H2 I2 rx ry q=>ho pins s2 σ H2 x y v u Q I2 rx ry q) hm
noncomputable def QAc(t:TE):TT:=λσ H Q=>t σ H λx H'=>∃k,x= .bl k/\Q k H'
def Qvc{op:CmpOp}{r:R2}(ho:OpR X (compareOp op) r)(ha:PE X a ta)(hb:PE X b tb)(hm:behindInMarks op b=false):PT X (.Compare a [op] [b] pos) (QAc (tOp r ta tb)):=by
 intro pins s σ H Q I h;refine wpAny_isTrue_Compare1 (thn (ha pins s σ H _ I h) λv s1 ⟨x,H1,I1,r1,q1⟩=>thn (hb pins s1 σ H1 _ I1 q1) λu s2 ⟨y,H2,I2,r2,q2⟩=>
  thn (ho pins s2 σ H2 x y v u _ I2 r1 r2 q2) λc s3 ⟨z,H3,I3,r3,k,e,q3⟩=>?_) hm
 subst e;cases r3;exact wpAny_truthy_bool ⟨H3,I3,q3⟩
def Qtl(K:Fgg)(x:V)(H:Hp)(k:Bool):Prop:=
 match x with
 | .non=>k=false
 | .bl b=>k=b
 | .int i=>k=(i != 0)
 | .str y=>y.length<=sizeLine/\k=((y.length:Int) != 0)
 | .byt y=>y.size<=sizeLine/\k=((y.size:Int) != 0)
 | .ref p=>(∃xs,SqL K H p xs/\k= !xs.isEmpty)∨(∃xs,SqT K H p xs/\k= !xs.isEmpty)∨∃kvs,H p=some (.dK kvs)/\k= !kvs.isEmpty
 | _=>False
def QqF{κ:Type}{kvs:List (κ×V)}{vs:List (κ×Value)}(r:KV kvs vs):(!vs.isEmpty)= !kvs.isEmpty:=by
 cases r<;>rfl
def Qk5{xs:List V}{its:List Value}(r:QH xs its):(!its.toArray.isEmpty)= !xs.isEmpty:=by
 cases r<;>simp
def QfW:(sizeLine:Nat)<2^63:=by rw[sizeLine_eq];decide
def QkE:QBf X (λx H Q=>∃k,Qtl X.K x H k/\Q k H):=by
 intro pins s σ H x v Q I rx h;obtain⟨k,e,q⟩:=h;have hl:=QfW;have hs:sizeLine=16777216:=sizeLine_eq;cases x with
 | non=>
  cases rx;have e':k=false:=e;subst e';exact truthy_none ⟨H,I,q⟩
 | bl b=>
  cases rx;have e':k=b:=e;subst e';exact wpAny_truthy_bool ⟨H,I,q⟩
 | int i=>
  obtain⟨t,rfl⟩:=rx;have e':k=(i != 0):=e;subst e';exact PySem.P.truthy_int ⟨H,I,q⟩
 | str y=>
  obtain⟨t,rfl⟩:=rx;obtain⟨hy,e'⟩:y.length<=sizeLine/\k=((y.length:Int) != 0):=e;subst e';exact PySem.P.truthy_str ⋯ ⟨H,I.tok _,q⟩
 | byt y=>
  obtain⟨t,rfl⟩:=rx;obtain⟨hy,e'⟩:y.size<=sizeLine/\k=((y.size:Int) != 0):=e;subst e';exact PySem.W.truthy_bytes ⋯ ⟨H,I.tok _,q⟩
 | ref p=>
  cases rx;have e':(∃xs,SqL X.K H p xs/\k= !xs.isEmpty)∨(∃xs,SqT X.K H p xs/\k= !xs.isEmpty)∨∃kvs,H p=some (.dK kvs)/\k= !kvs.isEmpty:=e;rcases e' with⟨xs,hx,e'⟩ | ⟨xs,hx,e'⟩ | ⟨kvs,hx,e'⟩
  .subst e';obtain⟨its,r,pl,hz⟩:=I.list hx;have hlen:=r.length;exact wpAny_truthy_list pl.isList (by simp only[Zr];omega) ⟨H,I.tok _,by rw[Qk5 r];exact q⟩
  .subst e';obtain⟨its,r,pl,hz⟩:=I.tuple hx;have hlen:=r.length;exact truthy_tuple pl (by simp only[Zr];omega) ⟨H,I.tok _,by rw[Qk5 r];exact q⟩
  .subst e';obtain⟨hz,hS,vs,r,m⟩:kvs.length<=sizeLine/\(p == sysModules)=false/\∃vs,KV kvs vs/\s.heap.DictOf (QlP X.prog X.w) p vs:=I.hok p _ hx;have hlen:kvs.length=vs.length:=Paired.length r;exact wpAny_truthy_dict hS m ⋯ ⟨H,I.tok _,by rw[QqF r];exact q⟩
 | _=>exact(show False from e).elim
def QsN(ha:PE X a ta)(he:∀whole,isTrue a X.env whole=(do let v ← whole;standAt a.pos;holding [v] (truthy v))):
  PT X a (λσ H Q=>ta σ H λx H'=>∃k,Qtl X.K x H' k/\Q k H'):=by
 intro pins s σ H Q I h;exact isTrue_plain (thn (ha pins s σ H _ I h) λv s1 ⟨x,H1,I1,r1,q1⟩=>QkE pins s1 σ H1 x v Q I1 r1 q1) (he _)
def Qqw:OpR X (binaryOp .Add) (λx y H Q=>∃i j,x= .str i/\y= .str j/\i.length+j.length<=sizeLine/\Q (.str (i++j)) H):=by
 intro pins s σ H x y v u Q I rx ry h;obtain⟨i,j,rfl,rfl,hz,q⟩:=h;obtain⟨t,rfl⟩:=rx;obtain⟨t',rfl⟩:=ry;exact add_str (λt' tk=>⟨.str (i++j),H,I.tok _,⟨_,rfl⟩,q⟩) hz
def QtS(b:Expr):Prop:=∀o i,subscripted b false o i=operate [o,i] (getItem o i)
def QoW(ha:PE X a ta)(hb:PE X b tb)(hs:QtS b):
  PE X (.Subscript a b pos) (tOp (λx y H Q=>∃z i c,x= .str z/\y= .int i/\0<=i/\i<2^63/\i<z.length/\z.cps[i.toNat]? =some c/\Q (.str ⟨#[c]⟩) H) ta tb):=by
 intro pins s σ H Q I h;refine Subscript_ (QpT ha hb I h λv u s2 x y H2 I2 rx ry q=>?_);obtain⟨z,i,c,rfl,rfl,h0,h63,h1,hc,q⟩:=q;obtain⟨t,rfl⟩:=rx;obtain⟨t',rfl⟩:=ry;have e:seqIndex? i z.length=some i.toNat:=PySem.StrLaws.seqIndex_nonneg h0 h1;exact tail_any (typeIs_str s2 z t) slot_str_getitem.lookup (getItem_str (c:=c) (by
  have e1:decide (i< -(2^63:Int))=false:=decide_eq_false ⋯;have e2:decide (i≥2^63)=false:=decide_eq_false ⋯;rw[e1,e2]<;>rfl) (by rw[e];exact hc) ⟨.str ⟨#[c]⟩,H2,I2.tok _,⟨_,rfl⟩,q⟩) (hs _ _)
def vals1{x:V}{us:List Value}(r:QH [x] us):∃u,us=[u]/\RelV x u:=by
 cases r with
 | cons r1 r2=>cases r2;exact⟨_,rfl,r1⟩
def vals2{x y:V}{us:List Value}(r:QH [x,y] us):∃u w',us=[u,w']/\RelV x u/\RelV y w':=by
 cases r with
 | cons r1 r2=>
  cases r2 with
  | cons r3 r4=>cases r4;exact⟨_,_,rfl,r1,r3⟩
def Qre(hc:X.calm=true):Qbo X (.builtin "max") (λxs H Q=>∃i j,xs=[.int i,.int j]/\Q (.int (if j>i then j else i)) H):=by
 intro pins s σ H xs us Q I r h;obtain⟨i,j,rfl,q⟩:=h;obtain⟨u,w',rfl,⟨t,rfl⟩,⟨t',rfl⟩⟩:=vals2 r;refine max_two_ints (I.ok.hd hc) λh' tk k=>⟨_,H,I.kept k,?_,q⟩;by_cases hj:j>i
 .rw[if_pos hj,if_pos hj];exact⟨_,rfl⟩
 .rw[if_neg hj,if_neg hj];exact⟨_,rfl⟩
def QrA(hc:X.calm=true):Qbo X (.builtin "min") (λxs H Q=>∃i j,xs=[.int i,.int j]/\Q (.int (if j<i then j else i)) H):=by
 intro pins s σ H xs us Q I r h;obtain⟨i,j,rfl,q⟩:=h;obtain⟨u,w',rfl,⟨t,rfl⟩,⟨t',rfl⟩⟩:=vals2 r;refine min_two_ints (I.ok.hd hc) λh' tk k=>⟨_,H,I.kept k,?_,q⟩;by_cases hj:j<i
 .rw[if_pos hj,if_pos hj];exact⟨_,rfl⟩
 .rw[if_neg hj,if_neg hj];exact⟨_,rfl⟩
def Qmu:Qbo X (.type "int") (λxs H Q=>(∃i,xs=[.int i]/\Q (.int i) H)∨∃k,xs=[.bl k]/\Q (.int (if k then 1 else 0)) H):=by
 intro pins s σ H xs us Q I r h;rcases h with⟨i,rfl,q⟩ | ⟨k,rfl,q⟩
 .obtain⟨u,rfl,t,rfl⟩:=vals1 r;exact call_int_int ⟨.int i,H,I,⟨_,rfl⟩,q⟩
 .obtain⟨u,rfl,r1⟩:=vals1 r;cases r1;exact call_int_bool ⟨.int (if k then 1 else 0),H,I.tok _,⟨_,rfl⟩,q⟩
def QnE:Qbo X (.type "str") (λxs H Q=>∃i,xs=[.int i]/\i.natAbs.log2<1920/\Q (.str (toString i)) H):=by
 intro pins s σ H xs us Q I r h;obtain⟨i,rfl,hz,q⟩:=h;obtain⟨u,rfl,t,rfl⟩:=vals1 r;exact PySem.P.str_of_int hz ⟨.str _,H,I.tok _,⟨_,rfl⟩,q⟩
end
structure QBs (h:Heap) (x dx C:Addr) (mA:Str->Option Value):Prop where
 obj:h.get? x=some (PySem.W.instObj C dx)
 ns:h.Ns1 dx mA
 ne:dx≠x
section
variable {prog:Program}{w:World}{A:Around}{E:Value->Shared->Prop}{s:Shared}{K:Fgg}{x dx C f:Addr}{mA:Str->Option Value}{name:Str}{v:Value}
end
section
variable {P:Program}{w:World}{H H':Hp}{h h':Heap}{a C dx:Addr}{fs fs':List (Str×V)}
end
structure Cls (K:Fgg) (C:Addr):Prop where
 pg:PySem.W.plainGet K C Str.empty=true
 hd:PySem.W.hasDictIn K C=true
 po:PySem.W.plainOver K C=true
 sa:PySem.W.findIn K (.ref C) "__setattr__" =some (some (.builtin "object.__setattr__"))
structure Con (K:Fgg) (C:Addr) (f:Str) (v:V) (u:Value):Prop where
 at_:PySem.W.findIn K (.ref C) f=some (some u)
 rel:RelV v u
 get:PySem.W.specialIn K u "__get__" =some none
 cp:PySem.W.copiedNames.contains f=false
structure QBt (K:Fgg) (C:Addr) (m:Str) (f:Addr):Prop where
 at_:PySem.W.findIn K (.ref C) m=some (some (.ref f))
 fn:PySem.W.isFn K (.ref f)=true
 kp:PySem.W.keepIn K (.ref f)=true
section
variable {X:Cx}{pins:List (Addr×Obj)}{σ:St}{H:Hp}{s:Shared}{a C dx:Addr}{fs:List (Str×V)}{f:Str}{v:V}{A:Around}{E:Value->Shared->Prop}
end
section
variable {X:Cx}{o e value:Expr}{f:Str}{pos pos' tpos:Pos}{ta tv:TE}
end
section
variable {X:Cx}{pins:List (Addr×Obj)}{σ:St}{H:Hp}{s:Shared}{A:Around}{E:Value->Shared->Prop}{Q:Value->Shared->Prop}{c:Value}{b:Bool}
end
structure Qa6 (k:Nat) (A:Around):Prop where
 hd:A.handled=none
 dp:A.depth+3*k+5<recursionLimit
 un:A.units+16*k+200<cLine
def Qa6.mono{j k:Nat}{A:Around}(r:Qa6 k A)(h:j<=k):Qa6 j A:=⟨r.hd,by have:=r.dp;omega,by have:=r.un;omega⟩
def Qa6.deeper{k:Nat}{A:Around}(r:Qa6 (k+1) A)(env:Env):Qa6 k (A.deeper env):=
 ⟨r.hd,by have:=r.dp;show A.depth+1+3*k+5<_;omega,by have:=r.un;show A.units+3+16*k+200<_;omega⟩
def Qa6.depth{k:Nat}{A:Around}(r:Qa6 k A):A.depth<recursionLimit:=by have:=r.dp;omega
def Qa6.units{k:Nat}{A:Around}(r:Qa6 k A):A.units+64<cLine:=by have:=r.un;omega
noncomputable def QhC:TA:=λ_ H Q=>Q [] H
noncomputable def Qgu(ta:TE)(tr:TA):TA:=λσ H Q=>ta σ H λx H1=>tr σ H1 λxs H2=>Q (x::xs) H2
section
variable {X:Cx}{e:Expr}{es:List Expr}{te:TE}{t:TA}{pos:Pos}
def Qek:PA X [] QhC:=λ_ _ _ _ H Q I h=>Calls.spliced_nil ⟨[],H,I,.nil,h⟩
def QbG(ha:PE X e te)(hr:PA X es t)(hs:starEach (e::es) X.env=(false,eval e X.env)::starEach es X.env:=by rfl):PA X (e::es) (Qgu te t):=by
 intro pos pins s σ H Q I h;rw[hs];show wpAny _ _ (spliced ((false,eval e X.env)::backTo pos (starEach es X.env))) _ _ s;refine Calls.spliced_cons (thn (ha pins s σ H _ I h) λu s1=>exJ λx H1 I1 r1 q1=>?_);exact thn (hr pos pins s1 σ H1 _ I1 q1) λus s2 ⟨xs,H2,I2,r2,q2⟩=>⟨x::xs,H2,I2,.cons r1 r2,q2⟩
noncomputable def QBp(t:TA):TE:=λσ H Q=>t σ H λxs H1=>xs.length<=sizeLine/\∀p,H1 p=none->Q (.ref p) (upd H1 p (.tup xs))
noncomputable def QBk(t:TA):TE:=λσ H Q=>t σ H λxs H1=>xs.length<=sizeLine/\∀p,H1 p=none->Q (.ref p) (upd H1 p (.lst xs))
def Qq2{x1}(h:PA X es t):PE X (.Tuple es x1 pos) (QBp t):=by
 intro pins s σ H Q I hq;refine wpAny_Tuple_spliced (thn (h pos pins s σ H _ I hq) λus s1 ⟨xs,H1,I1,r,z,q⟩=>⟨by rw[← r.length];exact z,?_⟩);have hf:H1 s1.heap.objs.size=none:=I1.hok.fresh (Ze _);refine⟨.ref s1.heap.objs.size,upd H1 s1.heap.objs.size (.tup xs),I1.laid (t':=s1.toks) (λb u e=>Zu _ e) (Ze _) ?_,rfl,q _ hf⟩;exact⟨z,us,r,⟨_,ZA _ rfl,rfl,_,rfl⟩⟩
def Qq9(h:PA X es t):PE X (.List es pos) (QBk t):=by
 intro pins s σ H Q I hq;refine wpAny_List_spliced (thn (h pos pins s σ H _ I hq) λus s1 ⟨xs,H1,I1,r,z,q⟩=>⟨by rw[← r.length];exact z,?_⟩);have hf:H1 s1.heap.objs.size=none:=I1.hok.fresh (Ze _);refine⟨.ref s1.heap.objs.size,upd H1 s1.heap.objs.size (.lst xs),I1.laid (t':=s1.toks) (λb u e=>Zu _ e) (Ze _) ?_,rfl,q _ hf⟩;exact⟨z,us,0,r,ZA _ rfl⟩
end
abbrev Sp:=List V->Hp->VK->XK->Prop
abbrev CXT:=List Env->Hp->Shared->XK->Value->Shared->Prop
structure QnU (P:Program) (w:World) (K:Fgg) (mg:Str->Option Value) (base:Heap) (A:Around) (outer:List Env) (s:Shared) (H:Hp):Prop where
 frames:A.frames=some outer
 mod:Mod K mg base
 bs:∀b o,base.get? b=some o->s.heap.get? b=some o/\H b=none
 bsz:base.objs.size<=s.heap.objs.size
 Qel:s.heap.FunFrames base outer
 frf:∀b∈frs outer,H b=none
 hok:HOk P w H s.heap
 bare:AllBare s.gens
def CE(outer:List Env)(P:Program)(w:World)(H:Hp)(s:Shared)(Q:VK)(u:Value)(s':Shared):Prop:=
 ∃v H',s'.os=s.os/\AllBare s'.gens/\Un (frs outer) [] H H' s.heap s'.heap/\HOk P w H' s'.heap/\RelV v u/\Q v H'
def CR(CX:CXT)(outer:List Env)(P:Program)(w:World)(H:Hp)(s:Shared)(Q:VK)(E:XK)(r:Result)(s':Shared):Prop:=
 match r with
 | .ok (.ret u)=>CE outer P w H s Q u s'
 | .ok _=>False
 | .error e=>CX outer H s E e s'
structure Qck (P:Program) (w:World) (K:Fgg) (mg:Str->Option Value) (base:Heap) (CX:CXT) (k:Nat) (f:Addr) (fd:FuncData) (ps:List Str) (sp:Sp):Prop where
 len:∀vs H Q E,sp vs H Q E->vs.length=ps.length
 run:∀(A:Around) (outer:List Env) (s:Shared) (H:Hp) (args:Args) (us:List Value) (vs:List V) (Q:VK) (E:XK),Qa6 k A->QnU P w K mg base A outer s H->BindsTo s fd args (ps.zip us)->QH vs us->sp vs H Q E→
  codeAny (model P w) A (.call (.ref f) args) (CR CX outer P w H s Q E) s
def Qck.mono{P:Program}{w:World}{K:Fgg}{mg:Str->Option Value}{base:Heap}{CX:CXT}{j k:Nat}{f:Addr}{fd:FuncData}{ps:List Str}{sp:Sp}(F:Qck P w K mg base CX j f fd ps sp)(h:j<=k):
  Qck P w K mg base CX k f fd ps sp:=⟨F.len,λA outer s H args us vs Q E hr=>F.run A outer s H args us vs Q E (hr.mono h)⟩
section
variable {X:Cx}{pins:List (Addr×Obj)}{σ:St}{H:Hp}{s s':Shared}
def Inv.Qud(I:Inv X pins σ H s):QnU X.prog X.w X.K X.mg X.base X.A X.stack s H:=
 ⟨I.ok.frames,I.ok.mod,I.bs,Zx I.ok.bsz I.sz,I.stack,I.Qlv,I.hok,I.bare⟩
def Inv.after{Q:VK}{u:Value}(I:Inv X pins σ H s)(h:CE X.stack X.prog X.w H s Q u s'):EP X pins σ Q u s':=by
 obtain⟨v,H',os,bare,un,hok,r,q⟩:=h;obtain⟨hh,g,d,t,os'⟩:=s';obtain rfl:os'=s.os:=os;exact⟨v,H',I.call (h':=hh) (g':=g) (d':=d) (t':=t) (ch:=[]) un hok bare (λb z=>absurd z ⋯),r,q⟩
end
noncomputable def Qqr(sp:Sp)(dvs:List V)(E:XK)(t:TA):TE:=λσ H Q=>t σ H λvs H1=>sp (vs++dvs) H1 Q E
def Binds(K:Fgg)(fd:FuncData)(ps:List Str)(ds:List Value):Prop:=
 ∀(s:Shared) (us:List Value),K.In s.heap->(us++ds).length=ps.length->BindsTo s fd ⟨us,[]⟩ (ps.zip (us++ds))
def Binds.all{K:Fgg}{fd:FuncData}{ps:List Str}(h:∀us:List Value,us.length=ps.length->bindArgs fd ⟨us,[]⟩=pure (ps.zip us)):Binds K fd ps []:=λs us _ hl=>by
 rw[ZJ]at hl ⊢;exact .of_eq (h us hl)
def Qlc(CX:CXT)(X:Cx)(E:XK):Prop:=∀(pins:List (Addr×Obj)) (σ:St) (H:Hp) (s:Shared) (e:Value) (s':Shared),Inv X pins σ H s->CX X.stack H s E e s'->X.xe e s'
section
variable {X:Cx}{CX:CXT}{k:Nat}{f C:Addr}{fd:FuncData}{ps:List Str}{sp:Sp}{dvs:List V}{ds:List Value}{E:XK}{x m:Str}{p pos apos:Pos}{e o:Expr}{es:List Expr}{ta:TE}{t:TA}
def Qsr{pins:List (Addr×Obj)}{σ:St}{H:Hp}{s:Shared}{Q:VK}{us:List Value}{vs:List V}(F:Qck X.prog X.w X.K X.mg X.base CX k f fd ps sp)(hr:Qa6 k X.A)(hb:Binds X.K fd ps ds)(hd:QH dvs ds)(hx:Qlc CX X E)
  (I:Inv X pins σ H s) (r:QH vs us) (h:sp (vs++dvs) H Q E):wpAny (model X.prog X.w) X.A (call (.ref f) us) (EP X pins σ Q) X.xe s:=by
 have r2:QH (vs++dvs) (us++ds):=r.append hd;have hl:(us++ds).length=ps.length:=by rw[← r2.length];exact F.len _ _ _ _ h
 refine wpAny_call (codeAny_mono (F.run X.A X.stack s H ⟨us,[]⟩ (us++ds) (vs++dvs) Q E hr I.Qud (hb s us I.kIn hl) r2 h) λr s' hq=>?_);cases r with
 | error e=>exact hx pins σ H s e s' I hq
 | ok fl=>
  cases fl with
  | ret u=>exact I.after hq
  | next=>exact False.elim hq
  | brk=>exact False.elim hq
  | cont=>exact False.elim hq
def Qv1(F:Qck X.prog X.w X.K X.mg X.base CX k f fd ps sp)(hr:Qa6 k X.A)(hg:Gl X x)(hm:X.mg x=some (.ref f))(hk:PySem.W.keepIn X.K (.ref f)=true)(hb:Binds X.K fd ps ds)(hd:QH dvs ds)(hx:Qlc CX X E)
  (ha:PA X (e::es) t) (hdb:(x == ("__debug__" :Str))=false:=by decide) (he:starEach (e::es) X.env=(false,eval e X.env)::starEach es X.env:=by rfl) (hpl:(backTo pos (starEach es X.env)).any (·.1)=false:=by rfl):
  PE X (.Call (.Name x p) (e::es) [] pos) (Qqr sp dvs E t):=by
 intro pins s σ H Q I h;refine wpAny_Call_Name_kw (QeJ I hg hm ?_ hdb);refine Zbk (h₀:=X.base) I.ok.mod.kin hk (thn (ha pos pins s σ H _ I h) λus s1 ⟨vs,H1,I1,r,q⟩=>⟨I1.kIn,?_⟩) he hpl;exact Qsr F hr hb hd hx I1 r q
def QsF(F:Qck X.prog X.w X.K X.mg X.base CX k f fd ps sp)(hr:Qa6 k X.A)(hg:Gl X x)(hm:X.mg x=some (.ref f))(hk:PySem.W.keepIn X.K (.ref f)=true)(hb:Binds X.K fd ps ds)(hd:QH dvs ds)(hx:Qlc CX X E)
  (hdb:(x == ("__debug__" :Str))=false:=by decide):PE X (.Call (.Name x p) [] [] pos) (Qqr sp dvs E QhC):=by
 intro pins s σ H Q I h;refine wpAny_Call_Name_kw (QeJ I hg hm ?_ hdb);exact PySem.W.callWith_K0 I.kIn hk (Qsr (us:=[]) F hr hb hd hx I .nil h)
structure Mk (K:Fgg) (C f:Addr):Prop where
 makes:PySem.W.makesIn K C=true
 init:PySem.W.findIn K (.ref C) "__init__" =some (some (.ref f))
 fn:PySem.W.isFn K (.ref f)=true
 kp:PySem.W.keepIn K (.ref C)=true
end
section
variable {X:Cx}{CX:CXT}{k:Nat}{f C:Addr}{fd:FuncData}{ps ks:List Str}{sp:Sp}{E:XK}{x m:Str}{p pos apos kpos:Pos}{e o:Expr}{es:List Expr}{kws:List Keyword}{te ta:TE}{t tk:TA}{nm:Option Str}
structure QBr (K:Fgg) (fd:FuncData) (ps ks:List Str) (g:List Value->List Value->List Value) (gV:List V->List V->List V):Prop where
 to:∀(s:Shared) (us ws:List Value),K.In s.heap->(g us ws).length=ps.length->BindsTo s fd ⟨us,ks.zip ws⟩ (ps.zip (g us ws))
 rel:∀{vs:List V}{us:List Value}{zs:List V}{ws:List Value},QH vs us->QH zs ws->QH (gV vs zs) (g us ws)
variable {g:List Value->List Value->List Value}{gV:List V->List V->List V}
end
structure Qba (N P:List Str) (sc:Scope):Prop where
 kind:sc.kind= .function
 co:sc.isCoroutine=false
 gen:sc.isGenerator=false
 nd:N.Nodup
 pre:N.take P.length=P
 par:∀x∈P,sc.names.lookup x=some .local ∨sc.names.lookup x=some .cell
 nofree:∀y∈sc.names,y.2≠ .free
def Qmh{kindOf:Str->Option NameKind}{x:Str}:∀{binds:List (Str×Value)}{m:Str->Option Value},(∀v,(x,v)∉binds)->bindL kindOf binds m x=m x
 | [],_,_=>rfl
 | (n,v)::r,m,h=>by
  unfold bindL;rw[Qmh λw hw=>h w (Zc _ hw)];split
  .have:x≠n:=by rintro rfl;exact h v Zw
   simp[this]
  .rfl
def Qmv{kindOf:Str->Option NameKind}{x:Str}:∀{binds:List (Str×Value)}{m:Str->Option Value},(∀v,(x,v)∉binds)->bindC kindOf binds m x=m x
 | [],_,_=>rfl
 | (n,v)::r,m,h=>by
  unfold bindC;rw[Qmv λw hw=>h w (Zc _ hw)];split
  .rfl
  .have:x≠n:=by rintro rfl;exact h v Zw
   simp[this]
def Qml{kindOf:Str->Option NameKind}{x:Str}{v:Value}:∀{P:List Str}{vs:List Value}{i:Nat}{m:Str->Option Value},P.Nodup->P[i]? =some x->vs[i]? =some v->kindOf x=some .local →
  bindL kindOf (P.zip vs) m x=some v
 | [],_,_,_,_,h,_,_=>by simp at h
 | _::_,[],_,_,_,_,h,_=>by simp at h
 | p::P,w::vs,0,m,nd,h1,h2,hk=>by
  simp at h1 h2;subst h1;subst h2;show bindL kindOf ((p,w)::P.zip vs) m p=_;unfold bindL;rw[Qmh λv hv=>(Zap.mp nd).1 (Zbf hv).1,if_pos hk];simp
 | p::P,w::vs,i+1,m,nd,h1,h2,hk=>by
  show bindL kindOf ((p,w)::P.zip vs) m x=_;unfold bindL;exact Qml (i:=i) (Zap.mp nd).2 (by simpa using h1) (by simpa using h2) hk
def Qmm{kindOf:Str->Option NameKind}{x:Str}{v:Value}:∀{P:List Str}{vs:List Value}{i:Nat}{m:Str->Option Value},P.Nodup->P[i]? =some x->vs[i]? =some v->kindOf x≠some .local →
  bindC kindOf (P.zip vs) m x=some v
 | [],_,_,_,_,h,_,_=>by simp at h
 | _::_,[],_,_,_,_,h,_=>by simp at h
 | p::P,w::vs,0,m,nd,h1,h2,hk=>by
  simp at h1 h2;subst h1;subst h2;show bindC kindOf ((p,w)::P.zip vs) m p=_;unfold bindC;rw[Qmv λv hv=>(Zap.mp nd).1 (Zbf hv).1,if_neg hk];simp
 | p::P,w::vs,i+1,m,nd,h1,h2,hk=>by
  show bindC kindOf ((p,w)::P.zip vs) m x=_;unfold bindC;exact Qmm (i:=i) (Zap.mp nd).2 (by simpa using h1) (by simpa using h2) hk
noncomputable def start(N:List Str)(vs:List V):St:=vs.map some++List.replicate (N.length-vs.length) none
noncomputable def QcL(CX:CXT)(P:Program)(w:World)(K:Fgg)(mg:Str->Option Value)(base:Heap)(N:List Str)(qual:Str)(scope:Scope)(f:Addr)(cd:Value)(A:Around)(outer:List Env)(s:Shared)(H:Hp)(E:XK):Cx where
 prog:=P
 w:=w
 K:=K
 mg:=mg
 base:=base
 A:=A.deeper (envOfC qual scope s.heap.objs.size f cd)
 N:=N
 s₀:=s
 H₀:=H
 env:=envOfC qual scope s.heap.objs.size f cd
 outer:=outer
 stack:=envOfC qual scope s.heap.objs.size f cd::outer
 ex:=[]
 calm:=decide (A.handled=none)
 fn:=λ_=>true
 pn:=[]
 xe:=λe s'=>wpAny (model P w) (A.deeper (envOfC qual scope s.heap.objs.size f cd)) (leaving (envOfC qual scope s.heap.objs.size f cd) e) (λ_ s''=>CX outer H s E e s'') (λe' s''=>CX outer H s E e' s'') s'
def Qnb{sc:Scope}{n:Nat}{x:Str}(h:sc.names.lookup x=some .cell):∃c,(cellsFrom n sc.names []).lookup x=some c:=by
 have q:=ZaQ sc.names n [] (.inl h);exact Option.isSome_iff_exists.mp q
def Qmo{CX:CXT}{P:Program}{w:World}{K:Fgg}{mg:Str->Option Value}{base:Heap}{N ps:List Str}{qual:Str}{scope:Scope}{f:Addr}{cd:Value}{A:Around}{outer:List Env}{s s1:Shared}{H:Hp}{E:XK}{us:List Value}{vs:List V}
  (S:Qba N ps scope) (e0:QnU P w K mg base A outer s H) (hl:vs.length=ps.length) (r:QH vs us)
  (x:InCallC s s.heap.objs.size (bindL (envOfC qual scope s.heap.objs.size f cd).kindOf (ps.zip us) λ_=>none) (cellsFrom (s.heap.objs.size+1) scope.names []) (bindC (envOfC qual scope s.heap.objs.size f cd).kindOf (ps.zip us) λ_=>none) s1):
  Inv (QcL CX P w K mg base N qual scope f cd A outer s H E) [] (start N vs) H s1:=by
 have hpl:ps.length<=N.length:=by have:=congrArg List.length S.pre;rw[Zbr]at this;omega
 obtain⟨h1,tk,rfl,hk⟩:=x.done;have noA:∀b:Addr,b∉(QcL CX P w K mg base N qual scope f cd A outer s H E).ex:=λb z=>absurd (show b∈([]:LAd)from z) ⋯
 refine⟨⟨e0.mod,S.kind,rfl,rfl,Ze _,λy z c h1 h2=>?_,λy hy=>?_,λy c _ h=>?_,λh=>of_decide_eq_true h,Around.frames_deeper e0.frames,.inr ⟨rfl,rfl⟩,λb z=>absurd z (noA b),e0.bs,e0.bsz,λb _ _=>noA b,λb z=>absurd z (noA b),e0.Qel,e0.frf⟩,
  rfl,e0.bare,Un.kept hk,⟨_,x.toInCall.ns,λi y v h1 h2 h3=>?_⟩,λy c h=>⟨_,x.cell y c h⟩,e0.hok.fresh (Ze _),λy c h=>?_,λp hp=>absurd (show p∈([]:List (Addr×Obj))from hp) ⋯,e0.hok.kept hk,?_⟩
 .exact name_of_addr x.apart (ZP h1) (ZP h2)
 .have hy:scope.names.lookup y=some .cell∨scope.names.lookup y=some .free:=hy;rcases hy with hy | hy
  .exact Qnb hy
  .exact absurd rfl (S.nofree _ (ZP hy))
 .exact Nat.le_of_lt (x.above y c (ZP h))
 .have hi:i<vs.length:=by
   unfold start at h2;by_cases hi:i<vs.length
   .exact hi
   .rw[ZaE (by simpa using hi),Zbs]at h2;split at h2<;>cases h2
  have ha:vs[i]? =some v:=by
   unfold start at h2;rw[Zae (by simpa using hi),Zv]at h2;cases e:vs[i]? with
   | none=>rw[e]at h2;cases h2
   | some a=>rw[e]at h2;cases h2;rfl
  obtain⟨u,hu,rv⟩:=r.get ha;have hp:ps[i]? =some y:=by
   rw[← S.pre,List.getElem?_take_of_lt ⋯];exact h1
  have ndP:ps.Nodup:=by rw[← S.pre];exact S.nd.sublist (List.take_sublist _ _)
  refine⟨u,rv,?_⟩;rcases S.par y (Zy hp)with k | k
  .exact .inl ⟨k,Qml ndP hp hu k⟩
  .obtain⟨c,e⟩:=Qnb (n:=s.heap.objs.size+1) k;refine .inr ⟨.inl k,c,e,?_⟩;have q:=x.cell y c e;rw[Qmm ndP hp hu (by show scope.names.lookup y≠_;rw[k];decide)]at q;exact q
 .exact e0.hok.fresh (Nat.le_of_lt (x.above y c (ZP h)))
 .unfold start;show _=N.length;rw[Zd,Zo,ZY];omega
def QmM{CX:CXT}{P:Program}{w:World}{K:Fgg}{mg:Str->Option Value}{base:Heap}{k:Nat}{f:Addr}{name qual:Str}{params:Arguments}{body:List Stmt}{scope:Scope}{dV kV doc pm cdv ct oc:Value}{an od:Option Addr}
  {osl:Array (Option Value)}{N ps:List Str}{sp:Sp}(lk:K.lookup f=some ⟨oc,od,.func (PySem.W.fnOf name qual params body scope dV kV doc pm an cdv ct),osl⟩) (hcd:PySem.W.codeIn K cdv qual=true) (S:Qba N ps scope)
  (len:∀vs H Q E,sp vs H Q E->vs.length=ps.length)
  (hbody:∀(A:Around) (outer:List Env) (s:Shared) (H:Hp) (vs:List V) (Q:VK) (E:XK),Qa6 k (A.deeper (envOfC qual scope s.heap.objs.size f cdv))->sp vs H Q E→
   ∃t,PSs (QcL CX P w K mg base N qual scope f cdv A outer s H E) body t/\t {nx:=λ_ H'=>Q .non H',rt:=Q} (start N vs) H):
  Qck P w K mg base CX (k+1) f (PySem.W.fnOf name qual params body scope dV kV doc pm an cdv ct) ps sp:=by
 refine⟨len,λA outer s H args us vs Q E hr e0 hb r hsp=>?_⟩;have hl:=len _ _ _ _ hsp;have KX:K.In s.heap:=e0.mod.kin.keeps λb o e=>(e0.bs b o e).1;have lim:s.heap.NoLimit:=e0.mod.nolimit.keeps λb o e=>(e0.bs b o e).1;have hkind:∀y∈ps.zip us,scope.names.lookup y.1=some .local ∨(scope.names.lookup y.1=some .cell/\((cellsFrom (s.heap.objs.size+1) scope.names []).lookup y.1).isSome=true):=λZ hy=>by
  obtain⟨n,v⟩:=Z;rcases S.par n (Zbf hy).1 with q | q
  .exact .inl q
  .exact .inr ⟨q,ZaQ _ _ _ (.inl q)⟩
 refine codeAny_call_function hr.depth (KX _ _ lk) rfl S.co S.gen rfl (PySem.W.codeRec_of KX hcd) (hb _ _ _ _ ?_);refine wpAny_newFunctionEnv_cells S.kind hkind λenv he s1 x=>?_;subst he;refine⟨lim.keeps x.toInCall.keep,codeAny_func ?_⟩;obtain⟨t,ht,hq⟩:=hbody A outer s H vs Q E (hr.deeper _) hsp;have I:Inv (QcL CX P w K mg base N qual scope f cdv A outer s H E) [] (start N vs) H s1:=Qmo S e0 hl r x;refine wpAny_mono (ht [] s1 (start N vs) H _ I hq) (λfl s' hs=>?_) λe s' hs=>hs
 have fin:∀{σ':St}{H':Hp}{v:V}{u:Value},Inv (QcL CX P w K mg base N qual scope f cdv A outer s H E) [] σ' H' s'->RelV v u->Q v H'->CE outer P w H s Q u s':=
  λ{σ' H' v u} J rv q=>⟨v,H',J.os,J.bare,J.base,J.hok,rv,q⟩
 cases fl with
 | ret u=>
  obtain⟨v,σ',H',J,rv,q⟩:=hs;exact fin J rv q
 | next=>
  obtain⟨σ',H',J,q⟩:=hs;exact fin (v:=V.non) (u:=Value.none) J rfl q
 | brk=>
  obtain⟨_,_,_,q⟩:=hs;exact False.elim q
 | cont=>
  obtain⟨_,_,_,q⟩:=hs;exact False.elim q
section
variable {X:Cx}{x:Str}{p pos:Pos}{e:Expr}{es:List Expr}{t:TA}{id T:String}{r:List V->Hp->VK->Prop}
noncomputable def tCB(r:List V->Hp->VK->Prop)(t:TA):TE:=λσ H Q=>t σ H λvs H1=>r vs H1 Q
def QjY(hc:Qbo X (.builtin id) r)(hg:Gl X x)(hm:X.mg x=none)(hv:bootBuiltins x=some (.builtin id))(ha:PA X (e::es) t)(hn:x≠ "__name__" :=by decide)(hdb:(x == ("__debug__" :Str))=false:=by decide)
  (he:starEach (e::es) X.env=(false,eval e X.env)::starEach es X.env:=by rfl) (hpl:(backTo pos (starEach es X.env)).any (·.1)=false:=by rfl):PE X (.Call (.Name x p) (e::es) [] pos) (tCB r t):=by
 intro pins s σ H Q I h;refine wpAny_Call_Name_kw (Qhb I hg hm hv ?_ hn hdb);exact PyProof.Rows.callWith_builtin1 (thn (ha pos pins s σ H _ I h) λus s1 ⟨vs,H1,I1,r1,q1⟩=>hc pins s1 σ H1 vs us Q I1 r1 q1) he hpl
def Qmc(hc:Qbo X (.type T) r)(hg:Gl X x)(hm:X.mg x=none)(hv:bootBuiltins x=some (.type T))(ha:PA X (e::es) t)(hn:x≠ "__name__" :=by decide)(hdb:(x == ("__debug__" :Str))=false:=by decide)
  (he:starEach (e::es) X.env=(false,eval e X.env)::starEach es X.env:=by rfl) (hpl:(backTo pos (starEach es X.env)).any (·.1)=false:=by rfl):PE X (.Call (.Name x p) (e::es) [] pos) (tCB r t):=by
 intro pins s σ H Q I h;refine wpAny_Call_Name_kw (Qhb I hg hm hv ?_ hn hdb);exact ZaB (thn (ha pos pins s σ H _ I h) λus s1 ⟨vs,H1,I1,r1,q1⟩=>hc pins s1 σ H1 vs us Q I1 r1 q1) he hpl
end
end L2
namespace HT
open PySem PyProof.Rows
section
open PySem.SeqAt
open PySem.AutoSeq1 (wpAny_loadPart')
open PySem.MeetsSeq PySem.MeetsSeq2 PySem.MeetsSeq3
end
section
variable {prog:Program}{w:World}{A:Around}{E:Value->Shared->Prop}{s:Shared}
noncomputable def sIx(n d:Nat):Option Int->Nat
 | none=>d
 | some v=>if v<0 then(v+(n:Int)).toNat else min v.toNat n
def Qn9(n d:Nat):sIx n d none=d:=rfl
def Qpi(n d k:Nat):sIx n d (some (k:Int))=min k n:=by
 show(if(k:Int)<0 then((k:Int)+(n:Int)).toNat else min (k:Int).toNat n)=min k n;rw[if_neg ⋯,ZS]
end
end HT
namespace L2
open PySem PySem.Spec PyProof.Rows
abbrev TO:=St->Hp->(Option Int->Hp->Prop)->Prop
def PO(X:Cx)(e:Option Expr)(t:TO):Prop:=
 ∀(pins:List (Addr×Obj)) (s:Shared) (σ:St) (H:Hp) (Q:Option Int->Hp->Prop),Inv X pins σ H s->t σ H Q→
  wpAny (model X.prog X.w) X.A (evalPart e X.env) (λu s'=>∃o H',Inv X pins σ H' s'/\IsPart u o/\Q o H') X.xe s
noncomputable def QwY:TO:=λ_ H Q=>Q none H
noncomputable def Qz0(t:TE):TO:=λσ H Q=>t σ H λx H1=>∃i,x= .int i/\Q (some i) H1
def intsAre_of{ns:List Int}:∀{us:List Value},QH (ns.map V.int) us->IntsAre us ns:=by
 induction ns with
 | nil=>intro us r;rw[Zbi]at r;cases r;exact .nil
 | cons n ns ih=>
  intro us r;rw[Zs]at r;cases r with
  | cons r1 r2=>
   obtain⟨t,e⟩:=r1;subst e;exact .cons n t (ih r2)
section
variable {X:Cx}{e:Expr}{te:TE}{lo hi:Option Expr}{tl th:TO}{pos p2:Pos}
def QuZ:PO X none QwY:=by
 intro pins s σ H Q I h;rw[evalPart_none];exact wpAny_pure ⟨none,H,I,.none,h⟩
def Qwn(h:PE X e te):PO X (some e) (Qz0 te):=by
 intro pins s σ H Q I hw;rw[evalPart_some];refine thn (h pins s σ H _ I hw) λu s1=>exJ λx H1 I1 r1 q1=>?_;obtain⟨i,rfl,q⟩:=q1;obtain⟨t,rfl⟩:=r1;exact⟨some i,H1,I1,.int i t,q⟩
def SlR(X:Cx)(r:V->Option Int->Option Int->Hp->VK->Prop):Prop:=
 ∀(pins:List (Addr×Obj)) (s:Shared) (σ:St) (H:Hp) (x:V) (v vl vu:Value) (lo hi:Option Int) (sl:Addr) (Q:VK),Inv X pins σ H s->RelV x v->s.heap.IsSliceOf sl vl vu .none->IsPart vl lo->IsPart vu hi->r x lo hi H Q→
  ∃T id,typeLookup (.type T) "__getitem__" =pure (some (.builtin id))/\s.TypeIs v T/\wpAny (model X.prog X.w) X.A (getItem v (.ref sl)) (EP X pins σ Q) X.xe s
def SlR.or{r r':V->Option Int->Option Int->Hp->VK->Prop}(h:SlR X r)(h':SlR X r'):SlR X (λx lo hi H Q=>r x lo hi H Q∨r' x lo hi H Q):=by
 intro pins s σ H x v vl vu lo hi sl Q I rx hs pl pu q;rcases q with q | q
 .exact h pins s σ H x v vl vu lo hi sl Q I rx hs pl pu q
 .exact h' pins s σ H x v vl vu lo hi sl Q I rx hs pl pu q
noncomputable def tSl(r:V->Option Int->Option Int->Hp->VK->Prop)(te:TE)(tl th:TO):TE:=λσ H Q=>te σ H λx H1=>tl σ H1 λl H2=>th σ H2 λu H3=>r x l u H3 Q
def Qta{r:V->Option Int->Option Int->Hp->VK->Prop}(hr:SlR X r)(he:PE X e te)(hl:PO X lo tl)(hu:PO X hi th):PE X (.Subscript e (.Slice lo hi none p2) pos) (tSl r te tl th):=by
 intro pins s σ H Q I h;refine Subscript_ (thn (he pins s σ H _ I h) λv s1=>exJ λx H1 I1 r1 q1=>?_);refine wpAny_Slice (thn (hl pins s1 σ H1 _ I1 q1) λvl s2 ⟨l,H2,I2,pl,q2⟩=>thn (hu pins s2 σ H2 _ I2 q2) λvu s3=>exJ λu H3 I3 pu q3=>?_);rw[evalPart_none];refine wpAny_pure ?_;have I4:Inv X pins σ H3 {s3 with heap:=s3.heap.push {cls:= .type "slice",data:= .fields #[vl,vu,.none]}}:=I3.kept (t':=s3.toks) λb ob q=>Zu _ q;obtain⟨T,id,hT,ht,hg⟩:=hr pins {s3 with heap:=s3.heap.push {cls:= .type "slice",data:= .fields #[vl,vu,.none]}} σ H3 x v vl vu l u s3.heap.objs.size Q I4 r1 (Heap.IsSliceOf.new ..) pl pu q3;show wpAny (model X.prog X.w) X.A (subscriptTail e (.Slice lo hi none p2) v (.ref s3.heap.objs.size)) (EP X pins σ Q) X.xe {s3 with heap:=s3.heap.push {cls:= .type "slice",data:= .fields #[vl,vu,.none]}};exact tail_any (ops:=[.ref s3.heap.objs.size,v]) ht hT hg (by with_unfolding_all rfl)
noncomputable def QlY(xs:List V)(lo hi:Option Int):List V:=(xs.drop (HT.sIx xs.length 0 lo)).take (HT.sIx xs.length xs.length hi-HT.sIx xs.length 0 lo)
def QoZ(xs:List V)(lo hi:Option Int):(QlY xs lo hi).length<=xs.length:=by
 unfold QlY;rw[Zbr,ZaG];omega
end
noncomputable def ixN(n:Nat)(i:Int):Option Nat:=if 0<=i then(if i<n then some i.toNat else none)else if-(n:Int)<=i then some (i+n).toNat else none
noncomputable def atI{α:Type}(xs:List α)(i:Int):Option α:=(ixN xs.length i).bind λj=>xs[j]?
def Qjc{n:Nat}{i:Int}{j:Nat}(h:ixN n i=some j):seqIndex? i n=some j/\j<n/\ -(n:Int)<=i/\i<n:=by
 unfold ixN at h;by_cases h0:0<=i
 .rw[if_pos h0]at h;by_cases h1:i<n
  .rw[if_pos h1]at h;have e:i.toNat=j:=Option.some.inj h;exact⟨by rw[seqIndex_of h0 h1,e],⋯,⋯,h1⟩
  .rw[if_neg h1]at h;cases h
 .rw[if_neg h0]at h;by_cases h1: -(n:Int)<=i
  .rw[if_pos h1]at h;have e:(i+n).toNat=j:=Option.some.inj h;exact⟨by rw[seqIndex_neg ⋯ h1,e],⋯,h1,⋯⟩
  .rw[if_neg h1]at h;cases h
def QlT{α:Type}{xs:List α}{i:Int}{v:α}(h:atI xs i=some v):∃j,seqIndex? i xs.length=some j/\xs[j]? =some v/\j<xs.length/\ -(xs.length:Int)<=i/\i<xs.length:=by
 unfold atI at h;cases e:ixN xs.length i with
 | none=>rw[e]at h;cases h
 | some j=>
  rw[e]at h;obtain⟨h1,h2,h3,h4⟩:=Qjc e;exact⟨j,h1,h,h2,h3,h4⟩
def Qjg(b:Expr):Prop:=∀o i,subscripted b false o i=operate [o,i] (getItem o i)
def IxR(X:Cx)(r:R2):Prop:=
 ∀(value slice:Expr) (pins:List (Addr×Obj)) (s:Shared) (σ:St) (H:Hp) (x y:V) (v u:Value) (Q:VK),Inv X pins σ H s->RelV x v->RelV y u->r x y H Q→
  subscripted slice false v u=operate [v,u] (getItem v u)->wpAny (model X.prog X.w) X.A (subscriptTail value slice v u) (EP X pins σ Q) X.xe s
def MtR(X:Cx)(id:String)(r:V->List V->Hp->VK->Prop):Prop:=
 ∀(pins:List (Addr×Obj)) (s:Shared) (σ:St) (H:Hp) (x:V) (xs:List V) (v:Value) (us:List Value) (Q:VK),Inv X pins σ H s->RelV x v->QH xs us->r x xs H Q→
  wpAny (model X.prog X.w) X.A (call (.builtin id) (v::us)) (EP X pins σ Q) X.xe s
section
variable {X:Cx}{a b:Expr}{ta tb:TE}{pos:Pos}
def IxR.or{r r':R2}(h:IxR X r)(h':IxR X r'):IxR X (λx y H Q=>r x y H Q∨r' x y H Q):=by
 intro value slice pins s σ H x y v u Q I rx ry q hs;rcases q with q | q
 .exact h value slice pins s σ H x y v u Q I rx ry q hs
 .exact h' value slice pins s σ H x y v u Q I rx ry q hs
def Quk{r:R2}(hr:IxR X r)(ha:PE X a ta)(hb:PE X b tb)(hs:Qjg b):PE X (.Subscript a b pos) (tOp r ta tb):=by
 intro pins s σ H Q I h;exact Subscript_ (QpT ha hb I h λv u s2 x y H2 I2 rx ry q=>hr a b pins s2 σ H2 x y v u Q I2 rx ry q (hs _ _))
noncomputable def QxU(K:Fgg):R2:=λx y H Q=>∃p xs i v,x= .ref p/\y= .int i/\SqL K H p xs/\atI xs i=some v/\Q v H
noncomputable def QA8(K:Fgg):R2:=λx y H Q=>∃p xs i v,x= .ref p/\y= .int i/\SqT K H p xs/\atI xs i=some v/\Q v H
def Qpb:IxR X (QxU X.K):=by
 intro value slice pins s σ H x y v u Q I rx ry h hs;obtain⟨p,xs,i,z,rfl,rfl,hq,he,q⟩:=h;cases rx;obtain⟨t,rfl⟩:=ry;obtain⟨its,r,pl,hz⟩:=I.list hq;obtain⟨j,h1,h2,h3,h4,h5⟩:=QlT he;obtain⟨w,ew,rw'⟩:=r.get h2;have hl:=r.length;have hn:=QfW;have fin:EP X pins σ Q w s:=⟨z,H,I,rw',q⟩;by_cases h0:0<=i
 .have hj:i.toNat=j:=by
   rw[seqIndex_of h0 h5]at h1;exact Option.some.inj h1
  exact item_listR pl.isList h0 ⋯ (by rw[hj];simpa using ew) fin hs
 .have hj:(i+(its.toArray.size:Int)).toNat=j:=by
   rw[seqIndex_neg ⋯ h4]at h1;rw[Zr,← hl];exact Option.some.inj h1
  exact subscriptTail_builtinR (x:=w) pl.isList.typeIs slot_list_getitem.lookup
   (wpAny_getItem_list_neg (Q:=λr s'=>r=w/\EP X pins σ Q r s') pl.isList ⋯ (by rw[Zr]<;>omega) ⋯ (by rw[hj];simpa using ew) ⟨rfl,fin⟩) hs
def Qsn:IxR X (QA8 X.K):=by
 intro value slice pins s σ H x y v u Q I rx ry h hs;obtain⟨p,xs,i,z,rfl,rfl,hq,he,q⟩:=h;cases rx;obtain⟨t,rfl⟩:=ry;obtain⟨its,r,pl,hz⟩:=I.tuple hq;obtain⟨j,h1,h2,h3,h4,h5⟩:=QlT he;obtain⟨w,ew,rw'⟩:=r.get h2;have hl:=r.length;have hn:=QfW;have fin:EP X pins σ Q w s:=⟨z,H,I,rw',q⟩
 exact subscriptTail_builtinR (x:=w) pl.typeIs slot_tuple_getitem.lookup
  (getItem_tuple (j:=j) (Q:=λr s'=>r=w/\EP X pins σ Q r s') pl ⋯ ⋯ (by rw[Zr,← hl];exact h1) (by simpa using ew) ⟨rfl,fin⟩) hs
def Qqd(its:List Value)(n j:Nat)(u:Value):Obj.mapSeq (·.setIfInBounds j u) {cls:= .type "list",data:= .seq its.toArray n}={cls:= .type "list",data:= .seq (its.set j u).toArray n}:=by
 simp[Obj.mapSeq]
def Inv.lst{pins:List (Addr×Obj)}{σ:St}{H:Hp}{s:Shared}{p:Addr}{xs:List V}(I:Inv X pins σ H s)(h:H p=some (.lst xs)):
  ∃(its:List Value) (n:Nat),QH xs its/\s.heap.get? p=some {cls:= .type "list",data:= .seq its.toArray n}/\xs.length<=sizeLine:=by
 obtain⟨z,its,n,r,e⟩:=I.hok p _ h;exact⟨its,n,r,e,z⟩
def Inv.QxC{pins:List (Addr×Obj)}{σ:St}{H:Hp}{s:Shared}{p:Addr}{xs ys:List V}{its its':List Value}{n n':Nat}{f:Obj->Obj}(I:Inv X pins σ H s)(h:H p=some (.lst xs))
  (ho:s.heap.get? p=some {cls:= .type "list",data:= .seq its.toArray n}) (hf:f {cls:= .type "list",data:= .seq its.toArray n}={cls:= .type "list",data:= .seq its'.toArray n'}) (r:QH ys its') (hz:ys.length<=sizeLine) (t:Nat):
  Inv X pins σ (upd H p (.lst ys)) {s with heap:=s.heap.update p f,toks:=t}:=by
 have e:(s.heap.update p f).get? p=some {cls:= .type "list",data:= .seq its'.toArray n'}:=by
  rw[Heap.get?_update_self f ho (by rw[hf]<;>rfl),hf]
 refine I.write (x:=p) (e:=p) (by rw[h];trivial) (.inl rfl) (λb u hb q=>(Zaz _ _ (Ne.symm hb)).trans q) ⟨_,e⟩ ?_;exact⟨hz,its',n',r,e⟩
def QuG:V->V->V->Hp->(Hp->Prop)->Prop:=λo i v H Q=>∃p xs k j,o= .ref p/\i= .int k/\H p=some (.lst xs)/\ixN xs.length k=some j/\Q (upd H p (.lst (xs.set j v)))
def set_list:Qt7 X QuG:=by
 intro pins s σ H o i v ov iv u Q I ro ri rv h;obtain⟨p,xs,k,j,rfl,rfl,hp,hj,q⟩:=h;cases ro;obtain⟨t,rfl⟩:=ri;obtain⟨its,n,r,ho,hz⟩:=I.lst hp;obtain⟨h1,h2,h3,h4⟩:=Qjc hj;have hl:=r.length;have hn:=QfW
 have I':Inv X pins σ (upd H p (.lst (xs.set j v))) {s with heap:=s.heap.update p (Obj.mapSeq (·.setIfInBounds j u))}:=
  I.QxC hp ho (Qqd its n j u) (r.set rv j) (by rw[ZaL];exact hz) s.toks
 by_cases h0:0<=k
 .have hk:k.toNat=j:=by
   rw[seqIndex_of h0 h4]at h1;exact Option.some.inj h1
  exact PySem.W.ki_setAt ho h0 ⋯ (by rw[Zr,← hl];exact h4) (by rw[hk];exact⟨_,I',q⟩)
 .have hk:(k+(its.toArray.size:Int)).toNat=j:=by
   rw[seqIndex_neg ⋯ h3]at h1;rw[Zr,← hl];exact Option.some.inj h1
  exact PySem.W.ki_setBack ho ⋯ (by rw[Zr,← hl];exact h3) ⋯ (by rw[hk];exact⟨_,I',q⟩)
def QnG(lo hi:Option Int)(n:Nat):(sliceBounds lo hi none n).1=((HT.sIx n 0 lo:Nat):Int)/\(sliceBounds lo hi none n).2.1=((HT.sIx n n hi:Nat):Int)/\(sliceBounds lo hi none n).2.2=1:=by
 refine⟨?_,?_,rfl⟩
 .cases lo with
  | none=>simp[sliceBounds,HT.sIx]
  | some i=>
   simp only[sliceBounds,HT.sIx,Option.getD_none,show(1:Int)>0 by decide,if_true];by_cases h:i<0
   .simp only[h,if_true]<;>omega
   .simp only[h,if_false]<;>omega
 .cases hi with
  | none=>simp[sliceBounds,HT.sIx]
  | some i=>
   simp only[sliceBounds,HT.sIx,Option.getD_none,show(1:Int)>0 by decide,if_true];by_cases h:i<0
   .simp only[h,if_true]<;>omega
   .simp only[h,if_false]<;>omega
def QmB(its:List Value)(lo hi:Option Int):slicePick its.toArray lo hi none=((its.drop (HT.sIx its.length 0 lo)).take (HT.sIx its.length its.length hi-HT.sIx its.length 0 lo)).toArray:=by
 obtain⟨h1,h2,h3⟩:=QnG lo hi its.toArray.size;unfold slicePick;rw[h1,h2,h3];simp only[sliceRange_one,pick_run,Zr]<;>rfl
def QBa(K:Fgg):V->Option Int->Option Int->Hp->VK->Prop:=λx lo hi H Q=>∃a xs,x= .ref a/\SqL K H a xs/\∀p,H p=none->Q (.ref p) (upd H p (.lst (QlY xs lo hi)))
def Qv0:SlR X (QBa X.K):=by
 intro pins s σ H x v vl vu lo hi sl Q I rx hs pl pu h;obtain⟨a,xs,rfl,hx,q⟩:=h;cases rx;obtain⟨its,r,ht,hz⟩:=I.list hx;have hlen:=r.length;refine⟨"list",_,slot_list_getitem.lookup,ht.isList.typeIs,?_⟩;refine wpAny_getItem_list_slice ht.isList hs pl pu .none ⋯ ?_ (by rw[Zr]<;>omega);rw[QmB,← hlen];refine⟨.ref s.heap.objs.size,_,I.laid (t':=s.toks) (o:= .lst (QlY xs lo hi)) (λb ob q=>Zu _ q) (Ze _) ?_,rfl,q _ (I.hok.fresh (Ze _))⟩;exact⟨Zx (QoZ xs lo hi) hz,_,0,(r.drop (HT.sIx xs.length 0 lo)).take (HT.sIx xs.length xs.length hi-HT.sIx xs.length 0 lo),ZA _ rfl⟩
def Qov:Qbo X (.builtin "len") (λxs H Q=>∃p ys,xs=[.ref p]/\(SqL X.K H p ys∨SqT X.K H p ys)/\Q (.int ys.length) H):=by
 intro pins s σ H xs us Q I r h;obtain⟨p,ys,rfl,hq,q⟩:=h;obtain⟨u,rfl,rx⟩:=vals1 r;cases rx;have hn:=QfW;rcases hq with hq | hq
 .obtain⟨its,r',pl,hz⟩:=I.list hq;have hlen:=r'.length;exact Calls.call_len_list pl.isList (by simp only[Zr]<;>omega) ⟨.int ys.length,H,I.tok _,⟨s.toks+1,by rw[Zr,hlen]⟩,q⟩
 .obtain⟨its,r',pl,hz⟩:=I.tuple hq;have hlen:=r'.length;exact len_tuple pl (by simp only[Zr]<;>omega) ⟨.int ys.length,H,I.tok _,⟨s.toks+1,by rw[Zr,hlen]⟩,q⟩
def QnB:Qbo X (.builtin "len") (λxs H Q=>∃z,xs=[.str z]/\z.length<=sizeLine/\Q (.int z.length) H):=by
 intro pins s σ H xs us Q I r h;obtain⟨z,rfl,hz,q⟩:=h;obtain⟨u,rfl,t,rfl⟩:=vals1 r;have hn:=QfW;exact len_str ⋯ ⟨.int z.length,H,I.tok _,⟨_,rfl⟩,q⟩
def Qbo.or{f:Value}{r r':List V->Hp->VK->Prop}(h:Qbo X f r)(h':Qbo X f r'):Qbo X f (λxs H Q=>r xs H Q∨r' xs H Q):=by
 intro pins s σ H xs us Q I rs q;rcases q with q | q
 .exact h pins s σ H xs us Q I rs q
 .exact h' pins s σ H xs us Q I rs q
def QoF:Qbo X (.type "list") (λxs H Q=>∃p ys,xs=[.ref p]/\(SqL X.K H p ys∨SqT X.K H p ys)/\∀l,H l=none->Q (.ref l) (upd H l (.lst ys))):=by
 intro pins s σ H xs us Q I r h;obtain⟨p,ys,rfl,hq,q⟩:=h;obtain⟨u,rfl,rx⟩:=vals1 r;cases rx
 have fin:∀(its:List Value),QH ys its->ys.length<=sizeLine->∀(h':Heap) (c':Nat),(∀b o',s.heap.get? b=some o'->h'.get? b=some o')→
   h'.get? s.heap.objs.size=some {cls:= .type "list",dict:=none,data:= .seq its.toArray c',slots:= #[]}->EP X pins σ Q (.ref s.heap.objs.size) {s with heap:=h'}:=λits r' hz h' c' kp e=>
  ⟨.ref s.heap.objs.size,_,I.laid (t':=s.toks) kp (Ze _) (show Qb4 X.prog X.w _ h' _ (.lst ys)from⟨hz,its,c',r',e⟩),rfl,q _ (I.hok.fresh (Ze _))⟩
 rcases hq with hq | hq
 .obtain⟨its,r',pl,hz⟩:=I.list hq;have hlen:=r'.length;obtain⟨o,ho,hc,n,hd⟩:=pl.isList;exact call_list_seq p (.inl rfl) ho hc hd (λh' c' kp e=>fin its r' hz h' c' kp e) (by simp only[Zr]<;>omega)
 .obtain⟨its,r',pl,hz⟩:=I.tuple hq;have hlen:=r'.length;obtain⟨o,ho,hc,n,hd⟩:=pl;exact call_list_seq p (.inr rfl) ho hc hd (λh' c' kp e=>fin its r' hz h' c' kp e) (by simp only[Zr]<;>omega)
def tyV(K:Fgg)(T:String)(x:V)(H:Hp):Prop:=match x with
 | .str _=>T= "str"
 | .int _=>T= "int"
 | .ref p=>(T= "list" /\∃xs,SqL K H p xs)∨(T= "tuple" /\∃o,K.lookup p=some o/\o.cls= .type "tuple" /\o.dict=none)∨
   (T= "dict" /\((∃kvs,H p=some (.dK kvs))∨∃kvs,H p=some (.dT kvs)))∨(T= "set" /\∃S n,H p=some (.set S n))
 | _=>False
def QqG{pins:List (Addr×Obj)}{σ:St}{H:Hp}{s:Shared}{T:String}{x:V}{v:Value}(I:Inv X pins σ H s)(r:RelV x v)(ty:tyV X.K T x H):
  s.TypeIs v T/\∀a,v= .ref a->∃ob,s.heap.get? a=some ob/\ob.dict=none:=by
 cases x with
 | str z=>
  obtain⟨t,rfl⟩:=r;cases(show T= "str" from ty);exact⟨typeIs_str s z t,λ_ e=>nomatch e⟩
 | int i=>
  obtain⟨t,rfl⟩:=r;cases(show T= "int" from ty);exact⟨typeIs_int s i t,λ_ e=>nomatch e⟩
 | ref p=>
  cases r;rcases ty with⟨rfl,xs,hq⟩ | ⟨rfl,o,hk,hc,hd⟩ | ⟨rfl,hk⟩ | ⟨rfl,S,n,hk⟩
  .obtain⟨its,_,pl,_⟩:=I.list hq;refine⟨pl.isList.typeIs,λa e=>?_⟩;cases e;obtain⟨o,n,e,c,hd,_⟩:=pl;exact⟨o,e,hd⟩
  .refine⟨⟨o,I.kIn p o hk,hc⟩,λa e=>?_⟩;cases e;exact⟨o,I.kIn _ o hk,hd⟩
  .have z:∃o,s.heap.get? p=some o/\o.ExactDict:=by
    rcases hk with⟨kvs,hk⟩ | ⟨kvs,hk⟩
    .obtain⟨_,_,_,_,o,_,_,e,ex,_⟩:=I.hok p _ hk;exact⟨o,e,ex⟩
    .obtain⟨_,_,_,_,o,_,_,e,ex,_⟩:=I.hok p _ hk;exact⟨o,e,ex⟩
   obtain⟨o,e,ex⟩:=z;refine⟨⟨o,e,ex.1⟩,λa e2=>?_⟩;cases e2;exact⟨o,e,ex.2.1⟩
  .obtain⟨o,_,_,_,e,ex,_⟩:=I.hok p _ hk;refine⟨⟨o,e,ex.1⟩,λa e2=>?_⟩;cases e2;exact⟨o,e,ex.2.1⟩
 | _=>exact False.elim ty
noncomputable def QAU(K:Fgg)(T:String)(r:V->List V->Hp->VK->Prop)(to:TE):TE:=λσ H Q=>to σ H λx H1=>tyV K T x H1/\r x [] H1 Q
noncomputable def tBM(K:Fgg)(T:String)(r:V->List V->Hp->VK->Prop)(to:TE)(t:TA):TE:=λσ H Q=>to σ H λx H1=>tyV K T x H1/\t σ H1 λxs H2=>r x xs H2 Q
variable {o e:Expr}{es:List Expr}{to:TE}{t:TA}{name:Str}{apos cpos:Pos}{T id:String}{r:V->List V->Hp->VK->Prop}
def Qzk(pa:PlainAttrs T)(slot:Slot T name id)(hty:typeOf (.builtin id)=pure (.type "method_descriptor"))(hm:MtR X id r)(ho:PE X o to)
  (hbase:attributeBase o name X.env (eval o X.env)=eval o X.env:=by rfl) (hline:(apos.endLine == cpos.line)=true:=by rfl):PE X (.Call (.Attribute o name apos) [] [] cpos) (QAU X.K T r to):=by
 intro pins s σ H Q I h;refine wpAny_Call_method0_late hbase hline (thn (ho pins s σ H _ I h) λv s1 Z=>?_);obtain⟨x,H1,I1,r1,ty,q1⟩:=Z;obtain⟨h1,h2⟩:=QqG I1 r1 ty;exact⟨T,id,pa,slot,hty,h1,h2,Calls.callWith_builtin rfl (PySem.evalArgs_none (hm pins s1 σ H1 x [] v [] Q I1 r1 .nil q1))⟩
def Qko(pa:PlainAttrs T)(slot:Slot T name id)(hty:typeOf (.builtin id)=pure (.type "method_descriptor"))(hm:MtR X id r)(ho:PE X o to)(ha:PA X (e::es) t)
  (hbase:attributeBase o name X.env (eval o X.env)=eval o X.env:=by rfl)
  (hfew:((backTo cpos (starEach (e::es) X.env)).all (λx=> !x.1) && (backToKw cpos (keywordEach [] X.env)).all (λx=>x.1.isSome)
   && decide ((e::es).length+([]:List Keyword).length+(if([]:List Keyword).isEmpty then 0 else 1)<30))=true:=by rfl)
  (hline:(apos.endLine == cpos.line)=true:=by rfl) (hs:starEach (e::es) X.env=(false,eval e X.env)::starEach es X.env:=by rfl) (hplain:(backTo cpos (starEach es X.env)).any (·.1)=false:=by rfl):
  PE X (.Call (.Attribute o name apos) (e::es) [] cpos) (tBM X.K T r to t):=by
 intro pins s σ H Q I h;refine wpAny_Call_method_late hbase hfew hline rfl (thn (ho pins s σ H _ I h) λv s1 Z=>?_);obtain⟨x,H1,I1,r1,ty,q1⟩:=Z;obtain⟨h1,h2⟩:=QqG I1 r1 ty;refine⟨T,id,pa,slot,hty,h1,h2,?_⟩;have hA:=ha cpos pins s1 σ H1 _ I1 q1;rw[hs]at hA ⊢;refine Calls.callWith_builtin (by show(false || (backTo cpos (starEach es X.env)).any (·.1))=false;rw[hplain]<;>rfl) (Calls.evalArgs_plain ?_);exact thn hA λus s2 ⟨vs,H2,I2,r2,q2⟩=>hm pins s2 σ H2 x vs v us Q I2 r1 r2 q2
end
def MtM(X:Cx)(id:String)(r:V->List V->Hp->VK->Prop):Prop:=
 ∀(pins:List (Addr×Obj)) (s:Shared) (σ:St) (H:Hp) (x:V) (xs:List V) (v:Value) (us:List Value) (Q:VK),Inv X pins σ H s->RelV x v->QH xs us->r x xs H Q→
  wpAny (model X.prog X.w) X.A (call (.builtin id) (v::us)) (EP X pins σ Q) X.xe s
def QH.one{x:V}{us:List Value}(r:QH [x] us):∃u,us=[u]/\RelV x u:=vals1 r
def QH.zero:∀{us:List Value},QH [] us->us=[]
 | _,.nil=>rfl
def QH.rep{xs:List V}{us:List Value}(h:QH xs us):∀k:Nat,QH (List.replicate k xs).flatten (List.replicate k us).flatten
 | 0=> .nil
 | k+1=>by
  rw[ZR,ZR,ZW,ZW];exact QH.append h (QH.rep h k)
def foldl_rep(its:List Value):∀(k:Nat) (acc:List Value),
  List.foldl (λx1 x2=>x1++x2) acc.toArray (List.replicate k its.toArray)=(acc++(List.replicate k its).flatten).toArray
 | 0,acc=>by simp
 | k+1,acc=>by
  have e:acc.toArray++its.toArray=(acc++its).toArray:= ⋯
  have e2:(acc++its)++(List.replicate k its).flatten=acc++(List.replicate (k+1) its).flatten:=by
   rw[ZR,ZW,ZaC]
  rw[← e2,← foldl_rep its k (acc++its),← e,ZR,List.foldl_cons]
section
variable {X:Cx}{pins:List (Addr×Obj)}{σ:St}{H:Hp}{s:Shared}{l b:Addr}{xs ys zs:List V}
def Inv.Qx6{its its':List Value}{n:Nat}{f:Array Value->Array Value}{t':Nat}(I:Inv X pins σ H s)(hH:H l=some (.lst xs))
  (e:s.heap.get? l=some {cls:= .type "list",data:= .seq its.toArray n}) (hf:f its.toArray=its'.toArray) (hv:QH ys its') (hz:ys.length<=sizeLine):
  Inv X pins σ (upd H l (.lst ys)) {s with heap:=s.heap.update l (Obj.mapSeq f),toks:=t'}:=by
 have q:=PySem.IsL.update e f;rw[hf]at q;refine I.write (x:=l) (e:=l) (by rw[hH];exact trivial) (.inl rfl) (λb' u hb hu=>(Zaz s.heap (Obj.mapSeq f) (Ne.symm hb)).trans hu) ⟨_,q⟩ ?_;exact⟨hz,its',_,hv,q⟩
def Inv.Qyy{its:List Value}{t':Nat}(I:Inv X pins σ H s)(hv:QH ys its)(hz:ys.length<=sizeLine):
  Inv X pins σ (upd H s.heap.objs.size (.lst ys)) {s with heap:=s.heap.push {cls:= .type "list",data:= .seq its.toArray},toks:=t'}:=
 I.laid (λ_ _ q=>Zu _ q) (Ze _) ⟨hz,its,0,hv,ZA _ rfl⟩
def Inv.fresh(I:Inv X pins σ H s):H s.heap.objs.size=none:=I.hok.fresh (Ze _)
def Inv.QsR(I:Inv X pins σ H s)(hH:H l=some (.lst xs)):xs.length<=sizeLine/\∃(its:List Value) (n:Nat),QH xs its/\xs.length=its.length/\s.heap.get? l=some {cls:= .type "list",data:= .seq its.toArray n}:=by
 obtain⟨z,its,n,r,e⟩:=I.hok l _ hH;exact⟨z,its,n,r,r.length,e⟩
def Qoq{n:Nat}(h:n<=sizeLine):Builtin.List.listTooLong n=false:=by
 unfold Builtin.List.listTooLong;exact decide_eq_false ⋯
end
section
variable {X:Cx}
def Qpl:V->List V->Hp->VK->Prop:=λx vs H Q=>∃l xs y,x= .ref l/\vs=[y]/\H l=some (.lst xs)/\xs.length<sizeLine/\Q .non (upd H l (.lst (xs++[y])))
def QiK:MtM X "list.append" Qpl:=by
 intro pins s σ H x vs v us Q I rx rv h;obtain⟨l,xs,y,rfl,rfl,hH,hz,q⟩:=h;cases rx;obtain⟨u,rfl,ru⟩:=rv.one;obtain⟨z,its,n,r,hl,e⟩:=I.QsR hH;refine call_meets F.slot_list_append ⟨_,e,rfl⟩ F.entry_list_append (F.args_list_append_2 _ _) (PySem.list_append l its.toArray n u (by rw[Zr];omega)) ⟨e,?_⟩;refine⟨.non,_,I.Qx6 (its':=its++[u]) hH e ⋯ (r.append (.cons ru .nil)) ?_,rfl,q⟩;rw[Zd,ZI];omega
def len_rep{α:Type}(xs:List α)(k:Nat):(List.replicate k xs).flatten.length=k*xs.length:=by
 induction k with
 | zero=>simp
 | succ k ih=>rw[ZR,ZW,Zd,ih,Nat.succ_mul,Nat.add_comm]
end
section
variable {prog:Program}{w:World}{A:Around}{E:Value->Shared->Prop}{s:Shared}
end
section
variable {X:Cx}
end
end L2
namespace Att
open PySem PySem.W PySem.Calls PyProof.Rows
def QkO{P:Params}{h:Heap}:∀(ns:List Int) (vs:List Value),WellAll P h vs (ns.map WData.int)->IntsAre vs ns:=by
 intro ns
 induction ns with
 | nil=>
  intro vs w;rw[Zbi]at w;cases w;exact .nil
 | cons n ns ih=>
  intro vs w;rw[Zs]at w;cases w with
  | cons a b=>
   cases a;exact .cons _ _ (ih _ b)
def Qrb{l:OpenLaw}{n:Nat}(hn:l.most=some n){P:Params}{h:Heap}{args:List WData}{vals:List Value}
  (hpre:l.row.toRowW.claim.pre args=true) (hwl:WellAll P h vals args):
  ∃a vs ns,vals=[Value.ref a]/\args=[WData.list (ns.map WData.int)]/\h.get? a=some {cls:= .type "list",data:= .seq vs.toArray}/\IntsAre vs ns/\ns.length<=n:=by
 have hsh:WShape.hasAll [] args [.list .int]=true:=(pre_splitW hpre).1;have hc:l.pre.holds [] {args:=args}=true:=(pre_splitW hpre).2;obtain⟨d,r,rfl,h1,h2⟩:=hasAllW_cons hsh;obtain rfl:=hasAllW_nil h2;obtain⟨xs,rfl,h3⟩:=hasW_list h1;obtain⟨ns,rfl⟩:=items_int h3;have hlen:ns.length<=n:=by
  unfold OpenLaw.pre at hc;have h4:(WTm.not (.lt (.lit (.int (n:Int))) (.len (.arg 0)))).holds [] {args:=[.list (ns.map .int)]}=true:=by
   have h4:=(holds_andW hc).1;rw[hn]at h4;exact h4
  have h5:=condW_of h4 (w_not (w_lt w_lit (w_len_list (w_arg rfl))));rw[Zo]at h5;refine Nat.le_of_not_lt λq=>?_;have q':(n:Int)<((ns.length:Nat):Int):= ⋯
  first
   | (rw[decide_eq_true q']at h5;exact absurd h5 ∅)
   | (simp at h5;omega)
 cases hwl with
 | cons w1 w2=>
  cases w2;cases w1 with
  | list ho hall=>exact⟨_,_,ns,rfl,rfl,ho,QkO ns _ hall,hlen⟩
def Qq6(l:OpenLaw)(args:List WData):l.row.toRowW.claim.post args (.bool true) args=true:=
 postW_of (r:=l.row.toRowW) (X:=(true == true))
  (show WShape.has [] (.bool true) .bool=true by first | rfl | decide | simp[WShape.has,WShape.arms,WShape.armsAll])
  (show(WTm.eq .res (.lit (.bool true))).value [] {args:=args,res:=some (.bool true),after:=args}=some (.bool (true == true))from w_eq_bool (w_res rfl) w_lit) rfl
def QoU{l:OpenLaw}{n:Nat}{q:Program}{loose:List Str}{XP:(Str->Option Value)->Heap->Prop}{YP:World->Heap->Prop}{d:DefRec}
  (hn:l.most=some n) (hdf:d.params.defaults=[])
  (call:∀(w:World) (s₀ s₁:Shared) (mg mb:Str->Option Value) (fa:Addr) (o:Obj) (pm cd doc:Value) (a:Addr) (vs:List Value) (ns:List Int),
   Ground q loose [] XP w s₀ mg mb s₁.heap->YP w s₁.heap→
   s₁.heap.get? fa=some o->o.data= .func (docDef d.name d.params d.body d.scope pm cd doc)->s₁.heap.CodeRec cd d.name->mg d.name=some (.ref fa)→
   s₁.heap.get? a=some {cls:= .type "list",data:= .seq vs.toArray}->IntsAre vs ns->ns.length<=n->s₁.gens= #[]→
   codeAny (model l.prog w) callerA (.call (.ref fa) ⟨[.ref a],[]⟩) (λr s'=>r= .ok (.ret (.bool true))/\OldK s₁.heap s'.heap/\s'.os=s₁.os/\AllBare s'.gens) s₁):
  WalkO q loose XP YP l.row.toRowW d [] (λf vs=>PySem.call f vs):=by
 intro w s₀ s₁ mg mb G Y fa o pm cd doc dV kV ho hd hcd hD hmg hg args vals as hpre hlay hrd hwl hlo;obtain rfl:dV= .none:=Dflts.none hD hdf;obtain rfl:kV= .none:=Dflts.noKw hD;obtain⟨a,vs,ns,rfl,rfl,hobj,hints,hlen⟩:=Qrb hn hpre hwl;refine enter_call (codeAny_mono (call w s₀ s₁ mg mb fa o pm cd doc a vs ns G Y ho (fd_plain hd) hcd hmg hobj hints hlen hg) λr s' hq=>?_);obtain⟨rfl,h2,h3,h4⟩:=hq;exact⟨.inl ⟨.bool true,.bool true,[],rfl,λ_=>rfl,.bool true,Qq6 l _,λ_=>⟨List.Pairwise.nil,λ_ hm=>(nomatch hm)⟩⟩,h2,h3,h4⟩
section
variable {prog:Program}{w:World}{A:Around}{E:Value->Shared->Prop}{s:Shared}{K:Frag}
end
end Att
namespace L2
open PySem PySem.Spec PyProof.Rows
def QgC:∀{vs:List Value}{ns:List Int},IntsAre vs ns->QH (ns.map V.int) vs
 | _,_,.nil=> .nil
 | _,_,.cons n t h=> .cons ⟨t,rfl⟩ (QgC h)
def QxY(H:Hp):Prop:=∀b,H b=none∨∃o xs,H b=some (.frz o (.lst xs))
def Qtd{P:Program}{w:World}{K:Fgg}{mg mb:Str->Option Value}{CX:CXT}{k:Nat}{fa a:Addr}{fd:FuncData}{x:Str}{sp:Sp}{s₁:Shared}{vs:List Value}{ns:List Int}
  (KX:K.In s₁.heap) (hns:s₁.heap.Ns mainGlobals mg) (hb:s₁.heap.Ns builtinsNs mb) (hbb:∀x:Str,x≠ "__name__" ->mb x=bootBuiltins x) (hlim:s₁.heap.NoLimit) (hg:s₁.gens= #[])
  (ha:s₁.heap.get? a=some {cls:= .type "list",data:= .seq vs.toArray}) (hi:IntsAre vs ns) (hl:ns.length<=sizeLine) (hr:Qa6 k callerA)
  (F:∀base:Heap,K.In base->base.Ns mainGlobals mg->Qck P w K mg base CX k fa fd [x] sp) (hbind:∀(s:Shared) (u:Value),BindsTo s fd ⟨[u],[]⟩ [(x,u)])
  (hsp:∀H:Hp,QxY H->SqL K H a (ns.map V.int)->sp [.ref a] H (λv _=>v= .bl true) λ_ _ _=>False)
  (hCX:∀H e s',CX [] H s₁ (λ_ _ _=>False) e s'->False):
  codeAny (model P w) callerA (.call (.ref fa) ⟨[.ref a],[]⟩) (λr s'=>r= .ok (.ret (.bool true))/\OldK s₁.heap s'.heap/\s'.os=s₁.os/\AllBare s'.gens) s₁:=by
 have rv:=QgC hi;have lenV:=hi.length
 have core:∀H:Hp,QxY H->SqL K H a (ns.map V.int)->HOk P w H s₁.heap->(∀b,H b≠none->b=a)->(H a≠none->K.lookup a=none)→
   codeAny (model P w) callerA (.call (.ref fa) ⟨[.ref a],[]⟩) (λr s'=>r= .ok (.ret (.bool true))/\OldK s₁.heap s'.heap/\s'.os=s₁.os/\AllBare s'.gens) s₁:=by
  intro H hO hS hok hA hK;have base_of:∀{b:Addr}{o:Obj},s₁.heap.get? b=some o->H b=none->(QhT s₁.heap H).get? b=some o:=λe n=>Qs8 e n;have noA:∀{b:Addr}{o:Obj}{es:Array DictEntry}{ep:Nat},s₁.heap.get? b=some o->o.data= .dict es ep->H b=none:=λ{b o es ep} e d=>by
   cases q:H b with
   | none=>rfl
   | some u=>
    have e':b=a:=hA b (by rw[q];simp);subst e';rw[ha]at e;cases e;have d':Data.seq vs.toArray _=Data.dict es ep:=d;cases d'
  have nsK:∀{b:Addr}{m:Str->Option Value},s₁.heap.Ns b m->(QhT s₁.heap H).Ns b m:=λ{b m} ⟨o,es,ep,e,d,r⟩=>⟨o,es,ep,base_of e (noA e d),d,r⟩;have hKb:K.In (QhT s₁.heap H):=λb o e=>base_of (KX b o e) (by
   cases q:H b with
   | none=>rfl
   | some u=>
    have e':b=a:=hA b (by rw[q];simp);subst e';rw[hK (by rw[q];simp)]at e;cases e)
  have hM:Mod K mg (QhT s₁.heap H):=⟨hKb,nsK hns,⟨mb,nsK hb,hbb⟩,let ⟨mc,h1,h2⟩:=hlim;⟨mc,nsK h1,h2⟩⟩;have e0:QnU P w K mg (QhT s₁.heap H) callerA [] s₁ H:=⟨rfl,hM,λb o e=>QvU e,Nat.le_of_eq (QrV _ _),trivial,λb hb=>absurd (show b∈([]:LAd)from hb) ⋯,hok,.of_eq hg⟩;refine codeAny_mono ((F _ hKb (nsK hns)).run callerA [] s₁ H ⟨[.ref a],[]⟩ [.ref a] [.ref a] _ _ hr e0 (hbind s₁ (.ref a)) (.cons rfl .nil) (hsp H hO hS)) λr s' h=>?_;cases r with
  | error e=>exact(hCX H e s' h).elim
  | ok fl=>
   cases fl with
   | next=>exact False.elim h
   | brk=>exact False.elim h
   | cont=>exact False.elim h
   | ret u=>
    obtain⟨v,H',os,bare,un,hok',r',q⟩:=h;have q':v= .bl true:=q;subst q';obtain rfl:u=Value.bool true:=r';refine⟨rfl,OldK.of_keep λb o e=>?_,os,bare⟩;cases q:H b with
    | none=>exact un.keep b o e q (by intro z;exact absurd (show b∈([]:LAd)from z) ⋯) ⋯
    | some u=>
     rcases hO b with z | ⟨ob,xs,z⟩
     .rw[q]at z;cases z
     .have z2:=un.frzs b ob _ z;obtain⟨e1,_⟩:=hok b _ z;obtain⟨e2,_⟩:=hok' b _ z2;rw[e]at e1;cases e1;exact e2
 cases hk:K.lookup a with
 | some o=>
  have e:=KX a o hk;rw[ha]at e;cases e;refine core (λ_=>none) (λ_=> .inl rfl) (.inr ⟨_,vs.toArray,_,hk,rfl,rfl,rfl,by rw[Zr,lenV];exact hl,by simpa using rv⟩) (λb u z=>by have z':(none:Option HO)=some u:=z;cases z') (λb z=>absurd rfl z) λz=>absurd rfl z
 | none=>
  refine core (λb=>if b=a then some (.frz {cls:= .type "list",data:= .seq vs.toArray} (.lst (ns.map V.int)))else none) (λb=>?_) (.inl (.inr ⟨{cls:= .type "list",data:= .seq vs.toArray},if_pos rfl⟩)) (λb u z=>?_) (λb z=>?_) λ_=>hk
  .by_cases hb:b=a
   .exact .inr ⟨_,_,if_pos hb⟩
   .exact .inl (if_neg hb)
  .by_cases hb:b=a
   .have z':=(if_pos hb).symm.trans z;cases z';subst hb;exact⟨ha,by rw[Zo];exact hl,vs,_,rv,ha⟩
   .have z':=(if_neg hb).symm.trans z;cases z'
  .by_cases hb:b=a
   .exact hb
   .exact absurd (if_neg hb) z
noncomputable abbrev KOf{K:Fgg}{h:Heap}(_:K.In h):PySem.W.Frag:=K
noncomputable def QbY(s:Stmt):Arguments:=match s with
 | .FunctionDef _ a _ _ _ _ _ _ _ _=>a
 | _=>{posonlyargs:=[],args:=[],vararg:=none,kwonlyargs:=[],kw_defaults:=[],kwarg:=none,defaults:=[]}
noncomputable def Qac(s:Stmt):List Stmt:=match s with
 | .FunctionDef _ _ b _ _ _ _ _ _ _=>b
 | _=>[]
noncomputable def Qh(s:Stmt):Scope:=match s with
 | .FunctionDef _ _ _ _ _ _ sc _ _ _=>sc
 | _=>{kind:= .function,names:=[],isGenerator:=false,isCoroutine:=false}
noncomputable abbrev CX0:CXT:=λ_ _ _ _ _ _=>False
noncomputable abbrev E0:XK:=λ_ _ _=>False
def Qqq{X:Cx}:Qlc CX0 X E0:=λ_ _ _ _ _ _ _ h=>h.elim
structure Fun (K:Fgg) (x qual:Str) (st:Stmt) (f:Addr) (fd:FuncData):Prop where
 ex:∃(oc:Value) (od:Option Addr) (kV doc pm:Value) (an:Option Addr) (cdv ct:Value) (osl:Array (Option Value)),
  fd=PySem.W.fnOf x qual (QbY st) (Qac st) (Qh st) .none kV doc pm an cdv ct/\K.lookup f=some ⟨oc,od,.func fd,osl⟩/\PySem.W.codeIn K cdv qual=true
 kp:PySem.W.keepIn K (.ref f)=true
section
variable {P:Program}{w:World}{K:Fgg}{mg:Str->Option Value}{base:Heap}
def Fun.ok{x qual:Str}{st:Stmt}{f:Addr}{fd:FuncData}{N ps:List Str}{k:Nat}{sp:Sp}(F:Fun K x qual st f fd)(S:Qba N ps (Qh st))(len:∀vs H Q E,sp vs H Q E->vs.length=ps.length)
  (hbody:∀(cdv:Value) (A:Around) (outer:List Env) (s:Shared) (H:Hp) (vs:List V) (Q:VK) (E:XK),Qa6 k (A.deeper (envOfC qual (Qh st) s.heap.objs.size f cdv))->sp vs H Q E→
   ∃t,PSs (QcL CX0 P w K mg base N qual (Qh st) f cdv A outer s H E).nox (Qac st) t/\t {nx:=λ_ H'=>Q .non H',rt:=Q} (start N vs) H):Qck P w K mg base CX0 (k+1) f fd ps sp:=by
 obtain⟨oc,od,kV,doc,pm,an,cdv,ct,osl,rfl,lk,hcd⟩:=F.ex;refine QmM lk hcd S len λA outer s H vs Q E hr hsp=>?_;obtain⟨t,h,q⟩:=hbody cdv A outer s H vs Q E hr hsp;exact⟨t,h.nox,q⟩
def Fun.binds{x qual:Str}{st:Stmt}{f:Addr}{fd:FuncData}{ps:List Str}(F:Fun K x qual st f fd)
  (h:∀(kV doc pm:Value) (an:Option Addr) (cdv ct:Value) (us:List Value),us.length=ps.length->bindArgs (PySem.W.fnOf x qual (QbY st) (Qac st) (Qh st) .none kV doc pm an cdv ct) ⟨us,[]⟩=pure (ps.zip us)):Binds K fd ps []:=by
 obtain⟨oc,od,kV,doc,pm,an,cdv,ct,osl,rfl,lk,hcd⟩:=F.ex;exact .all (h kV doc pm an cdv ct)
def QxH{x qual:Str}{st:Stmt}{f:Addr}{oc:Value}{od an:Option Addr}{osl:Array (Option Value)}{kV doc pm cdv ct:Value}(l:K.lookup f=some ⟨oc,od,.func (PySem.W.fnOf x qual (QbY st) (Qac st) (Qh st) .none kV doc pm an cdv ct),osl⟩)
  (c:PySem.W.codeIn K cdv qual=true) (k:PySem.W.keepIn K (.ref f)=true):Fun K x qual st f (PySem.W.fnOf x qual (QbY st) (Qac st) (Qh st) .none kV doc pm an cdv ct):=⟨⟨oc,od,kV,doc,pm,an,cdv,ct,osl,rfl,l,c⟩,k⟩
end
section
variable {X:Cx}
end
def Qqj{A B:Prop}(h:B):if false=true then A else B:=by
 rw[if_neg ZK];exact h
def Qqs{A B:Prop}(h:A):if true=true then A else B:=by
 rw[if_pos rfl];exact h
def QJ(H H':Hp):Prop:=∀b o,H b=some o->H' b=some o
def QJ.refl(H:Hp):QJ H H:=λ_ _ h=>h
def QJ.trans{H H1 H2:Hp}(a:QJ H H1)(b:QJ H1 H2):QJ H H2:=λc o h=>b c o (a c o h)
def QJ.free{H H':Hp}(e:QJ H H'){l:Addr}(h:H' l=Option.none):H l=Option.none:=by
 cases q:H l with
 | none=>rfl
 | some o=>
  rw[e l o q]at h;cases h
section
variable {κ:Type} [DecidableEq κ]
end
section
variable {P:Program}{w:World}{H:Hp}{h:Heap}{a:Addr}
end
section
variable {X:Cx}{pins:List (Addr×Obj)}{σ:St}{H:Hp}{s:Shared}{a:Addr}{y v:V}{u r:Value}{o:Option V}{A:Around}{E:Value->Shared->Prop}
end
section
variable {X:Cx}{pins:List (Addr×Obj)}{σ:St}{H:Hp}{s:Shared}{a:Addr}{kvs:List (Key×V)}{k:Key}{u:Value}{A:Around}{E:Value->Shared->Prop}
end
section
variable {X:Cx}{o i e value:Expr}{pos pos' tpos:Pos}{td ty tv:TE}
end
section
variable {X:Cx}{pos:Pos}
end
end L2
namespace HS
open PySem PySem.Spec L2 PyProof.Rows
noncomputable def Itx(x:Str):It:=⟨λi _=>i<x.cps.size,λi H v H'=>H'=H/\∃c,x.cps[i]? =some c/\v= .str ⟨#[c]⟩,λi _=>i=x.cps.size⟩
def QsM{P:Program}{w:World}{K:Fgg}{tg:Expr}{it:Addr}{x:Str}{t:Tok}{T:String}(hW:∀A':Around,A'.handled=none->Walks P w A' it [it] [it] x.cps.size (SignAt x) (λi h=>h.IsStrIter it T x t i))
  (hT:["enumerate","zip","dict_itemiterator","dict_reverseitemiterator","odict_iterator","itertools.zip_longest","itertools.pairwise"].contains T=false)
  (hS:∀(A:Around) (i:Nat) (s:Shared) (Q:Value->Shared->Prop) (E:Value->Shared->Prop),s.heap.IsStrIter it T x t i->Q (.ref it) s->wpAny (model P w) A (pyIter (.ref it)) Q E s):Turn P w K tg (Itx x) [it] it (λi h=>h.IsStrIter it T x t i) where
 mem:= ⋯
 obj:=λi h st b hb=>by
  have e:b=it:=by simpa using hb
  subst e;obtain⟨o,e,c,d⟩:=st;exact⟨o,e,λv z=>by rw[d]at z;cases z⟩
 keep:=λi h h' st k=>let ⟨o,e,r⟩:=st;⟨o,k it ⋯ o e,r⟩
 item:=by
  intro X hP hw hK hc i pins s σ H E I hf st hg;subst hP hw hK;obtain⟨f0,f1,f2,f3,f4,f5⟩:=hf it ⋯;refine(hW X.A (I.ok.hd hc)).item i s _ _ hg st λv h' tk hv st' kk=>?_;obtain⟨c,u,hcx,rfl⟩:=hv;have I1:Inv X pins σ H {s with heap:=h',toks:=tk}:=I.turned (λb o hb e=>kk b o (by simpa using hb) e) f0 f1 f3 f4 f5;obtain⟨o,e,c',d⟩:=id st';exact⟨_,rfl,QmY (s:={s with heap:=h',toks:=tk}) (n:=T) e c' d hT ⟨.str ⟨#[c]⟩,H,I1,⟨u,rfl⟩,⟨rfl,c,hcx,rfl⟩,st',λb hb=>(hf b hb).1⟩⟩
 done:=by
  intro X hP hw hK hc i pins s σ H E I hf st hg;subst hP hw hK;obtain⟨f0,f1,f2,f3,f4,f5⟩:=hf it ⋯;have hg:i=x.cps.size:=hg;subst hg;exact(hW X.A (I.ok.hd hc)).done s _ _ st λh' tk kk=>⟨rfl,I.turned (λb o hb e=>kk b o (by simpa using hb) e) f0 f1 f3 f4 f5⟩
 self:=λA i s Q E st h=>hS A i s Q E st h
noncomputable def QBg(tl:TE):TI:=λσ H R=>tl σ H λx H1=>∃y,x= .str y/\R (Itx y) H1
def Qxw{X:Cx}{tg l:Expr}{tl:TE}(hl:PE X l tl):PI X tg l (QBg tl):=by
 intro pins s σ H R I h;refine thn (hl pins s σ H _ I h) λv s1=>exJ λx H1 I1 r1 q1=>?_;obtain⟨y,e,q⟩:=q1;subst e;obtain⟨t,rfl⟩:=(show ∃t,v=Value.str y t from r1)
 have fin:∀(o:Obj) (T:String),(∀A':Around,A'.handled=none->Walks X.prog X.w A' s1.heap.objs.size [s1.heap.objs.size] [s1.heap.objs.size] y.cps.size (SignAt y) (λi h=>h.IsStrIter s1.heap.objs.size T y t i))->["enumerate","zip","dict_itemiterator","dict_reverseitemiterator","odict_iterator","itertools.zip_longest","itertools.pairwise"].contains T=false→
   (∀(A:Around) (i:Nat) (s:Shared) (Q:Value->Shared->Prop) (E:Value->Shared->Prop),s.heap.IsStrIter s1.heap.objs.size T y t i->Q (.ref s1.heap.objs.size) s->wpAny (model X.prog X.w) A (pyIter (.ref s1.heap.objs.size)) Q E s)→
   (s1.heap.push o).IsStrIter s1.heap.objs.size T y t 0->PIE X pins σ tg R (.ref s1.heap.objs.size) {s1 with heap:=s1.heap.push o}:=λo T hW hT hS h0=>by
  refine⟨s1.heap.objs.size,[s1.heap.objs.size],_,_,H1,rfl,I1.kept (t':=s1.toks) λb o e=>Zu _ e,QsM hW hT hS,h0,λb hb=>?_,q⟩;have e:b=s1.heap.objs.size:=by simpa using hb
  subst e;exact I1.Qof (Ze _) (I1.hok.fresh (Ze _))
 cases ha:y.cps.all (· <128)
 .exact wpAny_pyIter_wide ha (fin _ _ (λA' hA=>Walks.strWide hA _ y t) ∅ (λA i s Q E st h=>wpAny_pyIter_striter_wide st h) ⟨_,ZA _ rfl,rfl,rfl⟩)
 .exact wpAny_pyIter_ascii ha (fin _ _ (λA' hA=>Walks.strAscii hA _ y t) ∅ (λA i s Q E st h=>wpAny_pyIter_striter_ascii st h) ⟨_,ZA _ rfl,rfl,rfl⟩)
section
variable {X:Cx}
def QuQ{e:Expr}{t u:TE}(h1:PE X e t)(h2:PE X e u):PE X e (λσ H Q=>t σ H Q∨u σ H Q):=λpins s σ H Q I q=>q.elim (h1 pins s σ H Q I) (h2 pins s σ H Q I)
def QnC{v:Value}{o:Option Int}(h:IsPart v o):∃l:Option (Int×Tok),v=partValue l/\o=l.map (·.1):=by
 cases h with
 | none=>exact⟨none,rfl,rfl⟩
 | int i t=>exact⟨some (i,t),rfl,rfl⟩
def Qxg:SlR X (λx lo hi H Q=>∃z,x= .str z/\z.length<=sizeLine/\Q (.str (Txt.slice z lo hi)) H):=by
 intro pins s σ H x v vl vu lo hi sl Q I rx hs pl pu q;obtain⟨z,rfl,hz,q⟩:=q;obtain⟨t,rfl⟩:=(show ∃t,v=Value.str z t from rx);obtain⟨l,rfl,rfl⟩:=QnC pl;obtain⟨u,rfl,rfl⟩:=QnC pu;obtain⟨o,ho,hc,hd⟩:=hs;exact⟨"str",_,F.slot_str_getitem.lookup,typeIs_str _ _ _,wpAny_getItem_str_slice (l:=l) (u:=u) (st:=none) ⟨o,ho,hc,hd⟩ rfl (post_val_or_str ⟨Zx (Txt.slice_le z _ _) hz,λt' k=>⟨.str _,H,I.tok _,⟨t',rfl⟩,q⟩⟩)⟩
def Qmn:∀l:List (Str×Tok),QH (l.map λp=>V.str p.1) (strValues l)
 | []=> .nil
 | p::l=> .cons ⟨p.2,rfl⟩ (Qmn l)
def Qmy:∀{ts:List Str}{its:List Value},QH (ts.map V.str) its->∃l:List (Str×Tok),its=strValues l/\l.map (·.1)=ts
 | [],its,h=>by cases h;exact⟨[],rfl,rfl⟩
 | t::ts,its,h=>by
  cases h with
  | cons r h=>
   obtain⟨l,rfl,e⟩:=Qmy h;obtain⟨k,rfl⟩:=r;exact⟨(t,k)::l,rfl,by rw[Zs,e]⟩
def Qsa:MtR X "str.split" (λx xs H Q=>∃z y,x= .str z/\xs=[.str y]/\(y.length == 0)=false/\z.length+2<=sizeLine/\∀l,H l=none->Q (.ref l) (L2.upd H l (.lst ((Txt.split z y).map .str)))):=by
 intro pins s σ H x xs v us Q I rx rs q;obtain⟨z,y,rfl,rfl,hy,hsz,q⟩:=q;obtain⟨t,rfl⟩:=(show ∃t,v=Value.str z t from rx);obtain⟨u',rfl,ru⟩:=vals1 rs;obtain⟨u,rfl⟩:=(show ∃t,u'=Value.str y t from ru);have hn:(Builtin.Str.partsBetween z (Builtin.Str.occurrences z y 0 z.length (z.length+1)) y.length).length<=sizeLine:=by
  have e1:=StrLaws.occ_length_le_len z y 0 z.length (z.length+1);rw[length_partsBetween];omega
 have fin:∀(l:List (Str×Tok)) (k:Nat),l.length<=sizeLine->l.map (·.1)=Txt.split z y->EP X pins σ Q (.ref s.heap.objs.size) {s with heap:=s.heap.push {cls:= .type "list",data:= .seq (strValues l).toArray},toks:=k}:=λl k hl e=>by
  have e2:(Txt.split z y).map V.str=l.map λp=>V.str p.1:=by rw[← e,ZF];rfl
  refine⟨.ref s.heap.objs.size,_,I.laid (t':=k) (λb o h=>Zu _ h) (Ze _) (show Qb4 X.prog X.w _ _ _ (.lst ((Txt.split z y).map .str))from⟨by rw[e2,Zo];exact hl,strValues l,0,by rw[e2];exact Qmn l,ZA _ rfl⟩),rfl,q _ (I.hok.fresh (Ze _))⟩
 cases h1:(decide (z.length<y.length) || decide (Builtin.Str.strKind z<Builtin.Str.strKind y))
 .cases hf:(Builtin.Str.occurrences z y 0 z.length (z.length+1)).isEmpty
  .refine call_meets F.slot_str_split (typeIs_str _ _ _) F.entry_str_split (F.args_str_split_2 _ _) (meets_str_split_sep z y t u h1 hy hf ⋯ hn) ?_;show wants _ _ _ {s with toks:=_,heap:=s.heap.push {cls:= .type "list",data:= .seq (strsFrom s.toks (Builtin.Str.partsBetween z (Builtin.Str.occurrences z y 0 z.length (z.length+1)) y.length)).toArray}};rw[strsFrom_eq];have en:=numbered_texts s.toks (Builtin.Str.partsBetween z (Builtin.Str.occurrences z y 0 z.length (z.length+1)) y.length);exact fin (numbered s.toks _) _ (by rw[← Zo (f:=(·.1)),en];exact hn) (en.trans ((if_neg (ne_true_of_eq_false h1)).trans (if_neg (ne_true_of_eq_false hf))).symm)
  .exact call_meets F.slot_str_split (typeIs_str _ _ _) F.entry_str_split (F.args_str_split_2 _ _) (meets_str_split_not_found z y t u h1 hy hf) (fin [(z,t)] s.toks (show 1<=sizeLine by decide) ((if_neg (ne_true_of_eq_false h1)).trans (if_pos hf)).symm)
 .exact call_meets F.slot_str_split (typeIs_str _ _ _) F.entry_str_split (F.args_str_split_2 _ _) (meets_str_split_cannot_occur z y t u h1) (fin [(z,t)] s.toks (show 1<=sizeLine by decide) (if_pos h1).symm)
def Qwa:MtR X "str.join" (λx xs H Q=>∃z p ts,x= .str z/\xs=[.ref p]/\SqL X.K H p (ts.map V.str)/\JoinOk z ts=true/\Q (.str (Txt.join z ts)) H):=by
 intro pins s σ H x xs v us Q I rx rs q;obtain⟨z,p,ts,rfl,rfl,hq,hj,q⟩:=q;obtain⟨t,rfl⟩:=(show ∃t,v=Value.str z t from rx);obtain⟨u',rfl,ru⟩:=vals1 rs;cases ru;obtain⟨its,rv,pl,hz⟩:=I.list hq;obtain⟨l,rfl,e⟩:=Qmy rv;exact SC.join pl.isList e hj λt' k=>⟨.str _,H,I.tok _,⟨t',rfl⟩,q⟩
def QqW:MtR X "str.startswith" (λx xs H Q=>∃z y,x= .str z/\xs=[.str y]/\Q (.bl (Txt.startswith z y)) H):=by
 intro pins s σ H x xs v us Q I rx rs q;obtain⟨z,y,rfl,rfl,q⟩:=q;obtain⟨t,rfl⟩:=(show ∃t,v=Value.str z t from rx);obtain⟨u',rfl,ru⟩:=vals1 rs;obtain⟨u,rfl⟩:=(show ∃t,u'=Value.str y t from ru);exact SC.startswith ⟨.bl _,H,I,rfl,q⟩
def QnI:Qbo X (.type "int") (λxs H Q=>∃z n,xs=[.str z]/\PySem.intText? z=some n/\z.length<=640/\Q (.int n) H):=by
 intro pins s σ H xs us Q I rs q;obtain⟨z,n,rfl,hn,hl,q⟩:=q;obtain⟨u',rfl,ru⟩:=vals1 rs;obtain⟨u,rfl⟩:=(show ∃t,u'=Value.str z t from ru);exact PySem.W.KIN.call_text hn hl ⟨.int n,H,I.tok _,⟨_,rfl⟩,q⟩
end
end HS
namespace L2
open PySem PySem.Spec PyProof.Rows
def Qlp(env:Env)(body:Str×NameKind->List (Str×Addr)->Sem (ForInStep (List (Str×Addr))))
  (hb:∀n k cs,body (n,k) cs=if(k == NameKind.free)=true then(do let c ← cellOf env n;pure (ForInStep.yield ((n,c)::cs)))else pure (ForInStep.yield cs)):
  ∀(names:List (Str×NameKind)) (acc:List (Str×Addr)),(∀y∈names,y.2= .free->∃c,env.cells.lookup y.1=some c)->(∀x c,acc.lookup x=some c->env.cells.lookup x=some c)→
   ∃cl,forIn names acc body=(pure cl:Sem _)/\(∀x c,cl.lookup x=some c->env.cells.lookup x=some c)/\(∀x,acc.lookup x≠none->cl.lookup x≠none)/\∀y∈names,y.2= .free->cl.lookup y.1≠none
 | [],acc,_,ha=>⟨acc,rfl,ha,λ_ h=>h,λy hy=>by simp at hy⟩
 | (n,k)::r,acc,hn,ha=>by
  rw[List.forIn_cons,hb];have hr:∀y∈r,y.2= .free->∃c,env.cells.lookup y.1=some c:=λy hy=>hn y (Zc _ hy);by_cases hk:k= .free
  .subst hk;obtain⟨c,hc⟩:=hn (n,.free) Zw rfl;have hce:cellOf env n=pure c:=by unfold cellOf;rw[show env.cells.lookup n=some c from hc]
   rw[if_pos (by rfl),hce];obtain⟨cl,e,h1,h2,h3⟩:=Qlp env body hb r ((n,c)::acc) hr (λx c' e=>by
    rw[Zt]at e;cases q:x == n with
    | true=>rw[q]at e;cases e;rw[beq_iff_eq]at q;rw[q];exact hc
    | false=>rw[q]at e;exact ha x c' e)
   have hcons:∀x,((n,c)::acc).lookup x≠none->cl.lookup x≠none:=h2;refine⟨cl,by simpa using e,h1,λx hx=>hcons x ?_,λy hy hf=>?_⟩
   .rw[Zt];cases x == n with
    | true=>simp
    | false=>exact hx
   .rcases Zn.mp hy with rfl | hy
    .exact hcons _ (by simp[Zt])
    .exact h3 y hy hf
  .rw[if_neg (by simpa using hk)];obtain⟨cl,e,h1,h2,h3⟩:=Qlp env body hb r acc hr ha;refine⟨cl,by simpa using e,h1,h2,λy hy hf=>?_⟩;rcases Zn.mp hy with rfl | hy
   .exact absurd hf hk
   .exact h3 y hy hf
def QpN(h:∀y∈scope.names,y.2= .free->∃c,env.cells.lookup y.1=some c):
  ∃cl,closureFor scope env=pure cl/\(∀x c,cl.lookup x=some c->env.cells.lookup x=some c)/\∀y∈scope.names,y.2= .free->∃c,cl.lookup y.1=some c:=by
 unfold closureFor;obtain⟨cl,e,h1,_,h3⟩:=Qlp env (λx cs=>match x with | (name,kind)=>if(kind == NameKind.free)=true then(do let c ← cellOf env name;pure (ForInStep.yield ((name,c)::cs)))else pure (ForInStep.yield cs)) (λ_ _ _=>rfl) scope.names [] h (λx c e=>by simp at e);refine⟨cl,?_,h1,λy hy hf=>Option.ne_none_iff_exists'.mp (h3 y hy hf)⟩;show(forIn scope.names [] _ >>= λr=>pure r)=_;rw[e];rfl
noncomputable def cxc(X:Cx)(N':List Str)(scope:Scope)(cl:List (Str×Addr))(C:Addr)(fp:LAd)(s3:Shared)(H3:Hp):Cx:=
 {X with N:=N',s₀:=s3,H₀:=H3,env:=compEnvC scope cl C X.env,outer:=X.stack,ex:=fp,fn:=λx=>decide (scope.names.lookup x=some .cell),pn:=[],xe:=λ_ _=>False}
def PTs(X:Cx)(ifs:List Expr)(t:TT):Prop:=
 ∀(pins:List (Addr×Obj)) (s:Shared) (σ:St) (H:Hp) (Q:Bool->Hp->Prop),Inv X pins σ H s->t σ H Q→
  wpAny (model X.prog X.w) X.A (forIn ifs true λc r=>if r=true then do let ok ← isTrue c X.env (eval c X.env);pure (ForInStep.yield ok)else pure (ForInStep.yield r)) (TP X pins σ Q) X.xe s
noncomputable def QAL:TT:=λ_ H Q=>Q true H
def QwT:PTs X [] QAL:=λ_ _ _ H _ I h=>wpAny_tests_nil ⟨H,I,h⟩
def Qv6(h:PT X c t):PTs X [c] t:=λpins s σ H Q I q=>wpAny_tests_one (h pins s σ H Q I q)
def Qi4(X:Cx)(N':List Str)(scope:Scope)(σ σ':St):Prop:=
 σ'.length=N'.length/\∀(j:Nat) (x:Str) (v:V),N'[j]? =some x->σ'[j]? =some (some v)->scope.names.lookup x=some .free/\∃i:Nat,X.N[i]? =some x/\σ[i]? =some (some v)/\(X.env.kindOf x=some .cell∨X.env.kindOf x=some .free)
noncomputable def QmN(wi:TI)(cap:St->St->Prop)(g:TG)(tc:TT)(te:TE):TE:=λσ H Q=>wi σ H λJ H1=>∃σc,cap σ σc/\∀D,H1 D=none->∃W:Nat->Nat->List V->Hp->Prop,
 (∃m,W 0 m [] (upd H1 D (.lst [])))/\∀i m acc H2,W i m acc H2->(J.stop i H2/\Q (.ref D) H2)∨
  (J.go i H2/\∀x H3,J.yld i H2 x H3->g x σc H3 λσ2 H4=>(∀(j:Nat) v,σc[j]? =some (some v)->σ2[j]? =some (some v))/\tc σ2 H4 λb H5=>if b=true then
   te σ2 H5 λy H6=>H6 D=some (.lst acc)/\acc.length<sizeLine/\∃m',m'<m/\W (i+1) m' (acc++[y]) (upd H6 D (.lst (acc++[y])))
   else ∃m',m'<m/\W (i+1) m' acc H5)
def QcO{env:Env}:∀{names:List (Str×NameKind)}{x:Str},names.lookup x=some .free→
  (names.map λ(n,k)=>if(k == NameKind.free && env.scope.kind == .function && env.kindOf n == some .cell)then(n,NameKind.cell)else(n,k)).lookup x=some .cell∨
  (names.map λ(n,k)=>if(k == NameKind.free && env.scope.kind == .function && env.kindOf n == some .cell)then(n,NameKind.cell)else(n,k)).lookup x=some .free
 | [],_,h=>by simp at h
 | (n,k)::r,x,h=>by
  have ih:= @QcO env r x;rw[Zs];cases hx:x == n with
  | true=>
   simp only[Zt,hx]at h;cases h;dsimp only;split
   .left;simp[Zt,hx]
   .right;simp[Zt,hx]
  | false=>
   simp only[Zt,hx]at h;dsimp only;split
   .simp only[Zt,hx];exact ih h
   .simp only[Zt,hx];exact ih h
def Qfa{env:Env}:∀{names:List (Str×NameKind)}{x:Str},
  ((names.map λ(n,k)=>if(k == NameKind.free && env.scope.kind == .function && env.kindOf n == some .cell)then(n,NameKind.cell)else(n,k)).lookup x=some .cell∨
  (names.map λ(n,k)=>if(k == NameKind.free && env.scope.kind == .function && env.kindOf n == some .cell)then(n,NameKind.cell)else(n,k)).lookup x=some .free)→
  ∃k,(x,k)∈names/\(k= .free∨k= .cell)
 | [],_,h=>by simp at h
 | (n,k)::r,x,h=>by
  have ih:= @Qfa env r x;rw[Zs]at h;cases hx:x == n with
  | true=>
   have hn:x=n:=by simpa using hx
   subst hn;dsimp only at h;split at h
   .rename_i hc;simp only[Zf]at hc;refine⟨k,Zw,.inl (by simpa using hc.1.1)⟩
   .simp only[Zt,hx]at h;refine⟨k,Zw,?_⟩;rcases h with h | h
    .exact .inr (Option.some.inj h)
    .exact .inl (Option.some.inj h)
  | false=>
   dsimp only at h;have:∃k,(x,k)∈r/\(k= .free∨k= .cell):=by
    apply ih;split at h
    .simpa only[Zt,hx]using h
    .simpa only[Zt,hx]using h
   obtain⟨k',h1,h2⟩:=this;exact⟨k',Zc _ h1,h2⟩
def QfO:∀(names:List (Str×NameKind)) (n:Nat) (acc:List (Str×Addr)) (x:Str) (c:Addr),(cellsFrom n names acc).lookup x=some c->acc.lookup x=some c∨(n<=c/\(x,NameKind.cell)∈names)
 | [],_,_,_,_,h=> .inl h
 | (nm,k)::r,n,acc,x,c,h=>by
  unfold cellsFrom at h;split at h
  .rename_i hk;have hk:k= .cell:=by simpa using hk
   rcases QfO r (n+1) ((nm,n)::acc) x c h with h | ⟨h1,h2⟩
   .rw[Zt]at h;cases q:x == nm with
    | true=>
     rw[q]at h;cases h;have:x=nm:=by simpa using q
     exact .inr ⟨Ze _,by rw[this,hk];exact Zw⟩
    | false=>rw[q]at h;exact .inl h
   .exact .inr ⟨⋯,Zc _ h2⟩
  .rcases QfO r n acc x c h with h | ⟨h1,h2⟩
   .exact .inl h
   .exact .inr ⟨h1,Zc _ h2⟩
def QnJ:∀(names:List (Str×NameKind)) (n:Nat) (acc:List (Str×Addr)) (x:Str) (c:Addr),(x,NameKind.cell)∈names->(cellsFrom n names acc).lookup x=some c->n<=c
 | (nm,k)::r,n,acc,x,c,hm,h=>by
  unfold cellsFrom at h;split at h
  .by_cases hr:(x,NameKind.cell)∈r
   .have:=QnJ r (n+1) _ x c hr h;omega
   .have hx:x=nm:=by
     rcases Zn.mp hm with e | e
     .exact(Prod.mk.inj e).1
     .exact absurd e hr
    rcases QfO r (n+1) ((nm,n)::acc) x c h with h | ⟨h1,_⟩
    .rw[Zt,show(x == nm)=true by simpa using hx]at h;cases h;exact Ze _
    .omega
  .rename_i hk;rcases Zn.mp hm with e | e
   .exact absurd (by rw[← (Prod.mk.inj e).2];rfl) hk
   .exact QnJ r n acc x c e h
def Qnw:∀(names:List (Str×NameKind)) (n:Nat) (acc:List (Str×Addr)),(∀x y c,acc.lookup x=some c->acc.lookup y=some c->x=y)->(∀x c,acc.lookup x=some c->c<n)→
  ∀x y c,(cellsFrom n names acc).lookup x=some c->(cellsFrom n names acc).lookup y=some c->x=y
 | [],_,_,hi,_,x,y,c,h1,h2=>hi x y c h1 h2
 | (nm,k)::r,n,acc,hi,hb,x,y,c,h1,h2=>by
  unfold cellsFrom at h1 h2;split at h1
  .rename_i hk;rw[if_pos hk]at h2;refine Qnw r (n+1) ((nm,n)::acc) (λx y c h1 h2=>?_) (λx c h=>?_) x y c h1 h2
   .rw[Zt]at h1 h2;cases qx:x == nm with
    | true=>
     rw[qx]at h1;cases h1;cases qy:y == nm with
     | true=>rw[show x=nm by simpa using qx,show y=nm by simpa using qy]
     | false=>rw[qy]at h2;exact absurd (hb y _ h2) (ZH _)
    | false=>
     rw[qx]at h1;cases qy:y == nm with
     | true=>rw[qy]at h2;cases h2;exact absurd (hb x _ h1) (ZH _)
     | false=>rw[qy]at h2;exact hi x y c h1 h2
   .rw[Zt]at h;cases qx:x == nm with
    | true=>rw[qx]at h;cases h;exact Nat.lt_succ_self _
    | false=>rw[qx]at h;exact ZaR (hb x c h)
  .rename_i hk;rw[if_neg hk]at h2;exact Qnw r n acc hi hb x y c h1 h2
def Qhl:∀(names:List (Str×NameKind)) (n:Nat) (acc:List (Str×Addr)) (x:Str),(∃c,acc.lookup x=some c)->∃c,(cellsFrom n names acc).lookup x=some c
 | [],_,_,_,h=>h
 | (nm,k)::r,n,acc,x,h=>by
  unfold cellsFrom;split
  .refine Qhl r (n+1) _ x ?_;rw[Zt];cases x == nm with
   | true=>exact⟨n,rfl⟩
   | false=>exact h
  .exact Qhl r n acc x h
def QoE:∀(names:List (Str×NameKind)) (n:Nat) (acc:List (Str×Addr)) (x:Str),(x,NameKind.cell)∈names->∃c,(cellsFrom n names acc).lookup x=some c
 | (nm,k)::r,n,acc,x,hm=>by
  unfold cellsFrom;rcases Zn.mp hm with e | e
  .obtain⟨e1,e2⟩:=Prod.mk.inj e;subst e1;rw[← e2,if_pos (by rfl)];exact Qhl r (n+1) _ x ⟨n,by simp[Zt]⟩
  .split
   .exact QoE r (n+1) _ x e
   .exact QoE r n acc x e
def Qly(lo:Nat):∀(names:List (Str×NameKind)) (h:Heap) (acc:List (Str×Addr)),(∀x c,acc.lookup x=some c->lo<=c->h.IsCell c none)->lo<=h.objs.size→
  ∀x c,(cellsFrom h.objs.size names acc).lookup x=some c->lo<=c->(pushCells h names).IsCell c none
 | [],_,_,ha,_,x,c,e,hl=>ha x c e hl
 | (nm,k)::r,h,acc,ha,hlo,x,c,e,hl=>by
  unfold cellsFrom at e;unfold pushCells;split at e
  .rename_i hk;rw[if_pos hk];have hs:=Zbl h {cls:= .type "cell",data:= .cell none};refine Qly lo r (h.push {cls:= .type "cell",data:= .cell none}) ((nm,h.objs.size)::acc) (λx c e hl=>?_) (by rw[hs];omega) x c (by rw[hs];exact e) hl;rw[Zt]at e;cases q:x == nm with
   | true=>rw[q]at e;cases e;exact⟨_,ZA _ rfl,rfl⟩
   | false=>rw[q]at e;exact(ha x c e hl).keeps λb o e=>Zu _ e
  .rename_i hk;rw[if_neg hk];exact Qly lo r h acc ha hlo x c e hl
def Qln
  (hQ:∀h':Heap,h'.Ns s.heap.objs.size (λ_=>none)->(∀b o,s.heap.get? b=some o->h'.get? b=some o)->((∀x c,cl.lookup x=some c->c<s.heap.objs.size)->∀x c,(cellsFrom (s.heap.objs.size+1) scope.names cl).lookup x=some c->s.heap.objs.size+1<=c->h'.IsCell c none)→
   Q (newEnv scope s.heap.objs.size globals (cellsFrom (s.heap.objs.size+1) scope.names cl) qual none .none (some env) builtins) {s with heap:=h'}):
  wpAny M A (newFunctionEnv scope globals cl [] qual none .none (some env) builtins) Q E s:=by
 simp only[newFunctionEnv,Option.isSome_some,if_true];refine wpAny_bind (wpAny_alloc ?_);refine wpAny_bind (wpAny_layCells _ (λname kind cells=>by cases hkc:kind == NameKind.cell<;>simp[hkc]) _ _ _ _ ?_);have hs:=Zbl s.heap {cls:= .type "dict",data:= .dict #[]};rw[show({s with heap:=s.heap.push {cls:= .type "dict",data:= .dict #[]}}:Shared).heap.objs.size=s.heap.objs.size+1 from hs];refine wpAny_bind (wpAny_pure (wpAny_pure ?_));refine hQ _ ((Heap.Ns.new s.heap (.type "dict")).keeps (pushCells_keeps _ _)) (λb o e=>pushCells_keeps _ _ b o (Zu _ e)) λhb x c e hl=>?_;refine Qly (s.heap.objs.size+1) scope.names (s.heap.push {cls:= .type "dict",data:= .dict #[]}) cl (λx c e hl=>?_) (by rw[hs];exact Ze _) x c (by rw[hs];exact e) hl;exact absurd (Zm (hb x c e) (Zx (Zh _) hl)) (ZH _)
section
variable {X:Cx}{tg iter elt:Expr}{ifs:List Expr}{scope:Scope}{N':List Str}{pos:Pos}
structure Qem (X:Cx) (N':List Str) (scope:Scope):Prop where
 kind:scope.kind= .function
 own:∀y∈scope.names,y.2= .cell->scope.names.lookup y.1=some .cell
 loc:∀y∈scope.names,y.2= .local ->scope.names.lookup y.1=some .local
 free:∀y∈scope.names,y.2= .free->X.env.kindOf y.1=some .cell∨X.env.kindOf y.1=some .free
def Qna{pins:List (Addr×Obj)}{σ σc:St}{H3:Hp}{s3:Shared}{fp:LAd}{cl:List (Str×Addr)}{h':Heap}{tk:Nat}(S:Qem X N' scope)(I:Inv X pins σ H3 s3)
  (hf:∀b∈fp,Qc2 X pins H3 b) (hfl:∀b∈fp,b<s3.heap.objs.size) (hc1:∀x c,cl.lookup x=some c->X.env.cells.lookup x=some c) (hc2:∀y∈scope.names,y.2= .free->∃c,cl.lookup y.1=some c) (cap:Qi4 X N' scope σ σc)
  (hns:h'.Ns s3.heap.objs.size (λ_=>none)) (hk:∀b o,s3.heap.get? b=some o->h'.get? b=some o)
  (hown:(∀x c,cl.lookup x=some c->c<s3.heap.objs.size)->∀x c,(cellsFrom (s3.heap.objs.size+1) scope.names cl).lookup x=some c->s3.heap.objs.size+1<=c->h'.IsCell c none):
  Inv (cxc X N' scope (cellsFrom (s3.heap.objs.size+1) scope.names cl) s3.heap.objs.size fp s3 H3) [] σc H3 {s3 with heap:=h',toks:=tk}:=by
 have nold:∀b,b∈fp->b≠s3.heap.objs.size:=λb hb e=>absurd (hfl b hb) (by rw[e];exact ZH _);have cellOld:∀x c,cl.lookup x=some c->∃v,s3.heap.IsCell c v:=λx c e=>I.cell x c (hc1 x c e);have cellLt:∀x c,cl.lookup x=some c->c<s3.heap.objs.size:=λx c e=>let ⟨v,q⟩:=cellOld x c e;q.lt;have cellNew:∀c v,s3.heap.IsCell c v->h'.IsCell c v:=λc v ⟨o,ho,hd⟩=>⟨o,hk c o ho,hd⟩;have hown:=hown cellLt;have look:∀x c,(cellsFrom (s3.heap.objs.size+1) scope.names cl).lookup x=some c->cl.lookup x=some c∨(s3.heap.objs.size+1<=c/\(x,NameKind.cell)∈scope.names):=QfO scope.names _ cl
 refine⟨⟨I.ok.mod,S.kind,I.ok.glob,I.ok.blt,Ze _,Qnw scope.names _ cl (λx y c h1 h2=>I.ok.inj x y c (hc1 x c h1) (hc1 y c h2)) (λx c e=>ZaR (cellLt x c e)),λx hx=>?_,λx c e1 e2=>?_,I.ok.hd,I.ok.frames,.inl rfl,λb hb=>⟨nold b hb,λx c e=>?_⟩,
  I.bs,Zx I.ok.bsz I.sz,λb o e hb=>?_,λb hb hs=>?_,I.stack,I.Qlv⟩,rfl,I.bare,Un.kept hk,⟨_,hns,λj x v h1 h2 h3=>?_⟩,λx c e=>?_,I.hok.fresh (Ze _),λx c e=>?_,λp hp=>absurd (show p∈([]:List (Addr×Obj))from hp) ⋯,I.hok.kept hk,cap.1⟩
 .obtain⟨k,hm,hk'⟩:=Qfa hx;rcases hk' with rfl | rfl
  .exact Qhl scope.names _ cl x (hc2 _ hm rfl)
  .exact QoE scope.names _ cl x hm
 .have e1:decide (scope.names.lookup x=some .cell)=true:=e1;have:=QnJ scope.names _ cl x c (ZP (of_decide_eq_true e1)) e2;exact Zx (Zh _) this
 .rcases look x c e with e | ⟨e,_⟩
  .exact(hf b hb).2.2.2.2.1 x c (hc1 x c e)
  .intro z;rw[z]at e;exact absurd (Zm (hfl b hb) (Zx (Zh _) e)) (ZH _)
 .rcases(hf b hb).2.2.2.1 with z | z
  .exact I.ok.noex b o e z
  .exact absurd (Zm (Zq e) (Zx I.ok.bsz z)) (ZH _)
 .rcases Zn.mp (I.QdA b hs)with e | z
  .exact(hf b hb).2.1 e
  .exact(hf b hb).2.2.1 z
 .obtain⟨hl,i,e1,e2,e3⟩:=cap.2 j x v h1 h2;obtain⟨m,hn,look'⟩:=I.loc;obtain⟨u,r,l⟩:=look' i x v e1 e2 (e3.elim (λz=> .inr (.inl z)) λz=> .inr (.inr z));refine⟨u,r,.inr ⟨QcO hl,?_⟩⟩;rcases l with⟨k,_⟩ | ⟨_,c,ec,hcell⟩
  .rcases e3 with z | z<;>(rw[k]at z;cases z)
  .obtain⟨c',ec'⟩:=Qhl scope.names (s3.heap.objs.size+1) cl x (hc2 (x,.free) (ZP hl) rfl);rcases look x c' ec' with q | ⟨_,q⟩
   .have:=hc1 x c' q;rw[ec]at this;cases this;exact⟨c,ec',cellNew c _ hcell⟩
   .have:=S.own _ q rfl;rw[hl]at this;cases this
 .rcases look x c e with q | ⟨q,_⟩
  .obtain⟨v,q⟩:=cellOld x c q;exact⟨v,cellNew c v q⟩
  .exact⟨none,hown x c e q⟩
 .rcases look x c e with q | ⟨q,_⟩
  .exact I.freeC x c (hc1 x c q)
  .exact I.hok.fresh ⋯
def Qr6(J:Nat->Shared->Prop)
  (turn:∀n s,J n s->wpAny (model prog w) A (pyNext it) (λr s1=>match r with
   | none=>R (.ok .next) s1
   | some v=>wpAny (model prog w) A (letOwnedTupleGo tg it v) (λ_ s2=>wpAny (model prog w) A (assign tg env v) (λ_ s3=>
     wpAny (model prog w) A (forIn ifs true λc r=>if r=true then do let ok ← isTrue c env (eval c env);pure (ForInStep.yield ok)else pure (ForInStep.yield r)) (λok s4=>
      if ok=true then wpAny (model prog w) A (eval elt env) (λx s5=>wpAny (model prog w) A (call (.builtin "list.append") [acc,x]) (λ_ s6=>∃m,m<n/\J m s6) (λ_ _=>False) s5) (λ_ _=>False) s4
      else ∃m,m<n/\J m s4) (λ_ _=>False) s3) (λ_ _=>False) s2) (λ_ _=>False) s1) (λ_ _=>False) s)
  (n:Nat) (h:J n s0):codeAny (model prog w) A (.compLoop (.ListComp elt [⟨tg,iter,ifs,0⟩] scope pos) 0 it acc env) R s0:=by
 have up:∀{α:Type}{t:Sem α}{Q:α->Shared->Prop}{E:Value->Shared->Prop}{s:Shared},wpAny (model prog w) A t Q (λ_ _=>False) s->wpAny (model prog w) A t Q E s:=λh=>wpAny_mono h (λ_ _ q=>q) λ_ _ f=>f.elim;refine codeAny_loop (by rfl) J (λk sk hk=>?_) n h;show wpAny (model prog w) A ((compTurn (.ListComp elt [⟨tg,iter,ifs,0⟩] scope pos) 0 it acc env).onRaise (λx=>do noteFrame x env;theTreesLotGoes x)) _ _ sk;refine wpAny_noted (up ?_);rw[compTurn_list];refine wpAny_bind (wpAny_standAt (wpAny_bind (thn (turn k sk hk) λr s1 h1=>?_)));cases r with
 | none=>exact wpAny_pure h1
 | some v=>
  refine wpAny_bind (thn h1 λ_ s2 h2=>wpAny_bind (thn h2 λ_ s3 h3=>wpAny_bind (thn h3 λok s4 h4=>?_)));cases ok with
  | false=>exact wpAny_pure ⟨rfl,h4⟩
  | true=>exact wpAny_bind (wpAny_bind (thn h4 λx s5 h5=>wpAny_bind (thn h5 λ_ s6 h6=>wpAny_pure (wpAny_pure ⟨rfl,h6⟩))))
def Qtc{it D C:Addr}{fp:LAd}{tn:Nat->Heap->Prop}{J:It}{cl:List (Str×Addr)}{s3 s4:Shared}{H3:Hp}{σc:St}{g:TG}{tc:TT}{te:TE}{Q:Hp->Prop}(hcalm:X.calm=true)
  (T:Turn X.prog X.w X.K tg J fp it tn)
  (hg:PG (cxc X N' scope cl C fp s3 H3) tg g) (ht:PTs (cxc X N' scope cl C fp s3 H3) ifs tc) (he:PE (cxc X N' scope cl C fp s3 H3) elt te)
  (I:Inv (cxc X N' scope cl C fp s3 H3) [] σc H3 s4) (st:tn 0 s4.heap) (ff:∀b∈fp,Qc2 (cxc X N' scope cl C fp s3 H3) [] H3 b)
  (W:Nat->Nat->List V->Hp->Prop) (hw:∃m,W 0 m [] H3)
  (turn:∀i m acc H2,W i m acc H2->(J.stop i H2/\Q H2)∨
   (J.go i H2/\∀x H5,J.yld i H2 x H5->g x σc H5 λσ2 H6=>(∀(j:Nat) v,σc[j]? =some (some v)->σ2[j]? =some (some v))/\tc σ2 H6 λb H7=>if b=true then
    te σ2 H7 λy H8=>H8 D=some (.lst acc)/\acc.length<sizeLine/\∃m',m'<m/\W (i+1) m' (acc++[y]) (upd H8 D (.lst (acc++[y])))
    else ∃m',m'<m/\W (i+1) m' acc H7))
  {R:Result->Shared->Prop}(hR:∀H' s',Inv (cxc X N' scope cl C fp s3 H3) [] σc H' s'->Q H'->R (.ok .next) s'):
  codeAny (model X.prog X.w) X.A (.compStart (.ListComp elt [⟨tg,iter,ifs,0⟩] scope pos) 0 (.ref it) (.ref D) (compEnvC scope cl C X.env)) R s4:=by
 obtain⟨m0,w0⟩:=hw;have stat:∀{H':Hp},(∀b∈fp,H' b=none)->∀b∈fp,Qc2 (cxc X N' scope cl C fp s3 H3) [] H' b:=λhn b hb=>⟨hn b hb,(ff b hb).2⟩;have loop:codeAny (model X.prog X.w) X.A (.compLoop (.ListComp elt [⟨tg,iter,ifs,0⟩] scope pos) 0 (.ref it) (.ref D) (compEnvC scope cl C X.env)) R s4:=by
  refine Qr6 (λn s'=>∃i acc H',Inv (cxc X N' scope cl C fp s3 H3) [] σc H' s'/\tn i s'.heap/\(∀b∈fp,H' b=none)/\W i n acc H') ?_ m0 ⟨0,[],H3,I,st,λb hb=>(ff b hb).1,w0⟩;rintro n s5 ⟨i,acc,H5,I5,st5,fr5,w5⟩;rcases turn i n acc H5 w5 with⟨stop,q⟩ | ⟨go,step⟩
  .refine thn (T.done (cxc X N' scope cl C fp s3 H3) rfl rfl rfl hcalm i [] s5 σc H5 _ I5 (stat fr5) st5 stop) λr s6 Z=>?_;obtain⟨hr,I6⟩:=Z;subst hr;exact hR H5 s6 I6 q
  .refine thn (T.item (cxc X N' scope cl C fp s3 H3) rfl rfl rfl hcalm i [] s5 σc H5 _ I5 (stat fr5) st5 go) λr s6 Z=>?_;obtain⟨u,hr,h6⟩:=Z;subst hr;refine thn h6 λ_ s7 Z=>?_;obtain⟨x,H7,I7,r7,y7,st7,fr7⟩:=Z;have I7':=I7.pinned (stat fr7) (T.obj _ _ st7);refine thn (hg _ s7 σc H7 x u _ I7' r7 (step x H7 y7)) λ_ s8=>exJ λσ8 H8 I8 k8 q8=>?_;refine thn (ht _ s8 σ8 H8 _ I8 q8) λok s9 Z=>?_;obtain⟨H9,I9,q9⟩:=Z
   have again:∀{H':Hp}{s':Shared}{acc':List V},Inv (cxc X N' scope cl C fp s3 H3) ([]++Qg8 fp s7.heap) σ8 H' s'->(∃m',m'<n/\W (i+1) m' acc' H')→
     ∃m,m<n/\∃i acc H',Inv (cxc X N' scope cl C fp s3 H3) [] σc H' s'/\tn i s'.heap/\(∀b∈fp,H' b=none)/\W i m acc H':=λ{H' s' acc'} I' ⟨m',hm,w'⟩=>by
    have pin:∀b∈fp,∀o,s7.heap.get? b=some o->s'.heap.get? b=some o/\H' b=none:=λb hb o e=>by
     have z:=I'.pin (b,o) (Zg _ (Zg _ (QfJ hb e)));exact⟨z.1,z.2.1⟩
    refine⟨m',hm,i+1,acc',H',?_,T.keep _ _ _ st7 λb hb o e=>(pin b hb o e).1,λb hb=>?_,w'⟩
    .exact I'.Qf2.weak (I.len.trans I8.len.symm) k8
    .obtain⟨o,e,_⟩:=T.obj _ _ st7 b hb;exact(pin b hb o e).2
   cases ok with
   | false=>
    rw[if_neg ZK]at q9 ⊢;exact again I9 q9
   | true=>
    rw[if_pos rfl]at q9 ⊢;refine thn (he _ s9 σ8 H9 _ I9 q9) λyv s10 Z=>?_;obtain⟨y,H10,I10,r10,e10,l10,q10⟩:=Z;refine thn (QiK _ s10 σ8 H10 (.ref D) [y] (.ref D) [yv] (λv H11=>H11=upd H10 D (.lst (acc++[y]))) I10 rfl (.cons r10 .nil) ⟨D,acc,y,rfl,rfl,e10,l10,rfl⟩) λ_ s11 Z=>?_;obtain⟨_,H11,I11,_,e11⟩:=Z;subst e11;exact again I11 q10
 exact codeAny_compStart_list loop (T.self _ 0 _ _ _ st loop)
def QoD{wi:TI}{g:TG}{tc:TT}{te:TE}{cp:Pos}{use:Option (Value->Sem Unit)}{pins:List (Addr×Obj)}{s:Shared}{σ:St}{H:Hp}{QV:Value->Shared->Prop}{Q:VK}(hcalm:X.calm=true)(S:Qem X N' scope)(hi:PI X tg iter wi)
  (hin:∀cl C fp s3 H3,PG (cxc X N' scope cl C fp s3 H3) tg g/\PTs (cxc X N' scope cl C fp s3 H3) ifs tc/\PE (cxc X N' scope cl C fp s3 H3) elt te)
  (hs:∀x,foldedSetIterable iter X.env x=pure x) (I:Inv X pins σ H s) (h:QmN wi (Qi4 X N' scope) g tc te σ H Q)
  (fin:∀(D C:Addr) (H':Hp) (s':Shared),Inv X pins σ H' s'->H' C=none->C≠X.env.locals->X.s₀.heap.objs.size<=C->(∀x c,X.env.cells.lookup x=some c->c≠C)->(∀p∈X.pn++pins,p.1≠C)->(∃m,s'.heap.Ns C m)->Q (.ref D) H'→
   compPost (model X.prog X.w) X.A X.xe use QV (.ref D) C (.ok .next) s'):
  wpAny (model X.prog X.w) X.A (comprehension (.ListComp elt [⟨tg,iter,ifs,0⟩] scope pos) scope X.env cp (newList []) false (eval iter X.env) use) QV X.xe s:=by
 obtain⟨cl,hcl,hc1,hc2⟩:=QpN λy hy hf=>I.ok.has y.1 (S.free y hy hf);refine wpAny_comprehension_free rfl hs hcl S.kind S.loc ?_;refine thn (hi pins s σ H _ I h) λv s1 h1=>thn h1 λitv s2 h2=>?_;obtain⟨it,fp,tn,J,H2,e,I2,T,st2,f2,σc,cap,hw⟩:=h2;subst e;have hD0:H2 s2.heap.objs.size=none:=I2.hok.fresh (Ze _);obtain⟨W,hW0,turn⟩:=hw _ hD0;have fpl:∀b∈fp,b<s2.heap.objs.size:=λb hb=>let ⟨o,e,_⟩:=T.obj _ _ st2 b hb;Zq e;have hlist:∀D:Addr,D=s2.heap.objs.size->∃x,x=D:=λD _=>⟨D,rfl⟩;refine wpAny_newObj_type ?_
 have I3:Inv X pins σ (upd H2 s2.heap.objs.size (.lst [])) {s2 with heap:=s2.heap.push {cls:= .type "list",dict:=none,data:= .seq ([]:List Value).toArray}}:=
  I2.laid (t':=s2.toks) (λb o e=>Zu _ e) (Ze _) ⟨ZQ _,[],0,.nil,ZA _ rfl⟩
 generalize hs3:({s2 with heap:=s2.heap.push {cls:= .type "list",dict:=none,data:= .seq ([]:List Value).toArray}}:Shared)=s3 at I3;have hs3':s3.heap=s2.heap.push {cls:= .type "list",dict:=none,data:= .seq ([]:List Value).toArray}:=by rw[← hs3]
 have sz3:s3.heap.objs.size=s2.heap.objs.size+1:=by rw[hs3',Zbl]
 have old3:∀b o,s2.heap.get? b=some o->s3.heap.get? b=some o:=λb o e=>by rw[hs3'];exact Zu _ e
 have f3:∀b∈fp,Qc2 X pins (upd H2 s2.heap.objs.size (.lst [])) b:=λb hb=>⟨by rw[QQ (ZE (fpl b hb))];exact(f2 b hb).1,(f2 b hb).2⟩;have fpl3:∀b∈fp,b<s3.heap.objs.size:=λb hb=>by rw[sz3];exact ZaR (fpl b hb)
 refine Qln (λh4 hns4' keep4 hown4=>?_);have I4:=Qna (tk:=s3.toks) S I3 f3 fpl3 hc1 hc2 cap hns4' keep4 hown4;have hout:∀H' s',Inv (cxc X N' scope (cellsFrom (s3.heap.objs.size+1) scope.names cl) s3.heap.objs.size fp s3 (upd H2 s2.heap.objs.size (.lst []))) [] σc H' s'->Inv X pins σ H' s':=λH' s' J'=>
  I3.Qp3 J'.os J'.base J'.hok J'.bare λb hb=>⟨(f3 b hb).2.2.2.1,(f3 b hb).2.1,(f3 b hb).2.2.2.2.1,(f3 b hb).2.2.2.2.2⟩
 obtain⟨hg,ht,he⟩:=hin (cellsFrom (s3.heap.objs.size+1) scope.names cl) s3.heap.objs.size fp s3 (upd H2 s2.heap.objs.size (.lst []));have fc:∀b∈fp,Qc2 (cxc X N' scope (cellsFrom (s3.heap.objs.size+1) scope.names cl) s3.heap.objs.size fp s3 (upd H2 s2.heap.objs.size (.lst []))) [] (upd H2 s2.heap.objs.size (.lst [])) b:=λb hb=>
  ⟨(f3 b hb).1,ZE (fpl3 b hb),λhs'=>(Zn.mp (I3.QdA b hs')).elim (f3 b hb).2.1 (f3 b hb).2.2.1,.inl hb,λx c e=>(by
   rcases QfO scope.names _ cl x c e with e | ⟨e,_⟩
   .exact(f3 b hb).2.2.2.2.1 x c (hc1 x c e)
   .intro z;rw[z]at e;exact absurd (Zm (fpl3 b hb) (Zx (Zh _) e)) (ZH _)),λp hp=>absurd (show p∈([]:List (Addr×Obj))from hp) ⋯⟩
 have hC1:s3.heap.objs.size≠X.env.locals:=Ne.symm (ZE I3.lt);refine Qtc (W:=W) hcalm T hg ht he I4 (T.keep _ _ _ st2 λb hb o e=>keep4 b o (old3 b o e)) fc hW0 turn λH' s' J' q=>?_;have O:=hout H' s' J';refine fin _ _ H' s' O J'.free hC1 (Zx I3.sz (Ze _)) (λx c e z=>?_) (λp hp z=>?_) (let ⟨m,hn,_⟩:=J'.loc;⟨m,hn⟩) q
 .obtain⟨v,o,ho,_⟩:=I3.cell x c e;exact absurd (Zq ho) (by rw[z];exact ZH _)
 .exact absurd (Zq (I3.pin p hp).1) (by rw[z];exact ZH _)
def Inv.Qqu(I:Inv X pins σ H s)(hs:Heap.SameBut C s.heap h')(hn:H C=none)(hL:C≠X.env.locals)(h1:X.s₀.heap.objs.size<=C)
  (h2:∀x c,X.env.cells.lookup x=some c->c≠C) (h3:∀p∈X.pn++pins,p.1≠C):Inv X pins σ H {s with heap:=h'}:=
 I.turned (t':=s.toks) (λb o hb e=>(hs.2 b hb).trans e) hn hL (.inr h1) h2 h3
def QpK(hcalm:X.calm=true)(S:Qem X N' scope)(hi:PI X tg iter wi)
  (hin:∀cl C fp s3 H3,PG (cxc X N' scope cl C fp s3 H3) tg g/\PTs (cxc X N' scope cl C fp s3 H3) ifs tc/\PE (cxc X N' scope cl C fp s3 H3) elt te)
  (hs:∀x,foldedSetIterable iter X.env x=pure x:=by intro _;rfl):PE X (.ListComp elt [⟨tg,iter,ifs,0⟩] scope pos) (QmN wi (Qi4 X N' scope) g tc te):=by
 intro pins s σ H Q I h;rw[eval_ListComp];refine QoD hcalm S hi hin hs I h λD C H' s' O h1 h2 h3 h4 h5 Z q=>?_;obtain⟨m,hm⟩:=Z;exact⟨m,hm,λh' hs'=>⟨.ref D,H',O.Qqu hs' h1 h2 h3 h4 h5,rfl,q⟩⟩
def QwV(hN:X.N.Nodup)(hx1:X.N[i]? =some x)(hx:Loc X.env.scope x)(hf:X.fn x=true∨X.env.scope.names.lookup x=some .local)(hcalm:X.calm=true)(S:Qem X N' scope)(hi:PI X tg iter wi)
  (hin:∀cl C fp s3 H3,PG (cxc X N' scope cl C fp s3 H3) tg g/\PTs (cxc X N' scope cl C fp s3 H3) ifs tc/\PE (cxc X N' scope cl C fp s3 H3) elt te)
  (hs:∀x,foldedSetIterable iter X.env x=pure x:=by intro _;rfl):
  PS X (.Assign [.Name x pos'] (.ListComp elt [⟨tg,iter,ifs,0⟩] scope pos) spos) (QjU (QmN wi (Qi4 X N' scope) g tc te) (Qe1 i)):=by
 have hb:∃b,swapsWith (.ListComp elt [⟨tg,iter,ifs,0⟩] scope pos) (some (.Name x pos')) spos.line X.env=pure b:=⟨_,rfl⟩;obtain⟨b,hb⟩:=hb;cases b with
 | false=>exact Qgd hN hx1 hx (QpK hcalm S hi hin hs) hb hf
 | true=>
  intro pins s σ H D I h;rw[exec_Assign_Name_used _ _ _ _ hb];refine wpAny_bind (wpAny_standAt (wpAny_bind ?_));show wpAny _ X.A (do let _ ← comprehension (.ListComp elt [⟨tg,iter,ifs,0⟩] scope pos) scope X.env _ (newList []) false (eval iter X.env) (some (assign (.Name x pos') X.env))) _ _ s;refine wpAny_bind (thn (QoD hcalm S hi hin hs I h λDl C H' s' O h1 h2 h3 h4 h5 ⟨m,hm⟩ q=>?_) λ_ s' hq=>wpAny_pure (wpAny_pure hq));refine wpAny_assign_Name (Qmk O hN hx1 hx (v:= .ref Dl) rfl (λs2 I2 hsb=>?_) hf);obtain⟨a,sb,ha⟩:=hsb;have haC:C≠a:=by
   rcases ha with rfl | ha
   .exact h2
   .exact Ne.symm (h4 _ _ ha)
  exact⟨m,hm.sameBut sb haC,λh' hs'=>⟨_,H',I2.Qqu hs' h1 h2 h3 h4 h5,q⟩⟩
end
section
def Inv.QzW{t':Nat}{ch:LAd}{T:Addr}{ts:List V}(I:Inv X pins σ H s)(hf:∀b∈ch,Qc2 X pins H b)(k:∀b o,b∉ch->s.heap.get? b=some o->h'.get? b=some o)(hp:∀b∈ch,∃o,h'.get? b=some o)
  (hT:s.heap.objs.size<=T) (hnew:ts.length<=sizeLine/\∃its:List Value,QH ts its/\IsTup h' T its.toArray):Inv X pins σ (upd H T (.tup ts)) {s with heap:=h',toks:=t'}:=by
 have hn:H T=none:=I.hok.fresh hT;have neT:∀b u,H b=some u->b≠T:=λb u e=>QbA e hn;have nch:∀b u,H b=some u->b∉ch:=λb u e hb=>by rw[(hf b hb).1]at e;cases e
 have ltT:∀b o,s.heap.get? b=some o->b≠T:=λb o e=>ZE (Zm (Zq e) hT)
 refine I.step (g':=s.gens) (d':=s.drawn) (ch:=ch) (λb hb=>?_) (λb o _ _ hc e _=>k b o hc e) (λb o _ _ hc e _=>⟨o.slots,k b o hc e⟩) (λb o _ e n=>by rw[QQ (ltT b o e)];exact n)
  (λb o hc e=>⟨o,k b o hc e⟩) (λb xs e=>by rw[QQ (neT b _ e)];exact e) (λb o u e=>by rw[QQ (neT b _ e)];exact e) (λb ps e=>⟨#[],by rw[QQ (neT b _ e),e];simp⟩) (λm hm=>?_) (λb u e=>?_) I.bare
 .obtain⟨f0,f1,f2,f3,f4,f5⟩:=hf b hb;exact⟨f3,f1,f4,f5⟩
 .obtain⟨o,es,ep,ho,r⟩:=hm;exact⟨o,es,ep,k _ o (λz=>(hf _ z).2.1 rfl) ho,r⟩
 .by_cases hb:b=T
  .subst hb;rw[QaM]at e;cases e;exact hnew
  .rw[QQ hb]at e;refine(I.hok b u e).QgR (λc v hc q=>k c v ?_ q) (λc q=>by rw[QQ (neT c _ q)];exact q) λc xs q=>by rw[QQ (neT c _ q)];exact q
   rcases hc with z | z
   .rw[z];exact nch b u e
   .exact nch c _ z
def Inv.turns{t':Nat}{ch:LAd}(I:Inv X pins σ H s)(hf:∀b∈ch,Qc2 X pins H b)(k:∀b o,b∉ch->s.heap.get? b=some o->h'.get? b=some o):Inv X pins σ H {s with heap:=h',toks:=t'}:=by
 have nch:∀b u,H b=some u->b∉ch:=λb u e hb=>by rw[(hf b hb).1]at e;cases e
 refine I.step (g':=s.gens) (d':=s.drawn) (ch:=ch) (λb hb=>?_) (λb o _ _ hc e _=>k b o hc e) (λb o _ _ hc e _=>⟨o.slots,k b o hc e⟩) (λb o _ e n=>n)
  (λb o hc e=>⟨o,k b o hc e⟩) (λb xs e=>e) (λb o u e=>e) (λb ps e=>⟨#[],by rw[e];simp⟩) (λm hm=>?_) (λb u e=>?_) I.bare
 .obtain⟨f0,f1,f2,f3,f4,f5⟩:=hf b hb;exact⟨f3,f1,f4,f5⟩
 .obtain⟨o,es,ep,ho,r⟩:=hm;exact⟨o,es,ep,k _ o (λz=>(hf _ z).2.1 rfl) ho,r⟩
 .refine(I.hok b u e).QgR (λc v hc q=>k c v ?_ q) (λc q=>q) λc xs q=>q;rcases hc with z | z
  .rw[z];exact nch b u e
  .exact nch c _ z
end
noncomputable def Ite(K:Fgg)(a:Addr):It:=
 ⟨λi H=>∃xs x,SqL K H a xs/\xs[i]? =some x,λi H v H'=>∃p x,v= .ref p/\H p=none/\H'=upd H p (.tup [.int i,x])/\∀xs,SqL K H a xs->xs[i]? =some x,λi H=>∃xs,SqL K H a xs/\xs.length<=i⟩
def mm0{a:Addr}{l:LAd}:a∈a::l:= .head _
def mm1{a b:Addr}{l:LAd}:a∈b::a::l:= .tail _ mm0
def fa1{p:Addr->Prop}{a:Addr}{l:LAd}(h:p a)(t:∀x∈l,p x):∀x∈a::l,p x:=List.forall_mem_cons.2 ⟨h,t⟩
def NL(h:Heap)(b:Addr):Prop:=∃o,h.get? b=some o/\o.cls≠ .type "list" /\∀v,o.data≠ .cell v
def NL.it{h:Heap}(q:h.IsListIter b l k):NL h b:=by
 obtain⟨o,ho,hc,hd⟩:=q;exact⟨o,ho,by rw[hc];simp,λv z=>by rw[hd]at z;cases z⟩
def NL.obj(n:NL h b):∃o,h.get? b=some o/\∀v,o.data≠ .cell v:=let ⟨o,e,_,v⟩:=n;⟨o,e,v⟩
def Qse{P:Program}{w:World}{K:Fgg}{es:List Expr}{tk:Nat}{tpos:Pos}(a e it:Addr)(hne:e≠it):Turn P w K (.Tuple es tk tpos) (Ite K a) [e,it] e (λi h=>∃old,IsEnum h e it (i:Int) old/\h.IsListIter it a i) where
 mem:=mm0
 obj:=λi h st b hb=>by
  obtain⟨old,he,hi⟩:=st;exact(fa1 (p:=NL h) ⟨_,he,⋯,λv z=>by cases z⟩ (fa1 (.it hi) (List.forall_mem_nil _)) b hb).obj
 keep:=λi h h' st k=>by
  obtain⟨old,he,hi⟩:=st;exact⟨old,k e mm0 _ he,hi.at (k it mm1)⟩
 item:=by
  intro X hP hw hK hc i pins s σ H E I hf st hg;subst hP hw hK;obtain⟨old,he,hi⟩:=st;obtain⟨xs,x,hq,hx⟩:=hg;obtain⟨its,rv,p,hz⟩:=I.list hq;obtain⟨u,hu,ru⟩:=rv.get hx;refine wpAny_pyNext_enum_item he hi p.isList (x:=u) (by simpa using hu) hne λh1 heo hi1 ht1 hz1 hk1=>?_;refine⟨.ref s.heap.objs.size,rfl,wpAny_letOwnedTupleGo_enum heo λh2 he2 hs2=>?_⟩
  replace hs2:Heap.SameBut e h1 h2:=hs2
  have helt:e<s.heap.objs.size:=Zq he;have hilt:it<s.heap.objs.size:=by obtain⟨o,ho,_⟩:=hi;exact Zq ho
  have ht2:IsTup h2 s.heap.objs.size [Value.int i s.toks,u].toArray:=⟨_,(hs2.2 _ (Nat.ne_of_gt helt)).trans ht1,rfl,_,rfl⟩;have hi2:h2.IsListIter it a (i+1):=hi1.extBut hs2.extBut (Ne.symm hne);have kk:∀b o,b∉[e,it]->s.heap.get? b=some o->h2.get? b=some o:=λb o hb q=>by
   have h1:b≠e:=λz=>hb (by simp[z]);have h2:b≠it:=λz=>hb (by simp[z]);exact hs2.extBut b o h1 (hk1 b o h1 h2 q)
  refine⟨.ref s.heap.objs.size,upd H s.heap.objs.size (.tup [.int i,x]),I.QzW (t':=s.toks+1) hf kk (λb hb=>?_) (Ze _) ⟨by show 2<=sizeLine;decide,_,.cons ⟨_,rfl⟩ (.cons ru .nil),ht2⟩,rfl,
   ⟨_,x,rfl,I.hok.fresh (Ze _),rfl,λys hy=>by rw[I.Qno hy hq];exact hx⟩,⟨u,?_,hi2⟩,λb hb=>?_⟩
  .have hb:b=e∨b=it:=by simpa using hb
   rcases hb with rfl | rfl
   .exact⟨_,he2⟩
   .obtain⟨o,ho,_⟩:=hi2;exact⟨o,ho⟩
  .have:((i+1:Nat):Int)=(i:Int)+1:=by push_cast;rfl
   rw[this];exact he2
  .have hb':b=e∨b=it:=by simpa using hb
   have:b≠s.heap.objs.size:=by
    rcases hb' with rfl | rfl
    .exact ZE helt
    .exact ZE hilt
   rw[QQ this];exact(hf b hb).1
 done:=by
  intro X hP hw hK hc i pins s σ H E I hf st hg;subst hP hw hK;obtain⟨old,he,hi⟩:=st;obtain⟨xs,hq,hx⟩:=hg;obtain⟨its,rv,p,hz⟩:=I.list hq;have hl:=rv.length;refine wpAny_pyNext_enum_end (I.ok.hd hc) he hi p.isList (by simp;omega) λh1 eb=>⟨rfl,?_⟩;exact I.turns (t':=s.toks) hf λb o hb q=>eb b o (λz=>hb (by simp[z])) q
 self:=λ_ _ _ _ _ st h=>by
  obtain⟨old,he,hi⟩:=st;exact wpAny_pyIter_enum he h
section
noncomputable def QAk(K:Fgg)(ta:TA):TI:=λσ H R=>ta σ H λvs H1=>∃a,vs=[.ref a]/\(∃xs,SqL K H1 a xs)/\R (Ite K a) H1
def Qwd{a:Expr}{ta:TA}{p pos:Pos}{es:List Expr}{tk:Nat}{tpos:Pos}(hg:Gl X "enumerate")(hm:X.mg "enumerate" =none)(ha:PA X [a] ta)(hs:starEach [a] X.env=[(false,eval a X.env)]):
  PI X (.Tuple es tk tpos) (.Call (.Name "enumerate" p) [a] [] pos) (QAk X.K ta):=by
 intro pins s σ H R I h;refine Call_ (Qhb I hg hm PyProof.Rows.boot_enumerate (ZaB (thn (ha pos pins s σ H _ I h) λus s1 ⟨vs,H1,I1,r1,q1⟩=>?_) hs rfl));obtain⟨l,e,⟨xs,hq⟩,q⟩:=q1;subst e;obtain⟨u,rfl,ru⟩:=vals1 r1;cases ru;obtain⟨its,rv,pl,hz⟩:=I1.list hq;refine call_enumerate_list pl.isList λh2 he2 hi2 hz2 hk2=>?_;have I2:Inv X pins σ H1 {s1 with heap:=h2}:=I1.kept (t':=s1.toks) hk2;refine wpAny_pyIter_enum he2 ⟨_,[s1.heap.objs.size+1,s1.heap.objs.size],_,_,H1,rfl,I2,Qse l _ _ (Nat.succ_ne_self _),⟨_,he2,hi2⟩,λb hb=>?_,q⟩;have hb:b=s1.heap.objs.size+1∨b=s1.heap.objs.size:=by simpa using hb
 have hle:s1.heap.objs.size<=b:=by rcases hb with rfl | rfl<;>omega
 exact I1.Qof hle (I1.hok.fresh hle)
end
section
end
end L2
namespace L2
open PySem PySem.Spec
section
variable {prog:Program}{w:World}{A:Around}{E:Value->Shared->Prop}{s:Shared}
end
section
variable {prog:Program}{w:World}{A:Around}{E:Value->Shared->Prop}{s:Shared}
end
open PyProof.Rows
section
end
end L2
namespace HS
open PySem PySem.Spec PyProof.Rows L2
inductive D where
 | non | bl (b:Bool) | int (i:Int) | str (x:Str) | tup (xs:List D) | lst (xs:List D) | exc (x:Str) | dk (ks:List (List Int))
mutual
noncomputable def D.flat:D->Bool
 | .lst _=>false
 | .tup xs=>Qah xs
 | .non=>true
 | .bl _=>true
 | .int _=>true
 | .str _=>true
 | .exc _=>true
 | .dk _=>false
noncomputable def Qah:List D->Bool
 | []=>true
 | d::ds=>d.flat && Qah ds
end
mutual
noncomputable def D.nl:D->Nat
 | .lst xs=>nls xs+1
 | .tup xs=>nls xs
 | .non=>0
 | .bl _=>0
 | .int _=>0
 | .str _=>0
 | .exc _=>0
 | .dk _=>1
noncomputable def nls:List D->Nat
 | []=>0
 | d::ds=>d.nl+nls ds
end
mutual
def QdT:∀(d:D),d.flat=true->d.nl=0
 | .non,_=>rfl
 | .bl _,_=>rfl
 | .int _,_=>rfl
 | .str _,_=>rfl
 | .exc _,_=>rfl
 | .dk _,h=>by simp[D.flat]at h
 | .tup xs,h=>by simp only[D.nl];simp only[D.flat]at h;exact Qh0 xs h
 | .lst xs,h=>by simp[D.flat]at h
def Qh0:∀(ds:List D),Qah ds=true->nls ds=0
 | [],_=>rfl
 | d::ds,h=>by simp only[Qah,Zf]at h;simp only[nls,QdT d h.1,Qh0 ds h.2]
end
def Fix(K:Fgg)(H:Hp)(a:Addr)(vs:List V):Prop:=
 (∃o,H a=some (.frz o (.lst vs)))∨
  ∃(its:List Value) (n:Nat),K.lookup a=some {cls:= .type "list",data:= .seq its.toArray n}/\vs.length<=sizeLine/\QH vs its
def QdO(a C:Addr)(h:Heap):Prop:=∃o vs,h.get? a=some o/\o.cls= .ref C/\o.data= .fields vs
def ExcAt(K:Fgg)(H:Hp)(a:Addr)(x:Str):Prop:=∃C,PySem.W.nsIn K mainGlobals x=some (some (.ref C))/\H a=some (.ext (QdO a C))
def QpV{K:Fgg}{H H':Hp}{a:Addr}{x:Str}(s:QJ H H')(h:ExcAt K H a x):ExcAt K H' a x:=by
 obtain⟨C,h1,h2⟩:=h;exact⟨C,h1,s _ _ h2⟩
def Qq0{K:Fgg}{H:Hp}{a p:Addr}{x:Str}{zs ys:List V}(hp:H p=some (.lst zs))(h:ExcAt K H a x):ExcAt K (upd H p (.lst ys)) a x:=by
 obtain⟨C,h1,h2⟩:=h;exact⟨C,h1,by rw[QQ (Qm4 h2 hp (by intro z;cases z))];exact h2⟩
noncomputable def dkC(ks:List (List Int)):List (List Key×V):=ks.map λk=>(k.map Sum.inl,V.bl true)
mutual
def Rp(K:Fgg)(H:Hp):D->V->List Addr->Prop
 | .non,v,F=>v= .non/\F=[]
 | .bl b,v,F=>v= .bl b/\F=[]
 | .int i,v,F=>v= .int i/\F=[]
 | .str x,v,F=>v= .str x/\F=[]
 | .exc x,v,F=>(∃a,v= .ref a/\ExcAt K H a x)/\F=[]
 | .dk ks,v,F=>∃a,v= .ref a/\F=[a]/\H a=some (.dT (dkC ks))
 | .tup ds,v,F=>∃a vs,v= .ref a/\SqT K H a vs/\Rps K H ds vs F
 | .lst ds,v,F=>ds.length<=sizeLine/\∃a vs,v= .ref a/\((∃G,F=a::G/\H a=some (.lst vs)/\Rps K H ds vs G)∨(Fix K H a vs/\Rps K H ds vs F))
def Rps(K:Fgg)(H:Hp):List D->List V->List Addr->Prop
 | [],vs,F=>vs=[]/\F=[]
 | d::ds,vs,F=>∃v ws F1 F2,vs=v::ws/\F=F1++F2/\Rp K H d v F1/\Rps K H ds ws F2
end
def QoG{K:Fgg}{H H':Hp}{a:Addr}{vs:List V}(s:QJ H H')(h:SqT K H a vs):SqT K H' a vs:=by
 rcases h with(h | ⟨o,h⟩) | h
 .exact .inl (.inl (s _ _ h))
 .exact .inl (.inr ⟨o,s _ _ h⟩)
 .exact .inr h
def Qka{K:Fgg}{H H':Hp}{a:Addr}{vs:List V}(s:QJ H H')(h:Fix K H a vs):Fix K H' a vs:=by
 rcases h with⟨o,h⟩ | h
 .exact .inl ⟨o,s _ _ h⟩
 .exact .inr h
def QpD{K:Fgg}{H:Hp}{a p:Addr}{vs zs ys:List V}(hp:H p=some (.lst zs))(h:SqT K H a vs):SqT K (upd H p (.lst ys)) a vs:=by
 rcases h with(h | ⟨o,h⟩) | h
 .exact .inl (.inl (by rw[QQ (Qm4 h hp (by intro z;cases z))];exact h))
 .exact .inl (.inr ⟨o,by rw[QQ (Qm4 h hp (by intro z;cases z))];exact h⟩)
 .exact .inr h
def Qvy{K:Fgg}{H:Hp}{a p:Addr}{vs zs ys:List V}(hp:H p=some (.lst zs))(h:Fix K H a vs):Fix K (upd H p (.lst ys)) a vs:=by
 rcases h with⟨o,h⟩ | h
 .exact .inl ⟨o,by rw[QQ (Qm4 h hp (by intro z;cases z))];exact h⟩
 .exact .inr h
section
variable {K:Fgg}{H H':Hp}
mutual
def Rp.same(s:QJ H H'):∀{d:D}{v:V}{F:LAd},Rp K H d v F->Rp K H' d v F
 | .exc _,_,_,h=>by
  simp only[Rp]at h ⊢;obtain⟨⟨a,e,q⟩,z⟩:=h;exact⟨⟨a,e,QpV s q⟩,z⟩
 | .dk _,_,_,h=>by
  simp only[Rp]at h ⊢;obtain⟨a,e,eF,q⟩:=h;exact⟨a,e,eF,s _ _ q⟩
 | .non,_,_,h=>h
 | .bl _,_,_,h=>h
 | .int _,_,_,h=>h
 | .str _,_,_,h=>h
 | .tup ds,_,_,h=>by
  simp only[Rp]at h ⊢;obtain⟨a,vs,e,q,r⟩:=h;exact⟨a,vs,e,QoG s q,Rps.same s r⟩
 | .lst ds,_,_,h=>by
  simp only[Rp]at h ⊢;obtain⟨hz,a,vs,e,⟨G,eF,q,r⟩ | ⟨q,r⟩⟩:=h
  .exact⟨hz,a,vs,e,.inl ⟨G,eF,s _ _ q,Rps.same s r⟩⟩
  .exact⟨hz,a,vs,e,.inr ⟨Qka s q,Rps.same s r⟩⟩
def Rps.same(s:QJ H H'):∀{ds:List D}{vs:List V}{F:LAd},Rps K H ds vs F->Rps K H' ds vs F
 | [],_,_,h=>h
 | d::ds,_,_,h=>by
  simp only[Rps]at h ⊢;obtain⟨v,ws,F1,F2,e,eF,r,q⟩:=h;exact⟨v,ws,F1,F2,e,eF,Rp.same s r,Rps.same s q⟩
end
mutual
def Rp.upd{p:Addr}{zs ys:List V}(hp:H p=some (.lst zs)):∀{d:D}{v:V}{F:LAd},Rp K H d v F->p∉F->Rp K (upd H p (.lst ys)) d v F
 | .exc _,_,_,h,_=>by
  simp only[Rp]at h ⊢;obtain⟨⟨a,e,q⟩,z⟩:=h;exact⟨⟨a,e,Qq0 hp q⟩,z⟩
 | .dk _,_,_,h,hn=>by
  simp only[Rp]at h ⊢;obtain⟨a,e,eF,q⟩:=h;subst eF;exact⟨a,e,rfl,by rw[QQ (λz=>hn (by rw[z];exact Zw))];exact q⟩
 | .non,_,_,h,_=>h
 | .bl _,_,_,h,_=>h
 | .int _,_,_,h,_=>h
 | .str _,_,_,h,_=>h
 | .tup ds,_,_,h,hn=>by
  simp only[Rp]at h ⊢;obtain⟨a,vs,e,q,r⟩:=h;exact⟨a,vs,e,QpD hp q,Rps.upd hp r hn⟩
 | .lst ds,_,_,h,hn=>by
  simp only[Rp]at h ⊢;obtain⟨hz,a,vs,e,⟨G,eF,q,r⟩ | ⟨q,r⟩⟩:=h
  .subst eF;have h1:a≠p:=λz=>hn (by rw[z];exact Zw);exact⟨hz,a,vs,e,.inl ⟨G,rfl,by rw[QQ h1];exact q,Rps.upd hp r λz=>hn (Zc _ z)⟩⟩
  .exact⟨hz,a,vs,e,.inr ⟨Qvy hp q,Rps.upd hp r hn⟩⟩
def Rps.upd{p:Addr}{zs ys:List V}(hp:H p=some (.lst zs)):∀{ds:List D}{vs:List V}{F:LAd},Rps K H ds vs F->p∉F->Rps K (upd H p (.lst ys)) ds vs F
 | [],_,_,h,_=>h
 | d::ds,_,_,h,hn=>by
  simp only[Rps]at h ⊢;obtain⟨v,ws,F1,F2,e,eF,r,q⟩:=h;subst eF;exact⟨v,ws,F1,F2,e,rfl,Rp.upd hp r λz=>hn (Zk _ z),Rps.upd hp q λz=>hn (Zg _ z)⟩
end
mutual
def Rp.mem:∀{d:D}{v:V}{F:LAd},Rp K H d v F->∀a∈F,∃u,H a=some u
 | .non,_,_,h,a,ha=>by simp only[Rp]at h;rw[h.2]at ha;simp at ha
 | .bl _,_,_,h,a,ha=>by simp only[Rp]at h;rw[h.2]at ha;simp at ha
 | .int _,_,_,h,a,ha=>by simp only[Rp]at h;rw[h.2]at ha;simp at ha
 | .str _,_,_,h,a,ha=>by simp only[Rp]at h;rw[h.2]at ha;simp at ha
 | .exc _,_,_,h,a,ha=>by simp only[Rp]at h;rw[h.2]at ha;simp at ha
 | .dk _,_,_,h,a,ha=>by simp only[Rp]at h;obtain⟨b,e,eF,q⟩:=h;subst eF;rw[Zi.mp ha];exact⟨_,q⟩
 | .tup ds,_,_,h,a,ha=>by
  simp only[Rp]at h;obtain⟨_,vs,e,q,r⟩:=h;exact Rps.mem r a ha
 | .lst ds,_,_,h,a,ha=>by
  simp only[Rp]at h;obtain⟨_,b,vs,e,⟨G,eF,q,r⟩ | ⟨q,r⟩⟩:=h
  .subst eF;rcases Zn.mp ha with z | z
   .exact⟨_,by rw[z];exact q⟩
   .exact Rps.mem r a z
  .exact Rps.mem r a ha
def Rps.mem:∀{ds:List D}{vs:List V}{F:LAd},Rps K H ds vs F->∀a∈F,∃u,H a=some u
 | [],_,_,h,a,ha=>by simp only[Rps]at h;rw[h.2]at ha;simp at ha
 | d::ds,_,_,h,a,ha=>by
  simp only[Rps]at h;obtain⟨v,ws,F1,F2,e,eF,r,q⟩:=h;subst eF;rcases ZG.mp ha with z | z
  .exact Rp.mem r a z
  .exact Rps.mem q a z
end
mutual
def Rp.Qcd:∀{d:D}{v:V}{F:LAd},Rp K H d v F->d.flat=true->F=[]
 | .non,_,_,h,_=>by simp only[Rp]at h;exact h.2
 | .bl _,_,_,h,_=>by simp only[Rp]at h;exact h.2
 | .int _,_,_,h,_=>by simp only[Rp]at h;exact h.2
 | .str _,_,_,h,_=>by simp only[Rp]at h;exact h.2
 | .exc _,_,_,h,_=>by simp only[Rp]at h;exact h.2
 | .dk _,_,_,h,hf=>by simp[D.flat]at hf
 | .tup ds,_,_,h,hf=>by
  simp only[Rp]at h;simp only[D.flat]at hf;obtain⟨_,vs,e,q,r⟩:=h;exact Rps.Qcd r hf
 | .lst ds,_,_,h,hf=>by simp[D.flat]at hf
def Rps.Qcd:∀{ds:List D}{vs:List V}{F:LAd},Rps K H ds vs F->Qah ds=true->F=[]
 | [],_,_,h,_=>by simp only[Rps]at h;exact h.2
 | d::ds,_,_,h,hf=>by
  simp only[Rps]at h;simp only[Qah,Zf]at hf;obtain⟨v,ws,F1,F2,e,eF,r,q⟩:=h;rw[eF,Rp.Qcd r hf.1,Rps.Qcd q hf.2];rfl
end
mutual
def Rp.Qa9:∀{d:D}{v:V}{F:LAd},Rp K H d v F->F.length<=d.nl
 | .non,_,_,h=>by simp only[Rp]at h;rw[h.2];exact ZQ _
 | .bl _,_,_,h=>by simp only[Rp]at h;rw[h.2];exact ZQ _
 | .int _,_,_,h=>by simp only[Rp]at h;rw[h.2];exact ZQ _
 | .str _,_,_,h=>by simp only[Rp]at h;rw[h.2];exact ZQ _
 | .exc _,_,_,h=>by simp only[Rp]at h;rw[h.2];exact ZQ _
 | .dk _,_,_,h=>by simp only[Rp]at h;obtain⟨b,e,eF,q⟩:=h;subst eF;exact Ze _
 | .tup ds,_,_,h=>by
  simp only[Rp]at h;obtain⟨_,vs,e,q,r⟩:=h;simp only[D.nl];exact Rps.Qa9 r
 | .lst ds,_,_,h=>by
  simp only[Rp]at h;simp only[D.nl];obtain⟨_,b,vs,e,⟨G,eF,q,r⟩ | ⟨q,r⟩⟩:=h
  .rw[eF,ZM];have:=Rps.Qa9 r;omega
  .have:=Rps.Qa9 r;omega
def Rps.Qa9:∀{ds:List D}{vs:List V}{F:LAd},Rps K H ds vs F->F.length<=nls ds
 | [],_,_,h=>by simp only[Rps]at h;rw[h.2];exact ZQ _
 | d::ds,_,_,h=>by
  simp only[Rps]at h;obtain⟨v,ws,F1,F2,e,eF,r,q⟩:=h;simp only[nls];rw[eF,Zd];have:=Rp.Qa9 r;have:=Rps.Qa9 q;omega
end
def Rps.length:∀{ds:List D}{vs:List V}{F:LAd},Rps K H ds vs F->ds.length=vs.length
 | [],_,_,h=>by simp only[Rps]at h;rw[h.1];rfl
 | d::ds,_,_,h=>by
  simp only[Rps]at h;obtain⟨v,ws,F1,F2,e,eF,r,q⟩:=h;rw[e,ZM,ZM,Rps.length q]
def Rps.append:∀{ds es:List D}{vs ws:List V}{F G:LAd},Rps K H ds vs F->Rps K H es ws G->Rps K H (ds++es) (vs++ws) (F++G)
 | [],_,_,_,_,_,h,g=>by simp only[Rps]at h;rw[h.1,h.2];exact g
 | d::ds,_,_,_,_,_,h,g=>by
  simp only[Rps,ZaH]at h ⊢;obtain⟨v,ws,F1,F2,e,eF,r,q⟩:=h;subst e eF;exact⟨v,_,F1,_,rfl,by rw[ZaC],r,Rps.append q g⟩
def Rps.get:∀{ds:List D}{vs:List V}{F:LAd}{i:Nat}{d:D},Rps K H ds vs F->ds[i]? =some d->∃v F1 G F2,vs[i]? =some v/\F=F1++(G++F2)/\Rp K H d v G/\(F.length=nls ds->G.length=d.nl)
 | [],_,_,_,_,_,e=>by simp at e
 | d::ds,_,_,0,_,h,e=>by
  simp only[Rps]at h;obtain⟨v,ws,F1,F2,e1,eF,r,q⟩:=h;simp at e;subst e e1 eF;refine⟨v,[],F1,F2,⋯,rfl,r,λhl=>?_⟩;simp only[nls,Zd]at hl;have:=Rp.Qa9 r;have:=Rps.Qa9 q;omega
 | d::ds,_,_,i+1,_,h,e=>by
  simp only[Rps]at h;obtain⟨v,ws,F1,F2,e1,eF,r,q⟩:=h;obtain⟨v',G1,G,G2,h1,h2,h3,h4⟩:=Rps.get q (by simpa using e);have l1:=Rp.Qa9 r;have l2:=Rps.Qa9 q;subst e1 eF;refine⟨v',F1++G1,G,G2,by simpa using h1,by rw[h2,ZaC],h3,λhl=>h4 ?_⟩;simp only[nls,Zd]at hl;omega
def Fix.sq{K:Fgg}{H:Hp}{a:Addr}{vs:List V}(h:Fix K H a vs):SqL K H a vs:=by
 rcases h with⟨o,h⟩ | ⟨its,n,h,hz,r⟩
 .exact .inl (.inr ⟨o,h⟩)
 .exact .inr ⟨_,its.toArray,n,h,rfl,rfl,rfl,by rw[Zr,← r.length];exact hz,by simpa using r⟩
def _root_.L2.Inv.Ql3(I:Inv X pins σ H s)(h:H a=some (.lst vs)∨Fix X.K H a vs):
  vs.length<=sizeLine/\∃(its:List Value) (n:Nat),QH vs its/\vs.length=its.length/\s.heap.get? a=some {cls:= .type "list",data:= .seq its.toArray n}:=by
 rcases h with h | ⟨o,h⟩ | ⟨its,n,h,hz,r⟩
 .exact I.QsR h
 .obtain⟨e,hz,its,n,r,e2⟩:=I.hok a _ h;exact⟨hz,its,n,r,r.length,e2⟩
 .exact⟨hz,its,n,r,r.length,I.kIn _ _ h⟩
def Rp.lst_inv{K:Fgg}{H:Hp}{ds:List D}{v:V}{F:LAd}(h:Rp K H (.lst ds) v F):
  ∃a vs G,v= .ref a/\(H a=some (.lst vs)∨Fix K H a vs)/\Rps K H ds vs G/\ds.length<=sizeLine/\(F=a::G∨F=G):=by
 simp only[Rp]at h;obtain⟨hz,a,vs,e,⟨G,eF,q,r⟩ | ⟨q,r⟩⟩:=h
 .exact⟨a,vs,G,e,.inl q,r,hz,.inl eF⟩
 .exact⟨a,vs,F,e,.inr q,r,hz,.inr rfl⟩
def QaP{K:Fgg}{H:Hp}{a:Addr}{vs:List V}(h:H a=some (.lst vs)∨Fix K H a vs):SqL K H a vs:=h.elim (λh=>SqL.of h) Fix.sq
def Rp.QbF{K:Fgg}{H:Hp}{ds:List D}{v:V}{F:LAd}(h:Rp K H (.tup ds) v F):∃a vs,v= .ref a/\SqT K H a vs/\Rps K H ds vs F:=by
 simp only[Rp]at h;exact h
def Rp.Qhe{K:Fgg}{H:Hp}{ds:List D}{a:Addr}{vs:List V}{G:LAd}(h:H a=some (.lst vs))(r:Rps K H ds vs G)(hz:ds.length<=sizeLine):Rp K H (.lst ds) (.ref a) (a::G):=by
 simp only[Rp];exact⟨hz,a,vs,rfl,.inl ⟨G,rfl,h,r⟩⟩
def Rp.Qnr{K:Fgg}{H:Hp}{ds:List D}{a:Addr}{vs:List V}{G:LAd}(h:H a=some (.tup vs))(r:Rps K H ds vs G):Rp K H (.tup ds) (.ref a) G:=by
 simp only[Rp];exact⟨a,vs,rfl,SqT.of h,r⟩
def Rp.int_inv{K:Fgg}{H:Hp}{i:Int}{v:V}{F:LAd}(h:Rp K H (.int i) v F):v= .int i:=by simp only[Rp]at h;exact h.1
def Rp.Qc5{K:Fgg}{H:Hp}{i:Bool}{v:V}{F:LAd}(h:Rp K H (.bl i) v F):v= .bl i:=by simp only[Rp]at h;exact h.1
def Rp.QfS{K:Fgg}{H:Hp}{v:V}{F:LAd}(h:Rp K H .non v F):v= .non:=by simp only[Rp]at h;exact h.1
def Rp.str_inv{K:Fgg}{H:Hp}{i:Str}{v:V}{F:LAd}(h:Rp K H (.str i) v F):v= .str i:=by simp only[Rp]at h;exact h.1
def Rp.int_mk{K:Fgg}{H:Hp}{i:Int}:Rp K H (.int i) (.int i) []:=by simp[Rp]
def Rp.Qbt{K:Fgg}{H:Hp}{i:Bool}:Rp K H (.bl i) (.bl i) []:=by simp[Rp]
def Rp.Qey{K:Fgg}{H:Hp}:Rp K H .non .non []:=by simp[Rp]
def Rp.str_mk{K:Fgg}{H:Hp}{i:Str}:Rp K H (.str i) (.str i) []:=by simp[Rp]
def Qcr(h:H p=none):QJ H (L2.upd H p o):=λb u e=>by rw[QQ (QbA e h)];exact e
end
end HS
namespace HS
open PySem PySem.Spec L2
noncomputable abbrev En:=List (Option (D×Bool))
noncomputable abbrev slT(d:D):Option (D×Bool):=some (d,true)
noncomputable abbrev slF(d:D):Option (D×Bool):=some (d,false)
noncomputable abbrev slI(i:Int):Option (D×Bool):=some (.int i,true)
def nn{α:Type}{x:α}{C:Prop}(h:(none:Option α)=some x):C:=nomatch h
structure R where
 d:D
 fr:Bool
 M:List Nat
noncomputable abbrev reT(d:D):R:=⟨d,true,[]⟩
noncomputable abbrev reF(d:D):R:=⟨d,false,[]⟩
noncomputable abbrev reI(i:Int):R:=⟨.int i,true,[]⟩
structure RA where
 ds:List D
 fr:Bool
 M:List Nat
noncomputable abbrev DE:=En->Option R
noncomputable abbrev DA:=En->Option RA
noncomputable abbrev DT:=En->Option Bool
structure Rel (K:Fgg) (H0:Hp) (A0:LAd) (hs:List (V×D×List Addr)) (ρ:En) (F:Nat->List Addr) (σ:St) (H:Hp):Prop where
 len:ρ.length=σ.length
 val:∀(i:Nat) d b,ρ[i]? =some (some (d,b))->∃v,σ[i]? =some (some v)/\Rp K H d v (F i)
 own:∀(i:Nat) d,ρ[i]? =some (some (d,true))->(F i).length=d.nl/\(F i).Nodup/\(∀a∈F i,H0 a=none)/\(∀(j:Nat) d' b',j≠i->ρ[j]? =some (some (d',b'))->∀a∈F i,a∉F j)/\∀t∈hs,∀a∈F i,a∉t.2.2
 src:∀(i:Nat) d b,ρ[i]? =some (some (d,b))->∀a∈F i,H0 a=none∨a∈A0
 held:∀t∈hs,Rp K H t.2.1 t.1 t.2.2/\∀a∈t.2.2,H0 a=none∨a∈A0
 same:QJ H0 H
def Src(ρ:En)(F:Nat->List Addr)(H:Hp)(M:List Nat)(G:LAd):Prop:=
 ∀a∈G,H a=none∨∃(i:Nat) (d:D) (b:Bool),ρ[i]? =some (some (d,b))/\a∈F i/\(b=true->i∈M)
noncomputable def nw(H:Hp)(a:Addr):Nat:=match H a with | none=>1 | some _=>0
def Cnt(F:Nat->List Addr)(H:Hp)(M:List Nat)(G:LAd):Prop:=
 ∀a,G.count a<=nw H a+((M.map F).flatten).count a
def QbP(ρ:En)(M:List Nat):Prop:=∀i∈M,∃d,ρ[i]? =some (some (d,true))
structure Qae (K:Fgg) (ρ:En) (F:Nat->List Addr) (H H':Hp) (r:R) (v:V) (G:LAd):Prop where
 same:QJ H H'
 rp:Rp K H' r.d v G
 src:Src ρ F H r.M G
 cnt:r.fr=true->Cnt F H r.M G/\G.length=r.d.nl
 own:QbP ρ r.M
structure QpX (K:Fgg) (ρ:En) (F:Nat->List Addr) (H H':Hp) (r:RA) (vs:List V) (G:LAd):Prop where
 same:QJ H H'
 rp:Rps K H' r.ds vs G
 src:Src ρ F H r.M G
 cnt:r.fr=true->Cnt F H r.M G/\G.length=nls r.ds
 own:QbP ρ r.M
noncomputable def tV(K:Fgg)(H0:Hp)(A0:LAd)(f:DE):TE:=λσ H Q=>∃ρ hs F r,Rel K H0 A0 hs ρ F σ H/\f ρ=some r/\∀v H' G,Qae K ρ F H H' r v G->Q v H'
noncomputable def tVA(K:Fgg)(H0:Hp)(A0:LAd)(f:DA):TA:=λσ H Q=>∃ρ hs F r,Rel K H0 A0 hs ρ F σ H/\f ρ=some r/\∀v H' G,QpX K ρ F H H' r v G->Q v H'
noncomputable def tVT(K:Fgg)(H0:Hp)(A0:LAd)(f:DT):TT:=λσ H Q=>∃ρ hs F b,Rel K H0 A0 hs ρ F σ H/\f ρ=some b/\∀H',QJ H H'->Q b H'
def SE(X:Cx)(e:Expr)(f:DE):Prop:=∀H0 A0,PE X e (tV X.K H0 A0 f)
def SA(X:Cx)(es:List Expr)(f:DA):Prop:=∀H0 A0,PA X es (tVA X.K H0 A0 f)
def ST(X:Cx)(e:Expr)(f:DT):Prop:=∀H0 A0,PT X e (tVT X.K H0 A0 f)
def _root_.L2.PE.mono(h:PE X e t)(m:∀σ H Q,t' σ H Q->t σ H Q):PE X e t':=λpins s σ H Q I q=>h pins s σ H Q I (m σ H Q q)
def _root_.L2.PT.mono(h:PT X e t)(m:∀σ H Q,t' σ H Q->t σ H Q):PT X e t':=λpins s σ H Q I q=>h pins s σ H Q I (m σ H Q q)
def _root_.L2.PA.mono(h:PA X e t)(m:∀σ H Q,t' σ H Q->t σ H Q):PA X e t':=λpos pins s σ H Q I q=>h pos pins s σ H Q I (m σ H Q q)
section
def Rel.ext(r:Rel K H0 A0 hs ρ F σ H)(s:QJ H H'):Rel K H0 A0 hs ρ F σ H' where
 len:=r.len
 val:=λi d b e=>let ⟨v,h1,h2⟩:=r.val i d b e;⟨v,h1,h2.same s⟩
 own:=r.own
 src:=r.src
 held:=λt ht=>⟨(r.held t ht).1.same s,(r.held t ht).2⟩
 same:=r.same.trans s
def Rel.mem(r:Rel K H0 A0 hs ρ F σ H)(e:ρ[i]? =some (some (d,b)))(h:a∈F i):∃u,H a=some u:=
 let ⟨_,_,h2⟩:=r.val i d b e;h2.mem a h
def QeQ(h:H a=some o):nw H a=0:=by simp[nw,h]
def QbH(h:H a=none):nw H a=1:=by simp[nw,h]
def Rel.fl0(r:Rel K H0 A0 hs ρ F σ H)(ow:QbP ρ M)(h:H a=none):((M.map F).flatten).count a=0:=by
 rw[ZN];intro hm;obtain⟨l,hl,ha⟩:=ZaX.mp hm;obtain⟨i,hi,rfl⟩:=Zz.mp hl;obtain⟨d,e⟩:=ow i hi;obtain⟨vs,q⟩:=r.mem e ha;rw[h]at q;cases q
def Cnt.append(r:Rel K H0 A0 hs ρ F σ H)(c1:Cnt F H M1 G1)(c2:Cnt F H1 M2 G2)(s:QJ H H1)(m1:∀a∈G1,∃u,H1 a=some u):Cnt F H (M1++M2) (G1++G2):=λa=>by
 rw[ZX,ZV,List.flatten_append,ZX];have h1:=c1 a;have h2:=c2 a;cases q:H1 a with
 | some o=>rw[QeQ q]at h2;omega
 | none=>
  rw[QbH q]at h2;have h3:H a=none:=s.free q;rw[QbH h3]at h1 ⊢;have h4:G1.count a=0:=ZN.mpr λhm=>by obtain⟨vs,z⟩:=m1 a hm;rw[q]at z;cases z
  omega
def Src.append(c1:Src ρ F H M1 G1)(c2:Src ρ F H1 M2 G2)(s:QJ H H1):Src ρ F H (M1++M2) (G1++G2):=λa ha=>by
 rcases ZG.mp ha with h | h
 .rcases c1 a h with z | ⟨i,d,b,e,m,w⟩
  .exact .inl z
  .exact .inr ⟨i,d,b,e,m,λhb=>Zk _ (w hb)⟩
 .rcases c2 a h with z | ⟨i,d,b,e,m,w⟩
  .exact .inl (s.free z)
  .exact .inr ⟨i,d,b,e,m,λhb=>Zg _ (w hb)⟩
def QbP.append(h1:QbP ρ M1)(h2:QbP ρ M2):QbP ρ (M1++M2):=λi hi=>(ZG.mp hi).elim (h1 i) (h2 i)
def QbP.nil:QbP ρ []:=λi hi=>by simp at hi
def Src.nil:Src ρ F H M []:=λa ha=>by simp at ha
def Cnt.nil:Cnt F H M []:=λa=>by simp
def Qae.flat(s:QJ H H')(r:Rp K H' d v [])(hf:d.flat=true:=by rfl):Qae K ρ F H H' ⟨d,true,[]⟩ v []:=⟨s,r,Src.nil,λ_=>⟨Cnt.nil,(QdT d hf).symm⟩,QbP.nil⟩
def Qae.sub(p:Qae K ρ F H H1 r v G)(rp:Rp K H1 d u G')(hs:∀a,G'.count a<=G.count a)(hn:G.length=r.d.nl->G'.length=d.nl):Qae K ρ F H H1 ⟨d,r.fr,r.M⟩ u G' where
 same:=p.same
 rp:=rp
 src:=λa ha=>p.src a (by
  have:=hs a;have h1:0<G'.count a:=Zaf.mpr ha;exact Zaf.mp ⋯)
 cnt:=λh=>⟨λa=>Zx (hs a) ((p.cnt h).1 a),hn (p.cnt h).2⟩
 own:=p.own
noncomputable def R.norm(r:R):R:=if r.d.flat then⟨r.d,true,[]⟩else r
def R.Qfk(r:R):r.norm.d=r.d:=by unfold R.norm;split<;>rfl
def Qae.norm(p:Qae K ρ F H H' r v G):Qae K ρ F H H' r.norm v G:=by
 unfold R.norm;split
 .rename_i h;have:=p.rp.Qcd h;subst this;exact .flat p.same p.rp h
 .exact p
end
noncomputable def Qc(i:Nat):DE:=λρ=>match ρ[i]? with
 | some (some (d,b))=>if d.flat then some ⟨d,true,[]⟩else if b then some ⟨d,true,[i]⟩else some ⟨d,false,[]⟩
 | _=>none
noncomputable def dC(d:D):DE:=λ_=>some ⟨d,true,[]⟩
noncomputable abbrev vv0:DE:=Qc 0
noncomputable abbrev vv1:DE:=Qc 1
noncomputable abbrev vv2:DE:=Qc 2
noncomputable abbrev vv3:DE:=Qc 3
noncomputable abbrev vv4:DE:=Qc 4
noncomputable abbrev vv5:DE:=Qc 5
noncomputable abbrev vv6:DE:=Qc 6
noncomputable abbrev vv7:DE:=Qc 7
noncomputable abbrev vv8:DE:=Qc 8
noncomputable abbrev kk0:DE:=dC (.int 0)
noncomputable abbrev kk1:DE:=dC (.int 1)
noncomputable abbrev kk2:DE:=dC (.int 2)
noncomputable abbrev kk3:DE:=dC (.int 3)
noncomputable abbrev kk4:DE:=dC (.int 4)
noncomputable abbrev kk5:DE:=dC (.int 5)
noncomputable abbrev kk6:DE:=dC (.int 6)
noncomputable abbrev kk7:DE:=dC (.int 7)
noncomputable abbrev kk8:DE:=dC (.int 8)
noncomputable abbrev kk9:DE:=dC (.int 9)
noncomputable abbrev QsP:DE:=dC (.int 10)
noncomputable abbrev QAS:DE:=dC (.int 14)
noncomputable abbrev QAG:DE:=dC (.int 15)
noncomputable abbrev Qzi:DE:=dC (.int 16)
noncomputable abbrev QBb:DE:=dC (.int 17)
noncomputable abbrev Qh2:DE:=dC (.int 18)
noncomputable abbrev Qyb:DE:=dC (.int 24)
noncomputable abbrev Qj7:DE:=dC (.int 40)
noncomputable abbrev QBd:DE:=dC (.int 46)
noncomputable abbrev QBo:DE:=dC (.int 64)
noncomputable abbrev QA0:DE:=dC (.int 94)
noncomputable abbrev QzC:DE:=dC (.int 100)
noncomputable abbrev QAe:DE:=dC (.int 128)
noncomputable abbrev Qz8:DE:=dC (.int 256)
noncomputable abbrev QpU:DE:=dC (.int 300)
noncomputable abbrev QyI:DE:=dC (.int 4096)
noncomputable abbrev Qye:DE:=dC (.int 7919)
noncomputable abbrev QuX:DE:=dC (.int 48271)
noncomputable abbrev Qvq:DE:=dC (.int 69621)
noncomputable abbrev Qoj:DE:=dC (.int 2147483629)
noncomputable abbrev Qop:DE:=dC (.int 2147483647)
section
def Qrv(h:PE X (.Name x pos) (QdQ i)):SE X (.Name x pos) (Qc i):=λH0 A0=>h.mono λσ H Q=>exK λρ hs F r rel e q=>by
 unfold Qc at e;split at e
 .rename_i d b q1;obtain⟨v,h1,h2⟩:=rel.val i d b q1;refine⟨v,h1,q v H (F i) ?_⟩;split at e
  .rename_i hf;cases e;have:=h2.Qcd hf;rw[this]at h2 ⊢;exact .flat (QJ.refl _) h2 hf
  .split at e
   .rename_i hb;cases e;subst hb;exact⟨QJ.refl _,h2,λa ha=> .inr ⟨i,d,true,q1,ha,λ_=>⋯⟩,λ_=>⟨λa=>⋯,(rel.own i d q1).1⟩,λj hj=>by simp at hj;subst hj;exact⟨d,q1⟩⟩
   .rename_i hb;cases e;simp at hb;subst hb;exact⟨QJ.refl _,h2,λa ha=> .inr ⟨i,d,false,q1,ha,λz=>by cases z⟩,λz=>(by cases z),QbP.nil⟩
 .cases e
def QgO(h:PE X e (tC v))(r:∀K H,Rp K H d v [])(hf:d.flat=true):SE X e (dC d):=λH0 A0=>h.mono λσ H Q=>exK λρ hs F r' rel e q=>by
 cases e;exact q v H [] (.flat (QJ.refl _) (r _ _) hf)
def two{K:Fgg}{H0:Hp}{A0:LAd}{fa fb:DE}{σ:St}{H:Hp}{hs:List (V×D×List Addr)}{ρ:En}{F:Nat->List Addr}{ra rb:R}{Rr:V->V->Hp->Prop}(rel:Rel K H0 A0 hs ρ F σ H)(ea:fa ρ=some ra)(eb:fb ρ=some rb)
  (k:∀x y H1 H2 G1 G2,Qae K ρ F H H1 ra x G1->Qae K ρ F H1 H2 rb y G2->Rr x y H2):tV K H0 A0 fa σ H λx H1=>tV K H0 A0 fb σ H1 λy H2=>Rr x y H2:=
 ⟨ρ,hs,F,ra,rel,ea,λx H1 G1 p1=>⟨ρ,hs,F,rb,rel.ext p1.same,eb,λy H2 G2 p2=>k x y H1 H2 G1 G2 p1 p2⟩⟩
noncomputable def dOp(g:D->D->Option D)(fa fb:DE):DE:=λρ=>(fa ρ).bind λra=>(fb ρ).bind λrb=>(g ra.d rb.d).map λd=>⟨d,true,[]⟩
def Ql4(e:dOp g fa fb ρ=some r):∃ra rb d,fa ρ=some ra/\fb ρ=some rb/\g ra.d rb.d=some d/\r=⟨d,true,[]⟩:=by
 unfold dOp at e;cases h1:fa ρ with
 | none=>rw[h1]at e;cases e
 | some ra=>
  cases h2:fb ρ with
  | none=>rw[h1,h2]at e;cases e
  | some rb=>
   rw[h1,h2]at e;cases h3:g ra.d rb.d with
   | none=>simp[h3]at e
   | some d=>simp[h3]at e;exact⟨ra,rb,d,rfl,rfl,h3,e.symm⟩
def Qb6(K:Fgg)(g:D->D->Option D)(r:R2):Prop:=∀a b d,g a b=some d->d.flat=true/\∀H x y F G (Q:VK),Rp K H a x F->Rp K H b y G->(∀v,(∀H',Rp K H' d v [])->Q v H)->r x y H Q
def QmT(ho:OpR X (binaryOp op) r)(hg:Qb6 X.K g r)(ha:SE X a fa)(hb:SE X b fb):SE X (.BinOp a op b pos) (dOp g fa fb):=λH0 A0=>
 (Qm1 ho (ha H0 A0) (hb H0 A0)).mono λσ H Q=>exK λρ hs F r' rel e q=>by
  obtain⟨ra,rb,d,ea,eb,eg,rfl⟩:=Ql4 e;refine two rel ea eb λx y H1 H2 G1 G2 p1 p2=>(hg _ _ _ eg).2 H2 x y G1 G2 Q (p1.rp.same p2.same) p2.rp λv hv=>?_;exact q v H2 [] (.flat (p1.same.trans p2.same) (hv H2) (hg _ _ _ eg).1)
def Qxk(ho:OpR X (compareOp op) r)(hg:Qb6 X.K g r)(ha:SE X a fa)(hb:SE X b fb)(hm:behindInMarks op b=false):SE X (.Compare a [op] [b] pos) (dOp g fa fb):=λH0 A0=>
 (Qu4 ho (ha H0 A0) (hb H0 A0) hm).mono λσ H Q=>exK λρ hs F r' rel e q=>by
  obtain⟨ra,rb,d,ea,eb,eg,rfl⟩:=Ql4 e;refine two rel ea eb λx y H1 H2 G1 G2 p1 p2=>(hg _ _ _ eg).2 H2 x y G1 G2 Q (p1.rp.same p2.same) p2.rp λv hv=>?_;exact q v H2 [] (.flat (p1.same.trans p2.same) (hv H2) (hg _ _ _ eg).1)
end
noncomputable def Qim(i j:Int):Int:=if 0<=j then i / j else i.fdiv j
noncomputable def QiW(i j:Int):Int:=if 0<=j then i % j else i.fmod j
def Qva(i j:Int):Qim i j=i.fdiv j:=by
 unfold Qim;split
 .rw[Int.fdiv_eq_ediv_of_nonneg _ (by assumption)]
 .rfl
def Qvz(i j:Int):QiW i j=i.fmod j:=by
 unfold QiW;split
 .rw[Int.fmod_eq_emod_of_nonneg _ (by assumption)]
 .rfl
noncomputable def QhB(i j:Int):Bool:=decide (i.natAbs<2^64) || decide (j.natAbs<2^64) || (decide (Builtin.Int.intBits i<=2^20) && decide (Builtin.Int.intBits j<=2^20))
noncomputable def Qhz(j:Int):Bool:=decide (j≠0) && decide (j.natAbs<2^8000)
noncomputable def gI(f:Int->Int->Option D)(a b:D):Option D:=match a,b with
 | .int i,.int j=>f i j
 | _,_=>none
noncomputable def Qge:=gI λi j=>some (.int (i-j))
noncomputable def Qdv:=gI λi j=>if Qhz j then some (.int (Qim i j))else none
noncomputable def Qan:=gI λi j=>if j≠0 then some (.int (QiW i j))else none
noncomputable def Qqy:=gI λi j=>if 0<=j/\j<=1000/\i.natAbs<2^200 then some (.int (i^j.toNat))else none
noncomputable def gLt:=gI λi j=>some (.bl (decide (i<j)))
noncomputable def gLe:=gI λi j=>some (.bl (decide (i<=j)))
noncomputable def gGt:=gI λi j=>some (.bl (decide (j<i)))
noncomputable def gGe:=gI λi j=>some (.bl (decide (j<=i)))
def QrL(h:gI f a b=some d):∃i j,a= .int i/\b= .int j/\f i j=some d:=by
 unfold gI at h;split at h
 .exact⟨_,_,rfl,rfl,h⟩
 .cases h
section
def Qh1(hf:∀i j d,f i j=some d->d.flat=true)(h:∀i j d,f i j=some d->∀H (Q:VK),(∀v,(∀H',Rp K H' d v [])->Q v H)->r (.int i) (.int j) H Q):Qb6 K (gI f) r:=λa b d e=>by
 obtain⟨i,j,rfl,rfl,ef⟩:=QrL e;refine⟨hf i j d ef,λH x y F G Q ha hb q=>?_⟩;rw[ha.int_inv,hb.int_inv];exact h i j d ef H Q q
def Qr4:Qb6 K Qge (rI0 λi j=> .int (i-j)):=Qh1 (λi j d e=>by cases e;rfl) λi j d e H Q q=>by cases e;exact⟨i,j,rfl,rfl,q _ λ_=> .int_mk⟩
def QtL(h:QhB i j=true):IntMulOk i j:=by
 have small:∀k:Int,k.natAbs<2^64->Builtin.Int.intBits k<=64:=λk hk=>by
  unfold Builtin.Int.intBits;split
  .omega
  .rename_i h0;have h0':k.natAbs≠0:=λz=>by simp_all
   have:=(Zby h0').mpr hk;omega
 unfold QhB at h;simp only[ZaM,Zf,decide_eq_true_eq]at h;rcases h with(h | h) | ⟨h1,h2⟩
 .exact .of_left (small i h)
 .exact .of_right (small j h)
 .exact .of_bits h1 h2
def QwZ:OpR X (binaryOp .Mult) (rI (λi j=>QhB i j=true) λi j=> .int (i*j)):=opI λ_ _ _ _ _ _ _ hc q=>PyProof.Rows.mul_int q (QtL hc)
def QuU:OpR X (binaryOp .FloorDiv) (rI (λi j=>Qhz j=true) λi j=> .int (Qim i j)):=opI λi j _ _ _ _ _ hc q=>by
 unfold Qhz at hc;simp only[Zf,decide_eq_true_eq]at hc;rw[Qva]at q;refine PyProof.Rows.floordiv_int hc.1 q (.inl (PyProof.noPylong_of_log2 ?_));have h0:j.natAbs≠0:= ⋯
 exact Nat.lt_trans ((Zby h0).mpr hc.2) ∅
def QuS:OpR X (binaryOp .Mod) (rI (λi j=>j≠0) λi j=> .int (QiW i j)):=opI λi j _ _ _ _ _ hc q=>by
 rw[Qvz]at q;exact PyProof.Rows.mod_int' hc q
def Qxm:Qb6 K Qdv (rI (λi j=>Qhz j=true) λi j=> .int (Qim i j)):=Qh1 (λi j d e=>by split at e<;>cases e;rfl) λi j d e H Q q=>by
 split at e
 .cases e;exact⟨i,j,rfl,rfl,by assumption,q _ λ_=> .int_mk⟩
 .cases e
def Qxe:Qb6 K Qan (rI (λi j=>j≠0) λi j=> .int (QiW i j)):=Qh1 (λi j d e=>by split at e<;>cases e;rfl) λi j d e H Q q=>by
 split at e
 .cases e;exact⟨i,j,rfl,rfl,by assumption,q _ λ_=> .int_mk⟩
 .cases e
def Qvm:OpR X (binaryOp .Pow) (rI (λi j=>0<=j/\j<=1000/\i.natAbs<2^200) λi j=> .int (i^j.toNat)):=opI λi j _ _ _ _ _ hc q=>by
 refine PyProof.Rows.pow_int hc.1 ?_ q;have hb:Builtin.Int.intBits i<=200:=by
  unfold Builtin.Int.intBits;split
  .omega
  .rename_i h0;have h0':i.natAbs≠0:=λz=>by simp_all
   have:=(Zby h0').mpr hc.2.2;omega
 have h1:((Builtin.Int.intBits i:Nat):Int)*j<=200*1000:=Int.mul_le_mul ⋯ hc.2.1 hc.1 ∅;omega
def Qzm:Qb6 K Qqy (rI (λi j=>0<=j/\j<=1000/\i.natAbs<2^200) λi j=> .int (i^j.toNat)):=Qh1 (λi j d e=>by split at e<;>cases e;rfl) λi j d e H Q q=>by
 split at e
 .rename_i h;cases e;exact⟨i,j,rfl,rfl,h,q _ λ_=> .int_mk⟩
 .cases e
def QzI:Qb6 K gLt (rI0 λi j=> .bl (decide (i<j))):=Qh1 (λi j d e=>by cases e;rfl) λi j d e H Q q=>by cases e;exact⟨i,j,rfl,rfl,q _ λ_=> .Qbt⟩
def QAa:Qb6 K gLe (rI0 λi j=> .bl (decide (i<=j))):=Qh1 (λi j d e=>by cases e;rfl) λi j d e H Q q=>by cases e;exact⟨i,j,rfl,rfl,q _ λ_=> .Qbt⟩
def Qzr:Qb6 K gGt (rI0 λi j=> .bl (decide (j<i))):=Qh1 (λi j d e=>by cases e;rfl) λi j d e H Q q=>by cases e;exact⟨i,j,rfl,rfl,q _ λ_=> .Qbt⟩
def Qz6:Qb6 K gGe (rI0 λi j=> .bl (decide (j<=i))):=Qh1 (λi j d e=>by cases e;rfl) λi j d e H Q q=>by cases e;exact⟨i,j,rfl,rfl,q _ λ_=> .Qbt⟩
end
def Qgc:∀(xs ys:List D),Qah (xs++ys)=(Qah xs && Qah ys)
 | [],ys=>by simp[Qah]
 | x::xs,ys=>by simp[Qah,Qgc xs ys,Bool.and_assoc]
noncomputable def Qbx(ds:List D)(M:List Nat):R:=if Qah ds then⟨.lst ds,true,[]⟩else⟨.lst ds,false,M⟩
section
variable {K:Fgg}{H0 H H':Hp}{A0:LAd}{hs:List (V×D×List Addr)}{ρ:En}{F:Nat->List Addr}{σ:L2.St}
def Qae.Qbx(s:QJ H H1)(hp:H1 p=none)(r:Rps K H1 ds vs G)(hz:ds.length<=sizeLine)(src:Src ρ F H M G)(ow:QbP ρ M):
  Qae K ρ F H (upd H1 p (.lst vs)) (Qbx ds M) (.ref p) (p::G):=by
 have s2:QJ H1 (upd H1 p (.lst vs)):=Qcr hp;have rp:Rp K (upd H1 p (.lst vs)) (.lst ds) (.ref p) (p::G):=Rp.Qhe QaM (r.same s2) hz;have hH:H p=none:=s.free hp;unfold HS.Qbx;split
 .rename_i hf;have:=r.Qcd hf;subst this;refine⟨s.trans s2,rp,λa ha=>?_,λ_=>⟨λa=>?_,by simp only[D.nl,Qh0 ds hf];rfl⟩,QbP.nil⟩
  .have:a=p:=by simpa using ha
   subst this;exact .inl hH
  .rw[List.count_singleton];split
   .rename_i e;have e':p=a:=by simpa using e
    subst e';rw[QbH hH];omega
   .omega
 .refine⟨s.trans s2,rp,λa ha=>?_,λz=>(by cases z),ow⟩;rcases Zn.mp ha with rfl | h
  .exact .inl hH
  .exact src a h
end
noncomputable def QL(fa fb:DE):DE:=λρ=>(fa ρ).bind λra=>(fb ρ).bind λrb=>match ra.d,rb.d with
 | .int i,.int j=>some ⟨.int (i+j),true,[]⟩
 | .lst xs,.lst ys=>if xs.length+ys.length<=sizeLine then some (Qbx (xs++ys) (ra.M++rb.M))else none
 | .str x,.str y=>if x.length+y.length<=sizeLine then some ⟨.str (x++y),true,[]⟩else none
 | _,_=>none
noncomputable def QaD(fa fb:DE):DE:=λρ=>(fa ρ).bind λra=>(fb ρ).bind λrb=>match ra.d,rb.d with
 | .int i,.int j=>if QhB i j then some ⟨.int (i*j),true,[]⟩else none
 | .lst xs,.int j=>if xs.length*j.toNat<=sizeLine/\ -(2^63)<=j/\j<2^63/\Qah xs=true then some ⟨.lst (List.replicate j.toNat xs).flatten,true,[]⟩else none
 | _,_=>none
def QpY{fa fb:DE}{ρ:En}{k:R->R->Option R}{r:R}(e:((fa ρ).bind λra=>(fb ρ).bind λrb=>k ra rb)=some r):∃ra rb,fa ρ=some ra/\fb ρ=some rb/\k ra rb=some r:=by
 cases h1:fa ρ with
 | none=>rw[h1]at e;cases e
 | some ra=>
  cases h2:fb ρ with
  | none=>rw[h1,h2]at e;cases e
  | some rb=>rw[h1,h2]at e;exact⟨ra,rb,rfl,rfl,e⟩
def bind1{α β:Type}{x:Option α}{k:α->Option β}{r:β}(e:x.bind k=some r):∃a,x=some a/\k a=some r:=by
 cases x with
 | none=>cases e
 | some a=>exact⟨a,rfl,e⟩
section
noncomputable def QAm(K:Fgg):R2:=λx y H Q=>∃l c xs zs,x= .ref l/\y= .ref c/\(H l=some (.lst xs)∨Fix K H l xs)/\(H c=some (.lst zs)∨Fix K H c zs)/\xs.length+zs.length<=sizeLine/\∀p,H p=none->Q (.ref p) (upd H p (.lst (xs++zs)))
def mapR{α γ:Type}{x:Option α}{f:α->γ}{r:γ}{M:γ->Prop}(e:x.map f=some r)(g:∀a,x=some a->M (f a)):M r:=by
 obtain⟨a,h,rfl⟩:=Zb.mp e;exact g a h
def Qi{α β:Type}{x:Option α}{k:α->Option β}{r:β}{G:Prop}(e:x.bind k=some r)(g:∀a,x=some a->k a=some r->G):G:=let ⟨a,h1,h2⟩:=bind1 e;g a h1 h2
def Qvg:OpR X (binaryOp .Add) (QAm X.K):=by
 intro pins s σ H x y v u Q I rx ry h;obtain⟨l,c,xs,zs,rfl,rfl,hH,hB,hz,q⟩:=h;cases rx;cases ry;obtain⟨z,its,n,r,hl,e⟩:=I.Ql3 hH;obtain⟨z2,its2,n2,r2,hl2,e2⟩:=I.Ql3 hB;refine PySem.P.add_list e e2 ?_ (by rw[Zr,Zr];omega);have ea:its.toArray++its2.toArray=(its++its2).toArray:= ⋯
 rw[ea];exact⟨.ref _,_,I.Qyy (t':=s.toks) (r.append r2) (by rw[Zd];omega),rfl,q _ I.fresh⟩
def QrB(ha:SE X a fa)(hb:SE X b fb):SE X (.BinOp a .Add b pos) (QL fa fb):=λH0 A0=>
 (Qm1 ((Qyz.or Qvg).or Qqw) (ha H0 A0) (hb H0 A0)).mono λσ H Q=>exK λρ hs F r' rel e q=>by
  obtain⟨ra,rb,ea,eb,ek⟩:=QpY e;refine two rel ea eb λx y H1 H2 G1 G2 p1 p2=>?_;have p1':=p1.rp.same p2.same;have p2':=p2.rp;have c1:=p1.src.append p2.src p1.same;have o1:=p1.own.append p2.own;revert ek;revert p1' p2';cases ra.d<;>cases rb.d<;>intro p1' p2' ek<;>first | (cases ek;done) | skip
  .cases ek;rw[p1'.int_inv,p2'.int_inv];left;exact .inl ⟨_,_,rfl,rfl,q _ H2 [] (.flat (p1.same.trans p2.same) .int_mk)⟩
  .rename_i xs ys;dsimp only at ek;split at ek
   .rename_i hz;cases ek;rw[p1'.str_inv,p2'.str_inv];exact .inr ⟨_,_,rfl,rfl,hz,q _ H2 [] (.flat (p1.same.trans p2.same) .str_mk)⟩
   .cases ek
  .rename_i xs ys;dsimp only at ek;split at ek
   .rename_i hz;cases ek;obtain⟨l,vs,L1,rfl,hl,rl,zl,el⟩:=p1'.lst_inv;obtain⟨c,ws,L2',rfl,hc,rc,zc,ec⟩:=p2'.lst_inv;have n1:=rl.length;have n2:=rc.length;left;refine .inr ⟨l,c,vs,ws,rfl,rfl,hl,hc,⋯,λp hp=>?_⟩;refine q _ _ (p::(L1++L2')) (Qae.Qbx (p1.same.trans p2.same) hp (rl.append rc) (by rw[Zd];exact hz) (λa ha=>c1 a ?_) o1);rcases ZG.mp ha with h | h
    .refine Zk _ ?_;rcases el with rfl | rfl
     .exact Zc _ h
     .exact h
    .refine Zg _ ?_;rcases ec with rfl | rfl
     .exact Zc _ h
     .exact h
   .cases ek
noncomputable def QzT(K:Fgg):R2:=λx y H Q=>∃l k xs,x= .ref l/\y= .int k/\(H l=some (.lst xs)∨Fix K H l xs)/\ -(2^63)<=k/\k<2^63/\xs.length*k.toNat<=sizeLine∧
 ∀p,H p=none->Q (.ref p) (upd H p (.lst (List.replicate k.toNat xs).flatten))
def QwI:OpR X (binaryOp .Mult) (QzT X.K):=by
 intro pins s σ H x y v u Q I rx ry h;obtain⟨l,k,xs,rfl,rfl,hH,h1,h2,hz,q⟩:=h;cases rx;obtain⟨t,rfl⟩:=ry;obtain⟨z,its,n,r,hl,e⟩:=I.Ql3 hH;have hlen:its.toArray.size*k.toNat<=sizeLine:=by rw[Zr,← hl];exact hz
 have hcap:¬its.toArray.size*k.toNat>(2^63-1) / 8:=by
  have:(sizeLine:Nat)<=(2^63-1) / 8:= ∅
  omega
 have hfit:¬(!Builtin.List.listFitsIndex k)=true:=by
  rw[fitsIndex_both h1 h2];exact ZK
 have hlong:¬Builtin.List.listTooLong (its.toArray.size*k.toNat)=true:=by
  rw[Qoq hlen];exact ZK
 have hnew:List.foldl (λx1 x2=>x1++x2) #[] (List.replicate (if its.toArray.isEmpty=true then 0 else k.toNat) its.toArray)=(List.replicate k.toNat its).flatten.toArray:=by
  have f0:∀m:Nat,List.foldl (λx1 x2=>x1++x2) #[] (List.replicate m its.toArray)=(List.replicate m its).flatten.toArray:=λm=>by
   have:=foldl_rep its m [];rw[List.nil_append]at this;exact this
  rw[f0];cases its with
  | nil=>simp
  | cons a r'=>rw[if_neg ⋯]
 open PyProof.Rows in
 refine wpAny_binaryOp_repeat_ref ∅ ⟨_,e,rfl⟩ (λs'=>typeIs_int s' k t) noFill_list_mul F.fills_int_mul F.slot_int_rmul repeat_list F.slot_int_index.lookup
  (call_meets F.slot_int_rmul (typeIs_int s k t) F.entry_int_rmul (F.args_int_rmul_2 _ _) (int___rmul___int_list k t l its.toArray n)
   ⟨e,rfl,⟨_,e,rfl⟩,call_meets F.slot_list_mul ⟨_,e,rfl⟩ F.entry_list_mul (F.args_list_mul_2 _ _) (AutoListH.list___mul___list_int_3 l its.toArray n k t hfit hcap hlong) ⟨e,?_⟩⟩)
 rw[hnew];exact⟨.ref _,_,I.Qyy (t':=s.toks) (r.rep k.toNat) (by rw[len_rep,Nat.mul_comm];exact hz),rfl,q _ I.fresh⟩
def Qmi(h:Qah xs=true):∀n:Nat,Qah (List.replicate n xs).flatten=true
 | 0=>by simp[Qah]
 | n+1=>by rw[ZR,ZW,Qgc,h,Qmi h n];rfl
def Rps.rep(h:Rps K H ds vs []):∀n:Nat,Rps K H (List.replicate n ds).flatten (List.replicate n vs).flatten []
 | 0=>by simp[Rps]
 | n+1=>by rw[ZR,ZW,ZR,ZW];exact h.append (Rps.rep h n)
def QrJ(ha:SE X a fa)(hb:SE X b fb):SE X (.BinOp a .Mult b pos) (QaD fa fb):=λH0 A0=>
 (Qm1 (QwZ.or QwI) (ha H0 A0) (hb H0 A0)).mono λσ H Q=>exK λρ hs F r' rel e q=>by
  obtain⟨ra,rb,ea,eb,ek⟩:=QpY e;refine two rel ea eb λx y H1 H2 G1 G2 p1 p2=>?_;have p1':=p1.rp.same p2.same;have p2':=p2.rp;revert ek;revert p1' p2';cases ra.d<;>cases rb.d<;>intro p1' p2' ek<;>first | (cases ek;done) | skip
  .dsimp only at ek;split at ek
   .rename_i hm;cases ek;rw[p1'.int_inv,p2'.int_inv];exact .inl ⟨_,_,rfl,rfl,hm,q _ H2 [] (.flat (p1.same.trans p2.same) .int_mk)⟩
   .cases ek
  .rename_i xs j;dsimp only at ek;split at ek
   .rename_i hz;cases ek;obtain⟨hz1,hz2,hz3,hf⟩:=hz;obtain⟨l,vs,L1,rfl,hl,rl,zl,el⟩:=p1'.lst_inv;have n1:=rl.length;have e0:=rl.Qcd hf;subst e0;rw[p2'.int_inv];refine .inr ⟨l,j,vs,rfl,rfl,hl,hz2,hz3,by rw[← n1];exact hz1,λp hp=>?_⟩;have w:HS.Qbx (List.replicate j.toNat xs).flatten []=⟨.lst (List.replicate j.toNat xs).flatten,true,[]⟩:=by
     unfold HS.Qbx;rw[if_pos (Qmi hf _)]
    rw[← w]at q;exact q _ _ (p::[]) (Qae.Qbx (p1.same.trans p2.same) hp (rl.rep _) (by rw[len_rep,Nat.mul_comm];exact hz1) Src.nil QbP.nil)
   .cases ek
end
noncomputable def Qb:DA:=λ_=>some ⟨[],true,[]⟩
noncomputable def Qa(fa:DE)(fr:DA):DA:=λρ=>(fa ρ).bind λr=>(fr ρ).bind λrs=>some ⟨r.d::rs.ds,r.fr && rs.fr,r.M++rs.M⟩
noncomputable def Qaj(fa:DA):DE:=λρ=>(fa ρ).bind λr=>if r.ds.length<=64 then some ⟨.tup r.ds,r.fr,r.M⟩else none
noncomputable def Q4(fa:DA):DE:=λρ=>(fa ρ).bind λr=>if r.ds.length<=64 then some ⟨.lst r.ds,r.fr,r.M⟩else none
section
variable {X:Cx}{a b e:Expr}{es:List Expr}{fa fb:DE}{fs:DA}{pos:Pos}
def Qdy:SA X [] Qb:=λH0 A0=>Qek.mono λσ H Q=>exK λρ hs F r' rel e q=>by
 cases e;exact q [] H [] ⟨QJ.refl _,by simp[Rps],Src.nil,λ_=>⟨Cnt.nil,rfl⟩,QbP.nil⟩
def Qcl(ha:SE X e fa)(hr:SA X es fs)(hs:starEach (e::es) X.env=(false,eval e X.env)::starEach es X.env):SA X (e::es) (Qa fa fs):=λH0 A0=>
 (QbG (ha H0 A0) (hr H0 A0) hs).mono λσ H Q=>exK λρ hs F r' rel e q=>by
  refine Qi e λr e1 e=>?_;refine Qi e λrs e2 e=>?_;cases e;refine⟨ρ,hs,F,r,rel,e1,λx H1 G1 p1=>⟨ρ,hs,F,rs,rel.ext p1.same,e2,λxs H2 G2 p2=>?_⟩⟩;refine q _ H2 (G1++G2) ⟨p1.same.trans p2.same,?_,p1.src.append p2.src p1.same,λh=>?_,p1.own.append p2.own⟩
  .simp only[Rps];exact⟨x,xs,G1,G2,rfl,rfl,p1.rp.same p2.same,p2.rp⟩
  .simp only[Zf]at h;exact⟨(p1.cnt h.1).1.append rel (p2.cnt h.2).1 p1.same p1.rp.mem,by simp only[nls,Zd,(p1.cnt h.1).2,(p2.cnt h.2).2]⟩
def QhS{n:Nat}(h:n<=64):n<=sizeLine:=Zx h ∅
def QqT{k:Nat}(ha:SA X es fs):SE X (.Tuple es k pos) (Qaj fs):=λH0 A0=>
 (Qq2 (ha H0 A0)).mono λσ H Q=>exK λρ hs F r' rel e q=>by
  refine Qi e λr e1 e=>?_;split at e
  .rename_i hz;cases e;refine⟨ρ,hs,F,r,rel,e1,λxs H1 G p=>⟨by rw[← p.rp.length];exact QhS hz,λc hc=>q _ _ G ⟨p.same.trans (Qcr hc),Rp.Qnr QaM (p.rp.same (Qcr hc)),p.src,λh=>⟨(p.cnt h).1,by simp only[D.nl];exact(p.cnt h).2⟩,p.own⟩⟩⟩
  .cases e
def QxG(ha:SA X es fs):SE X (.List es pos) (Q4 fs):=λH0 A0=>
 (Qq9 (ha H0 A0)).mono λσ H Q=>exK λρ hs F r' rel e q=>by
  refine Qi e λr e1 e=>?_;split at e
  .rename_i hz;cases e;refine⟨ρ,hs,F,r,rel,e1,λxs H1 G p=>⟨by rw[← p.rp.length];exact QhS hz,λc hc=>?_⟩⟩;have hH:H c=none:=p.same.free hc;refine q _ _ (c::G) ⟨p.same.trans (Qcr hc),Rp.Qhe QaM (p.rp.same (Qcr hc)) (QhS hz),λz hz'=>?_,λh=>⟨λz=>?_,by simp only[D.nl,ZM,(p.cnt h).2]⟩,p.own⟩
   .rcases Zn.mp hz' with rfl | h
    .exact .inl hH
    .exact p.src z h
   .rw[Zaq];have:=(p.cnt h).1 z;split
    .rename_i e';have e':c=z:=by simpa using e'
     subst e';have h0:G.count c=0:=ZN.mpr λhm=>by obtain⟨vs,w⟩:=p.rp.mem c hm;rw[hc]at w;cases w
     rw[QbH hH];omega
    .exact this
  .cases e
noncomputable def D.items:D->Option (List D)
 | .lst xs=>some xs
 | .tup xs=>some xs
 | _=>none
noncomputable def Qm(fa fb:DE):DE:=λρ=>(fa ρ).bind λra=>(fb ρ).bind λrb=>match rb.d with
 | .int i=>match ra.d with
  | .str x=>if 0<=i/\i<2^63/\i<x.length then(x.cps[i.toNat]?).map λc=>⟨.str ⟨#[c]⟩,true,[]⟩else none
  | _=>(ra.d.items).bind λxs=>(atI xs i).map λd=>(R.norm ⟨d,ra.fr,ra.M⟩)
 | _=>none
def Qw1{α β:Type}{xs:List α}{i:Int}{d:α}(h:atI xs i=some d):∃j:Nat,xs[j]? =some d/\∀(ys:List β),ys.length=xs.length->∀y,ys[j]? =some y->atI ys i=some y:=by
 unfold atI at h;cases e:ixN xs.length i with
 | none=>rw[e]at h;cases h
 | some j=>
  rw[e]at h;refine⟨j,h,λys hl y hy=>?_⟩;unfold atI;rw[hl,e];exact hy
def Qxo(ha:SE X a fa)(hb:SE X b fb)(hs:Qjg b):SE X (.Subscript a b pos) (Qm fa fb):=λH0 A0=>
 (QuQ (Quk (Qpb.or Qsn) (ha H0 A0) (hb H0 A0) hs) (QoW (ha H0 A0) (hb H0 A0) (λo i=>hs o i))).mono λσ H Q=>exK λρ hs F r' rel e q=>by
  obtain⟨ra,rb,ea,eb,ek⟩:=QpY e;by_cases hx:∃x,ra.d= .str x
  .obtain⟨z,hx⟩:=hx;right;refine two rel ea eb λx y H1 H2 G1 G2 p1 p2=>?_;have p1':=p1.rp.same p2.same;have p2':=p2.rp;cases hb':rb.d with
   | int i=>
    rw[hb',hx]at ek;rw[hx]at p1';rw[hb']at p2';have ek:(if 0<=i/\i<2^63/\i<z.length then(z.cps[i.toNat]?).map λc=>(⟨.str ⟨#[c]⟩,true,[]⟩:HS.R)else none)=some r':=ek;split at ek
    .rename_i hi;obtain⟨c,hc,rfl⟩:=Zb.mp ek;exact⟨z,i,c,p1'.str_inv,p2'.int_inv,hi.1,hi.2.1,hi.2.2,hc,q _ H2 [] (.flat (p1.same.trans p2.same) .str_mk)⟩
    .cases ek
   | _=>rw[hb']at ek;cases ek
  left;have ek:(match rb.d with | .int i=>(ra.d.items).bind λxs=>(atI xs i).map λd=>(R.norm ⟨d,ra.fr,ra.M⟩) | _=>none)=some r':=by
   rw[← ek];split
   .split
    .rename_i h;exact absurd ⟨_,h⟩ hx
    .rfl
   .rfl
  refine two rel ea eb λx y H1 H2 G1 G2 p1 p2=>?_;have p1':=p1.rp.same p2.same;have p2':=p2.rp;have pp:Qae X.K ρ F H H2 ra x G1:=⟨p1.same.trans p2.same,p1',p1.src,p1.cnt,p1.own⟩;cases hb':rb.d with
  | int i=>
   rw[hb']at ek p2';rw[p2'.int_inv];refine Qi ek λxs ex ek=>?_;obtain⟨d,ed,ek⟩:=Zb.mp ek;subst ek;obtain⟨j,hj,hm⟩:=Qw1 ed;have fin:∀(L:LAd) (vs:List V),Rps X.K H2 xs vs L->(∀z,L.count z<=G1.count z)->(G1.length=ra.d.nl->L.length=nls xs)->∃v,atI vs i=some v/\Q v H2:=λL vs rl hc hn=>by
    obtain⟨v,F1,G,F2,hv,eF,rv,hx⟩:=rl.get hj;refine⟨v,hm vs rl.length.symm v hv,q v H2 G (Qae.norm (Qae.sub pp rv (λz=>Zx ?_ (hc z)) λz=>hx (hn z)))⟩;rw[eF,ZX,ZX];omega
   cases hra:ra.d with
   | lst ys=>
    rw[hra]at ex p1';cases ex;obtain⟨l,vs,L,rfl,hl,rl,zl,el⟩:=p1'.lst_inv;have hn:G1.length=ra.d.nl->L.length=nls xs:=λhz=>by
     have:=rl.Qa9;simp only[hra,D.nl]at hz;rcases el with rfl | rfl
     .rw[ZM]at hz;omega
     .omega
    have hc:∀z,L.count z<=G1.count z:=λz=>by
     rcases el with rfl | rfl
     .rw[Zaq];omega
     .exact Ze _
    obtain⟨v,h1,h2⟩:=fin L vs rl hc hn;exact .inl ⟨l,vs,i,v,rfl,rfl,QaP hl,h1,h2⟩
   | tup ys=>
    rw[hra]at ex p1';cases ex;obtain⟨l,vs,rfl,hl,rl⟩:=p1'.QbF;obtain⟨v,h1,h2⟩:=fin G1 vs rl (λz=>Ze _) λz=>(by simpa only[hra,D.nl]using z);exact .inr ⟨l,vs,i,v,rfl,rfl,hl,h1,h2⟩
   | _=>rw[hra]at ex;cases ex
  | _=>rw[hb']at ek;cases ek
noncomputable abbrev DO:=En->Option (Option Int)
noncomputable def QX:DO:=λ_=>some none
noncomputable def QD(f:DE):DO:=λρ=>(f ρ).bind λr=>match r.d with
 | .int i=>some (some i)
 | _=>none
noncomputable def tVO(K:Fgg)(H0:Hp)(A0:LAd)(f:DO):TO:=λσ H Q=>∃ρ hs F o,Rel K H0 A0 hs ρ F σ H/\f ρ=some o/\∀H',QJ H H'->Q o H'
def SO(X:Cx)(e:Option Expr)(f:DO):Prop:=∀H0 A0,PO X e (tVO X.K H0 A0 f)
def _root_.L2.PO.mono{X:Cx}{e:Option Expr}{t t':TO}(h:PO X e t)(m:∀σ H Q,t' σ H Q->t σ H Q):PO X e t':=by
 intro pins s σ H Q I q;exact h pins s σ H Q I (m σ H Q q)
def Qw5:SO X none QX:=λH0 A0=>QuZ.mono λσ H Q=>exK λρ hs F o rel e q=>by
 cases e;exact q H (QJ.refl _)
def QwD(h:SE X a fa):SO X (some a) (QD fa):=λH0 A0=>(Qwn (h H0 A0)).mono λσ H Q=>exK λρ hs F o rel e q=>by
 refine Qi e λr e1 e=>?_;refine⟨ρ,hs,F,r,rel,e1,λv H1 G p=>?_⟩;have rp:=p.rp;cases hr:r.d with
 | int i=>
  rw[hr]at e rp;cases e;exact⟨i,rp.int_inv,q H1 p.same⟩
 | _=>rw[hr]at e;cases e
noncomputable def cutD(xs:List D)(lo hi:Option Int):List D:=(xs.drop (HT.sIx xs.length 0 lo)).take (HT.sIx xs.length xs.length hi-HT.sIx xs.length 0 lo)
noncomputable def QU(fa:DE)(lo hi:DO):DE:=λρ=>(fa ρ).bind λra=>(lo ρ).bind λl=>(hi ρ).bind λh=>match ra.d with
 | .lst xs=>some (Qbx (cutD xs l h) ra.M)
 | .str x=>if x.length<=sizeLine then some ⟨.str (Txt.slice x l h),true,[]⟩else none
 | _=>none
def Rps.drop:∀{ds:List D}{vs:List V}{F:LAd}{K:Fgg}{H:Hp}(n:Nat),Rps K H ds vs F->∃G,Rps K H (ds.drop n) (vs.drop n) G/\∀a∈G,a∈F
 | [],vs,F,K,H,n,h=>by simp only[Rps]at h;rw[h.1,h.2];exact⟨[],by simp[Rps],λ_ h=>h⟩
 | d::ds,vs,F,K,H,0,h=>⟨F,by simpa using h,λ_ h=>h⟩
 | d::ds,vs,F,K,H,n+1,h=>by
  simp only[Rps]at h;obtain⟨v,ws,F1,F2,e,eF,r,q⟩:=h;subst e eF;obtain⟨G,h1,h2⟩:=Rps.drop n q;exact⟨G,by simpa using h1,λa ha=>Zg _ (h2 a ha)⟩
def Rps.take:∀{ds:List D}{vs:List V}{F:LAd}{K:Fgg}{H:Hp}(n:Nat),Rps K H ds vs F->∃G,Rps K H (ds.take n) (vs.take n) G/\∀a∈G,a∈F
 | [],vs,F,K,H,n,h=>by simp only[Rps]at h;rw[h.1,h.2];exact⟨[],by simp[Rps],λ_ h=>h⟩
 | d::ds,vs,F,K,H,0,h=>⟨[],by simp[Rps],λ_ h=>by simp at h⟩
 | d::ds,vs,F,K,H,n+1,h=>by
  simp only[Rps]at h;obtain⟨v,ws,F1,F2,e,eF,r,q⟩:=h;subst e eF;obtain⟨G,h1,h2⟩:=Rps.take n q;refine⟨F1++G,?_,λa ha=>?_⟩
  .simp only[List.take_succ_cons,Rps];exact⟨v,_,F1,G,rfl,rfl,r,h1⟩
  .rcases ZG.mp ha with h | h
   .exact Zk _ h
   .exact Zg _ (h2 a h)
def QxM{lo hi:Option Expr}{fl fh:DO}{p2:Pos}(ha:SE X a fa)(hl:SO X lo fl)(hh:SO X hi fh):SE X (.Subscript a (.Slice lo hi none p2) pos) (QU fa fl fh):=λH0 A0=>
 (Qta (Qv0.or Qxg) (ha H0 A0) (hl H0 A0) (hh H0 A0)).mono λσ H Q=>exK λρ hs F r' rel e q=>by
  refine Qi e λra e1 e=>?_;refine Qi e λl e2 e=>?_;refine Qi e λh e3 e=>?_;refine⟨ρ,hs,F,ra,rel,e1,λx H1 G1 p1=>⟨ρ,hs,F,l,rel.ext p1.same,e2,λH2 s2=>⟨ρ,hs,F,h,(rel.ext p1.same).ext s2,e3,λH3 s3=>?_⟩⟩⟩;have rp:=p1.rp.same (s2.trans s3);cases hra:ra.d with
  | lst xs=>
   rw[hra]at e rp;cases e;obtain⟨c,vs,L,rfl,hc,rl,zl,el⟩:=rp.lst_inv;left;refine⟨c,vs,rfl,QaP hc,λp hp=>?_⟩;obtain⟨G2,h2,m2⟩:=rl.drop (HT.sIx xs.length 0 l);obtain⟨G3,h3,m3⟩:=h2.take (HT.sIx xs.length xs.length h-HT.sIx xs.length 0 l);have n1:=rl.length;rw[show QlY vs l h=(vs.drop (HT.sIx xs.length 0 l)).take (HT.sIx xs.length xs.length h-HT.sIx xs.length 0 l) by unfold QlY;rw[n1]];refine q _ _ (p::G3) (Qae.Qbx (p1.same.trans (s2.trans s3)) hp h3 ?_ (λz hz=>p1.src z ?_) p1.own)
   .unfold cutD;rw[Zbr,ZaG];omega
   .have:=m2 z (m3 z hz);rcases el with rfl | rfl
    .exact Zc _ this
    .exact this
  | str x=>
   rw[hra]at e rp;dsimp only at e;split at e
   .rename_i hz;cases e;exact .inr ⟨x,rp.str_inv,hz,q _ H3 [] (.flat (p1.same.trans (s2.trans s3)) .str_mk)⟩
   .cases e
  | _=>rw[hra]at e;cases e
noncomputable def dBf(g:List D->Option D)(fs:DA):DE:=λρ=>(fs ρ).bind λr=>(g r.ds).map λd=>⟨d,true,[]⟩
def Qfg(K:Fgg)(g:List D->Option D)(r:List V->Hp->VK->Prop):Prop:=∀ds d,g ds=some d->d.flat=true/\∀H vs F (Q:VK),Rps K H ds vs F->(∀v,(∀H',Rp K H' d v [])->Q v H)->r vs H Q
def QmO{x:Str}{id:String}{g:List D->Option D}{r:List V->Hp->VK->Prop}{p:Pos}(hc:Qbo X (.builtin id) r)(hk:Qfg X.K g r)(hg:Gl X x)(hm:X.mg x=none)(hv:bootBuiltins x=some (.builtin id))(ha:SA X (e::es) fs)(hn:x≠ "__name__")(hdb:(x == ("__debug__" :Str))=false)
  (he:starEach (e::es) X.env=(false,eval e X.env)::starEach es X.env) (hpl:(backTo pos (starEach es X.env)).any (·.1)=false):SE X (.Call (.Name x p) (e::es) [] pos) (dBf g fs):=λH0 A0=>
 (QjY hc hg hm hv (ha H0 A0) hn hdb he hpl).mono λσ H Q=>exK λρ hs F r' rel e q=>by
  refine Qi e λra e1 e=>?_;obtain⟨d,ed,e⟩:=Zb.mp e;subst e;exact⟨ρ,hs,F,ra,rel,e1,λvs H1 G p1=>(hk _ _ ed).2 H1 vs G Q p1.rp λv hv=>q v H1 [] (.flat p1.same (hv _) (hk _ _ ed).1)⟩
def Rps.one{K:Fgg}{H:Hp}{d:D}{vs:List V}{F:LAd}(h:Rps K H [d] vs F):∃v,vs=[v]/\Rp K H d v F:=by
 simp only[Rps]at h;obtain⟨v,ws,F1,F2,rfl,rfl,r,rfl,rfl⟩:=h;exact⟨v,rfl,by simpa using r⟩
def Rps.two{K:Fgg}{H:Hp}{d e:D}{vs:List V}{F:LAd}(h:Rps K H [d,e] vs F):∃v w F1 F2,vs=[v,w]/\Rp K H d v F1/\Rp K H e w F2:=by
 simp only[Rps]at h;obtain⟨v,ws,F1,F2,rfl,rfl,r,w,ws',F3,F4,rfl,rfl,r2,rfl,rfl⟩:=h;exact⟨v,w,F1,F3,rfl,r,r2⟩
noncomputable def Qaa:List D->Option D
 | [.lst xs]=>some (.int xs.length)
 | [.tup xs]=>some (.int xs.length)
 | [.str x]=>if x.length<=sizeLine then some (.int x.length)else none
 | _=>none
def QuH(K:Fgg):List V->Hp->VK->Prop:=λxs H Q=>(∃p ys,xs=[.ref p]/\(SqL K H p ys∨SqT K H p ys)/\Q (.int ys.length) H)∨∃z,xs=[.str z]/\z.length<=sizeLine/\Q (.int z.length) H
def Qsf{X:Cx}:Qbo X (.builtin "len") (QuH X.K):=Qov.or QnB
def Qxr{K:Fgg}:Qfg K Qaa (QuH K):=λds d e=>by
 unfold Qaa at e;split at e
 .cases e;refine⟨rfl,λH vs F Q r q=>?_⟩;obtain⟨v,rfl,rp⟩:=r.one;obtain⟨l,ws,L,rfl,hl,rl,zl,el⟩:=rp.lst_inv;left;exact⟨l,ws,rfl,.inl (QaP hl),by rw[← rl.length];exact q _ λ_=> .int_mk⟩
 .cases e;refine⟨rfl,λH vs F Q r q=>?_⟩;obtain⟨v,rfl,rp⟩:=r.one;obtain⟨l,ws,rfl,hl,rl⟩:=rp.QbF;left;exact⟨l,ws,rfl,.inr hl,by rw[← rl.length];exact q _ λ_=> .int_mk⟩
 .split at e
  .rename_i hz;cases e;refine⟨rfl,λH vs F Q r q=>?_⟩;obtain⟨v,rfl,rp⟩:=r.one;exact .inr ⟨_,by rw[rp.str_inv],hz,q _ λ_=> .int_mk⟩
  .cases e
 .cases e
noncomputable def Qcb:List D->Option D
 | [.int i,.int j]=>some (.int (if j<i then j else i))
 | _=>none
noncomputable def Qb9:List D->Option D
 | [.int i,.int j]=>some (.int (if j>i then j else i))
 | _=>none
def QuP{K:Fgg}:Qfg K Qcb (λxs H Q=>∃i j,xs=[.int i,.int j]/\Q (.int (if j<i then j else i)) H):=λds d e=>by
 unfold Qcb at e;split at e
 .cases e;refine⟨rfl,λH vs F Q r q=>?_⟩;obtain⟨v,w,F1,F2,rfl,r1,r2⟩:=r.two;exact⟨_,_,by rw[r1.int_inv,r2.int_inv],q _ λ_=> .int_mk⟩
 .cases e
def QwH{K:Fgg}:Qfg K Qb9 (λxs H Q=>∃i j,xs=[.int i,.int j]/\Q (.int (if j>i then j else i)) H):=λds d e=>by
 unfold Qb9 at e;split at e
 .cases e;refine⟨rfl,λH vs F Q r q=>?_⟩;obtain⟨v,w,F1,F2,rfl,r1,r2⟩:=r.two;exact⟨_,_,by rw[r1.int_inv,r2.int_inv],q _ λ_=> .int_mk⟩
 .cases e
noncomputable def dList(fs:DA):DE:=λρ=>(fs ρ).bind λr=>match r.ds with
 | [.lst xs]=>some (Qbx xs r.M)
 | [.tup xs]=>if xs.length<=sizeLine then some (Qbx xs r.M)else none
 | _=>none
end
end HS
namespace HS
open PySem PySem.Spec L2 PyProof.Rows
end HS
namespace HS
open PySem PySem.Spec L2
mutual
noncomputable def D.py:D->PyData
 | .non=> .none
 | .bl b=> .bool b
 | .int i=> .int i
 | .str x=> .str x
 | .tup xs=> .tuple (pys xs)
 | .lst xs=> .list (pys xs)
 | .exc _=> .none
 | .dk _=> .none
noncomputable def pys:List D->List PyData
 | []=>[]
 | d::ds=>d.py::pys ds
end
def QpM:∀ds:List D,pys ds=ds.map D.py
 | []=>rfl
 | d::ds=>by simp[pys,QpM ds]
noncomputable def D.sim:Nat->D->Bool
 | _,.non=>true
 | _,.bl _=>true
 | _,.int _=>true
 | _,.str x=>PyData.canLay0 (.str x)
 | 0,.tup xs=>xs.isEmpty
 | 0,.lst xs=>xs.isEmpty
 | n+1,.tup xs=>xs.all (D.sim n)
 | n+1,.lst xs=>xs.all (D.sim n)
 | _,.exc _=>false
 | _,.dk _=>false
def Qf3:∀{ds:List D},(∀d∈ds,d.py.canLay0=true)->PyData.canLayAll0 (pys ds)=true
 | [],_=>rfl
 | d::ds,h=>by
  simp only[pys,PyData.canLayAll0,Zf];exact⟨h d Zw,Qf3 λe he=>h e (Zc _ he)⟩
def QgN:∀{ds:List D},(∀d∈ds,d.py.depth<=n)->PyData.depthAll (pys ds)<=n
 | [],_=>ZQ _
 | d::ds,h=>by
  simp only[pys,PyData.depthAll];exact Nat.max_le.mpr ⟨h d Zw,QgN λe he=>h e (Zc _ he)⟩
def Qch:∀(n:Nat) (d:D),d.sim n=true->d.py.canLay0=true/\d.py.depth<=n+1
 | n,.exc _,h=>by cases n<;>cases h
 | n,.dk _,h=>by cases n<;>cases h
 | n,.non,_=>by simp[D.py,PyData.canLay0,PyData.depth]
 | n,.bl _,_=>by simp[D.py,PyData.canLay0,PyData.depth]
 | n,.int _,_=>by simp[D.py,PyData.canLay0,PyData.depth]
 | n,.str x,h=>by
  simp only[D.py,PyData.depth];refine⟨?_,ZQ _⟩;cases n<;>exact h
 | 0,.tup xs,h=>by
  have:xs=[]:=by simpa[D.sim]using h
  subst this;simp[D.py,pys,PyData.canLay0,PyData.canLayAll0,PyData.depth,PyData.depthAll]
 | 0,.lst xs,h=>by
  have:xs=[]:=by simpa[D.sim]using h
  subst this;simp[D.py,pys,PyData.canLay0,PyData.canLayAll0,PyData.depth,PyData.depthAll]
 | n+1,.tup xs,h=>by
  simp only[D.sim,ZC]at h;simp only[D.py,PyData.canLay0,PyData.depth];exact⟨Qf3 λd hd=>(Qch n d (h d hd)).1,Zbd (QgN λd hd=>(Qch n d (h d hd)).2) 1⟩
 | n+1,.lst xs,h=>by
  simp only[D.sim,ZC]at h;simp only[D.py,PyData.canLay0,PyData.depth];exact⟨Qf3 λd hd=>(Qch n d (h d hd)).1,Zbd (QgN λd hd=>(Qch n d (h d hd)).2) 1⟩
noncomputable def deq(a b:D):Bool:=PyData.eqv a.py b.py
def QnK(h:d.sim n=true):deq d d=true:=SeqAt.eqv_refl _ (Qch n d h).1
mutual
noncomputable def D.noX:D->Bool
 | .exc _=>false
 | .dk _=>false
 | .tup xs=>Qj5 xs
 | .lst xs=>Qj5 xs
 | .non=>true
 | .bl _=>true
 | .int _=>true
 | .str _=>true
noncomputable def Qj5:List D->Bool
 | []=>true
 | d::ds=>d.noX && Qj5 ds
end
def QlD:∀{ds:List D},(∀d∈ds,d.noX=true)->Qj5 ds=true
 | [],_=>rfl
 | d::ds,h=>by
  simp only[Qj5,Zf];exact⟨h d Zw,QlD λe he=>h e (Zc _ he)⟩
def QcI:∀(n:Nat) (d:D),d.sim n=true->d.noX=true
 | n,.exc _,h=>by cases n<;>cases h
 | n,.dk _,h=>by cases n<;>cases h
 | n,.non,_=>rfl
 | n,.bl _,_=>rfl
 | n,.int _,_=>rfl
 | n,.str x,_=>rfl
 | 0,.tup xs,h=>by
  have:xs=[]:=by simpa[D.sim]using h
  subst this;rfl
 | 0,.lst xs,h=>by
  have:xs=[]:=by simpa[D.sim]using h
  subst this;rfl
 | n+1,.tup xs,h=>by
  simp only[D.sim,ZC]at h;simp only[D.noX];exact QlD λd hd=>QcI n d (h d hd)
 | n+1,.lst xs,h=>by
  simp only[D.sim,ZC]at h;simp only[D.noX];exact QlD λd hd=>QcI n d (h d hd)
section
variable {X:Cx}{pins:List (Addr×Obj)}{σ:L2.St}{H:Hp}{s:Shared}
mutual
def Rp.reads(I:Inv X pins σ H s):∀{d:D}{v:V}{F:LAd}{u:Value},d.noX=true->Rp X.K H d v F->RelV v u->∃as,Reads s.heap u d.py as
 | .exc _,v,_,u,hx,h,r=>by cases hx
 | .dk _,v,_,u,hx,h,r=>by cases hx
 | .non,v,_,u,hx,h,r=>by
  rw[h.QfS]at r;cases(show u=Value.none from r);exact⟨_,.none⟩
 | .bl b,v,_,u,hx,h,r=>by
  rw[h.Qc5]at r;cases(show u=Value.bool b from r);exact⟨_,.bool b⟩
 | .int i,v,_,u,hx,h,r=>by
  rw[h.int_inv]at r;obtain⟨t,rfl⟩:=(show ∃t,u=Value.int i t from r);exact⟨_,.int i t⟩
 | .str i,v,_,u,hx,h,r=>by
  rw[h.str_inv]at r;obtain⟨t,rfl⟩:=(show ∃t,u=Value.str i t from r);exact⟨_,.str i t⟩
 | .tup ds,v,_,u,hx,h,r=>by
  obtain⟨a,vs,rfl,hq,rs⟩:=h.QbF;cases(show u=Value.ref a from r);obtain⟨its,rv,⟨o,h1,h2,n,h3⟩,_⟩:=I.tuple hq;obtain⟨as,ra⟩:=Rps.reads I (by simpa only[D.noX]using hx) rs rv;exact⟨_,.tuple h1 h2 h3 (by simpa using ra)⟩
 | .lst ds,v,_,u,hx,h,r=>by
  simp only[Rp]at h;obtain⟨hz,a,vs,rfl,h⟩:=h;have key:∃G,(H a=some (.lst vs)∨Fix X.K H a vs)/\Rps X.K H ds vs G:=by
   rcases h with⟨G,_,q,rs⟩ | ⟨q,rs⟩
   .exact⟨G,.inl q,rs⟩
   .exact⟨_,.inr q,rs⟩
  obtain⟨G,hq,rs⟩:=key;cases(show u=Value.ref a from r);obtain⟨_,its,n,rv,_,e⟩:=I.Ql3 hq;obtain⟨as,ra⟩:=Rps.reads I (by simpa only[D.noX]using hx) rs rv;exact⟨_,.list e rfl rfl (by simpa using ra)⟩
def Rps.reads(I:Inv X pins σ H s):∀{ds:List D}{vs:List V}{F:LAd}{us:List Value},Qj5 ds=true->Rps X.K H ds vs F->QH vs us->∃as,ReadsAll s.heap us (pys ds) as
 | [],vs,_,us,_,h,r=>by
  simp only[Rps]at h;rw[h.1]at r;cases r;exact⟨_,.nil⟩
 | d::ds,vs,_,us,hx,h,r=>by
  simp only[Qj5,Zf]at hx;simp only[Rps]at h;obtain⟨v,ws,F1,F2,rfl,rfl,h1,h2⟩:=h;cases r with
  | cons r rr=>
   obtain⟨as,ra⟩:=Rp.reads I hx.1 h1 r;obtain⟨bs,rb⟩:=Rps.reads I hx.2 h2 rr;exact⟨_,.cons ra rb⟩
end
end
noncomputable def gEq(a b:D):Option D:=if a.sim 8 && b.sim 8 then some (.bl (deq a b))else none
noncomputable def gNe(a b:D):Option D:=if a.sim 8 && b.sim 8 then some (.bl (!deq a b))else none
noncomputable def QqB(neg:Bool)(a b:D):Option D:=match a,b with
 | .str x,.str y=>some (.bl (if neg then !(!(Builtin.Str.occurrences y x 0 y.length 1).isEmpty)else !(Builtin.Str.occurrences y x 0 y.length 1).isEmpty))
 | _,_=>none
noncomputable def Qnx(neg:Bool):R2:=λx y H Q=>∃i j,x= .str i/\y= .str j/\Q (.bl (if neg then !(!(Builtin.Str.occurrences j i 0 j.length 1).isEmpty)else !(Builtin.Str.occurrences j i 0 j.length 1).isEmpty)) H
def QyZ{X:Cx}:OpR X (compareOp .In) (Qnx false):=QrI
def QvF{X:Cx}:OpR X (compareOp .NotIn) (Qnx true):=Qnp
def Qxi{K:Fgg}{neg:Bool}:Qb6 K (QqB neg) (Qnx neg):=λa b d e=>by
 unfold QqB at e;split at e
 .cases e;exact⟨rfl,λH x y F G Q ha hb q=>⟨_,_,ha.str_inv,hb.str_inv,q _ λ_=> .Qbt⟩⟩
 .cases e
noncomputable def gIn(neg:Bool)(a b:D):Option D:=match b with
 | .lst xs=>if a.sim 8 && b.sim 8 then some (.bl (if neg then !(xs.any λy=>deq y a)else xs.any λy=>deq y a))else none
 | .tup xs=>if a.sim 8 && b.sim 8 then some (.bl (if neg then !(xs.any λy=>deq y a)else xs.any λy=>deq y a))else none
 | .str _=>QqB neg a b
 | _=>none
def QqN{neg:Bool}:∀a b d,gIn neg a b=some d->∃k,d= .bl k:=λa b d h=>by
 unfold gIn at h;split at h
 .split at h<;>cases h;exact⟨_,rfl⟩
 .split at h<;>cases h;exact⟨_,rfl⟩
 .unfold QqB at h;split at h;(cases h;exact⟨_,rfl⟩);cases h
 .cases h
noncomputable def Qxf(K:Fgg):R2:=λx y H Q=>∃a b F G,Rp K H a x F/\Rp K H b y G/\a.sim 8=true/\b.sim 8=true/\Q (.bl (deq a b)) H
noncomputable def Qy7(K:Fgg):R2:=λx y H Q=>∃a b F G,Rp K H a x F/\Rp K H b y G/\a.sim 8=true/\b.sim 8=true/\Q (.bl (!deq a b)) H
section
variable {X:Cx}
def Qxd(hu:X.A.units+64<cLine):OpR X (compareOp .Eq) (Qxf X.K):=by
 intro pins s σ H x y v u Q I rx ry h;obtain⟨a,b,F,G,ha,hb,sa,sb,q⟩:=h;obtain⟨as,ra⟩:=Rp.reads I (QcI 8 _ sa) ha rx;obtain⟨bs,rb⟩:=Rp.reads I (QcI 8 _ sb) hb ry;have h1:=Qch 8 a sa;have h2:=Qch 8 b sb;exact SeqAt.compareEq_reads ra rb h1.1 h2.1 (by have:=Nat.min_le_left a.py.depth b.py.depth;omega) ⟨.bl _,H,I,rfl,q⟩
def Qy2(hu:X.A.units+64<cLine):OpR X (compareOp .NotEq) (Qy7 X.K):=by
 intro pins s σ H x y v u Q I rx ry h;obtain⟨a,b,F,G,ha,hb,sa,sb,q⟩:=h;obtain⟨as,ra⟩:=Rp.reads I (QcI 8 _ sa) ha rx;obtain⟨bs,rb⟩:=Rp.reads I (QcI 8 _ sb) hb ry;have h1:=Qch 8 a sa;have h2:=Qch 8 b sb;exact SeqAt.compareNe_reads ra rb h1.1 h2.1 (by have:=Nat.min_le_left a.py.depth b.py.depth;omega) ⟨.bl _,H,I,rfl,q⟩
def QAt:Qb6 K gEq (Qxf K):=λa b d e=>by
 unfold gEq at e;split at e
 .rename_i h;simp only[Zf]at h;cases e;exact⟨rfl,λH x y F G Q ha hb q=>⟨a,b,F,G,ha,hb,h.1,h.2,q _ λ_=> .Qbt⟩⟩
 .cases e
def Qzv:Qb6 K gNe (Qy7 K):=λa b d e=>by
 unfold gNe at e;split at e
 .rename_i h;simp only[Zf]at h;cases e;exact⟨rfl,λH x y F G Q ha hb q=>⟨a,b,F,G,ha,hb,h.1,h.2,q _ λ_=> .Qbt⟩⟩
 .cases e
noncomputable def Qs6(K:Fgg)(neg:Bool):R2:=λx y H Q=>∃a b F G xs,Rp K H a x F/\Rp K H b y G/\a.sim 8=true/\b.sim 8=true/\(b= .lst xs∨b= .tup xs)/\Q (.bl (if neg then !(xs.any λy=>deq y a)else xs.any λy=>deq y a)) H
noncomputable def Qlq(K:Fgg)(neg:Bool):R2:=λx y H Q=>Qs6 K neg x y H Q
 ∨Qnx neg x y H Q
def inS{K:Fgg}{neg:Bool}{x y:V}{H:Hp}{Q:VK}(h:Qs6 K neg x y H Q):Qlq K neg x y H Q:=by first | exact h | exact .inl h
def Qrd{K:Fgg}{neg:Bool}{x y:V}{H:Hp}{Q:VK}{P:Prop}(h:Qlq K neg x y H Q)(h1:Qs6 K neg x y H Q->P)
 (h3:Qnx neg x y H Q->P)
 :P:=by
 unfold Qlq at h
 first
  | exact h1 h
  | exact h.elim h1 h3
  | exact h.elim h1 λh=>h.elim h2 h3
def QqY(xs:List D)(a:D):((pys xs).any λy=>PyData.eqv y a.py)=xs.any λy=>deq y a:=by
 rw[QpM,ZaS];rfl
def Qzb(hu:X.A.units+64<cLine):OpR X (compareOp .In) (Qlq X.K false):=by
 intro pins s σ H x y v u Q I rx ry h
 refine Qrd h (λh=>?_)
  (QyZ pins s σ H x y v u Q I rx ry)
 obtain⟨a,b,F,G,xs,ha,hb,sa,sb,hk,q⟩:=h;obtain⟨as,ra⟩:=Rp.reads I (QcI 8 _ sa) ha rx;obtain⟨bs,rb⟩:=Rp.reads I (QcI 8 _ sb) hb ry;have h1:=Qch 8 a sa;have h2:=Qch 8 b sb;have q':Q (.bl ((pys xs).any λy=>PyData.eqv y a.py)) H:=by rw[QqY];exact q
 rcases hk with rfl | rfl
 .exact SeqAt.in_list_reads rb ra h2.1 h1.1 (by have:=ZaY (PyData.depthAll (pys xs)) a.py.depth;omega) ⟨.bl _,H,I,rfl,q'⟩
 .exact SeqAt.in_tuple_reads rb ra h2.1 h1.1 (by have:=ZaY (PyData.depthAll (pys xs)) a.py.depth;omega) ⟨.bl _,H,I,rfl,q'⟩
def Qsd(hu:X.A.units+64<cLine):OpR X (compareOp .NotIn) (Qlq X.K true):=by
 intro pins s σ H x y v u Q I rx ry h
 refine Qrd h (λh=>?_)
  (QvF pins s σ H x y v u Q I rx ry)
 obtain⟨a,b,F,G,xs,ha,hb,sa,sb,hk,q⟩:=h;obtain⟨as,ra⟩:=Rp.reads I (QcI 8 _ sa) ha rx;obtain⟨bs,rb⟩:=Rp.reads I (QcI 8 _ sb) hb ry;have h1:=Qch 8 a sa;have h2:=Qch 8 b sb;have q':Q (.bl (!(pys xs).any λy=>PyData.eqv y a.py)) H:=by rw[QqY];exact q
 rcases hk with rfl | rfl
 .exact SeqAt.notIn_list_reads rb ra h2.1 h1.1 (by have:=ZaY (PyData.depthAll (pys xs)) a.py.depth;omega) ⟨.bl _,H,I,rfl,q'⟩
 .exact SeqAt.notIn_tuple_reads rb ra h2.1 h1.1 (by have:=ZaY (PyData.depthAll (pys xs)) a.py.depth;omega) ⟨.bl _,H,I,rfl,q'⟩
def QuC:Qb6 K (gIn neg) (Qlq K neg):=λa b d e=>by
 unfold gIn at e;split at e
 .split at e
  .rename_i h;simp only[Zf]at h;cases e;exact⟨rfl,λH x y F G Q ha hb q=>inS ⟨a,_,F,G,_,ha,hb,h.1,h.2,.inl rfl,q _ λ_=> .Qbt⟩⟩
  .cases e
 .split at e
  .rename_i h;simp only[Zf]at h;cases e;exact⟨rfl,λH x y F G Q ha hb q=>inS ⟨a,_,F,G,_,ha,hb,h.1,h.2,.inr rfl,q _ λ_=> .Qbt⟩⟩
  .cases e
 .obtain⟨h1,h2⟩:=Qxi (K:=K) _ _ _ e;exact⟨h1,λH x y F G Q ha hb q=>by have:=h2 H x y F G Q ha hb q;first | exact .inr this | exact .inr (.inr this)⟩
 .cases e
noncomputable def D.Qqg:D->Bool
 | .non=>true
 | _=>false
def QpQ(h:Rp K H d v F):decide (v= .non)=d.Qqg:=by
 cases d with
 | non=>rw[h.QfS];rfl
 | bl b=>rw[h.Qc5];rfl
 | int b=>rw[h.int_inv];rfl
 | str b=>rw[h.str_inv];rfl
 | tup b=>obtain⟨a,vs,rfl,_⟩:=h.QbF;rfl
 | lst b=>obtain⟨a,vs,G,rfl,_⟩:=h.lst_inv;rfl
 | exc b=>simp only[Rp]at h;obtain⟨⟨a,rfl,_⟩,_⟩:=h;rfl
 | dk b=>simp only[Rp]at h;obtain⟨a,rfl,_⟩:=h;rfl
noncomputable def D.tyN:D->String
 | .non=> "NoneType" | .bl _=> "bool" | .int _=> "int" | .str _=> "str" | .tup _=> "tuple" | .lst _=> "list" | .exc _=> "?" | .dk _=> "?"
noncomputable def D.isE:D->Bool
 | .exc _=>true
 | .dk _=>true
 | _=>false
noncomputable def D.isa(T:String)(d:D):Option Bool:=if(T == "int" || T == "bool" || T == "list" || T == "tuple" || T == "str") && !d.isE then some (d.tyN == T || (d.tyN == "bool" && T == "int"))else none
def QyW(I:Inv X pins σ H s)(rp:Rp X.K H d v F)(rx:RelV v u)(e:d.isa T=some b)(h:∀tk,Q (.bool b) {s with toks:=tk}):
  wpAny (model X.prog X.w) A (call (.builtin "isinstance") [u,.type T]) Q E s:=by
 have kit:PySem.W.kitOne X.K (.type d.tyN) (.type T)=some b:=by
  unfold D.isa at e;split at e
  .rename_i hT;cases e;simp only[Zf,ZaM,beq_iff_eq]at hT;obtain⟨hT,hE⟩:=hT;rcases hT with(((rfl | rfl) | rfl) | rfl) | rfl<;>cases d<;>first | rfl | (cases hE)
  .cases e
 cases d with
 | exc x=>unfold D.isa at e;split at e;(rename_i hT;exfalso;simp only[Zf]at hT;exact nomatch hT.2);cases e
 | dk x=>unfold D.isa at e;split at e;(rename_i hT;exfalso;simp only[Zf]at hT;exact nomatch hT.2);cases e
 | non=>rw[rp.QfS]at rx;cases(show u=Value.none from rx);exact Zar PySem.W.kitx_none I.kIn True.intro kit (λz=>nomatch z) h
 | bl y=>rw[rp.Qc5]at rx;cases(show u=Value.bool y from rx);exact Zar PySem.W.kitx_bool I.kIn True.intro kit (λz=>nomatch z) h
 | int i=>rw[rp.int_inv]at rx;obtain⟨t,q⟩:=(show ∃t,u=Value.int i t from rx);cases q;exact Zar PySem.W.kitx_int I.kIn True.intro kit (λz=>nomatch z) h
 | str y=>rw[rp.str_inv]at rx;obtain⟨t,q⟩:=(show ∃t,u=Value.str y t from rx);cases q;exact Zar PySem.W.kitx_str I.kIn True.intro kit (λz=>nomatch z) h
 | tup ds=>
  obtain⟨a,vs,rfl,hq,_⟩:=rp.QbF;cases(show u=Value.ref a from rx);obtain⟨its,rv,⟨o,h1,h2,n,h3⟩,_⟩:=I.tuple hq;exact Zar PySem.W.kitx_tuple I.kIn ⟨o,h1,h2⟩ kit (λz=>nomatch z) h
 | lst ds=>
  obtain⟨a,vs,G,rfl,hq,_⟩:=rp.lst_inv;cases(show u=Value.ref a from rx);obtain⟨_,its,n,rv,_,e1⟩:=I.Ql3 hq;exact Zar PySem.W.kitx_list I.kIn ⟨_,e1,rfl⟩ kit (λz=>nomatch z) h
def QAH(K:Fgg):List V->Hp->VK->Prop:=λxs H Q=>∃x T d F b,xs=[x,.ty T]/\Rp K H d x F/\d.isa T=some b/\Q (.bl b) H
def QsQ:Qbo X (.builtin "isinstance") (QAH X.K):=by
 intro pins s σ H xs us Q I r h;obtain⟨x,T,d,F,b,rfl,rp,e,q⟩:=h;obtain⟨u,w,rfl,ru,rw'⟩:=vals2 r;cases(show w=Value.type T from rw');exact QyW I rp ru e λtk=>⟨.bl b,H,I.tok _,rfl,q⟩
noncomputable def QcM(T:String)(fa:DE):DE:=λρ=>(fa ρ).bind λr=>(r.d.isa T).map λb=>⟨.bl b,true,[]⟩
def QxZ(hg:Gl X "isinstance")(hm:X.mg "isinstance" =none)(ha:SE X a fa)(hT:PE X (.Name x p2) (tC (.ty T)))
  (he:starEach [a,.Name x p2] X.env=(false,eval a X.env)::starEach [.Name x p2] X.env):SE X (.Call (.Name "isinstance" p) [a,.Name x p2] [] pos) (QcM T fa):=λH0 A0=>
 (QjY QsQ hg hm Zbg (QbG (ha H0 A0) (QbG hT Qek) he) ∅ ∅ he (by rfl)).mono λσ H Q=>exK λρ hs F r' rel e q=>by
  refine Qi e λr e1 e=>?_;obtain⟨b,eb,e⟩:=Zb.mp e;subst e;exact⟨ρ,hs,F,r,rel,e1,λv H1 G p=>⟨v,T,r.d,G,b,rfl,p.rp,eb,q _ H1 [] (.flat p.same .Qbt)⟩⟩
noncomputable def D.tru:D->Option Bool
 | .non=>some false
 | .bl b=>some b
 | .int i=>some (i != 0)
 | .lst xs=>some (!xs.isEmpty)
 | .tup xs=>some (!xs.isEmpty)
 | .str x=>if x.length<=sizeLine then some ((x.length:Int) != 0)else none
 | .exc _=>none
 | .dk _=>none
def QmW(h:Rp K H d v F)(e:d.tru=some b):Qtl K v H b:=by
 have emp:∀{ds:List D}{vs:List V}{G:LAd},Rps K H ds vs G->(!ds.isEmpty)= !vs.isEmpty:=λ{ds vs G} r=>by
  have:=r.length;cases ds<;>cases vs<;>simp_all
 cases d with
 | non=>rw[h.QfS];cases e;exact rfl
 | bl c=>rw[h.Qc5];cases e;exact rfl
 | int i=>rw[h.int_inv];cases e;exact rfl
 | str i=>
  rw[h.str_inv];have e:(if i.length<=sizeLine then some ((i.length:Int) != 0)else none)=some b:=e;split at e
  .cases e;rename_i hz;exact⟨hz,rfl⟩
  .cases e
 | exc i=>cases e
 | dk i=>cases e
 | tup ds=>cases e;obtain⟨a,vs,rfl,hq,r⟩:=h.QbF;exact .inr (.inl ⟨vs,hq,emp r⟩)
 | lst ds=>cases e;obtain⟨a,vs,G,rfl,hq,r,_⟩:=h.lst_inv;exact .inl ⟨vs,QaP hq,emp r⟩
noncomputable def Qf(fa:DE):DT:=λρ=>(fa ρ).bind λr=>r.d.tru
noncomputable def QeY(f g:DT):DT:=λρ=>(f ρ).bind λb=>if b=true then g ρ else some false
noncomputable def bOr(f g:DT):DT:=λρ=>(f ρ).bind λb=>if b=true then some true else g ρ
noncomputable def Qcs(f:DT):DT:=λρ=>(f ρ).bind λb=>some (!b)
def SW(X:Cx)(e:Expr)(f:DT):Prop:=∀H0 A0,PW X e (tVT X.K H0 A0 f)
def _root_.L2.PW.mono(h:PW X e t)(m:∀σ H Q,t' σ H Q->t σ H Q):PW X e t':=λwh pins s σ H Q I q=>h wh pins s σ H Q I (m σ H Q q)
variable {a b e:Expr}{fa fb:DE}{ga gb gc:DT}{pos:Pos}{rest:List Expr}
def Qsb(ha:SE X a fa)(he:∀whole,isTrue a X.env whole=(do let v ← whole;standAt a.pos;holding [v] (truthy v))):ST X a (Qf fa):=λH0 A0=>
 (QsN (ha H0 A0) he).mono λσ H Q=>exK λρ hs F b rel e q=>by
  refine Qi e λr e1 e=>?_;exact⟨ρ,hs,F,r,rel,e1,λv H1 G p=>⟨b,QmW p.rp e,q H1 p.same⟩⟩
def QyN(ho:OpR X (compareOp op) r)(hg:Qb6 X.K g r)(hbl:∀a b d,g a b=some d->∃k,d= .bl k)(ha:SE X a fa)(hb:SE X b fb)(hm:behindInMarks op b=false):ST X (.Compare a [op] [b] pos) (Qf (dOp g fa fb)):=λH0 A0=>
 (Qvc ho (ha H0 A0) (hb H0 A0) hm).mono λσ H Q=>exK λρ hs F k rel e q=>by
  refine Qi e λr' e0 e=>?_;obtain⟨ra,rb,d,ea,eb,eg,rfl⟩:=Ql4 e0;obtain⟨k',rfl⟩:=hbl _ _ _ eg;cases e;refine two rel ea eb λx y H1 H2 G1 G2 p1 p2=>(hg _ _ _ eg).2 H2 x y G1 G2 _ (p1.rp.same p2.same) p2.rp λv hv=>?_;exact⟨_,(hv H2).Qc5,q H2 (p1.same.trans p2.same)⟩
def Qrx(ha:ST X a ga):ST X (.UnaryOp .Not a pos) (Qcs ga):=λH0 A0=>
 (Qx8 (ha H0 A0)).mono λσ H Q=>exK λρ hs F b rel e q=>by
  refine Qi e λc e1 e=>?_;cases e;exact⟨ρ,hs,F,c,rel,e1,λH1 s1=>q H1 s1⟩
def Qwu(ha:ST X a ga):SW X (.BoolOp .And [a] pos) ga:=λH0 A0=>QvW (ha H0 A0)
def QrM(ha:ST X a ga):SW X (.BoolOp .Or [a] pos) ga:=λH0 A0=>Qyp (ha H0 A0)
def QxL(ha:ST X a ga)(hb:SW X (.BoolOp .And (b::rest) pos) gb):SW X (.BoolOp .And (a::b::rest) pos) (QeY ga gb):=λH0 A0=>
 (Qyd (ha H0 A0) (hb H0 A0)).mono λσ H Q=>exK λρ hs F c rel e q=>by
  refine Qi e λd e1 e=>?_;refine⟨ρ,hs,F,d,rel,e1,λH1 s1=>?_⟩;cases d with
  | true=>exact⟨ρ,hs,F,c,rel.ext s1,e,λH2 s2=>q H2 (s1.trans s2)⟩
  | false=>cases e;exact q H1 s1
def Quy(ha:ST X a ga)(hb:SW X (.BoolOp .Or (b::rest) pos) gb):SW X (.BoolOp .Or (a::b::rest) pos) (bOr ga gb):=λH0 A0=>
 (Qz9 (ha H0 A0) (hb H0 A0)).mono λσ H Q=>exK λρ hs F c rel e q=>by
  refine Qi e λd e1 e=>?_;refine⟨ρ,hs,F,d,rel,e1,λH1 s1=>?_⟩;cases d with
  | true=>cases e;exact q H1 s1
  | false=>exact⟨ρ,hs,F,c,rel.ext s1,e,λH2 s2=>q H2 (s1.trans s2)⟩
def SW.st(h:SW X e ga):ST X e ga:=λH0 A0=>(h H0 A0).pt
noncomputable def QtF(fa fb:DE):DE:=λρ=>(fa ρ).bind λra=>(ra.d.tru).bind λb=>if b=true then fb ρ else some ra
noncomputable def dOr(fa fb:DE):DE:=λρ=>(fa ρ).bind λra=>(ra.d.tru).bind λb=>if b=true then some ra else fb ρ
noncomputable def Qtg(fa:DE):DE:=λρ=>(fa ρ).bind λra=>(ra.d.tru).bind λb=>some ⟨.bl (!b),true,[]⟩
noncomputable def dIf(g:DT)(fa fb:DE):DE:=λρ=>(g ρ).bind λb=>if b=true then fa ρ else fb ρ
def Qoo{op}(h:SE X a fa):SE X (.BoolOp op [a] pos) fa:=λH0 A0=>Qx4 (h H0 A0)
def Qae.ext(s:QJ H H1)(p:Qae K ρ F H1 H2 r v G)(rel:Rel K H0 A0 hs ρ F σ H):Qae K ρ F H H2 r v G where
 same:=s.trans p.same
 rp:=p.rp
 src:=λa ha=>(p.src a ha).elim (λz=> .inl (s.free z)) .inr
 cnt:=λh=>⟨λa=>Zx ((p.cnt h).1 a) (Zbd (by
  cases q:H1 a with
  | none=>rw[QbH q,QbH (s.free q)];exact Ze _
  | some o=>rw[QeQ q];exact ZQ _) _),(p.cnt h).2⟩
 own:=p.own
def Qq3(ha:SE X a fa)(hb:SE X (.BoolOp .And (b::rest) pos) fb):SE X (.BoolOp .And (a::b::rest) pos) (QtF fa fb):=λH0 A0=>by
 intro pins s σ H Q I ⟨ρ,hs,F,r,rel,e,q⟩;refine Qi e λra e1 e=>?_;refine Qi e λc e2 e=>?_;refine PyProof.Rows.BoolOp_and (thn (ha H0 A0 pins s σ H _ I ⟨ρ,hs,F,ra,rel,e1,λv H' G p=>(⟨G,p⟩:∃G,Qae X.K ρ F H H' ra v G)⟩) λv s1 Z=>?_);obtain⟨x,H1,I1,r1,G,p⟩:=Z;refine thn (QkE pins s1 σ H1 x v (λk H2=>k=c/\H2=H1) I1 r1 ⟨c,QmW p.rp e2,rfl,rfl⟩) λk s2 Z=>?_;obtain⟨H2,I2,e3,e4⟩:=Z;subst e3 e4;cases k with
 | true=>exact hb H0 A0 pins s2 σ _ Q I2 ⟨ρ,hs,F,r,rel.ext p.same,e,λw H3 G3 p3=>q w H3 G3 (p3.ext p.same rel)⟩
 | false=>cases e;exact⟨x,_,I2,r1,q x _ G p⟩
def QAw(ha:SE X a fa)(hb:SE X (.BoolOp .Or (b::rest) pos) fb):SE X (.BoolOp .Or (a::b::rest) pos) (dOr fa fb):=λH0 A0=>by
 intro pins s σ H Q I ⟨ρ,hs,F,r,rel,e,q⟩;refine Qi e λra e1 e=>?_;refine Qi e λc e2 e=>?_;refine PyProof.Rows.BoolOp_or (thn (ha H0 A0 pins s σ H _ I ⟨ρ,hs,F,ra,rel,e1,λv H' G p=>(⟨G,p⟩:∃G,Qae X.K ρ F H H' ra v G)⟩) λv s1 Z=>?_);obtain⟨x,H1,I1,r1,G,p⟩:=Z;refine thn (QkE pins s1 σ H1 x v (λk H2=>k=c/\H2=H1) I1 r1 ⟨c,QmW p.rp e2,rfl,rfl⟩) λk s2 Z=>?_;obtain⟨H2,I2,e3,e4⟩:=Z;subst e3 e4;cases k with
 | false=>exact hb H0 A0 pins s2 σ _ Q I2 ⟨ρ,hs,F,r,rel.ext p.same,e,λw H3 G3 p3=>q w H3 G3 (p3.ext p.same rel)⟩
 | true=>cases e;exact⟨x,_,I2,r1,q x _ G p⟩
def Qro(ha:SE X a fa):SE X (.UnaryOp .Not a pos) (Qtg fa):=λH0 A0=>by
 intro pins s σ H Q I ⟨ρ,hs,F,r,rel,e,q⟩;refine Qi e λra e1 e=>?_;refine Qi e λc e2 e=>?_;cases e;refine PyProof.Rows.UnaryOp_ (thn (ha H0 A0 pins s σ H _ I ⟨ρ,hs,F,ra,rel,e1,λv H' G p=>(⟨G,p⟩:∃G,Qae X.K ρ F H H' ra v G)⟩) λv s1 Z=>?_);obtain⟨x,H1,I1,r1,G,p⟩:=Z;refine PyProof.Rows.not_of (thn (QkE pins s1 σ H1 x v (λk H2=>k=c/\H2=H1) I1 r1 ⟨c,QmW p.rp e2,rfl,rfl⟩) λk s2 Z=>?_);obtain⟨H2,I2,e3,e4⟩:=Z;subst e3 e4;exact⟨.bl (!k),_,I2,rfl,q _ _ [] (.flat p.same .Qbt)⟩
def Qzw(hc:ST X c gc)(ha:SE X a fa)(hb:SE X b fb):SE X (.IfExp c a b pos) (dIf gc fa fb):=λH0 A0=>
 (QhN (hc H0 A0) (ha H0 A0) (hb H0 A0)).mono λσ H Q=>exK λρ hs F r rel e q=>by
  refine Qi e λc e1 e=>?_;refine⟨ρ,hs,F,c,rel,e1,λH1 s1=>?_⟩;cases c with
  | true=>exact⟨ρ,hs,F,r,rel.ext s1,e,λv H2 G p=>q v H2 G (p.ext s1 rel)⟩
  | false=>exact⟨ρ,hs,F,r,rel.ext s1,e,λv H2 G p=>q v H2 G (p.ext s1 rel)⟩
noncomputable def Qy9(fa:DE):DE:=λρ=>(fa ρ).bind λra=>match ra.d with
 | .int i=>some ⟨.int (-i),true,[]⟩
 | _=>none
def Qw8(ha:SE X a fa):SE X (.UnaryOp .USub a pos) (Qy9 fa):=λH0 A0=>
 (QzY Qxc (ha H0 A0)).mono λσ H Q=>exK λρ hs F r rel e q=>by
  refine Qi e λra e1 e=>?_;refine⟨ρ,hs,F,ra,rel,e1,λv H1 G p=>?_⟩;have rp:=p.rp;cases hr:ra.d with
  | int i=>
   rw[hr]at e rp;cases e;exact⟨i,rp.int_inv,q _ H1 [] (.flat p.same .int_mk)⟩
  | _=>rw[hr]at e;cases e
end
end HS
namespace HS
open PySem PySem.Spec L2
section
def Qdg(ρ ρ':En):Prop:=ρ'.length=ρ.length/\∀(i:Nat) d b,ρ'[i]? =some (some (d,b))->∃b',ρ[i]? =some (some (d,b'))/\(b=true->b'=true)
def Qdg.refl:Qdg ρ ρ:=⟨rfl,λi d b h=>⟨b,h,id⟩⟩
def Qdg.trans(a:Qdg ρ ρ')(b:Qdg ρ' ρ''):Qdg ρ ρ'':=⟨b.1.trans a.1,λi d c h=>by
 obtain⟨c',h1,h2⟩:=b.2 i d c h;obtain⟨c'',h3,h4⟩:=a.2 i d c' h1;exact⟨c'',h3,λz=>h4 (h2 z)⟩⟩
def Rel.weak(r:Rel K H0 A0 hs ρ F σ H)(w:Qdg ρ ρ'):Rel K H0 A0 hs ρ' F σ H where
 len:=w.1.trans r.len
 val:=λi d b e=>let ⟨b',h,_⟩:=w.2 i d b e;r.val i d b' h
 own:=λi d e=>by
  obtain⟨b',h,hb⟩:=w.2 i d true e;have:b'=true:=hb rfl;subst this;obtain⟨h1,h2,h3,h4,h5⟩:=r.own i d h;exact⟨h1,h2,h3,λj d' b' hj e'=>let ⟨b'',h',_⟩:=w.2 j d' b' e';h4 j d' b'' hj h',h5⟩
 src:=λi d b e=>let ⟨b',h,_⟩:=w.2 i d b e;r.src i d b' h
 held:=r.held
 same:=r.same
noncomputable def kill:List Nat->En->En
 | [],ρ=>ρ
 | i::M,ρ=>kill M (ρ.set i none)
noncomputable def Qcj:List Nat->En->En
 | [],ρ=>ρ
 | i::M,ρ=>Qcj M (match ρ[i]? with
  | some (some (d,_))=>ρ.set i (some (d,false))
  | _=>ρ)
def Qgy(i:Nat):Qdg ρ (ρ.set i none):=⟨⋯,λj d b h=>by
 by_cases hj:i=j
 .subst hj;by_cases hl:i<ρ.length
  .rw[Zp hl]at h;cases h
  .rw[ZD (by simp;omega)]at h;cases h
 .rw[Zl hj]at h;exact⟨b,h,id⟩⟩
def Qc4:∀(M:List Nat) (ρ:En),Qdg ρ (kill M ρ)
 | [],ρ=> .refl
 | i::M,ρ=>(Qgy i).trans (Qc4 M _)
def Qiz:∀(M:List Nat) (ρ:En) (i:Nat) (d:D) (b:Bool),i∈M->(kill M ρ)[i]? =some (some (d,b))->False
 | [],ρ,i,d,b,h,_=>by simp at h
 | j::M,ρ,i,d,b,h,e=>by
  rcases Zn.mp h with rfl | h
  .obtain⟨b',e',_⟩:=(Qc4 M (ρ.set i none)).2 i d b e;by_cases hl:i<ρ.length
   .rw[Zp hl]at e';cases e'
   .rw[ZD (by simp;omega)]at e';cases e'
  .exact Qiz M _ i d b h e
def QtY(i:Nat):Qdg ρ (match ρ[i]? with
  | some (some (d,_))=>ρ.set i (some (d,false))
  | _=>ρ):=by
 split
 .rename_i d b e;refine⟨⋯,λj d' b' h=>?_⟩;by_cases hj:i=j
  .subst hj;have hl:i<ρ.length:=(Zj.mp e).1;rw[Zp hl]at h;cases h;exact⟨b,e,λz=>by cases z⟩
  .rw[Zl hj]at h;exact⟨b',h,id⟩
 .exact .refl
def Qcz:∀(M:List Nat) (ρ:En),Qdg ρ (Qcj M ρ)
 | [],ρ=> .refl
 | i::M,ρ=>(QtY i).trans (Qcz M _)
def QkG:∀(M:List Nat) (ρ:En) (i:Nat) (d:D),i∈M->(Qcj M ρ)[i]? =some (some (d,true))->False
 | [],ρ,i,d,h,_=>by simp at h
 | j::M,ρ,i,d,h,e=>by
  rcases Zn.mp h with rfl | h
  .obtain⟨b',e',hb⟩:=(Qcz M _).2 i d true e;have:b'=true:=hb rfl;subst this;split at e'
   .rename_i d' b e1;have hl:i<ρ.length:=(Zj.mp e1).1;rw[Zp hl]at e';cases e'
   .rename_i h1;exact h1 d true e'
  .exact QkG M _ i d h e
def Shr(H0:Hp)(A0:LAd)(ρ:En)(F:Nat->List Addr)(G:LAd):Prop:=
 ∀a∈G,(H0 a=none∨a∈A0)/\∀(i:Nat) d,ρ[i]? =some (some (d,true))->a∉F i
def Shr.of(r:Rel K H0 A0 hs ρ F σ H)(s:Src ρ F H M G):Shr H0 A0 (Qcj M ρ) F G:=λa ha=>by
 have w:=Qcz M ρ;rcases s a ha with h | ⟨i,d,b,e,m,hm⟩
 .refine⟨.inl (r.same.free h),λj d' e' hj=>?_⟩;obtain⟨b',e2,_⟩:=w.2 j d' true e';obtain⟨vs,q⟩:=r.mem e2 hj;rw[h]at q;cases q
 .refine⟨r.src i d b e a m,λj d' e' hj=>?_⟩;obtain⟨b',e2,hb⟩:=w.2 j d' true e';have:b'=true:=hb rfl;subst this;by_cases hij:i=j
  .subst hij;rw[e]at e2;cases e2;exact QkG M ρ i _ (hm rfl) e'
  .exact(r.own j d' e2).2.2.2.1 i d b hij e a hj m
def Rel.Qqb(r:Rel K H0 A0 hs ρ F σ H)(rp:Rp K H d v G)(sh:Shr H0 A0 ρ F G):
  Rel K H0 A0 hs (ρ.set i (some (d,d.flat))) (λj=>if j=i then G else F j) (σ.set i (some v)) H where
 len:=by simp[r.len]
 val:=λj d' b e=>by
  by_cases hj:j=i
  .subst hj;have hl:j<ρ.length:=by
    by_cases hl:j<ρ.length
    .exact hl
    .rw[ZD (by simp;omega)]at e;cases e
   rw[Zp hl]at e;cases e;exact⟨v,by rw[Zp (by rw[← r.len];exact hl)],by rw[if_pos rfl];exact rp⟩
  .rw[Zl (Ne.symm hj)]at e;obtain⟨w,h1,h2⟩:=r.val j d' b e;exact⟨w,by rw[Zl (Ne.symm hj)];exact h1,by rw[if_neg hj];exact h2⟩
 own:=λj d' e=>by
  by_cases hj:j=i
  .subst hj;have hl:j<ρ.length:=by
    by_cases hl:j<ρ.length
    .exact hl
    .rw[ZD (by simp;omega)]at e;cases e
   rw[Zp hl]at e;have e1:=Option.some.inj (Option.some.inj e);have ed:d=d':=congrArg Prod.fst e1;have ef:d.flat=true:=congrArg Prod.snd e1;subst ed;have:=rp.Qcd ef;subst this;rw[if_pos rfl];exact⟨(QdT d ef).symm,ZZ,λa ha=>by simp at ha,λ_ _ _ _ _ a ha=>by simp at ha,λ_ _ a ha=>by simp at ha⟩
  .rw[Zl (Ne.symm hj)]at e;obtain⟨h1,h2,h3,h4,h5⟩:=r.own j d' e;rw[if_neg hj];refine⟨h1,h2,h3,λk d'' b hk ek a ha=>?_,h5⟩;by_cases hki:k=i
   .subst hki;rw[if_pos rfl];exact λhG=>(sh a hG).2 j d' e ha
   .rw[Zl (Ne.symm hki)]at ek;rw[if_neg hki];exact h4 k d'' b hk ek a ha
 src:=λj d' b e a ha=>by
  by_cases hj:j=i
  .subst hj;rw[if_pos rfl]at ha;exact(sh a ha).1
  .rw[Zl (Ne.symm hj)]at e;rw[if_neg hj]at ha;exact r.src j d' b e a ha
 held:=r.held
 same:=r.same
def QAd(r:Rel K H0 A0 hs ρ F σ H)(ow:QbP ρ M)(nd:M.Nodup)(a:Addr):((M.map F).flatten).count a<=1:=by
 induction M with
 | nil=>simp
 | cons i M ih=>
  rw[Zs,ZW,ZX];obtain⟨h1,h2⟩:=Zap.mp nd;have ih':=ih (λj hj=>ow j (Zc _ hj)) h2;obtain⟨d,e⟩:=ow i Zw;obtain⟨_,nd1,_,apart,_⟩:=r.own i d e;by_cases ha:a∈F i
  .have c1:(F i).count a<=1:=Zah.mp nd1 a;have c2:((M.map F).flatten).count a=0:=ZN.mpr λhm=>by
    obtain⟨l,hl,hal⟩:=ZaX.mp hm;obtain⟨j,hj,rfl⟩:=Zz.mp hl;obtain⟨d',e'⟩:=ow j (Zc _ hj);exact apart j d' true (λz=>h1 (z▸hj)) e' a ha hal
   omega
  .have:(F i).count a=0:=ZN.mpr ha;omega
def Qae.fresh(r:Rel K H0 A0 hs ρ F σ H)(p:Qae K ρ F H H' rr v G)(hf:rr.fr=true)(nd:rr.M.Nodup):
  G.Nodup/\∀a∈G,H0 a=none/\(H a=none∨∃i d,i∈rr.M/\ρ[i]? =some (some (d,true))/\a∈F i):=by
 obtain⟨c,_⟩:=p.cnt hf;refine⟨Zah.mpr λa=>?_,λa ha=>?_⟩
 .have h1:=c a;have h2:=QAd r p.own nd a;cases q:H a with
  | none=>rw[QbH q,r.fl0 p.own q]at h1;omega
  | some o=>rw[QeQ q]at h1;omega
 .cases q:H a with
  | none=>exact⟨r.same.free q,.inl rfl⟩
  | some o=>
   have h1:=c a;rw[QeQ q]at h1;have h2:0<G.count a:=Zaf.mpr ha;obtain⟨l,hl,hal⟩:=ZaX.mp (Zaf.mp (by omega:0<((rr.M.map F).flatten).count a));obtain⟨i,hi,rfl⟩:=Zz.mp hl;obtain⟨d,e⟩:=p.own i hi;exact⟨(r.own i d e).2.2.1 a hal,.inr ⟨i,d,hi,e,hal⟩⟩
def Rel.QA6(r:Rel K H0 A0 hs ρ F σ H)(p:Qae K ρ F H H' rr v G)(hf:rr.fr=true)(nd:rr.M.Nodup):
  Rel K H0 A0 hs ((kill rr.M ρ).set i (some (rr.d,true))) (λj=>if j=i then G else F j) (σ.set i (some v)) H':=by
 have r1:=(r.ext p.same).weak (Qc4 rr.M ρ);obtain⟨gn,gs⟩:=p.fresh r hf nd;have gl:=(p.cnt hf).2;have apart:∀(j:Nat) d b,(kill rr.M ρ)[j]? =some (some (d,b))->∀a∈G,a∉F j:=λj d b e a ha hj=>by
  obtain⟨b',e',_⟩:=(Qc4 rr.M ρ).2 j d b e;rcases(gs a ha).2 with q | ⟨k,d',hk,ek,hak⟩
  .obtain⟨vs,w⟩:=r.mem e' hj;rw[q]at w;cases w
  .have hjk:j≠k:=λz=>by subst z;exact Qiz rr.M ρ j d b hk e
   exact(r.own k d' ek).2.2.2.1 j d b' hjk e' a hak hj
 have apartH:∀t∈hs,∀a∈G,a∉t.2.2:=λt ht a ha hj=>by
  rcases(gs a ha).2 with q | ⟨k,d',hk,ek,hak⟩
  .obtain⟨vs,w⟩:=(r.held t ht).1.mem a hj;rw[q]at w;cases w
  .exact(r.own k d' ek).2.2.2.2 t ht a hak hj
 have lt:∀{j:Nat}{x:Option (D×Bool)}{y:D×Bool},((kill rr.M ρ).set j x)[j]? =some (some y)->j<(kill rr.M ρ).length:=λ{j x y} e=>by
  by_cases hl:j<(kill rr.M ρ).length
  .exact hl
  .rw[ZD (by simp;omega)]at e;cases e
 refine⟨by simp[r1.len],λj d b e=>?_,λj d e=>?_,λj d b e a ha=>?_,r1.held,r1.same⟩
 .by_cases hj:j=i
  .subst hj;have hl:=lt e;rw[Zp hl]at e;cases e;exact⟨v,by rw[Zp (by rw[← r1.len];exact hl)],by rw[if_pos rfl];exact p.rp⟩
  .rw[Zl (Ne.symm hj)]at e;obtain⟨w,h1,h2⟩:=r1.val j d b e;exact⟨w,by rw[Zl (Ne.symm hj)];exact h1,by rw[if_neg hj];exact h2⟩
 .by_cases hj:j=i
  .subst hj;have hl:=lt e;rw[Zp hl]at e;cases e;rw[if_pos rfl];refine⟨gl,gn,λa ha=>(gs a ha).1,λk d' b hk ek a ha=>?_,apartH⟩;rw[Zl (Ne.symm hk)]at ek;rw[if_neg hk];exact apart k d' b ek a ha
  .rw[Zl (Ne.symm hj)]at e;obtain⟨h1,h2,h3,h4,h5⟩:=r1.own j d e;rw[if_neg hj];refine⟨h1,h2,h3,λk d' b hk ek a ha=>?_,h5⟩;by_cases hki:k=i
   .subst hki;rw[if_pos rfl];exact λhG=>apart j d true e a hG ha
   .rw[Zl (Ne.symm hki)]at ek;rw[if_neg hki];exact h4 k d' b hk ek a ha
 .by_cases hj:j=i
  .subst hj;rw[if_pos rfl]at ha;exact .inl (gs a ha).1
  .rw[Zl (Ne.symm hj)]at e;rw[if_neg hj]at ha;exact r1.src j d b e a ha
noncomputable def asg(i:Nat)(r:R)(ρ:En):En:=
 if r.norm.fr && decide r.norm.M.Nodup then(kill r.norm.M ρ).set i (some (r.d,true))else(Qcj r.norm.M ρ).set i (some (r.d,r.d.flat))
def Rel.asg(r:Rel K H0 A0 hs ρ F σ H)(p:Qae K ρ F H H' rr v G):∃F',Rel K H0 A0 hs (asg i rr ρ) F' (σ.set i (some v)) H':=by
 have p':=p.norm;unfold HS.asg;split
 .rename_i h;simp only[Zf,decide_eq_true_eq]at h;have:=r.QA6 (i:=i) p' h.1 h.2;rw[rr.Qfk]at this;exact⟨_,this⟩
 .have r1:=(r.ext p'.same).weak (Qcz rr.norm.M ρ);have rp:=p'.rp;rw[rr.Qfk]at rp;have sh:=Shr.of r p'.src;exact⟨_,r1.Qqb rp sh⟩
def Rel.hold(r:Rel K H0 A0 hs ρ F σ H)(h:∀t∈ts,Rp K H t.2.1 t.1 t.2.2/\Shr H0 A0 ρ F t.2.2):Rel K H0 A0 (ts++hs) ρ F σ H where
 len:=r.len
 val:=r.val
 own:=λi d e=>by
  obtain⟨h1,h2,h3,h4,h5⟩:=r.own i d e;refine⟨h1,h2,h3,h4,λt ht a ha hm=>?_⟩;rcases ZG.mp ht with z | z
  .exact((h t z).2 a hm).2 i d e ha
  .exact h5 t z a ha hm
 src:=r.src
 held:=λt ht=>by
  rcases ZG.mp ht with z | z
  .exact⟨(h t z).1,λa ha=>((h t z).2 a ha).1⟩
  .exact r.held t z
 same:=r.same
def Rel.Qnq(r:Rel K H0 A0 (ts++hs) ρ F σ H):Rel K H0 A0 hs ρ F σ H where
 len:=r.len
 val:=r.val
 own:=λi d e=>let ⟨h1,h2,h3,h4,h5⟩:=r.own i d e;⟨h1,h2,h3,h4,λt ht=>h5 t (Zg _ ht)⟩
 src:=r.src
 held:=λt ht=>r.held t (Zg _ ht)
 same:=r.same
end
structure Ret (K:Fgg) (H0:Hp) (A0:LAd) (d:D) (fr:Bool) (v:V) (H':Hp) (G:LAd):Prop where
 same:QJ H0 H'
 rp:Rp K H' d v G
 src:∀a∈G,H0 a=none∨a∈A0
 cnt:fr=true->G.Nodup/\G.length=d.nl/\∀a∈G,H0 a=none
noncomputable abbrev Den:=List D->Option (D×Bool)
noncomputable def spV(K:Fgg)(n:Nat)(den:Den):Sp:=λvs H Q _=>∃ds F d fr,Rps K H ds vs F/\ds.length=n/\den ds=some (d,fr)/\∀v H' G,Ret K H F d fr v H' G->Q v H'
def Qi3{K:Fgg}{n:Nat}{den:Den}{ps:List Str}(hn:ps.length=n):∀vs H Q E,spV K n den vs H Q E->vs.length=ps.length:=λvs H Q E ⟨ds,F,d,fr,r,hl,_⟩=>by rw[hn,← hl,r.length]
noncomputable def Ql(n:Nat)(den:Den)(dfl:List D)(fs:DA):DE:=λρ=>(fs ρ).bind λr=>if r.ds.length+dfl.length=n then(den (r.ds++dfl)).map λq=>if q.2=true then⟨q.1,true,[]⟩else R.norm ⟨q.1,false,r.M⟩else none
section
variable {X:Cx}{e:Expr}{es:List Expr}{fs:DA}{pos p:Pos}{x:Str}{n k:Nat}{f:Addr}{fd:FuncData}{ps:List Str}{den:Den}{dfl:List D}{dvs:List V}{ds:List Value}
def Qis{σ:L2.St}{H H0:Hp}{A0:LAd}{Q:VK}(hdf:∀H,Rps X.K H dfl dvs []):tV X.K H0 A0 (Ql n den dfl fs) σ H Q->Qqr (spV X.K n den) dvs E0 (tVA X.K H0 A0 fs) σ H Q:=exK λρ hs F r rel e q=>by
 refine Qi e λra e1 e=>?_;split at e
 .rename_i hl;obtain⟨⟨d,fr⟩,e2,e⟩:=Zb.mp e;refine⟨ρ,hs,F,ra,rel,e1,λvs H1 G p1=>⟨ra.ds++dfl,G++[],d,fr,p1.rp.append (hdf H1),by rw[Zd];exact hl,e2,λv H2 G2 rt=>?_⟩⟩;subst e;have src:Src ρ F H ra.M G2:=λa ha=>by
   rcases rt.src a ha with z | z
   .exact .inl (p1.same.free z)
   .rw[ZJ]at z;exact p1.src a z
  split at q
  .rename_i hf;have hf:fr=true:=hf;obtain⟨nd,hn,fresh⟩:=rt.cnt hf;have hH:∀a∈G2,H a=none:=λa ha=>p1.same.free (fresh a ha);refine q v H2 G2 ⟨p1.same.trans rt.same,rt.rp,λa ha=> .inl (hH a ha),λ_=>⟨λa=>?_,hn⟩,QbP.nil⟩;by_cases ha:a∈G2
   .rw[QbH (hH a ha)];have:=Zah.mp nd a;omega
   .rw[ZN.mpr ha];exact ZQ _
  .refine q v H2 G2 (Qae.norm ⟨p1.same.trans rt.same,rt.rp,src,λz=>(by cases z),p1.own⟩)
 .cases e
def Qwj(Fk:Qck X.prog X.w X.K X.mg X.base CX0 k f fd ps (spV X.K n den))(hr:Qa6 k X.A)(hg:Gl X x)(hm:X.mg x=some (.ref f))(hk:PySem.W.keepIn X.K (.ref f)=true)(hb:Binds X.K fd ps ds)(hd:QH dvs ds)(hdf:∀H,Rps X.K H dfl dvs [])
  (ha:SA X (e::es) fs) (hdb:(x == ("__debug__" :Str))=false) (he:starEach (e::es) X.env=(false,eval e X.env)::starEach es X.env) (hpl:(backTo pos (starEach es X.env)).any (·.1)=false):
  SE X (.Call (.Name x p) (e::es) [] pos) (Ql n den dfl fs):=λH0 A0=>
 (Qv1 Fk hr hg hm hk hb hd Qqq (ha H0 A0) hdb he hpl).mono λσ H Q h=>Qis hdf h
def QtV(Fk:Qck X.prog X.w X.K X.mg X.base CX0 k f fd ps (spV X.K n den))(hr:Qa6 k X.A)(hg:Gl X x)(hm:X.mg x=some (.ref f))(hk:PySem.W.keepIn X.K (.ref f)=true)(hb:Binds X.K fd ps ds)(hd:QH dvs ds)(hdf:∀H,Rps X.K H dfl dvs [])
  (hdb:(x == ("__debug__" :Str))=false):SE X (.Call (.Name x p) [] [] pos) (Ql n den dfl Qb):=λH0 A0=>
 (QsF Fk hr hg hm hk hb hd Qqq hdb).mono λσ H Q h=>by
  have h':=Qis hdf h;obtain⟨ρ,hs,F,r,rel,e,q⟩:=h';cases e;exact q [] H [] ⟨QJ.refl _,by simp[Rps],Src.nil,λ_=>⟨Cnt.nil,rfl⟩,QbP.nil⟩
end
structure IR where
 items:List D
 M:List Nat
noncomputable abbrev DI:=En->Option IR
def QjR(K:Fgg)(H:Hp)(ts:List (V×D×List Addr)):Prop:=∀t∈ts,Rp K H t.2.1 t.1 t.2.2
structure Walk (K:Fgg) (J:It) (ts:List (V×D×List Addr)) (ds:List D):Prop where
 stop:∀H,QjR K H ts->J.stop ds.length H
 go:∀i H,i<ds.length->QjR K H ts->J.go i H
 yld:∀(i:Nat) d H x H',ds[i]? =some d->QjR K H ts->J.yld i H x H'->QJ H H'/\∃G,Rp K H' d x G/\∀a∈G,∃t∈ts,a∈t.2.2
noncomputable def tI(K:Fgg)(H0:Hp)(A0:LAd)(f:DI):TI:=λσ H Rr=>∃ρ hs F ir,Rel K H0 A0 hs ρ F σ H/\f ρ=some ir∧
 ∀J H1 ts,QJ H H1->Walk K J ts ir.items->(∀t∈ts,Rp K H1 t.2.1 t.1 t.2.2/\Src ρ F H ir.M t.2.2)->QbP ρ ir.M->ir.items.length<=sizeLine->Rr J H1
def SI(X:Cx)(tg e:Expr)(f:DI):Prop:=∀H0 A0,PI X tg e (tI X.K H0 A0 f)
def _root_.L2.PI.mono(h:PI X tg e t)(m:∀σ H Q,t' σ H Q->t σ H Q):PI X tg e t':=λpins s σ H Q I q=>h pins s σ H Q I (m σ H Q q)
section
variable {X:Cx}{tg a b:Expr}{fa fb:DE}{fs:DA}{pos p:Pos}
def Rps.nth{K:Fgg}{H:Hp}{ds:List D}{vs:List V}{F:LAd}{i:Nat}{d:D}(h:Rps K H ds vs F)(e:ds[i]? =some d):∃v G,vs[i]? =some v/\Rp K H d v G/\∀a∈G,a∈F:=by
 obtain⟨v,F1,G,F2,h1,h2,h3,_⟩:=h.get e;exact⟨v,G,h1,h3,λa ha=>by rw[h2];exact Zg _ (Zk _ ha)⟩
noncomputable def QBj(K:Fgg)(tl:TE):TI:=λσ H Rr=>tl σ H λx H1=>(∃a,x= .ref a/\(∃xs,SqL K H1 a xs)/\Rr (Itl K a) H1)∨(∃a,x= .ref a/\(∃xs,SqT K H1 a xs)/\Rr (Itt K a) H1)
def Qxv(hl:PE X l tl):PI X tg l (QBj X.K tl):=by
 intro pins s σ H Rr I h;refine thn (hl pins s σ H _ I h) λv s1=>exJ λx H1 I1 r1 q1=>?_;rcases q1 with⟨a,e,⟨xs,hq⟩,q⟩ | ⟨a,e,⟨xs,hq⟩,q⟩
 .subst e;cases r1;obtain⟨its,rv,pl,hz⟩:=I1.list hq;refine wpAny_pyIter_list pl.isList ⟨s1.heap.objs.size,[s1.heap.objs.size],_,_,H1,rfl,I1.kept (t':=s1.toks) λb o e=>Zu _ e,Qsm a _,⟨_,ZA _ rfl,rfl,rfl⟩,λb hb=>?_,q⟩;have e:b=s1.heap.objs.size:=by simpa using hb
  subst e;exact I1.Qof (Ze _) (I1.hok.fresh (Ze _))
 .subst e;cases r1;obtain⟨its,rv,pl,hz⟩:=I1.tuple hq;refine wpAny_pyIter_tuple (show s1.heap.IsTuple a its.toArray from pl) ⟨s1.heap.objs.size,[s1.heap.objs.size],_,_,H1,rfl,I1.kept (t':=s1.toks) λb o e=>Zu _ e,QqE a _,⟨_,ZA _ rfl,rfl,rfl⟩,λb hb=>?_,q⟩;have e:b=s1.heap.objs.size:=by simpa using hb
  subst e;exact I1.Qof (Ze _) (I1.hok.fresh (Ze _))
noncomputable def Q3(fa:DE):DI:=λρ=>(fa ρ).bind λr=>match r.d with
 | .lst xs=>some ⟨xs,r.M⟩
 | .tup xs=>if xs.length<=sizeLine then some ⟨xs,r.M⟩else none
 | .str x=>if x.cps.size<=sizeLine then some ⟨x.cps.toList.map λc=> .str ⟨#[c]⟩,[]⟩else none
 | _=>none
def QzU{t u:TI}(h1:PI X tg l t)(h2:PI X tg l u):PI X tg l (λσ H R=>t σ H R∨u σ H R):=λpins s σ H R I q=>q.elim (h1 pins s σ H R I) (h2 pins s σ H R I)
def QsI{K:Fgg}{x:Str}:Walk K (Itx x) [] (x.cps.toList.map λc=> .str ⟨#[c]⟩) where
 stop:=λH h=>by show _=x.cps.size;rw[Zo,Zai]
 go:=λi H hi h=>by rw[Zo,Zai]at hi;exact hi
 yld:=λi d H v H' e h y=>by
  obtain⟨rfl,c,hc,rfl⟩:=y;rw[Zv,Array.getElem?_toList,hc]at e;cases e;exact⟨QJ.refl _,[],.str_mk,λa ha=>by simp at ha⟩
def Qsi{K:Fgg}{c:Addr}{ds:List D}{G:LAd}:Walk K (Itl K c) [(.ref c,.lst ds,G)] ds where
 stop:=λH h=>by
  obtain⟨l,vs,L,e,hl,rl,zl,el⟩:=(h _ (Zi.mpr rfl)).lst_inv;cases e;exact⟨vs,QaP hl,by rw[rl.length];exact Ze _⟩
 go:=λi H hi h=>by
  obtain⟨l,vs,L,e,hl,rl,zl,el⟩:=(h _ (Zi.mpr rfl)).lst_inv;cases e;have:i<vs.length:=by rw[← rl.length];exact hi
  exact⟨vs,vs[i],QaP hl,by simp[this]⟩
 yld:=λi d H x H' e h y=>by
  obtain⟨l,vs,L,e1,hl,rl,zl,el⟩:=(h _ (Zi.mpr rfl)).lst_inv;cases e1;obtain⟨rfl,y⟩:=y;obtain⟨v,G',h1,h2,h3⟩:=rl.nth e;have:=y vs (QaP hl);rw[h1]at this;cases this;refine⟨QJ.refl _,G',h2,λz hz=>⟨_,Zi.mpr rfl,?_⟩⟩;have:=h3 z hz;rcases el with rfl | rfl
  .exact Zc _ this
  .exact this
def Qtt{K:Fgg}{c:Addr}{ds:List D}{G:LAd}:Walk K (Itt K c) [(.ref c,.tup ds,G)] ds where
 stop:=λH h=>by
  obtain⟨l,vs,e,hl,rl⟩:=(h _ (Zi.mpr rfl)).QbF;cases e;exact⟨vs,hl,by rw[rl.length];exact Ze _⟩
 go:=λi H hi h=>by
  obtain⟨l,vs,e,hl,rl⟩:=(h _ (Zi.mpr rfl)).QbF;cases e;have:i<vs.length:=by rw[← rl.length];exact hi
  exact⟨vs,vs[i],hl,by simp[this]⟩
 yld:=λi d H x H' e h y=>by
  obtain⟨l,vs,e1,hl,rl⟩:=(h _ (Zi.mpr rfl)).QbF;cases e1;obtain⟨rfl,y⟩:=y;obtain⟨v,G',h1,h2,h3⟩:=rl.nth e;have:=y vs hl;rw[h1]at this;cases this;exact⟨QJ.refl _,G',h2,λz hz=>⟨_,Zi.mpr rfl,h3 z hz⟩⟩
def Qze(ha:SE X a fa):SI X tg a (Q3 fa):=λH0 A0=>
 (QzU (Qxv (ha H0 A0)) (Qxw (ha H0 A0))).mono λσ H Rr=>exK λρ hs F ir rel e q=>by
 refine Qi e λr e1 e=>?_;by_cases hx:∃x,r.d= .str x
 .obtain⟨x,hx⟩:=hx;rw[hx]at e;dsimp only at e;split at e
  .rename_i hz;cases e;refine .inr ⟨ρ,hs,F,r,rel,e1,λv H1 G p=>?_⟩;have rp:=p.rp;rw[hx]at rp;exact⟨x,rp.str_inv,q _ H1 [] p.same QsI (λt ht=>by simp at ht) QbP.nil (by rw[Zo,Zai];exact hz)⟩
  .cases e
 left;refine⟨ρ,hs,F,r,rel,e1,λv H1 G p=>?_⟩;have rp:=p.rp;cases hr:r.d with
 | lst xs=>
  rw[hr]at e rp;cases e;obtain⟨c,vs,L,rfl,hl,rl,zl,el⟩:=rp.lst_inv;refine .inl ⟨c,rfl,⟨vs,QaP hl⟩,q _ H1 [(.ref c,.lst xs,G)] p.same Qsi (λt ht=>?_) p.own zl⟩;rw[Zi.mp ht];exact⟨rp,p.src⟩
 | tup xs=>
  rw[hr]at e rp;dsimp only at e;split at e
  .rename_i hz;cases e;obtain⟨c,vs,rfl,hl,rl⟩:=rp.QbF;refine .inr ⟨c,rfl,⟨vs,hl⟩,q _ H1 [(.ref c,.tup xs,G)] p.same Qtt (λt ht=>?_) p.own hz⟩;rw[Zi.mp ht];exact⟨rp,p.src⟩
  .cases e
 | str x=>exact absurd ⟨x,hr⟩ hx
 | _=>rw[hr]at e;cases e
noncomputable def Qkc(lo:Int)(n:Nat):List D:=(List.range n).map λ(k:Nat)=> .int (lo+(k:Int))
def Qj1:(Qkc lo n).length=n:=by simp[Qkc]
def Qsz(h:(Qkc lo n)[i]? =some d):i<n/\d= .int (lo+i):=by
 unfold Qkc at h;rw[Zv]at h;cases q:(List.range n)[i]? with
 | none=>rw[q]at h;cases h
 | some k=>
  rw[q]at h;obtain⟨h1,h2⟩:=Zj.mp q;simp at h1 h2;subst h2;exact⟨h1,(Option.some.inj h).symm⟩
def Qqp:Walk K (Itr lo n) [] (Qkc lo n) where
 stop:=λH _=>by rw[Qj1];exact Ze _
 go:=λi H hi _=>by rw[Qj1]at hi;exact hi
 yld:=λi d H x H' e _ y=>by
  obtain⟨h1,rfl⟩:=Qsz e;obtain⟨rfl,rfl⟩:=y;exact⟨QJ.refl _,[],.int_mk,λz hz=>by simp at hz⟩
noncomputable def QdR(fa:DE):DI:=λρ=>(fa ρ).bind λr=>match r.d with
 | .int j=>if j<=16777216/\ -(2^62)<=j then some ⟨Qkc 0 j.toNat,[]⟩else none
 | _=>none
def QaA:(sizeLine:Nat)=16777216:=sizeLine_eq
def Qr0(hg:Gl X "range")(hm:X.mg "range" =none)(ha:SE X a fa)(hs:starEach [a] X.env=[(false,eval a X.env)]):SI X tg (.Call (.Name "range" p) [a] [] pos) (QdR fa):=λH0 A0=>
 (Qq8 hg hm (QbG (ha H0 A0) Qek hs) hs).mono λσ H Rr=>exK λρ hs F ir rel e q=>by
  refine Qi e λr e1 e=>?_;refine⟨ρ,hs,F,r,rel,e1,λv H1 G pp=>?_⟩;have rp:=pp.rp;cases hr:r.d with
  | int j=>
   rw[hr]at e rp;dsimp only at e;split at e
   .rename_i hz;cases e;rw[rp.int_inv];refine⟨j,rfl,hz.2,⋯,q _ H1 [] pp.same Qqp (λt ht=>by simp at ht) QbP.nil ?_⟩;rw[Qj1,QaA];omega
   .cases e
  | _=>rw[hr]at e;cases e
noncomputable def QfG(ds:List D):List D:=ds.zipIdx.map λq=> .tup [.int q.2,q.1]
def QiE:(QfG ds).length=ds.length:=by simp[QfG]
def QqS{ds:List D}{i:Nat}{d:D}(h:(QfG ds)[i]? =some d):∃e,ds[i]? =some e/\d= .tup [.int i,e]:=by
 unfold QfG at h;rw[Zv,List.getElem?_zipIdx]at h;cases q:ds[i]? with
 | none=>rw[q]at h;cases h
 | some e=>rw[q]at h;simp at h;exact⟨e,rfl,h.symm⟩
def Qri{K:Fgg}{c:Addr}{ds:List D}{G:LAd}:Walk K (Ite K c) [(.ref c,.lst ds,G)] (QfG ds) where
 stop:=λH h=>by
  obtain⟨l,vs,L,e,hl,rl,zl,el⟩:=(h _ (Zi.mpr rfl)).lst_inv;cases e;exact⟨vs,QaP hl,by rw[QiE,rl.length];exact Ze _⟩
 go:=λi H hi h=>by
  obtain⟨l,vs,L,e,hl,rl,zl,el⟩:=(h _ (Zi.mpr rfl)).lst_inv;cases e;rw[QiE]at hi;have:i<vs.length:=by rw[← rl.length];exact hi
  exact⟨vs,vs[i],QaP hl,by simp[this]⟩
 yld:=λi d H x H' e h y=>by
  obtain⟨l,vs,L,e1,hl,rl,zl,el⟩:=(h _ (Zi.mpr rfl)).lst_inv;cases e1;obtain⟨d',e',rfl⟩:=QqS e;obtain⟨pp,u,rfl,hp,rfl,y⟩:=y;obtain⟨v,G',h1,h2,h3⟩:=rl.nth e';have:=y vs (QaP hl);rw[h1]at this;cases this;have s:=Qcr (o:= .tup [.int i,u]) hp;refine⟨s,G',Rp.Qnr QaM ?_,λz hz=>⟨_,Zi.mpr rfl,?_⟩⟩
  .simp only[Rps];exact⟨.int i,[u],[],G',rfl,rfl,.int_mk,u,[],G',[],rfl,⋯,h2.same s,rfl,rfl⟩
  .have:=h3 z hz;rcases el with rfl | rfl
   .exact Zc _ this
   .exact this
noncomputable def Qk0(fa:DE):DI:=λρ=>(fa ρ).bind λr=>match r.d with
 | .lst xs=>some ⟨QfG xs,r.M⟩
 | _=>none
def Qvi(hg:Gl X "enumerate")(hm:X.mg "enumerate" =none)(ha:SE X a fa)(hs:starEach [a] X.env=[(false,eval a X.env)]):SI X (.Tuple es tk tpos) (.Call (.Name "enumerate" p) [a] [] pos) (Qk0 fa):=λH0 A0=>
 (Qwd hg hm (QbG (ha H0 A0) Qek hs) hs).mono λσ H Rr=>exK λρ hs F ir rel e q=>by
  refine Qi e λr e1 e=>?_;refine⟨ρ,hs,F,r,rel,e1,λv H1 G pp=>?_⟩;have rp:=pp.rp;cases hr:r.d with
  | lst xs=>
   rw[hr]at e rp;cases e;obtain⟨c,vs,L,rfl,hl,rl,zl,el⟩:=rp.lst_inv;refine⟨c,rfl,⟨vs,QaP hl⟩,q _ H1 [(.ref c,.lst xs,G)] pp.same Qri (λt ht=>?_) pp.own (by rw[QiE];exact zl)⟩;rw[Zi.mp ht];exact⟨rp,pp.src⟩
  | _=>rw[hr]at e;cases e
end
end HS
namespace HS
open PySem L2
section
end
end HS
namespace HS
open PySem PySem.Spec L2
inductive Tg where
 | nm (i:Nat)
 | tp (is:List Nat)
noncomputable def Tg.slots:Tg->List Nat
 | .nm i=>[i]
 | .tp is=>is
noncomputable def Qd2:List Nat->List D->En->En
 | i::is,d::ds,ρ=>Qd2 is ds (ρ.set i (some (d,d.flat)))
 | _,_,ρ=>ρ
noncomputable def Qa1:Tg->D->En->Option En
 | .nm i,d,ρ=>some (ρ.set i (some (d,d.flat)))
 | .tp is,.tup xs,ρ=>if xs.length=is.length then some (Qd2 is xs ρ)else none
 | .tp is,.lst xs,ρ=>if xs.length=is.length then some (Qd2 is xs ρ)else none
 | .tp _,_,_=>none
noncomputable def tG(K:Fgg)(H0:Hp)(A0:LAd)(t:Tg):TG:=λv σ H Q=>∃ρ hs F d G ρ',Rel K H0 A0 hs ρ F σ H/\Rp K H d v G/\Shr H0 A0 ρ F G/\Qa1 t d ρ=some ρ'∧
 ∀σ' F',Rel K H0 A0 hs ρ' F' σ' H->(∀j,j∉t.slots->σ'[j]? =σ[j]?)->(∀j a,a∈F' j->a∈F j∨a∈G)->Q σ' H
def SG(X:Cx)(tg:Expr)(t:Tg):Prop:=∀H0 A0,PG X tg (tG X.K H0 A0 t)
def _root_.L2.PG.mono{X:Cx}{tg:Expr}{t t':TG}(h:PG X tg t)(m:∀v σ H Q,t' v σ H Q->t v σ H Q):PG X tg t':=λpins s σ H v u Q I r q=>h pins s σ H v u Q I r (m v σ H Q q)
noncomputable def Qki:List Nat->TGs
 | []=>QyX
 | i::is=>QuM (Qe1 i) (Qki is)
def Shr.set{H0:Hp}{A0:LAd}{ρ:En}{F:Nat->List Addr}{G G1:LAd}{i:Nat}{d:D}(h:Shr H0 A0 ρ F G)(hf:d.flat=true->G1=[]):Shr H0 A0 (ρ.set i (some (d,d.flat))) (λj=>if j=i then G1 else F j) G:=λa ha=>by
 refine⟨(h a ha).1,λj d' e=>?_⟩;by_cases hj:j=i
 .subst hj;show ¬a∈(if j=j then G1 else F j);rw[if_pos rfl];have hl:j<ρ.length:=by
   by_cases hl:j<ρ.length
   .exact hl
   .rw[ZD (by simp;omega)]at e;cases e
  rw[Zp hl]at e;have e1:=Option.some.inj (Option.some.inj e);rw[hf (congrArg Prod.snd e1)];simp
 .rw[Zl (Ne.symm hj)]at e;show ¬a∈(if j=i then G1 else F j);rw[if_neg hj];exact(h a ha).2 j d' e
def Qj9{K:Fgg}{H0:Hp}{A0:LAd}{hs:List (V×D×List Addr)}:∀(is:List Nat) (ds:List D) (vs:List V) (ρ:En) (F:Nat->List Addr) (σ:L2.St) (H:Hp) (G:LAd) (Q:L2.St->Hp->Prop),
  Rel K H0 A0 hs ρ F σ H->Rps K H ds vs G->Shr H0 A0 ρ F G->ds.length=is.length→
  (∀σ' F',Rel K H0 A0 hs (Qd2 is ds ρ) F' σ' H->(∀j,j∉is->σ'[j]? =σ[j]?)->(∀j a,a∈F' j->a∈F j∨a∈G)->Q σ' H)->Qki is vs σ H Q
 | [],ds,vs,ρ,F,σ,H,G,Q,rel,rp,sh,hl,q=>by
  have:ds=[]:=by simpa using hl
  subst this;simp only[Rps]at rp;exact⟨rp.1,q σ F rel (λ_ _=>rfl) λ_ _ h=> .inl h⟩
 | i::is,[],vs,ρ,F,σ,H,G,Q,rel,rp,sh,hl,q=>by simp at hl
 | i::is,d::ds,vs,ρ,F,σ,H,G,Q,rel,rp,sh,hl,q=>by
  simp only[Rps]at rp;obtain⟨v,ws,G1,G2,rfl,rfl,r1,r2⟩:=rp;refine⟨v,ws,rfl,?_⟩;have sh1:Shr H0 A0 ρ F G1:=λa ha=>sh a (Zk _ ha);have sh2:Shr H0 A0 ρ F G2:=λa ha=>sh a (Zg _ ha);refine Qj9 is ds ws _ _ _ H G2 Q (rel.Qqb r1 sh1) r2 (sh2.set r1.Qcd) (by simpa using hl) λσ' F' rel' k m=>q σ' F' rel' (λj hj=>?_) λj a ha=>?_
  .have h1:j≠i:=λz=>hj (by rw[z];exact Zw);rw[k j λz=>hj (Zc _ z),Zl (Ne.symm h1)]
  .rcases m j a ha with z | z
   .by_cases hj:j=i
    .rw[if_pos hj]at z;exact .inr (Zk _ z)
    .rw[if_neg hj]at z;exact .inl z
   .exact .inr (Zg _ z)
section
variable {X:Cx}{tg:Expr}{pos:Pos}
def QvP{i:Nat}{x:Str}(h:PG X (.Name x pos) (Qe1 i)):SG X (.Name x pos) (.nm i):=λH0 A0=>h.mono λv σ H Q Z=>by
 obtain⟨ρ,hs,F,d,G,ρ',rel,rp,sh,e,q⟩:=Z;cases e;refine q _ _ (rel.Qqb rp sh) (λj hj=>?_) λj a ha=>?_
 .have:j≠i:=λz=>hj (by simp[Tg.slots,z]);rw[Zl (Ne.symm this)]
 .by_cases hj:j=i
  .rw[if_pos hj]at ha;exact .inr ha
  .rw[if_neg hj]at ha;exact .inl ha
def Qvt{es:List Expr}{k:Nat}{t:TGs}{n:Nat}(hc:X.calm=true)(h:PGs X es t)
  (hn:(assignEach es X.env).length=n) (hst:(assignEach es X.env).findIdx? (·.1)=none):PG X (.Tuple es k pos) (λv σ H Q=>∃a xs,v= .ref a/\SqL X.K H a xs/\xs.length=n/\t xs σ H Q):=by
 intro pins s σ H v u Q I r hw;obtain⟨a,xs,e1,hq,hl,hw⟩:=hw;subst e1;cases r;obtain⟨its,rv,ht,hz⟩:=I.list hq;rw[PyProof.Rows.assign_Tuple];refine wpAny_bind (wpAny_standAt ?_);unfold unpack;rw[hn,hst,show n=its.toArray.size by simp[← hl,rv.length]];refine wpAny_bind (wpAny_holding (PySem.W.kun_itemsOf (I.ok.hd hc) ht.isList λh' hx=>?_));have I1:Inv X pins σ H {s with heap:=h'}:=I.kept (t':=s.toks) λb o e=>hx b o (ZE (Zq e)) e;exact h pins _ σ H xs _ Q I1 (by simpa using rv) hw
def QxD{es:List Expr}{k:Nat}{is:List Nat}(hc:X.calm=true)(h:PGs X es (Qki is))(hn:(assignEach es X.env).length=is.length)(hst:(assignEach es X.env).findIdx? (·.1)=none):SG X (.Tuple es k pos) (.tp is):=λH0 A0=>
 λpins s σ H v u Q I r Z=>by
  obtain⟨ρ,hs,F,d,G,ρ',rel,rp,sh,e,q⟩:=Z;cases d with
  | tup xs=>
   simp only[Qa1]at e;split at e
   .rename_i hl;cases e;obtain⟨a,vs,rfl,hq,rs⟩:=rp.QbF;exact QxQ hc h hn hst pins s σ H _ u Q I r ⟨a,vs,rfl,hq,by rw[← rs.length];exact hl,Qj9 is xs vs ρ F σ H G Q rel rs sh hl q⟩
   .cases e
  | lst xs=>
   simp only[Qa1]at e;split at e
   .rename_i hl;cases e;obtain⟨a,vs,L,rfl,hq,rs,_,eG⟩:=rp.lst_inv;have sub:∀b∈L,b∈G:=λb hb=>by
     rcases eG with rfl | rfl
     .exact Zc _ hb
     .exact hb
    exact Qvt hc h hn hst pins s σ H _ u Q I r ⟨a,vs,rfl,QaP hq,by rw[← rs.length];exact hl,Qj9 is xs vs ρ F σ H L Q rel rs (λb hb=>sh b (sub b hb)) hl λσ' F' rel' k m=>q σ' F' rel' k λj b hb=>(m j b hb).imp id (sub b)⟩
   .cases e
  | _=>simp only[Qa1]at e;cases e
end
noncomputable def QaU(cap:List (Option Nat))(ρ:En):En:=cap.map λo=>o.bind λi=>match ρ[i]? with
 | some (some (d,_))=>some (d,d.flat)
 | _=>none
noncomputable def Qqk(cap:List (Option Nat))(ρ:En):List Nat:=cap.filterMap λo=>o.bind λi=>match ρ[i]? with
 | some (some (d,b))=>if b && !d.flat then some i else none
 | _=>none
noncomputable def Qe3(t:Tg)(ft:DT)(fe:DE)(ρc:En)(acc:List D×Bool)(d:D):Option (List D×Bool):=
 (Qa1 t d ρc).bind λρ1=>(ft ρ1).bind λc=>if c=true then(fe ρ1).map λr=>(acc.1++[r.d],acc.2 && r.norm.fr)else some acc
noncomputable def Qau(fi:DI)(t:Tg)(cap:List (Option Nat))(ft:DT)(fe:DE):DE:=λρ=>(fi ρ).bind λir=>
 (ir.items.foldlM (Qe3 t ft fe (QaU cap ρ)) ([],true)).map λq=>if q.2=true then⟨.lst q.1,true,[]⟩else⟨.lst q.1,false,ir.M++Qqk cap ρ⟩
def Qdk(ρ:En):Prop:=∀(j:Nat) d,ρ[j]? =some (some (d,true))->d.flat=true
def Qdk.set{ρ:En}(h:Qdk ρ)(i:Nat)(d:D):Qdk (ρ.set i (some (d,d.flat))):=λj d' e=>by
 by_cases hj:j=i
 .subst hj;have hl:j<ρ.length:=by
   by_cases hl:j<ρ.length
   .exact hl
   .rw[ZD (by simp;omega)]at e;cases e
  rw[Zp hl]at e;have e1:=Option.some.inj (Option.some.inj e);have h1:d=d':=congrArg Prod.fst e1;have h2:d.flat=true:=congrArg Prod.snd e1;rw[← h1];exact h2
 .rw[Zl (Ne.symm hj)]at e;exact h j d' e
def Qdk.Qd2:∀(is:List Nat) (ds:List D) {ρ:En},Qdk ρ->Qdk (Qd2 is ds ρ)
 | [],_,_,h=>h
 | _::_,[],_,h=>h
 | i::is,d::ds,_,h=>Qdk.Qd2 is ds (h.set i d)
def Qdk.bind{t:Tg}{d:D}{ρ ρ':En}(h:Qdk ρ)(e:Qa1 t d ρ=some ρ'):Qdk ρ':=by
 cases t with
 | nm i=>cases e;exact h.set i d
 | tp is=>
  cases d with
  | tup xs=>
   simp only[Qa1]at e;split at e
   .cases e;exact h.Qd2 is xs
   .cases e
  | lst xs=>
   simp only[Qa1]at e;split at e
   .cases e;exact h.Qd2 is xs
   .cases e
  | _=>simp only[Qa1]at e;cases e
def QhL(cap:List (Option Nat))(ρ:En):Qdk (QaU cap ρ):=λj d e=>by
 unfold QaU at e;rw[Zv]at e;cases q:cap[j]? with
 | none=>rw[q]at e;cases e
 | some o=>
  rw[q]at e;cases o with
  | none=>cases e
  | some i=>
   simp only[ZO,Za,Option.some.injEq]at e;split at e
   .have e1:=Option.some.inj e;have h1:=congrArg Prod.fst e1;have h2:=congrArg Prod.snd e1;dsimp only at h1 h2;rw[← h1];exact h2
   .cases e
def Qgr{cap:List (Option Nat)}{ρ:En}{j:Nat}{d:D}{b:Bool}(e:(QaU cap ρ)[j]? =some (some (d,b))):∃i b',cap[j]? =some (some i)/\ρ[i]? =some (some (d,b')):=by
 unfold QaU at e;rw[Zv]at e;cases q:cap[j]? with
 | none=>rw[q]at e;cases e
 | some o=>
  rw[q]at e;cases o with
  | none=>cases e
  | some i=>
   simp only[ZO,Za,Option.some.injEq]at e;split at e
   .rename_i d' b' hi;have e1:=Option.some.inj e;have h1:d'=d:=congrArg Prod.fst e1;subst h1;exact⟨i,b',rfl,hi⟩
   .cases e
def QlV(X:Cx)(ifs:List Expr)(f:DT):Prop:=∀H0 A0,PTs X ifs (tVT X.K H0 A0 f)
noncomputable def QaE:DT:=λ_=>some true
def QtK{X:Cx}:QlV X [] QaE:=λH0 A0 pins s σ H Q I=>exK λρ hs F b rel e q=>by
 cases e;exact QwT pins s σ H Q I (q H (QJ.refl _))
def Qsu{X:Cx}{c:Expr}{f:DT}(h:ST X c f):QlV X [c] f:=λH0 A0=>Qv6 (h H0 A0)
structure Qlb (X:Cx) (N':List Str) (scope:Scope) (cap:List (Option Nat)) (tgs:List Nat):Prop where
 len:cap.length=N'.length
 get:∀(j i:Nat),cap[j]? =some (some i)->∃x,N'[j]? =some x/\scope.names.lookup x=some .free/\X.N[i]? =some x/\(X.env.kindOf x=some .cell∨X.env.kindOf x=some .free)
 apart:∀(j i:Nat),cap[j]? =some (some i)->j∉tgs
def join_some{α:Type}{o:Option (Option α)}{v:α}(h:o.join=some v):o=some (some v):=by
 cases o with
 | none=>cases h
 | some p=>cases p with
  | none=>cases h
  | some x=>exact h▸rfl
def Qmr{X:Cx}{N':List Str}{scope:Scope}{fi:DI}{t:Tg}{cap:List (Option Nat)}{ft:DT}{fe:DE}{H0:Hp}{A0:LAd}{σ:L2.St}{H:Hp}{Q:VK}(hc:Qlb X N' scope cap t.slots):
  tV X.K H0 A0 (Qau fi t cap ft fe) σ H Q->QmN (tI X.K H0 A0 fi) (Qi4 X N' scope) (tG X.K (λ_=>none) [] t) (tVT X.K (λ_=>none) [] ft) (tV X.K (λ_=>none) [] fe) σ H Q:=exK λρ hs F r rel e q=>by
 refine Qi e λir e1 e=>?_;obtain⟨⟨xs,f⟩,ef,e⟩:=Zb.mp e;subst e;refine⟨ρ,hs,F,ir,rel,e1,λJ H1 ts s1 wk hts ow hz=>?_⟩;refine⟨cap.map λo=>o.bind λi=>σ[i]?.join,⟨by simp[hc.len],λj x v hN hv=>?_⟩,λDl hD=>?_⟩
 .rw[Zv]at hv;cases qc:cap[j]? with
  | none=>rw[qc]at hv;cases hv
  | some o=>
   rw[qc]at hv;cases o with
   | none=>cases hv
   | some i=>
    simp only[ZO,Za,Option.some.injEq]at hv;obtain⟨y,h1,h2,h3,h4⟩:=hc.get j i qc;rw[hN]at h1;cases h1;exact⟨h2,i,h3,join_some hv,h4⟩
 generalize hσc:(cap.map λo=>o.bind λi=>σ[i]?.join)=σc;generalize hρc:QaU cap ρ=ρc at ef
 have hF0:∃Fc:Nat->List Addr,Fc=λj=>match cap[j]? with
  | some (some i)=>(match ρ[i]? with
   | some (some _)=>F i
   | _=>[])
  | _=>[]:=⟨_,rfl⟩
 obtain⟨Fc,hFc⟩:=hF0;have rel1:=rel.ext s1;have relC:∀H2,QJ H1 H2->Rel X.K (λ_=>none) [] [] ρc Fc σc H2:=λH2 s2=>by
  refine⟨by rw[← hρc,← hσc];simp[QaU],λj d b e=>?_,λj d e=>?_,λj d b e a ha=> .inl rfl,λt ht=>(by simp at ht),λb o z=>(by cases z)⟩
  .rw[← hρc]at e;obtain⟨i,b',h1,h2⟩:=Qgr e;obtain⟨v,h3,h4⟩:=(rel1.ext s2).val i d b' h2;refine⟨v,?_,?_⟩
   .rw[← hσc,Zv,h1];simp only[ZO,Za,h3,Option.join_some]
   .rw[hFc];simp only[h1,h2];exact h4
  .have hf:d.flat=true:=QhL cap ρ j d (by rw[hρc];exact e);have:Fc j=[]:=by
    rw[← hρc]at e;obtain⟨i,b',h1,h2⟩:=Qgr e;obtain⟨v,h3,h4⟩:=rel1.val i d b' h2;rw[hFc];simp only[h1,h2];exact h4.Qcd hf
   rw[this];exact⟨(QdT d hf).symm,ZZ,λa ha=>(by simp at ha),λ_ _ _ _ _ a ha=>(by simp at ha),λt ht=>(by simp at ht)⟩
 have shC:∀G,Shr (λ_=>none) [] ρc Fc G:=λG a ha=>⟨.inl rfl,λj d e hj=>by
  have h0:=(relC H1 (QJ.refl _)).own j d e;have hf:d.flat=true:=QhL cap ρ j d (by rw[hρc];exact e);have:(Fc j).length=0:=by rw[h0.1,QdT d hf]
  rw[Zax this]at hj;simp at hj⟩
 have hSh:Qdk ρc:=by rw[← hρc];exact QhL cap ρ
 have heldOf:∀H2,QJ H1 H2->QjR X.K H2 ts:=λH2 s2 t ht=>(hts t ht).1.same s2;have oldOf:∀a,((∃t∈ts,a∈t.2.2)∨∃j,a∈Fc j)->(∃u,H1 a=some u)/\(H a=none∨∃(i:Nat) (d:D) (b:Bool),ρ[i]? =some (some (d,b))/\a∈F i/\(b=true->i∈ir.M++Qqk cap ρ)):=λa ha=>by
  rcases ha with⟨t,ht,ha⟩ | ⟨j,ha⟩
  .refine⟨(hts t ht).1.mem a ha,?_⟩;rcases(hts t ht).2 a ha with z | ⟨i,d,b,e,m,w⟩
   .exact .inl z
   .exact .inr ⟨i,d,b,e,m,λhb=>Zk _ (w hb)⟩
  .have ha0:=ha;rw[hFc]at ha;dsimp only at ha;split at ha
   .rename_i i hi;split at ha
    .rename_i db hdb;obtain⟨d,b⟩:=db;obtain⟨v,h3,h4⟩:=rel1.val i d b hdb;refine⟨h4.mem a ha,.inr ⟨i,d,b,hdb,ha,λhb=>Zg _ ?_⟩⟩;unfold Qqk;refine Zaa.mpr ⟨some i,Zy hi,?_⟩;simp only[Za,hdb];have hnf:d.flat=false:=by
      cases hf:d.flat with
      | false=>rfl
      | true=>rw[h4.Qcd hf]at ha;simp at ha
     rw[hb,hnf];rfl
    .simp at ha
   .simp at ha
 have fresh5:∀H2,QJ H1 H2->∀a,H2 a=none->H1 a=none:=λH2 s2 a h=>s2.free h
 refine⟨λi m acc H2=>m=ir.items.length-i/\i<=ir.items.length/\QJ H1 H2/\H2 Dl=some (.lst acc)/\∃(ys:List D) (g:Bool) (G:LAd),(ir.items.drop i).foldlM (Qe3 t ft fe ρc) (ys,g)=some (xs,f)/\Rps X.K H2 ys acc G/\ys.length<=i∧
  (∀a∈G,a≠Dl/\(H1 a=none∨(∃t∈ts,a∈t.2.2)∨∃j,a∈Fc j))/\(g=true->G.length=nls ys/\∀a,G.count a<=nw H1 a),⟨ir.items.length,rfl,ZQ _,Qcr hD,QaM,[],true,[],by simpa using ef,by simp[Rps],Ze _,λa ha=>(by simp at ha),λ_=>⟨rfl,λa=>⋯⟩⟩,?_⟩
 rintro i m acc H2 ⟨rfl,hi,s2,eD,ys,g,G,hfold,rps,hlen,hG,hcnt⟩;by_cases hlt:i<ir.items.length
 .refine .inr ⟨wk.go i H2 hlt (heldOf H2 s2),λx H3 hy=>?_⟩;obtain⟨s3,G0,rp0,hG0⟩:=wk.yld i ir.items[i] H2 x H3 (by simp[hlt]) (heldOf H2 s2) hy;rw[ZL hlt,ZaZ]at hfold;refine Qi hfold λacc1 hstep hrest=>?_;unfold Qe3 at hstep;refine Qi hstep λρ1 eb hstep=>?_;refine Qi hstep λc ec hstep=>?_;have sh1:Qdk ρ1:=hSh.bind eb;refine⟨ρc,[],Fc,ir.items[i],G0,ρ1,relC H3 (s2.trans s3),rp0,shC G0,eb,λσ2 F2 rel2 keep mem2=>⟨λj v hv=>?_,ρ1,[],F2,c,rel2,ec,λH5 s5=>?_⟩⟩
  .have hj:j∉t.slots:=λhj=>by
    rw[← hσc,Zv]at hv;cases qc:cap[j]? with
    | none=>rw[qc]at hv;cases hv
    | some o=>
     cases o with
     | none=>rw[qc]at hv;cases hv
     | some k=>exact hc.apart j k qc hj
   rw[keep j hj];exact hv
  have s15:QJ H1 H5:=(s2.trans s3).trans s5;have eD5:H5 Dl=some (.lst acc):=s5 _ _ (s3 _ _ eD);cases c with
  | false=>
   rw[if_neg ZK]at hstep;refine Qqj ?_;cases hstep;exact⟨_,⋯,rfl,hlt,s15,eD5,ys,g,G,hrest,rps.same (s3.trans s5),⋯,hG,hcnt⟩
  | true=>
   rw[if_pos rfl]at hstep;refine Qqs ?_;obtain⟨rr,er,hstep⟩:=Zb.mp hstep;subst hstep;refine⟨ρ1,[],F2,rr,rel2.ext s5,er,λy H6 Ge pe=>?_⟩;have eD6:H6 Dl=some (.lst acc):=pe.same _ _ eD5;have s16:=s15.trans pe.same;refine⟨eD6,?_,_,⋯,rfl,hlt,?_⟩
   .rw[← rps.length];exact Nat.lt_of_le_of_lt hlen (Zm hlt hz)
   have hGe:∀a∈Ge,a≠Dl/\(H1 a=none∨(∃t∈ts,a∈t.2.2)∨∃j,a∈Fc j):=λa ha=>by
    rcases pe.src a ha with z | ⟨j,d,b,ej,hj,_⟩
    .exact⟨λw=>(by rw[w,eD5]at z;cases z),.inl (s15.free z)⟩
    .have h1:(∃t∈ts,a∈t.2.2)∨∃j,a∈Fc j:=by
      rcases mem2 j a hj with w | w
      .exact .inr ⟨j,w⟩
      .exact .inl (hG0 a w)
     obtain⟨⟨vs,w⟩,_⟩:=oldOf a h1;exact⟨λw'=>(by rw[w',hD]at w;cases w),.inr h1⟩
   have nD:Dl∉G:=λh=>(hG _ h).1 rfl;have nDe:Dl∉Ge:=λh=>(hGe _ h).1 rfl;have sU:QJ H1 (L2.upd H6 Dl (.lst (acc++[y]))):=λb o hb=>by rw[QQ (QbA hb hD)];exact s16 b o hb
   refine⟨sU,QaM,ys++[rr.d],g && rr.norm.fr,G++Ge,hrest,?_,by rw[Zd,ZI];omega,λa ha=>?_,λhg=>?_⟩
   .refine Rps.append ((rps.same ((s3.trans s5).trans pe.same)).upd eD6 nD) ?_;simp only[Rps];exact⟨y,[],Ge,[],rfl,⋯,pe.rp.upd eD6 nDe,rfl,rfl⟩
   .rcases ZG.mp ha with h | h
    .exact hG a h
    .exact hGe a h
   .simp only[Zf]at hg;obtain⟨l1,c1⟩:=hcnt hg.1;have pn:=pe.norm;obtain⟨c2,l2⟩:=pn.cnt hg.2;rw[rr.Qfk]at l2;have nlapp:∀(as bs:List D),nls (as++bs)=nls as+nls bs:=λas bs=>by
     induction as with
     | nil=>simp[nls]
     | cons a as ih=>simp only[ZaH,nls,ih];omega
    refine⟨by rw[Zd,l1,l2,nlapp];simp[nls],λa=>?_⟩;have fl:((rr.norm.M.map F2).flatten).count a=0:=by
     rw[ZN];intro hm;obtain⟨l,hl,hal⟩:=ZaX.mp hm;obtain⟨j,hj,rfl⟩:=Zz.mp hl;obtain⟨d,ej⟩:=pn.own j hj;have hf:=sh1 j d ej;obtain⟨v,_,rv⟩:=rel2.val j d true ej;rw[rv.Qcd hf]at hal;simp at hal
    have h1:=c1 a;have h2:=c2 a;rw[fl]at h2;rw[ZX];cases q5:H5 a with
    | some o=>rw[QeQ q5]at h2;omega
    | none=>
     rw[QbH q5]at h2;have h0:G.count a=0:=ZN.mpr λhm=>by
      obtain⟨vs,w⟩:=rps.mem a hm;rw[s5 _ _ (s3 _ _ w)]at q5;cases q5
     rw[QbH (s15.free q5)];omega
 .have hn:i=ir.items.length:= ⋯
  subst hn;refine .inl ⟨wk.stop H2 (heldOf H2 s2),?_⟩;rw[Zba]at hfold;have:(ys,g)=(xs,f):=Option.some.inj hfold;cases this;have rp:Rp X.K H2 (.lst xs) (.ref Dl) (Dl::G):=Rp.Qhe eD rps (Zx hlen hz);have hHD:H Dl=none:=s1.free hD;split at q
  .rename_i hg;have hg:f=true:=hg;obtain⟨l1,c1⟩:=hcnt hg;have hn:∀a∈G,H1 a=none:=λa ha=>by
    have:=c1 a;have h2:0<G.count a:=Zaf.mpr ha;cases w:H1 a with
    | none=>rfl
    | some o=>rw[QeQ w]at this;omega
   refine q _ H2 (Dl::G) ⟨s1.trans s2,rp,λa ha=>?_,λ_=>⟨λa=>?_,by simp only[D.nl,ZM,l1]⟩,QbP.nil⟩
   .rcases Zn.mp ha with rfl | h
    .exact .inl hHD
    .exact .inl (s1.free (hn a h))
   .rw[Zaq];have h1:=c1 a;split
    .rename_i w;have w:Dl=a:=by simpa using w
     subst w;have h0:G.count Dl=0:=ZN.mpr λh=>(hG _ h).1 rfl;rw[QbH hHD];omega
    .cases w:H1 a with
     | none=>rw[QbH w]at h1;rw[QbH (s1.free w)];omega
     | some o=>rw[QeQ w]at h1;omega
  .refine q _ H2 (Dl::G) ⟨s1.trans s2,rp,λa ha=>?_,λz=>(by cases z),?_⟩
   .rcases Zn.mp ha with rfl | h
    .exact .inl hHD
    .rcases(hG a h).2 with z | z
     .exact .inl (s1.free z)
     .exact(oldOf a z).2
   .refine ow.append λi hi=>?_;unfold Qqk at hi;obtain⟨o,_,ho⟩:=Zaa.mp hi;cases o with
    | none=>cases ho
    | some k=>
     simp only[Za]at ho;split at ho
     .rename_i d b hk;split at ho
      .rename_i hb;cases ho;simp only[Zf]at hb;rw[hb.1]at hk;exact⟨d,hk⟩
      .cases ho
     .cases ho
section
variable {X:Cx}{tg iter elt:Expr}{ifs:List Expr}{scope:Scope}{N':List Str}{pos:Pos}{fi:DI}{t:Tg}{cap:List (Option Nat)}{ft:DT}{fe:DE}
def Qv5(hcalm:X.calm=true)(S:Qem X N' scope)(hi:SI X tg iter fi)(hcap:Qlb X N' scope cap t.slots)
  (hin:∀cl C fp s3 H3,SG (cxc X N' scope cl C fp s3 H3) tg t/\QlV (cxc X N' scope cl C fp s3 H3) ifs ft/\SE (cxc X N' scope cl C fp s3 H3) elt fe) (hs:∀x,foldedSetIterable iter X.env x=pure x):
  SE X (.ListComp elt [⟨tg,iter,ifs,0⟩] scope pos) (Qau fi t cap ft fe):=λH0 A0=>
 (QpK hcalm S (hi H0 A0) (λcl C fp s3 H3=>⟨(hin cl C fp s3 H3).1 _ _,(hin cl C fp s3 H3).2.1 _ _,(hin cl C fp s3 H3).2.2 _ _⟩) hs).mono λσ H Q h=>Qmr hcap h
end
inductive Out where
 | nx (ρ:En)
 | bk (ρ:En)
 | ct (ρ:En)
 | rt (d:D) (fr:Bool)
noncomputable abbrev DS:=En->Option Out
def Fits(K:Fgg)(H0:Hp)(A0:LAd)(hs:List (V×D×List Addr))(E:Ends):Out->Prop
 | .nx ρ=>∀σ H F,Rel K H0 A0 hs ρ F σ H->E.nx σ H
 | .bk ρ=>∀σ H F,Rel K H0 A0 hs ρ F σ H->E.bk σ H
 | .ct ρ=>∀σ H F,Rel K H0 A0 hs ρ F σ H->E.ct σ H
 | .rt d fr=>∀v H G,Ret K H0 A0 d fr v H G->E.rt v H
noncomputable def tS(K:Fgg)(H0:Hp)(A0:LAd)(f:DS):TS:=λE σ H=>∃ρ hs F o,Rel K H0 A0 hs ρ F σ H/\f ρ=some o/\Fits K H0 A0 hs E o
def S1(X:Cx)(st:Stmt)(f:DS):Prop:=∀H0 A0,PS X st (tS X.K H0 A0 f)
def SS(X:Cx)(sts:List Stmt)(f:DS):Prop:=∀H0 A0,PSs X sts (tS X.K H0 A0 f)
def _root_.L2.PS.mono(h:PS X st t)(m:∀D σ H,t' D σ H->t D σ H):PS X st t':=λpins s σ H D I q=>h pins s σ H D I (m D σ H q)
def _root_.L2.PSs.mono(h:PSs X st t)(m:∀D σ H,t' D σ H->t D σ H):PSs X st t':=λpins s σ H D I q=>h pins s σ H D I (m D σ H q)
noncomputable def Qe:DS:=λρ=>some (.nx ρ)
noncomputable def Qd(f g:DS):DS:=λρ=>(f ρ).bind λo=>match o with
 | .nx ρ'=>g ρ'
 | .bk ρ'=>some (.bk ρ')
 | .ct ρ'=>some (.ct ρ')
 | .rt d fr=>some (.rt d fr)
noncomputable def QsZ:DS:=λρ=>some (.bk ρ)
noncomputable def QtE:DS:=λρ=>some (.ct ρ)
noncomputable def Qu(i:Nat)(fa:DE):DS:=λρ=>(fa ρ).bind λr=>some (.nx (asg i r ρ))
noncomputable def Qef(fa:DE):DE:=λρ=>(fa ρ).map λr=>⟨r.d,false,r.M⟩
noncomputable def QB(fa:DE):DS:=λρ=>(fa ρ).bind λr=>some (.rt r.d (r.norm.fr && decide r.norm.M.Nodup))
noncomputable def Qjt:DS:=λ_=>some (.rt .non true)
noncomputable def Qdi(fa:DE):DS:=λρ=>(fa ρ).bind λ_=>some (.nx ρ)
noncomputable def sIf(g:DT)(f1 f2:DS):DS:=λρ=>(g ρ).bind λb=>if b=true then f1 ρ else f2 ρ
noncomputable def Qdn(t:Tg)(fb:DS):List D->DS
 | [],ρ=>some (.nx ρ)
 | d::ds,ρ=>(Qa1 t d ρ).bind λρ1=>(fb ρ1).bind λo=>match o with
  | .nx ρ2=>Qdn t fb ds ρ2
  | .ct ρ2=>Qdn t fb ds ρ2
  | .bk ρ2=>some (.nx ρ2)
  | .rt d fr=>some (.rt d fr)
noncomputable def Qbd(fi:DI)(t:Tg)(fb:DS):DS:=λρ=>(fi ρ).bind λir=>Qdn t fb ir.items (Qcj ir.M ρ)
section
def Qk3:SS X [] Qe:=λH0 A0=>Qvp.mono λE σ H=>exK λρ hs F o rel e q=>by
 cases e;exact q σ H F rel
def QlX(h1:S1 X st f)(h2:SS X sts g):SS X (st::sts) (Qd f g):=λH0 A0=>(QfX (h1 H0 A0) (h2 H0 A0)).mono λE σ H=>exK λρ hs F o rel e q=>by
 refine Qi e λo1 e1 e=>?_;refine⟨ρ,hs,F,o1,rel,e1,?_⟩;cases o1 with
 | nx ρ'=>exact λσ' H' F' rel'=>⟨ρ',hs,F',o,rel',e,q⟩
 | bk ρ'=>cases e;exact q
 | ct ρ'=>cases e;exact q
 | rt d fr=>cases e;exact q
def QvI:S1 X (.Pass pos) Qe:=λH0 A0=>Qwh.mono λE σ H=>exK λρ hs F o rel e q=>by
 cases e;exact q σ H F rel
def Qt9:S1 X (.Break pos) QsZ:=λH0 A0=>QsD.mono λE σ H=>exK λρ hs F o rel e q=>by
 cases e;exact q σ H F rel
def Qwg:S1 X (.Continue pos) QtE:=λH0 A0=>Qo0.mono λE σ H=>exK λρ hs F o rel e q=>by
 cases e;exact q σ H F rel
def QsS(h:SE X e fa):SE X e (Qef fa):=λH0 A0=>(h H0 A0).mono λσ H Q=>exK λρ hs F r rel e q=>by
 obtain⟨r',e1,rfl⟩:=Zb.mp e;exact⟨ρ,hs,F,r',rel,e1,λv H' G p=>q v H' G ⟨p.same,p.rp,p.src,λz=>(by cases z),p.own⟩⟩
def QkM(h:∀H0 A0,PS X st (QjU (tV X.K H0 A0 fa) (Qe1 i))):S1 X st (Qu i fa):=λH0 A0=>(h H0 A0).mono λE σ H=>exK λρ hs F o rel e q=>by
 refine Qi e λr e1 e=>?_;cases e;refine⟨ρ,hs,F,r,rel,e1,λv H' G p=>?_⟩;obtain⟨F',rel'⟩:=rel.asg (i:=i) p;exact q _ _ F' rel'
def QvY(h:PS X st (QfH (tV X.K H0 A0 fa))):PS X st (tS X.K H0 A0 (Qdi fa)):=h.mono λE σ H=>exK λρ hs F o rel e q=>by
 refine Qi e λr e1 e=>?_;cases e;exact⟨ρ,hs,F,r,rel,e1,λv H' G p=>q σ H' F (rel.ext p.same)⟩
def Rel.ret(rel:Rel K H0 A0 hs ρ F σ H)(p:Qae K ρ F H H' r v G):Ret K H0 A0 r.d (r.norm.fr && decide r.norm.M.Nodup) v H' G where
 same:=rel.same.trans p.same
 rp:=p.rp
 src:=λa ha=>by
  rcases p.src a ha with z | ⟨i,d,b,e,m,_⟩
  .exact .inl (rel.same.free z)
  .exact rel.src i d b e a m
 cnt:=λh=>by
  simp only[Zf,decide_eq_true_eq]at h;have p':=p.norm;obtain⟨h1,h2⟩:=p'.fresh rel h.1 h.2;have h3:=(p'.cnt h.1).2;rw[r.Qfk]at h3;exact⟨h1,h3,λa ha=>(h2 a ha).1⟩
def Qok(he:SE X e fa):S1 X (.Return (some e) pos) (QB fa):=λH0 A0=>(Qrn (he H0 A0)).mono λE σ H=>exK λρ hs F o rel e q=>by
 refine Qi e λr e1 e=>?_;cases e;exact⟨ρ,hs,F,r,rel,e1,λv H' G p=>q v H' G (rel.ret p)⟩
def Qwr:S1 X (.Return none pos) Qjt:=λH0 A0=>QvM.mono λE σ H=>exK λρ hs F o rel e q=>by
 cases e;exact q .non H [] ⟨rel.same,.Qey,λa ha=>(by simp at ha),λ_=>⟨ZZ,rfl,λa ha=>(by simp at ha)⟩⟩
def QuN(hc:ST X c gc)(ha:SS X a f)(hb:SS X b g):S1 X (.If c a b pos) (sIf gc f g):=λH0 A0=>(Qux (hc H0 A0) (ha H0 A0) (hb H0 A0)).mono λE σ H=>exK λρ hs F o rel e q=>by
 refine Qi e λc e1 e=>?_;refine⟨ρ,hs,F,c,rel,e1,λH1 s1=>?_⟩;cases c with
 | true=>exact Qqs ⟨ρ,hs,F,o,rel.ext s1,e,q⟩
 | false=>exact Qqj ⟨ρ,hs,F,o,rel.ext s1,e,q⟩
def Qyt(hp:PassesOwn (model X.prog X.w) X.A X.env X.xe)(hc:X.calm=true)(hi:SI X tg iter fi)(hg:SG X tg t)(hb:SS X body f)(hs:∀x,foldedSetIterable iter X.env x=pure x):
  S1 X (.For tg iter body [] pos) (Qbd fi t f):=λH0 A0=>(QqV hp hc (hi H0 A0) (hg H0 A0) (hb H0 A0) hs).mono λE σ H=>exK λρ hs F o rel e q=>by
 refine Qi e λir e1 e=>?_;refine⟨ρ,hs,F,ir,rel,e1,λJ H1 ts s1 wk hts ow hz=>?_⟩;have rel1:Rel X.K H0 A0 (ts++hs) (Qcj ir.M ρ) F σ H1:=((rel.ext s1).weak (Qcz ir.M ρ)).hold λt ht=>⟨(hts t ht).1,Shr.of rel (hts t ht).2⟩;refine⟨λi m σ' H'=>m=ir.items.length-i/\i<=ir.items.length/\∃ρi Fi,Rel X.K H0 A0 (ts++hs) ρi Fi σ' H'/\Qdn t f (ir.items.drop i) ρi=some o,⟨_,rfl,ZQ _,_,F,rel1,by simpa using e⟩,?_⟩;rintro i m σ' H' ⟨rfl,hi',ρi,Fi,reli,ei⟩;have held:QjR X.K H' ts:=λt ht=>(reli.held t (Zk _ ht)).1;by_cases hlt:i<ir.items.length
 .rw[ZL hlt]at ei;unfold Qdn at ei;refine Qi ei λρ1 eb ei=>?_;refine Qi ei λo1 eo ei=>?_;refine .inr ⟨wk.go i H' hlt held,λσ2 H2=>∃ρ2 F2,Rel X.K H0 A0 (ts++hs) ρ2 F2 σ2 H2/\Qdn t f (ir.items.drop (i+1)) ρ2=some o,λσ2 H2 ⟨ρ2,F2,rel2,e2⟩=>⟨_,⋯,rfl,hlt,ρ2,F2,rel2,e2⟩,λx H2 hy=>?_⟩;obtain⟨s2,G0,rp0,hG0⟩:=wk.yld i ir.items[i] H' x H2 (by simp[hlt]) held hy;have shr:Shr H0 A0 ρi Fi G0:=λa ha=>by
   obtain⟨t,ht,hat⟩:=hG0 a ha;exact⟨(reli.held t (Zk _ ht)).2 a hat,λj d ej hj=>(reli.own j d ej).2.2.2.2 t (Zk _ ht) a hj hat⟩
  refine⟨ρi,ts++hs,Fi,ir.items[i],G0,ρ1,reli.ext s2,rp0,shr,eb,λσ3 F3 rel3 _ _=>⟨ρ1,ts++hs,F3,o1,rel3,eo,?_⟩⟩;cases o1 with
  | nx ρ2=>exact λσ4 H4 F4 rel4=>⟨ρ2,F4,rel4,ei⟩
  | ct ρ2=>exact λσ4 H4 F4 rel4=>⟨ρ2,F4,rel4,ei⟩
  | bk ρ2=>cases ei;exact λσ4 H4 F4 rel4=>q σ4 H4 F4 rel4.Qnq
  | rt d fr=>cases ei;exact q
 .have hn:i=ir.items.length:= ⋯
  subst hn;rw[Zba]at ei;cases ei;exact .inl ⟨wk.stop H' held,q σ' H' Fi reli.Qnq⟩
def Rel.QA1(rel:Rel K H0 A0 hs ρ F σ H)(rp:Rp K H d v [])(hf:d.flat=true):
  ∃F',Rel K H0 A0 hs (ρ.set i (some (d,true))) F' (σ.set i (some v)) H:=by
 have:=rel.Qqb (i:=i) rp (λa ha=>by simp at ha);rw[hf]at this;exact⟨_,this⟩
end
end HS
namespace HS
open PySem PySem.Spec L2 PyProof.Rows
end HS
namespace HS
open PySem PySem.Spec L2
section
variable {K:Fgg}{H H':Hp}
def Rps.split:∀{ds:List D}{vs:List V}{F:LAd}{j:Nat}{d:D},Rps K H ds vs F->ds[j]? =some d→
  ∃F1 G F2 v,F=F1++(G++F2)/\vs[j]? =some v/\Rps K H (ds.take j) (vs.take j) F1/\Rp K H d v G/\Rps K H (ds.drop (j+1)) (vs.drop (j+1)) F2
 | [],_,_,_,_,_,e=>by simp at e
 | d::ds,_,_,0,_,h,e=>by
  simp only[Rps]at h;obtain⟨v,ws,F1,F2,rfl,rfl,r,q⟩:=h;simp at e;subst e;exact⟨[],F1,F2,v,rfl,⋯,by simp[Rps],r,by simpa using q⟩
 | d::ds,_,_,j+1,_,h,e=>by
  simp only[Rps]at h;obtain⟨v,ws,F1,F2,rfl,rfl,r,q⟩:=h;obtain⟨G1,G,G2,v',h1,h2,h3,h4,h5⟩:=Rps.split q (by simpa using e);refine⟨F1++G1,G,G2,v',by rw[h1,ZaC],by simpa using h2,?_,h4,by simpa using h5⟩;simp only[List.take_succ_cons,Rps];exact⟨v,_,F1,G1,rfl,rfl,r,h3⟩
def Rps.join{ds:List D}{vs:List V}{F1 G F2:LAd}{j:Nat}{d:D}{v:V}(h1:Rps K H (ds.take j) (vs.take j) F1)(hd:Rp K H d v G)(h2:Rps K H (ds.drop (j+1)) (vs.drop (j+1)) F2)(hj:j<ds.length)(hv:vs[j]? =some v):
  Rps K H (ds.set j d) vs (F1++(G++F2)):=by
 have e1:ds.set j d=ds.take j++d::ds.drop (j+1):=Zao .. |>.trans (by rw[if_pos hj]);have hjv:j<vs.length:=(Zj.mp hv).1;have hve:vs[j]=v:=(Zj.mp hv).2;have e2:vs=vs.take j++v::vs.drop (j+1):=by
  rw[← hve,← ZL hjv,Zan]
 rw[e1,e2];refine h1.append ?_;simp only[Rps];refine⟨v,_,G,F2,rfl,rfl,hd,h2⟩
def Rps.QAh{ds:List D}{vs:List V}{F1 G F2:LAd}{j:Nat}{d:D}{v:V}(h1:Rps K H (ds.take j) (vs.take j) F1)(hd:Rp K H d v G)(h2:Rps K H (ds.drop (j+1)) (vs.drop (j+1)) F2)(hj:j<ds.length)(hv:j<vs.length):
  Rps K H (ds.set j d) (vs.set j v) (F1++(G++F2)):=by
 have e1:ds.set j d=ds.take j++d::ds.drop (j+1):=Zao .. |>.trans (by rw[if_pos hj]);have e2:vs.set j v=vs.take j++v::vs.drop (j+1):=Zao .. |>.trans (by rw[if_pos hv]);rw[e1,e2];refine h1.append ?_;simp only[Rps];exact⟨v,_,G,F2,rfl,rfl,hd,h2⟩
def Focus(K:Fgg)(H:Hp):List Int->D->V->List Addr->D->V->List Addr->Prop
 | [],d,v,F,dm,w,Gm=>dm=d/\w=v/\Gm=F/\Rp K H d v F
 | i::is,d,v,F,dm,w,Gm=>∃(ds:List D) (a:Addr) (vs:List V) (j:Nat) (F1 G F2:LAd) (d':D) (v':V),v= .ref a/\ixN ds.length i=some j∧
   ((d= .lst ds/\ds.length<=sizeLine/\((F=a::(F1++(G++F2))/\H a=some (.lst vs))∨(F=F1++(G++F2)/\Fix K H a vs)))∨(d= .tup ds/\F=F1++(G++F2)/\SqT K H a vs))∧
   Rps K H (ds.take j) (vs.take j) F1/\Rps K H (ds.drop (j+1)) (vs.drop (j+1)) F2/\ds[j]? =some d'/\vs[j]? =some v'/\ds.length=vs.length/\Focus K H is d' v' G dm w Gm
def Focus.same(s:QJ H H'):∀{is:List Int}{d:D}{v:V}{F:LAd}{dm:D}{w:V}{Gm:LAd},Focus K H is d v F dm w Gm->Focus K H' is d v F dm w Gm
 | [],_,_,_,_,_,_,h=>⟨h.1,h.2.1,h.2.2.1,h.2.2.2.same s⟩
 | i::is,_,_,_,_,_,_,h=>by
  obtain⟨ds,a,vs,j,F1,G,F2,d',v',h1,h2,h3,h4,h5,h6,h7,h8,h9⟩:=h;refine⟨ds,a,vs,j,F1,G,F2,d',v',h1,h2,?_,h4.same s,h5.same s,h6,h7,h8,h9.same s⟩;rcases h3 with⟨e,z,q⟩ | ⟨e,eF,q⟩
  .refine .inl ⟨e,z,?_⟩;rcases q with⟨eF,q⟩ | ⟨eF,q⟩
   .exact .inl ⟨eF,s _ _ q⟩
   .exact .inr ⟨eF,Qka s q⟩
  .exact .inr ⟨e,eF,QoG s q⟩
def Focus.rp:∀{is:List Int}{d:D}{v:V}{F:LAd}{dm:D}{w:V}{Gm:LAd},Focus K H is d v F dm w Gm->Rp K H dm w Gm
 | [],_,_,_,_,_,_,h=>by
  obtain⟨rfl,rfl,rfl,r⟩:=h;exact r
 | i::is,_,_,_,_,_,_,h=>by
  obtain⟨ds,a,vs,j,F1,G,F2,d',v',h1,h2,h3,h4,h5,h6,h7,h8,h9⟩:=h;exact h9.rp
def Focus.QrC:∀{is:List Int}{d:D}{v:V}{F:LAd}{dm:D}{w:V}{Gm:LAd},Focus K H is d v F dm w Gm->Rp K H d v F
 | [],_,_,_,_,_,_,h=>h.2.2.2
 | i::is,_,_,_,_,_,_,h=>by
  obtain⟨ds,a,vs,j,F1,G,F2,d',v',rfl,h2,h3,h4,h5,h6,h7,h8,h9⟩:=h;have hjl:j<ds.length:=(Zj.mp h6).1;have hdj:ds[j]=d':=(Zj.mp h6).2;have j1:=Rps.join h4 h9.QrC h5 hjl h7;rw[show ds.set j d'=ds by rw[← hdj];exact List.set_getElem_self hjl]at j1;rcases h3 with⟨rfl,hz,⟨rfl,q⟩ | ⟨rfl,q⟩⟩ | ⟨rfl,rfl,q⟩
  .exact Rp.Qhe q j1 hz
  .simp only[Rp];exact⟨hz,a,vs,rfl,.inr ⟨q,j1⟩⟩
  .simp only[Rp];exact⟨a,vs,rfl,q,j1⟩
def Focus.one(r:Rp K H d v F)(hd:d.items=some ds)(hi:atI ds i=some d'):
  ∃a vs v' G,v= .ref a/\((d= .lst ds/\SqL K H a vs)∨(d= .tup ds/\SqT K H a vs))/\atI vs i=some v'/\Focus K H [i] d v F d' v' G:=by
 unfold atI at hi;cases hj:ixN ds.length i with
 | none=>rw[hj]at hi;cases hi
 | some j=>
  rw[hj]at hi;have hdj:ds[j]? =some d':=hi;have fin:∀(vs:List V) (L:LAd),Rps K H ds vs L->∃v' G F1 F2,L=F1++(G++F2)/\vs[j]? =some v'/\atI vs i=some v'/\Rps K H (ds.take j) (vs.take j) F1/\Rp K H d' v' G/\Rps K H (ds.drop (j+1)) (vs.drop (j+1)) F2/\ds.length=vs.length:=λvs L rl=>by
   obtain⟨F1,G,F2,v',h1,h2,h3,h4,h5⟩:=rl.split hdj;refine⟨v',G,F1,F2,h1,h2,?_,h3,h4,h5,rl.length⟩;unfold atI;rw[← rl.length,hj];exact h2
  cases d with
  | lst xs=>
   cases hd;simp only[Rp]at r;obtain⟨hz,a,vs,rfl,⟨L,rfl,q,rl⟩ | ⟨q,rl⟩⟩:=r
   .obtain⟨v',G,F1,F2,h1,h2,h3,h4,h5,h6,h7⟩:=fin vs L rl;exact⟨a,vs,v',G,rfl,.inl ⟨rfl,SqL.of q⟩,h3,ds,a,vs,j,F1,G,F2,d',v',rfl,hj,.inl ⟨rfl,hz,.inl ⟨by rw[h1],q⟩⟩,h4,h6,hdj,h2,h7,rfl,rfl,rfl,h5⟩
   .obtain⟨v',G,F1,F2,h1,h2,h3,h4,h5,h6,h7⟩:=fin vs _ rl;exact⟨a,vs,v',G,rfl,.inl ⟨rfl,q.sq⟩,h3,ds,a,vs,j,F1,G,F2,d',v',rfl,hj,.inl ⟨rfl,hz,.inr ⟨h1,q⟩⟩,h4,h6,hdj,h2,h7,rfl,rfl,rfl,h5⟩
  | tup xs=>
   cases hd;obtain⟨a,vs,rfl,q,rl⟩:=r.QbF;obtain⟨v',G,F1,F2,h1,h2,h3,h4,h5,h6,h7⟩:=fin vs _ rl;exact⟨a,vs,v',G,rfl,.inr ⟨rfl,q⟩,h3,ds,a,vs,j,F1,G,F2,d',v',rfl,hj,.inr ⟨rfl,h1,q⟩,h4,h6,hdj,h2,h7,rfl,rfl,rfl,h5⟩
  | _=>cases hd
def Focus.snoc:∀{is:List Int}{d:D}{v:V}{F:LAd}{dm:D}{w:V}{Gm:LAd}{i:Int}{d':D}{v':V}{G:LAd},Focus K H is d v F dm w Gm->Focus K H [i] dm w Gm d' v' G->Focus K H (is++[i]) d v F d' v' G
 | [],_,_,_,_,_,_,_,_,_,_,h,g=>by
  obtain⟨rfl,rfl,rfl,r⟩:=h;exact g
 | k::is,_,_,_,_,_,_,_,_,_,_,h,g=>by
  obtain⟨ds,a,vs,j,F1,G,F2,d',v',h1,h2,h3,h4,h5,h6,h7,h8,h9⟩:=h;exact⟨ds,a,vs,j,F1,G,F2,d',v',h1,h2,h3,h4,h5,h6,h7,h8,h9.snoc g⟩
noncomputable def Qcq:D->List Int->Option D
 | d,[]=>some d
 | d,i::is=>(d.items).bind λds=>(atI ds i).bind λd'=>Qcq d' is
def QkF:∀{is:List Int}{d:D}{i:Int}{d':D},Qcq d (is++[i])=some d'->∃dm ds,Qcq d is=some dm/\dm.items=some ds/\atI ds i=some d'
 | [],d,i,d',h=>by
  refine Qi h λds h1 h=>?_;refine Qi h λd'' h2 h=>?_;cases h;exact⟨d,ds,rfl,h1,h2⟩
 | k::is,d,i,d',h=>by
  refine Qi h λds h1 h=>?_;refine Qi h λd'' h2 h=>?_;obtain⟨dm,es,h3,h4,h5⟩:=QkF h;refine⟨dm,es,?_,h4,h5⟩;simp only[Qcq,h1,h2,Za,h3]
noncomputable def QbB:List Int->D->D->D
 | [],_,new=>new
 | i::is,.lst ds,new=>match ixN ds.length i with
  | some j=> .lst (ds.set j (QbB is (ds.getD j .non) new))
  | none=> .lst ds
 | i::is,.tup ds,new=>match ixN ds.length i with
  | some j=> .tup (ds.set j (QbB is (ds.getD j .non) new))
  | none=> .tup ds
 | _::_,d,_=>d
def Qjp:∀{ds:List D}{j:Nat}{d e:D},ds[j]? =some d->nls (ds.set j e)+d.nl=nls ds+e.nl
 | [],_,_,_,h=>by simp at h
 | x::ds,0,d,e,h=>by simp at h;subst h;simp only[List.set_cons_zero,nls];omega
 | x::ds,j+1,d,e,h=>by
  have:=Qjp (e:=e) (by simpa using h);simp only[List.set_cons_succ,nls];omega
def Qex:∀(as bs:List D),nls (as++bs)=nls as+nls bs
 | [],bs=>by simp[nls]
 | a::as,bs=>by simp only[ZaH,nls,Qex as bs];omega
def Focus.mut:∀{is:List Int}{d:D}{v:V}{F:LAd}{Gm:LAd},Focus K H is d v F (.lst dsm) (.ref p) Gm->F.Nodup->F.length=d.nl→
  ∃vsm Gp,H p=some (.lst vsm)/\Gm=p::Gp/\Rps K H dsm vsm Gp/\Gp.length=nls dsm/\p∈F/\(∀a∈Gp,a∈F)/\p∉Gp∧
   (Rps K (upd H p (.lst vs')) ds' vs' G'->ds'.length<=sizeLine->G'.length=nls ds'→
    ∃F',Rp K (upd H p (.lst vs')) (QbB is d (.lst ds')) v F'/\F'.length=(QbB is d (.lst ds')).nl/\∀a,F'.count a+Gp.count a=F.count a+G'.count a)
 | [],d,v,F,Gm,h,nd,hl=>by
  obtain⟨rfl,rfl,rfl,r⟩:=h;simp only[Rp]at r;obtain⟨hz,a,vs,e,h⟩:=r;cases e;rcases h with⟨L,rfl,q,rl⟩ | ⟨q,rl⟩
  .obtain⟨n1,n2⟩:=Zap.mp nd;have hl':L.length=nls dsm:=by simp only[D.nl,ZM]at hl;omega
   refine⟨vs,L,q,rfl,rl,hl',Zw,λa ha=>Zc _ ha,n1,λr' hz' hl2=>⟨p::G',Rp.Qhe QaM r' hz',?_,λa=>?_⟩⟩
   .simp only[QbB,D.nl,ZM,hl2]
   .rw[Zaq,Zaq];omega
  .have:=rl.Qa9;simp only[D.nl]at hl;omega
 | i::is,d,v,F,Gm,h,nd,hl=>by
  obtain⟨ds,a,vs,j,F1,G,F2,d',v',rfl,hj,h3,h4,h5,h6,h7,h8,h9⟩:=h;have hjl:j<ds.length:=(Zj.mp h6).1;have gd:ds.getD j .non=d':=by rw[Zad,h6];rfl
  have l1:=h4.Qa9;have l2:=h5.Qa9;have l3:=h9.QrC.Qa9;have nlsplit:nls (ds.take j)+(d'.nl+nls (ds.drop (j+1)))=nls ds:=by
   have e1:ds=ds.take j++d'::ds.drop (j+1):=by
    have:ds[j]=d':=(Zj.mp h6).2;rw[← this,← ZL hjl,Zan]
   have e2:=congrArg nls e1;rw[Qex]at e2;simp only[nls]at e2;exact e2.symm
  have core:(F1++(G++F2)).Nodup->(F1++(G++F2)).length=nls ds->_:=λnd' hl'=>by
   simp only[Zd]at hl';have hG:G.length=d'.nl:= ⋯
   have ndG:G.Nodup:=(ZaT.mp (ZaT.mp nd').2.1).1;exact(h9.mut (vs':=vs') (ds':=ds') (G':=G') ndG hG)
  have apart:(F1++(G++F2)).Nodup->p∈G->p∉F1/\p∉F2:=λnd' hp=>by
   have n1:=ZaT.mp nd';have n2:=ZaT.mp n1.2.1;exact⟨λh=>n1.2.2 p h p (Zk _ hp) rfl,λh=>n2.2.2 p hp p h rfl⟩
  have cnt:∀(G'' Gp:LAd),(∀a,G''.count a+Gp.count a=G.count a+G'.count a)->∀a,(F1++(G''++F2)).count a+Gp.count a=(F1++(G++F2)).count a+G'.count a:=λG'' Gp hc a=>by
   have:=hc a;simp only[ZX];omega
  rcases h3 with⟨rfl,hz,⟨rfl,q⟩ | ⟨rfl,q⟩⟩ | ⟨rfl,rfl,q⟩
  ·
   obtain⟨n1,n2⟩:=Zap.mp nd;have hl':(F1++(G++F2)).length=nls ds:=by simp only[D.nl,ZM]at hl;omega
   obtain⟨vsm,Gp,e1,e2,e3,e4,e5,e6,e7,e8⟩:=core n2 hl';have ap:=apart n2 e5;have hap:a≠p:=λz=>n1 (by rw[z];exact Zg _ (Zk _ e5));refine⟨vsm,Gp,e1,e2,e3,e4,Zc _ (Zg _ (Zk _ e5)),λb hb=>Zc _ (Zg _ (Zk _ (e6 b hb))),e7,λr' hz' hl2=>?_⟩;obtain⟨G'',f1,f2,f3⟩:=e8 r' hz' hl2;have j1:=Rps.join (h4.upd e1 ap.1) f1 (h5.upd e1 ap.2) hjl h7;refine⟨a::(F1++(G''++F2)),?_,?_,λb=>?_⟩
   .simp only[QbB,hj,gd];exact Rp.Qhe (by rw[QQ hap];exact q) j1 (by rw[ZaL];exact hz)
   .have:=Qjp (e:=QbB is d' (.lst ds')) h6;simp only[QbB,hj,gd,D.nl,ZM,Zd,f2]at hl' ⊢;omega
   .have:=cnt G'' Gp f3 b;rw[Zaq,Zaq];omega
  .have:(F1++(G++F2)).length<=nls ds:=by simp only[Zd];omega
   simp only[D.nl]at hl;omega
  ·
   have hl':(F1++(G++F2)).length=nls ds:=by simpa only[D.nl]using hl
   obtain⟨vsm,Gp,e1,e2,e3,e4,e5,e6,e7,e8⟩:=core nd hl';have ap:=apart nd e5;refine⟨vsm,Gp,e1,e2,e3,e4,Zg _ (Zk _ e5),λb hb=>Zg _ (Zk _ (e6 b hb)),e7,λr' hz' hl2=>?_⟩;obtain⟨G'',f1,f2,f3⟩:=e8 r' hz' hl2;have j1:=Rps.join (h4.upd e1 ap.1) f1 (h5.upd e1 ap.2) hjl h7;refine⟨F1++(G''++F2),?_,?_,cnt G'' Gp f3⟩
   .simp only[QbB,hj,gd,Rp];exact⟨a,vs,rfl,QpD e1 q,j1⟩
   .have:=Qjp (e:=QbB is d' (.lst ds')) h6;simp only[QbB,hj,gd,D.nl,Zd,f2]at hl' ⊢;omega
end
section
def Rel.mut(rel:Rel K H0 A0 hs ρ F σ H)(p:Qae K ρ F H H1 r vn Gn)(hf:r.fr=true)(nd:r.M.Nodup)(s12:QJ H1 H2)(hx:ρ[x]? =some (some (d,true)))(hxM:x∉r.M)(hv0:σ[x]? =some (some v0))
  {dnew:D}{q:Addr}{F':LAd}{vsm vs':List V}(e1:H2 q=some (.lst vsm)) (e5:q∈F x) (f1:Rp K (upd H2 q (.lst vs')) dnew v0 F') (f2:F'.length=dnew.nl) (cF:∀a,F'.count a<=(F x).count a+Gn.count a):
  ∃F',Rel K H0 A0 hs ((kill r.M ρ).set x (some (dnew,true))) F' σ (upd H2 q (.lst vs')):=by
 obtain⟨ol,on,o0,oap,oh⟩:=rel.own x d hx;obtain⟨gn,gs⟩:=p.fresh rel hf nd;have rel2:=(rel.ext p.same).ext s12;have relk:=rel2.weak (Qc4 r.M ρ);have apn:∀a∈Gn,a∉F x:=λa ha hax=>by
  rcases(gs a ha).2 with z | ⟨k,d',hk,ek,hak⟩
  .obtain⟨vs,w⟩:=rel.mem hx hax;rw[z]at w;cases w
  .have:k≠x:=λz=>hxM (z▸hk);exact oap k d' true this ek a hax hak
 have memF:∀a∈F',a∈F x∨a∈Gn:=λa ha=>by
  have h1:=cF a;have h2:0<F'.count a:=Zaf.mpr ha;by_cases h:a∈F x
  .exact .inl h
  .rw[ZN.mpr h]at h1;exact .inr (Zaf.mp ⋯)
 have apart:∀(j:Nat) d' b,j≠x->(kill r.M ρ)[j]? =some (some (d',b))->∀a∈F',a∉F j:=λj d' b hj e a ha haj=>by
  obtain⟨b',e',_⟩:=(Qc4 r.M ρ).2 j d' b e;rcases memF a ha with h | h
  .exact oap j d' b' hj e' a h haj
  .rcases(gs a h).2 with z | ⟨k,d'',hk,ek,hak⟩
   .obtain⟨vs,w⟩:=rel.mem e' haj;rw[z]at w;cases w
   .have hjk:j≠k:=λz=>by subst z;exact Qiz r.M ρ j d' b hk e
    exact(rel.own k d'' ek).2.2.2.1 j d' b' hjk e' a hak haj
 have apartH:∀t∈hs,∀a∈F',a∉t.2.2:=λt ht a ha hat=>by
  rcases memF a ha with h | h
  .exact oh t ht a h hat
  .rcases(gs a h).2 with z | ⟨k,d'',hk,ek,hak⟩
   .obtain⟨vs,w⟩:=(rel.held t ht).1.mem a hat
    rw[z]at w;cases w
   .exact(rel.own k d'' ek).2.2.2.2 t ht a hak hat
 have nqj:∀(j:Nat) d' b,j≠x->ρ[j]? =some (some (d',b))->q∉F j:=λj d' b hj e h=>oap j d' b hj e q e5 h;have nF':F'.Nodup:=Zah.mpr λa=>by
  have h1:=cF a;have h2:=Zah.mp on a;have h3:=Zah.mp gn a;by_cases h:a∈Gn
  .rw[ZN.mpr (apn a h)]at h1;omega
  .rw[ZN.mpr h]at h1;omega
 have lt:∀{j:Nat}{z:Option (D×Bool)}{y:D×Bool},((kill r.M ρ).set j z)[j]? =some (some y)->j<(kill r.M ρ).length:=λ{j z y} e=>by
  by_cases hl:j<(kill r.M ρ).length
  .exact hl
  .rw[ZD (by simp;omega)]at e;cases e
 refine⟨λj=>if j=x then F' else F j,by simp[relk.len],λj d' b e=>?_,λj d' e=>?_,λj d' b e a ha=>?_,λt ht=>⟨(relk.held t ht).1.upd e1 λh=>oh t ht q e5 h,(relk.held t ht).2⟩,λb o hb=>?_⟩
 .by_cases hj:j=x
  .subst hj;have hl:=lt e;rw[Zp hl]at e;cases e;exact⟨v0,hv0,by rw[if_pos rfl];exact f1⟩
  .rw[Zl (Ne.symm hj)]at e;obtain⟨w,h1,h2⟩:=relk.val j d' b e;obtain⟨b',e',_⟩:=(Qc4 r.M ρ).2 j d' b e;exact⟨w,h1,by rw[if_neg hj];exact h2.upd e1 (nqj j d' b' hj e')⟩
 .by_cases hj:j=x
  .subst hj;have hl:=lt e;rw[Zp hl]at e;cases e;rw[if_pos rfl];refine⟨f2,nF',λa ha=>?_,λk d'' b hk ek a ha=>?_,apartH⟩
   .rcases memF a ha with h | h
    .exact o0 a h
    .exact(gs a h).1
   .rw[Zl (Ne.symm hk)]at ek;rw[if_neg hk];exact apart k d'' b hk ek a ha
  .rw[Zl (Ne.symm hj)]at e;obtain⟨h1,h2,h3,h4,h5⟩:=relk.own j d' e;rw[if_neg hj];refine⟨h1,h2,h3,λk d'' b hk ek a ha=>?_,h5⟩;by_cases hki:k=x
   .subst hki;rw[if_pos rfl];exact λhG=>apart j d' true hj e a hG ha
   .rw[Zl (Ne.symm hki)]at ek;rw[if_neg hki];exact h4 k d'' b hk ek a ha
 .by_cases hj:j=x
  .subst hj;rw[if_pos rfl]at ha;rcases memF a ha with h | h
   .exact .inl (o0 a h)
   .exact .inl (gs a h).1
  .rw[Zl (Ne.symm hj)]at e;rw[if_neg hj]at ha;exact relk.src j d' b e a ha
 .have hbq:b≠q:=λz=>by rw[z,o0 q e5]at hb;cases hb
  rw[QQ hbq];exact relk.same b o hb
end
noncomputable abbrev DP:=En->Option (List Int)
noncomputable def Qbe:DP:=λ_=>some []
noncomputable def Qjl(p:DP)(fb:DE):DP:=λρ=>(p ρ).bind λis=>(fb ρ).bind λr=>match r.d with
 | .int i=>some (is++[i])
 | _=>none
noncomputable def tP(K:Fgg)(H0:Hp)(A0:LAd)(x:Nat)(pf:DP):TE:=λσ H Q=>∃ρ hs F d b is dm,Rel K H0 A0 hs ρ F σ H/\ρ[x]? =some (some (d,b))/\pf ρ=some is/\Qcq d is=some dm∧
 ∀v0 v H' Gm,QJ H H'->σ[x]? =some (some v0)->Focus K H' is d v0 (F x) dm v Gm->Q v H'
def SPa(X:Cx)(e:Expr)(x:Nat)(pf:DP):Prop:=∀H0 A0,PE X e (tP X.K H0 A0 x pf)
section
def QsT(h:PE X (.Name y pos) (QdQ x)):SPa X (.Name y pos) x Qbe:=λH0 A0=>h.mono λσ H Q Z=>by
 obtain⟨ρ,hs,F,d,b,is,dm,rel,hx,hp,hd,q⟩:=Z;cases hp;cases hd;obtain⟨v,h1,h2⟩:=rel.val x d b hx;exact⟨v,h1,q v v H (F x) (QJ.refl _) h1 ⟨rfl,rfl,rfl,h2⟩⟩
def QvL(ha:SPa X a x pf)(hb:SE X b fb)(hs:Qjg b):SPa X (.Subscript a b pos) x (Qjl pf fb):=λH0 A0=>
 (Quk (Qpb.or Qsn) (ha H0 A0) (hb H0 A0) hs).mono λσ H Q Z=>by
  obtain⟨ρ,hs,F,d,b',is,dm,rel,hx,hp,hd,q⟩:=Z;refine Qi hp λis' e1 hp=>?_;refine Qi hp λr e2 hp=>?_;cases hr:r.d with
  | int i=>
   rw[hr]at hp;cases hp;obtain⟨dn,ds,g1,g2,g3⟩:=QkF hd;refine⟨ρ,hs,F,d,b',is',dn,rel,hx,e1,g1,λv0 w H1 Gm s1 hv fo=>⟨ρ,hs,F,r,rel.ext s1,e2,λu H2 G p2=>?_⟩⟩;have rp:=p2.rp;rw[hr]at rp;rw[rp.int_inv];have fo2:=fo.same p2.same;obtain⟨c,vs,v',G',rfl,hc,h3,h4⟩:=Focus.one fo2.rp g2 g3;have fin:=q v0 v' H2 G' (s1.trans p2.same) hv (fo2.snoc h4);rcases hc with⟨_,hc⟩ | ⟨_,hc⟩
   .exact .inl ⟨c,vs,i,v',rfl,rfl,hc,h3,fin⟩
   .exact .inr ⟨c,vs,i,v',rfl,rfl,hc,h3,fin⟩
  | _=>rw[hr]at hp;cases hp
noncomputable def QgS(x:Nat)(pf:DP)(fi fa:DE):DS:=λρ=>(fa ρ).bind λr0=>match ρ[x]? with
 | some (some (d,true))=>(pf ρ).bind λis=>(fi ρ).bind λri=>match ri.d,Qcq d is with
  | .int k,some (.lst ds)=>(ixN ds.length k).bind λj=>if r0.norm.fr && decide r0.norm.M.Nodup && !r0.norm.M.contains x then some (.nx ((kill r0.norm.M ρ).set x (some (QbB is d (.lst (ds.set j r0.d)),true))))else
   none
  | _,_=>none
 | _=>none
def set_mk(hq:H2 q=some (.lst vsm))(rs:Rps K H2 dsm vsm Gp)(hl:Gp.length=nls dsm)(nq:q∉Gp)(nqn:q∉Gn)(hn:Rp K H2 dn vn Gn)(hnl:Gn.length=dn.nl)(hj:j<dsm.length):
  ∃G',Rps K (upd H2 q (.lst (vsm.set j vn))) (dsm.set j dn) (vsm.set j vn) G'/\G'.length=nls (dsm.set j dn)/\∀a,G'.count a<=Gp.count a+Gn.count a:=by
 obtain⟨F1,G,F2,v,e1,e2,h1,h2,h3⟩:=rs.split (j:=j) (d:=dsm[j]) (by simp[hj]);subst e1;have hjv:j<vsm.length:=by rw[← rs.length];exact hj
 have n1:q∉F1:=λh=>nq (Zk _ h);have n2:q∉F2:=λh=>nq (Zg _ (Zg _ h));refine⟨F1++(Gn++F2),Rps.QAh (h1.upd hq n1) (hn.upd hq nqn) (h3.upd hq n2) hj hjv,?_,λa=>?_⟩
 .have:=Qjp (ds:=dsm) (j:=j) (d:=dsm[j]) (e:=dn) (by simp[hj]);have l1:=h1.Qa9;have l2:=h2.Qa9;have l3:=h3.Qa9;have e1:nls (dsm.take j)+((dsm[j]).nl+nls (dsm.drop (j+1)))=nls dsm:=by
   have e2:=congrArg nls (Zan j dsm);rw[Qex,ZL hj]at e2;simpa only[nls]using e2
  simp only[Zd]at hl ⊢;omega
 .simp only[ZX];omega
def Qae.Qut(p:Qae K ρ F H H1 r v G)(s:QJ H1 H2):Qae K ρ F H H2 r v G:=⟨p.same.trans s,p.rp.same s,p.src,p.cnt,p.own⟩
def Qy6(hv:SE X e fa)(ho:SPa X a x pf)(hi:SE X i fi)
  (h:∀te to ti,PE X e te->PE X a to->PE X i ti->PS X (.Assign [.Subscript a i pos'] e pos) (QjU te (L2.Qge to ti QuG))):S1 X (.Assign [.Subscript a i pos'] e pos) (QgS x pf fi fa):=λH0 A0=>
 (h _ _ _ (hv H0 A0) (ho H0 A0) (hi H0 A0)).mono λE σ H=>exK λρ hs F o rel e q=>by
  refine Qi e λr0 e1 e=>?_;split at e
  .rename_i d hx;refine Qi e λis e2 e=>?_;refine Qi e λri e3 e=>?_;split at e
   .rename_i k ds hk hp;refine Qi e λj e4 e=>?_;split at e
    .rename_i hc;cases e;simp only[Zf,decide_eq_true_eq,ZT]at hc;obtain⟨⟨c1,c2⟩,c3⟩:=hc;have c3:x∉r0.norm.M:=λh=>by rw[List.contains_iff_mem.mpr h]at c3;cases c3
     refine⟨ρ,hs,F,r0,rel,e1,λvn H1 Gn p=>⟨ρ,hs,F,d,true,is,.lst ds,rel.ext p.same,hx,e2,hp,λv0 w H2 Gm s2 hv0 fo=>⟨ρ,hs,F,ri,(rel.ext p.same).ext s2,e3,λu H3 Gi pi=>?_⟩⟩⟩;have p':=(p.norm.Qut s2).Qut pi.same;have fo3:=fo.same pi.same;have rpi:=pi.rp;rw[hk]at rpi;rw[rpi.int_inv];obtain⟨l,ws,L,rfl,_⟩:=fo3.rp.lst_inv;obtain⟨ol,on,_,oap,_⟩:=rel.own x d hx;have hjl:=(Qjc e4).2.1;obtain⟨gn,gs⟩:=p'.fresh rel c1 c2;have rn:=p'.rp;rw[r0.Qfk]at rn;have hnl:=(p'.cnt c1).2;rw[r0.Qfk]at hnl;obtain⟨vsm,_,f1,_⟩:=fo3.mut (vs':=[]) (ds':=[]) (G':=[]) on ol;obtain⟨_,_,_,_,_,_,zl,_⟩:=fo3.rp.lst_inv;have key:∃F',Rp X.K (upd H3 l (.lst (vsm.set j vn))) (QbB is d (.lst (ds.set j r0.d))) v0 F'/\F'.length=(QbB is d (.lst (ds.set j r0.d))).nl/\l∈F x/\ds.length=vsm.length/\∀a,F'.count a<=(F x).count a+Gn.count a:=by
      have own5:∀G',_:=λG'=>fo3.mut (vs':=vsm.set j vn) (ds':=ds.set j r0.d) (G':=G') on ol;obtain⟨vs1,Gp,g1,g2,g3,g4,g5,g6,g7,_⟩:=own5 [];rw[f1]at g1;cases g1;have hq:l∉Gn:=λh=>by
       rcases(gs l h).2 with z | ⟨k',d',hk',ek,hak⟩
       .obtain⟨vs,w⟩:=rel.mem hx g5;rw[z]at w;cases w
       .exact oap k' d' true (λz=>c3 (z▸hk')) ek l g5 hak
      obtain⟨G',m1,m2,m3⟩:=set_mk f1 g3 g4 g7 hq rn hnl hjl;obtain⟨vs2,Gp2,k1,k2,k3,k4,k5,k6,k7,k8⟩:=own5 G';have eG:Gp2=Gp:=by rw[g2]at k2;exact(List.cons.inj k2).2.symm
      subst eG;obtain⟨F',h1,h2,h3⟩:=k8 m1 (by rw[ZaL];exact zl) m2;exact⟨F',h1,h2,g5,g3.length,λa=>by have:=h3 a;have:=m3 a;omega⟩
     obtain⟨F',k1,k2,k3,k4,k5⟩:=key;refine⟨l,vsm,k,j,rfl,rfl,f1,by rw[← k4];exact e4,?_⟩;obtain⟨F'',rel'⟩:=rel.mut p' c1 c2 (QJ.refl _) hx c3 hv0 f1 k3 k1 k2 k5;exact q _ _ F'' rel'
    ·
      cases e
   .cases e
  .cases e
end
section
variable {K:Fgg}{H0 H H1 H2 H3:Hp}{A0:LAd}{hs:List (V×D×List Addr)}{ρ:En}{F:Nat->List Addr}{σ:L2.St}
def Rel.write(rel:Rel K H0 A0 hs ρ F σ H)(p:Qae K ρ F H H3 r vn Gn)(hf:r.fr=true)(nd:r.M.Nodup)(hx:ρ[x]? =some (some (d,true)))(hxM:x∉r.M)(hv0:σ[x]? =some (some v0))
  {is:List Int}{ds:List D}{Gm:LAd}(fo:Focus K H3 is d v0 (F x) (.lst ds) w Gm):
  ∃l vsm Gp,w= .ref l/\H3 l=some (.lst vsm)/\Rps K H3 ds vsm Gp/\Gp.length=nls ds/\l∉Gp/\l∉Gn/\ds.length<=sizeLine∧
   ∀ds' vs' G',Rps K (upd H3 l (.lst vs')) ds' vs' G'->ds'.length<=sizeLine->G'.length=nls ds'->(∀a,G'.count a<=Gp.count a+Gn.count a)→
    ∃F',Rel K H0 A0 hs ((kill r.M ρ).set x (some (QbB is d (.lst ds'),true))) F' σ (upd H3 l (.lst vs')):=by
 obtain⟨l,ws,L,rfl,_,_,zl,_⟩:=fo.rp.lst_inv;obtain⟨ol,on,_,oap,_⟩:=rel.own x d hx;obtain⟨gn,gs⟩:=p.fresh rel hf nd;obtain⟨vsm,Gp,g1,g2,g3,g4,g5,g6,g7,_⟩:=fo.mut (vs':=[]) (ds':=[]) (G':=[]) on ol;have hq:l∉Gn:=λh=>by
  rcases(gs l h).2 with z | ⟨k',d',hk',ek,hak⟩
  .obtain⟨vs,w⟩:=rel.mem hx g5;rw[z]at w;cases w
  .exact oap k' d' true (λz=>hxM (z▸hk')) ek l g5 hak
 refine⟨l,vsm,Gp,rfl,g1,g3,g4,g7,hq,zl,λds' vs' G' m1 m2 m3 m4=>?_⟩;obtain⟨vs2,Gp2,k1,k2,k3,k4,k5,k6,k7,k8⟩:=fo.mut (vs':=vs') (ds':=ds') (G':=G') on ol;have eG:Gp2=Gp:=by rw[g2]at k2;exact(List.cons.inj k2).2.symm
 subst eG;obtain⟨F',h1,h2,h3⟩:=k8 m1 m2 m3;exact rel.mut p hf nd (QJ.refl _) hx hxM hv0 g1 g5 h1 h2 λa=>by have:=h3 a;have:=m4 a;omega
end
section
variable {X:Cx}{a b e:Expr}{fa fb:DE}{pf:DP}{x:Nat}{pos apos:Pos}
noncomputable def QmP(r:R)(x:Nat):Bool:=r.norm.fr && decide r.norm.M.Nodup && !r.norm.M.contains x
def QrO(h:QmP r x=true):r.norm.fr=true/\r.norm.M.Nodup/\x∉r.norm.M:=by
 unfold QmP at h;simp only[Zf,decide_eq_true_eq,ZT]at h;exact⟨h.1.1,h.1.2,λz=>by rw[List.contains_iff_mem.mpr z]at h;cases h.2⟩
noncomputable def Qf1(x:Nat)(pf:DP)(fa:DE):DS:=λρ=>match ρ[x]? with
 | some (some (d,true))=>(pf ρ).bind λis=>(fa ρ).bind λr0=>match Qcq d is with
  | some (.lst ds)=>if QmP r0 x && decide (ds.length<sizeLine)then some (.nx ((kill r0.norm.M ρ).set x (some (QbB is d (.lst (ds++[r0.d])),true))))else none
  | _=>none
 | _=>none
def QsA{H0:Hp}{A0:LAd}{E:Ends}{σ:L2.St}{H:Hp}:tS X.K H0 A0 (Qf1 x pf fa) E σ H->QfH (tBM X.K "list" Qpl (tP X.K H0 A0 x pf) (Qgu (tV X.K H0 A0 fa) QhC)) E σ H:=exK λρ hs F o rel e q=>by
 unfold Qf1 at e;split at e
 .rename_i d hx;refine Qi e λis e2 e=>?_;refine Qi e λr0 e1 e=>?_;split at e
  .rename_i ds hp;split at e
   .rename_i hc;simp only[Zf,decide_eq_true_eq]at hc;obtain⟨c1,c2,c3⟩:=QrO hc.1;cases e;refine⟨ρ,hs,F,d,true,is,.lst ds,rel,hx,e2,hp,λv0 w H2 Gm s2 hv0 fo=>?_⟩;have ty:tyV X.K "list" w H2:=by
     obtain⟨l,ws,L,rfl,hl,_⟩:=fo.rp.lst_inv;exact .inl ⟨rfl,ws,QaP hl⟩
    refine⟨ty,ρ,hs,F,r0,rel.ext s2,e1,λvn H3 Gn p=>?_⟩;have p':=p.norm;obtain⟨l,vsm,Gp,rfl,g1,g2,g3,g4,g5,g6,g7⟩:=(rel.ext s2).write p' c1 c2 hx c3 hv0 (fo.same p.same);refine⟨l,vsm,vn,rfl,rfl,g1,by rw[← g2.length];exact hc.2,?_⟩;have rn:=p'.rp;rw[r0.Qfk]at rn;have hnl:=(p'.cnt c1).2;rw[r0.Qfk]at hnl;have rw1:Rps X.K (upd H3 l (.lst (vsm++[vn]))) [r0.d] [vn] Gn:=by
     simp only[Rps];exact⟨vn,[],Gn,[],rfl,⋯,rn.upd g1 g5,rfl,rfl⟩
    obtain⟨F',rel'⟩:=g7 (ds++[r0.d]) (vsm++[vn]) (Gp++Gn) ((g2.upd g1 g4).append rw1) (by rw[Zd,ZI];omega) (by rw[Zd,Qex,g3,hnl];simp[nls]) (λa=>by rw[ZX];omega);exact q _ _ F' rel'
   .cases e
  .cases e
 .cases e
noncomputable def Qit(x:Nat)(pf:DP)(fa:DE):DS:=λρ=>match ρ[x]? with
 | some (some (d,true))=>(pf ρ).bind λis=>(fa ρ).bind λr0=>match Qcq d is,r0.d with
  | some (.lst ds),.lst es=>if Qah es && decide (ds.length+es.length<=sizeLine)then some (.nx (ρ.set x (some (QbB is d (.lst (ds++es)),true))))else none
  | _,_=>none
 | _=>none
def Qm6(K:Fgg):V->List V->Hp->VK->Prop:=λx vs H Q=>∃l b xs zs,x= .ref l/\vs=[.ref b]/\H l=some (.lst xs)/\(H b=some (.lst zs)∨Fix K H b zs)/\xs.length+zs.length<=sizeLine/\Q .non (upd H l (.lst (xs++zs)))
open PyProof.Rows in
def QqU:Qxb X (QxU X.K):=by
 intro pins s σ H o i ov iv Q I ro ri h;obtain⟨p,xs,k,v,rfl,rfl,hq,ha,q⟩:=h;cases ro;obtain⟨t,rfl⟩:=ri;obtain⟨its,r,pl,hz⟩:=I.list hq;obtain⟨j,h1,h2,h3,h4,h5⟩:=QlT ha;obtain⟨w,ew,rw'⟩:=r.get h2;have hl:=r.length;have hn:=QfW;by_cases h0:0<=k
 .refine wpAny_getItem_list pl.isList h0 ⋯ (x:=w) ?_ ⟨v,H,I,rw',q⟩;have:k.toNat=j:=by
   rw[seqIndex_of h0 h5]at h1;exact Option.some.inj h1
  rw[this];simpa using ew
 .refine wpAny_getItem_list_neg pl.isList ⋯ (by rw[Zr]<;>omega) ⋯ (x:=w) ?_ ⟨v,H,I,rw',q⟩;have hj:(k+(its.toArray.size:Int)).toNat=j:=by
   rw[seqIndex_neg ⋯ h4]at h1;rw[Zr,← hl];exact Option.some.inj h1
  rw[hj];simpa using ew
noncomputable def Qgo(g:D->D->Option D)(x:Nat)(pf:DP)(fi fa:DE):DS:=λρ=>match ρ[x]? with
 | some (some (d,true))=>(pf ρ).bind λis=>(fi ρ).bind λri=>match ri.d,Qcq d is with
  | .int k,some (.lst ds)=>(ixN ds.length k).bind λj=>(ds[j]?).bind λold=>(fa ρ).bind λr=>(g old r.d).map λnew=> .nx (ρ.set x (some (QbB is d (.lst (ds.set j new)),true)))
  | _,_=>none
 | _=>none
def Qv7(ho:OpR X (inplaceOp op) r)(hg:Qb6 X.K g r)(hv:SE X e fa)(hp:SPa X a x pf)(hi:SE X i fi)
  (ha:∀ov iv new,augStore i ov iv new=(do holding [new,ov,iv] (setItem ov iv new);release [new,ov,iv] [];pure .next)):S1 X (.AugAssign (.Subscript a i pos') op e pos) (Qgo g x pf fi fa):=λH0 A0=>
 (QvB (hp H0 A0) (hi H0 A0) QqU (hv H0 A0) (λpins s σ H x y v u Q I rx ry q=>QBm ho I rx ry q) set_list ha).mono λE σ H=>exK λρ hs F o rel e q=>by
  unfold Qgo at e;split at e
  .rename_i d hx;refine Qi e λis e2 e=>?_;refine Qi e λri e3 e=>?_;split at e
   .rename_i k ds hk hp';refine Qi e λj e4 e=>?_;refine Qi e λold e5 e=>?_;refine Qi e λrv e6 e=>?_;obtain⟨new,e7,e⟩:=Zb.mp e;subst e;have hjl:=(Qjc e4).2.1;refine⟨ρ,hs,F,d,true,is,.lst ds,rel,hx,e2,hp',λv0 w H2 Gm s2 hv0 fo=>⟨ρ,hs,F,ri,rel.ext s2,e3,λu H3 Gi pi=>?_⟩⟩;have fo3:=fo.same pi.same;have rpi:=pi.rp;rw[hk]at rpi;rw[rpi.int_inv];have at3:atI ds k=some old:=by unfold atI;rw[e4];exact e5
    obtain⟨l,vs,v',Go,rfl,hc,h3,h4⟩:=Focus.one fo3.rp rfl at3;have hc:SqL X.K H3 l vs:=by
     rcases hc with⟨_,hc⟩ | ⟨hc,_⟩
     .exact hc
     .cases hc
    refine⟨l,vs,k,v',rfl,rfl,hc,h3,ρ,hs,F,rv,(rel.ext s2).ext pi.same,e6,λy H4 G4 p4=>?_⟩;have fo4:=fo3.same p4.same;have ro:=h4.rp.same p4.same;refine(hg _ _ _ e7).2 H4 v' y Go G4 _ ro p4.rp λz hz=>?_;have rel4:=((rel.ext s2).ext pi.same).ext p4.same;have pz:Qae X.K ρ F H4 H4 ⟨new,true,[]⟩ z []:= .flat (QJ.refl _) (hz H4) (hg _ _ _ e7).1;obtain⟨l',vsm,Gp,el,g1,g2,g3,g4,g5,g6,g7⟩:=rel4.write pz rfl ZZ hx ⋯ hv0 fo4;cases el;refine⟨l,vsm,k,j,rfl,rfl,g1,by rw[← g2.length];exact e4,?_⟩;obtain⟨G',m1,m2,m3⟩:=set_mk g1 g2 g3 g4 g5 (hz H4) (QdT new (hg _ _ _ e7).1).symm hjl;obtain⟨F',rel'⟩:=g7 _ _ G' m1 (by rw[ZaL];exact g6) m2 m3;exact q _ _ F' rel'
   .cases e
  .cases e
end
end HS
namespace HS
open PySem PySem.Spec L2 PyProof.Rows
noncomputable def D.QAf:D->Option Int
 | .int i=>some i
 | _=>none
noncomputable def Qm5:List D->Option (List Int)
 | []=>some []
 | d::ds=>(d.QAf).bind λi=>(Qm5 ds).map λr=>i::r
def Qmt:∀{ds:List D}{ns:List Int},Qm5 ds=some ns->ds=ns.map .int
 | [],_,h=>by cases h;rfl
 | d::ds,ns,h=>by
  unfold Qm5 at h;refine Qi h λi h1 h=>?_;obtain⟨r,h2,rfl⟩:=Zb.mp h;cases d with
  | int j=>cases h1;rw[Qmt h2];rfl
  | _=>cases h1
def Rps.ints{K:Fgg}{H:Hp}:∀{ns:List Int}{vs:List V}{F:LAd},Rps K H (ns.map .int) vs F->vs=ns.map .int
 | [],_,_,h=>by simp only[Zbi,Rps]at h;rw[h.1];rfl
 | n::ns,_,_,h=>by
  simp only[Zs,Rps]at h;obtain⟨v,ws,F1,F2,rfl,rfl,r,q⟩:=h;rw[r.int_inv,Rps.ints q];rfl
def QgC(h:QH (ns.map V.int) us):IntsAre us ns:=intsAre_of h
noncomputable def QiB:List D->Option (List Bool)
 | []=>some []
 | d::ds=>(match d with | .bl b=>some b | _=>none).bind λi=>(QiB ds).map λr=>i::r
def Qng:∀{ds:List D}{ns:List Bool},QiB ds=some ns->ds=ns.map .bl
 | [],_,h=>by cases h;rfl
 | d::ds,ns,h=>by
  unfold QiB at h;refine Qi h λi h1 h=>?_;obtain⟨r,h2,rfl⟩:=Zb.mp h;cases d with
  | bl j=>cases h1;rw[Qng h2];rfl
  | _=>cases h1
def Rps.bls{K:Fgg}{H:Hp}:∀{ns:List Bool}{vs:List V}{F:LAd},Rps K H (ns.map .bl) vs F->vs=ns.map .bl
 | [],_,_,h=>by simp only[Zbi,Rps]at h;rw[h.1];rfl
 | n::ns,_,_,h=>by
  simp only[Zs,Rps]at h;obtain⟨v,ws,F1,F2,rfl,rfl,r,q⟩:=h;rw[Rps.bls q];simp only[Rp]at r;rw[r.1];rfl
def QoC:∀{ns:List Bool}{us:List Value},QH (ns.map V.bl) us->LSm.BoolsAre us ns
 | [],_,.nil=> .nil
 | n::ns,_,.cons r h=>by cases r;exact .cons n (QoC h)
section
variable {X:Cx}{a b e:Expr}{es:List Expr}{fa fb:DE}{fs:DA}{pos p2:Pos}
def QrD(hc:X.calm=true):Qbo X (.builtin "any") (λxs H Q=>∃(p:Addr) (ns:List Bool),xs=[.ref p]/\SqL X.K H p (ns.map V.bl)/\Q (.bl (ns.any id)) H):=by
 intro pins s σ H xs us Q I r h;obtain⟨p,ns,rfl,hq,q⟩:=h;obtain⟨u,rfl,rx⟩:=vals1 r;cases rx;obtain⟨its,r',pl,hz⟩:=I.list hq;have hb:=QoC r';have hl:=pl.isList;have hlt:p<s.heap.objs.size:=by obtain⟨_,e,_⟩:=hl;exact Zq e
 refine call_any_walk (wpAny_pyIter_list hl ?_)
 refine⟨s.heap.objs.size,[s.heap.objs.size,p],[s.heap.objs.size],its.toArray.size,_,_,λi=>(ns[i]?).getD false,rfl,Walks.list (A:=X.A.in1) (I.ok.hd hc) _ p (ZE hlt) its.toArray,
  ⟨⟨_,ZA _ rfl,rfl,rfl⟩,hl.push _⟩,λi v s' Q' E' hP hQ=>?_,λh' tk hk=>?_⟩
 .obtain⟨b,e,rfl⟩:=hb.get i v (by simpa using hP);simp only[e,Option.getD_some]at hQ;exact wpAny_truthy_bool hQ
 .have e:((List.range its.toArray.size).any λi=>(ns[i]?).getD false)=ns.any id:=by
   rw[Zr,hb.length];exact LSm.range_any ns
  rw[e];exact⟨.bl (ns.any id),H,I.kept (LSm.kept_iter hk),rfl,q⟩
noncomputable def Qea:List D->Option D
 | [.lst xs]=>(QiB xs).map λns=> .bl (ns.any id)
 | _=>none
def Qww{K:Fgg}:Qfg K Qea (λxs H Q=>∃(p:Addr) (ns:List Bool),xs=[.ref p]/\SqL K H p (ns.map V.bl)/\Q (.bl (ns.any id)) H):=λds d e=>by
 unfold Qea at e;split at e
 .obtain⟨ns,h1,rfl⟩:=Zb.mp e;refine⟨rfl,λH vs F Q r q=>?_⟩;obtain⟨v,rfl,rp⟩:=r.one;obtain⟨l,ws,L,rfl,hl,rl,zl,el⟩:=rp.lst_inv;rw[Qng h1]at rl;rw[rl.bls]at hl;exact⟨l,ns,rfl,QaP hl,q _ λ_=> .Qbt⟩
 .cases e
noncomputable def Qcp(neg:Bool)(a b:D):Option D:=match a,b with
 | a,.non=>some (.bl (if neg then !a.Qqg else a.Qqg))
 | .bl x,.bl y=>some (.bl (if neg then !(x == y)else x == y))
 | _,_=>none
def Qyx:OpR X (compareOp .Is) (λx y H Q=>∃c d,x= .bl c/\y= .bl d/\Q (.bl (c == d)) H):=by
 intro pins s σ H x y v u Q I rx ry h;obtain⟨c,d,rfl,rfl,q⟩:=h;cases rx;cases ry;exact PyProof.Rows.is_bool (QgV I q rfl)
def QvO:OpR X (compareOp .IsNot) (λx y H Q=>∃c d,x= .bl c/\y= .bl d/\Q (.bl (!(c == d))) H):=by
 intro pins s σ H x y v u Q I rx ry h;obtain⟨c,d,rfl,rfl,q⟩:=h;cases rx;cases ry;exact PyProof.Rows.isnot_bool (QgV I q rfl)
def Qxu{K:Fgg}:Qb6 K (Qcp false) (λx y H Q=>(y= .non/\Q (.bl (decide (x= .non))) H)∨∃c d,x= .bl c/\y= .bl d/\Q (.bl (c == d)) H):=λa b d e=>by
 unfold Qcp at e;split at e
 .cases e;exact⟨rfl,λH x y F G Q ha hb q=> .inl ⟨hb.QfS,by rw[QpQ ha];exact q _ λ_=> .Qbt⟩⟩
 .cases e;exact⟨rfl,λH x y F G Q ha hb q=> .inr ⟨_,_,ha.Qc5,hb.Qc5,q _ λ_=> .Qbt⟩⟩
 .cases e
def Qrt{K:Fgg}:Qb6 K (Qcp true) (λx y H Q=>(y= .non/\Q (.bl (!decide (x= .non))) H)∨∃c d,x= .bl c/\y= .bl d/\Q (.bl (!(c == d))) H):=λa b d e=>by
 unfold Qcp at e;split at e
 .cases e;exact⟨rfl,λH x y F G Q ha hb q=> .inl ⟨hb.QfS,by rw[QpQ ha];exact q _ λ_=> .Qbt⟩⟩
 .cases e;exact⟨rfl,λH x y F G Q ha hb q=> .inr ⟨_,_,ha.Qc5,hb.Qc5,q _ λ_=> .Qbt⟩⟩
 .cases e
def Qph:∀a b d,Qcp neg a b=some d->∃k,d= .bl k:=λa b d h=>by
 unfold Qcp at h;split at h<;>cases h<;>exact⟨_,rfl⟩
noncomputable def Qde:List D->Option D
 | [.int i]=>some (.int i)
 | [.bl k]=>some (.int (if k then 1 else 0))
 | [.str z]=>if z.length<=640 then(PySem.intText? z).map .int else none
 | _=>none
def QxJ:List V->Hp->VK->Prop:=λxs H Q=>(∃i,xs=[.int i]/\Q (.int i) H)∨(∃k,xs=[.bl k]/\Q (.int (if k then 1 else 0)) H)
 ∨∃z n,xs=[.str z]/\PySem.intText? z=some n/\z.length<=640/\Q (.int n) H
def Qmw{X:Cx}:Qbo X (.type "int") QxJ:=by
 refine λpins s σ H xs us Q I rs q=>?_;rcases q with q | q | q
 .exact Qmu pins s σ H xs us Q I rs (.inl q)
 .exact Qmu pins s σ H xs us Q I rs (.inr q)
 .exact QnI pins s σ H xs us Q I rs q
def QrU{K:Fgg}:Qfg K Qde QxJ:=λds d e=>by
 unfold Qde at e;split at e
 .cases e;refine⟨rfl,λH vs F Q r q=>?_⟩;obtain⟨v,rfl,rp⟩:=r.one;exact .inl ⟨_,by rw[rp.int_inv],q _ λ_=> .int_mk⟩
 .cases e;refine⟨rfl,λH vs F Q r q=>?_⟩;obtain⟨v,rfl,rp⟩:=r.one;exact .inr (.inl ⟨_,by rw[rp.Qc5],q _ λ_=> .int_mk⟩)
 .split at e
  .rename_i hz;obtain⟨n,hn,rfl⟩:=Zb.mp e;refine⟨rfl,λH vs F Q r q=>?_⟩;obtain⟨v,rfl,rp⟩:=r.one;exact .inr (.inr ⟨_,n,by rw[rp.str_inv],hn,hz,q _ λ_=> .int_mk⟩)
  .cases e
 .cases e
noncomputable def Qfv:List D->Option D
 | [.int i]=>if i.natAbs.log2<1920 then some (.str (toString i))else none
 | _=>none
def Qx7{K:Fgg}:Qfg K Qfv (λxs H Q=>∃i,xs=[.int i]/\i.natAbs.log2<1920/\Q (.str (toString i)) H):=λds d e=>by
 unfold Qfv at e;split at e
 .split at e
  .rename_i hz;cases e;refine⟨rfl,λH vs F Q r q=>?_⟩;obtain⟨v,rfl,rp⟩:=r.one;exact⟨_,by rw[rp.int_inv],hz,q _ λ_=> .str_mk⟩
  .cases e
 .cases e
def QnX(hc:Qbo X (.type T) r)(hk:Qfg X.K g r)(hg:Gl X x)(hm:X.mg x=none)(hv:bootBuiltins x=some (.type T))(ha:SA X (e::es) fs)(hn:x≠ "__name__")(hdb:(x == ("__debug__" :Str))=false)
  (he:starEach (e::es) X.env=(false,eval e X.env)::starEach es X.env) (hpl:(backTo pos (starEach es X.env)).any (·.1)=false):SE X (.Call (.Name x p) (e::es) [] pos) (dBf g fs):=λH0 A0=>
 (Qmc hc hg hm hv (ha H0 A0) hn hdb he hpl).mono λσ H Q=>exK λρ hs F r' rel e q=>by
  refine Qi e λra e1 e=>?_;obtain⟨d,ed,e⟩:=Zb.mp e;subst e;exact⟨ρ,hs,F,ra,rel,e1,λvs H1 G p1=>(hk _ _ ed).2 H1 vs G Q p1.rp λv hv=>q v H1 [] (.flat p1.same (hv _) (hk _ _ ed).1)⟩
end
section
variable {X:Cx}{a b c e tg:Expr}{es:List Expr}{fa fb fc:DE}{fs:DA}{pos p2:Pos}
def QwW:MtR X "int.bit_length" (λx vs H Q=>∃i,x= .int i/\vs=[]/\Q (.int (Builtin.Int.intBits i)) H):=by
 intro pins s σ H x vs v us Q I rx rv h;obtain⟨i,rfl,rfl,q⟩:=h;obtain⟨t,rfl⟩:=rx;have hus:=rv.zero;subst hus;exact call_int_bit_length ⟨.int _,H,I.tok _,⟨_,rfl⟩,q⟩
noncomputable def Qqi(fa:DE):DE:=λρ=>(fa ρ).bind λr=>match r.d with
 | .int i=>some ⟨.int (Builtin.Int.intBits i),true,[]⟩
 | _=>none
def QuY(ha:SE X a fa)(hb:attributeBase a "bit_length" X.env (eval a X.env)=eval a X.env)(hl:(apos.endLine == cpos.line)=true):SE X (.Call (.Attribute a "bit_length" apos) [] [] cpos) (Qqi fa):=λH0 A0=>
 (Qzk PySem.F.plainAttrs_int PySem.F.slot_int_bit_length PySem.F.type_int_bit_length QwW (ha H0 A0) hb hl).mono λσ H Q=>exK λρ hs F r' rel e q=>by
  refine Qi e λra e1 e=>?_;refine⟨ρ,hs,F,ra,rel,e1,λv H1 G p1=>?_⟩;cases hd:ra.d with
  | int i=>
   rw[hd]at e;cases e;have rp:=p1.rp;rw[hd]at rp;rw[rp.int_inv];exact⟨rfl,i,rfl,rfl,q _ _ [] (.flat p1.same .int_mk)⟩
  | _=>rw[hd]at e;cases e
end
noncomputable def Qei:List D->Option (List Str)
 | []=>some []
 | d::ds=>match d with
  | .str x=>(Qei ds).map λr=>x::r
  | _=>none
def Qma:∀{ds:List D}{ts:List Str},Qei ds=some ts->ds=ts.map .str
 | [],_,h=>by cases h;rfl
 | d::ds,ts,h=>by
  unfold Qei at h;split at h
  .obtain⟨r,h2,rfl⟩:=Zb.mp h;rw[Qma h2];rfl
  .cases h
def Rps.strs{K:Fgg}{H:Hp}:∀{ts:List Str}{vs:List V}{F:LAd},Rps K H (ts.map .str) vs F->vs=ts.map .str
 | [],_,_,h=>by simp only[Zbi,Rps]at h;rw[h.1];rfl
 | n::ns,_,_,h=>by
  simp only[Zs,Rps]at h;obtain⟨v,ws,F1,F2,rfl,rfl,r,q⟩:=h;rw[r.str_inv,Rps.strs q];rfl
def Rps.ofStrs{K:Fgg}{H:Hp}:∀ts:List Str,Rps K H (ts.map .str) (ts.map .str) []
 | []=>by simp[Rps]
 | n::ns=>by simp only[Zs,Rps];exact⟨_,_,[],[],rfl,rfl,.str_mk,Rps.ofStrs ns⟩
def Qk2:∀ts:List Str,Qah (ts.map .str)=true
 | []=>rfl
 | n::ns=>by simp[Qah,D.flat,Qk2 ns]
noncomputable def gSw(a b:D):Option D:=match a with
 | .str z=>match b with
  | .str y=>some (.bl (Txt.startswith z y))
  | _=>none
 | _=>none
noncomputable def QhX(a b:D):Option D:=match a with
 | .str z=>match b with
  | .lst xs=>(Qei xs).bind λts=>if JoinOk z ts=true then some (.str (Txt.join z ts))else none
  | _=>none
 | _=>none
noncomputable def QiD(a b:D):Option D:=match a with
 | .str z=>match b with
  | .str y=>if((y.length == 0)=false/\z.length<=16000000)/\(Txt.split z y).length<=16000000 then some (.lst ((Txt.split z y).map .str))else none
  | _=>none
 | _=>none
noncomputable def dM1(g:D->D->Option D)(fa:DE)(fs:DA):DE:=λρ=>(fa ρ).bind λra=>(fs ρ).bind λr=>match r.ds with
 | [b]=>(g ra.d b).map λd=>⟨d,true,[]⟩
 | _=>none
section
variable {X:Cx}{o b:Expr}{fa:DE}{fs:DA}{apos cpos:Pos}
def Qwl{K:Fgg}{H:Hp}{z:Str}:tyV K "str" (.str z) H:=rfl
def QmV{m:Str}{id:String}{g:D->D->Option D}{r:V->List V->Hp->VK->Prop}(slot:PySem.Slot "str" m id)(hty:typeOf (.builtin id)=pure (.type "method_descriptor"))(hm:MtR X id r)
  (hg:∀a b d,g a b=some d->∃z,a= .str z/\∀(H0 H:Hp) (ρ:En) (F:Nat->List Addr) (y:V) (G:LAd) (Q:VK),QJ H0 H->Rp X.K H b y G->(∀v H' G',Qae X.K ρ F H0 H' ⟨d,true,[]⟩ v G'->Q v H')->r (.str z) [y] H Q)
  (ho:SE X o fa) (ha:SA X [b] fs) (hb:attributeBase o m X.env (eval o X.env)=eval o X.env) (hl:(apos.endLine == cpos.line)=true) (hs:starEach [b] X.env=[(false,eval b X.env)]):
  SE X (.Call (.Attribute o m apos) [b] [] cpos) (dM1 g fa fs):=λH0 A0=>
 (Qko PySem.F.plainAttrs_str slot hty hm (ho H0 A0) (ha H0 A0) hb (by rw[hs];rfl) hl hs (by rfl)).mono λσ H Q=>exK λρ hs F r' rel e q=>by
  refine Qi e λra e1 e=>?_;refine Qi e λrb e2 e=>?_;refine⟨ρ,hs,F,ra,rel,e1,λx H1 G1 p1=>?_⟩;split at e
  .rename_i b' hds;obtain⟨d,ed,e⟩:=Zb.mp e;subst e;obtain⟨z,ez,k⟩:=hg _ _ _ ed;have rp:=p1.rp;rw[ez]at rp;rw[rp.str_inv];refine⟨Qwl,ρ,hs,F,rb,rel.ext p1.same,e2,λxs H2 G2 p2=>?_⟩;have rp2:=p2.rp;rw[hds]at rp2;obtain⟨y,rfl,ry⟩:=rp2.one;exact k H H2 ρ F y G2 Q (p1.same.trans p2.same) ry q
  .cases e
def QzH(ho:SE X o fa)(ha:SA X [b] fs)(hb:attributeBase o "startswith" X.env (eval o X.env)=eval o X.env)(hl:(apos.endLine == cpos.line)=true)(hs:starEach [b] X.env=[(false,eval b X.env)]):
  SE X (.Call (.Attribute o "startswith" apos) [b] [] cpos) (dM1 gSw fa fs):=
 QmV PySem.F.slot_str_startswith PySem.F.type_str_startswith QqW (λa b d e=>by
  unfold gSw at e;split at e
  .split at e
   .cases e;exact⟨_,rfl,λH0 H ρ F y G Q s r q=>⟨_,_,rfl,by rw[r.str_inv],q _ _ [] (.flat s .Qbt)⟩⟩
   .cases e
  .cases e) ho ha hb hl hs
def QvZ(ho:SE X o fa)(ha:SA X [b] fs)(hb:attributeBase o "join" X.env (eval o X.env)=eval o X.env)(hl:(apos.endLine == cpos.line)=true)(hs:starEach [b] X.env=[(false,eval b X.env)]):
  SE X (.Call (.Attribute o "join" apos) [b] [] cpos) (dM1 QhX fa fs):=
 QmV PySem.F.slot_str_join PySem.F.type_str_join Qwa (λa b d e=>by
  unfold QhX at e;split at e
  .split at e
   .refine Qi e λts e1 e=>?_;split at e
    .rename_i hj;cases e;refine⟨_,rfl,λH0 H ρ F y G Q s r q=>?_⟩;obtain⟨l,ws,L,rfl,hl',rl,zl,el⟩:=r.lst_inv;rw[Qma e1]at rl;rw[rl.strs]at hl';exact⟨_,l,ts,rfl,rfl,QaP hl',hj,q _ _ [] (.flat s .str_mk)⟩
    .cases e
   .cases e
  .cases e) ho ha hb hl hs
def Qxh(ho:SE X o fa)(ha:SA X [b] fs)(hb:attributeBase o "split" X.env (eval o X.env)=eval o X.env)(hl:(apos.endLine == cpos.line)=true)(hs:starEach [b] X.env=[(false,eval b X.env)]):
  SE X (.Call (.Attribute o "split" apos) [b] [] cpos) (dM1 QiD fa fs):=
 QmV PySem.F.slot_str_split PySem.F.type_str_split Qsa (λa b d e=>by
  unfold QiD at e;split at e
  .split at e
   .split at e
    .rename_i hc;cases e;refine⟨_,rfl,λH0 H ρ F y G Q s r q=>⟨_,_,rfl,by rw[r.str_inv],hc.1.1,by have:=hc.1.2;rw[QaA];omega,λc hcn=>?_⟩⟩;have:=Qae.Qbx (ρ:=ρ) (F:=F) s hcn (Rps.ofStrs (K:=X.K) (Txt.split _ _)) (by rw[Zo,QaA];exact Zx hc.2 ∅) Src.nil QbP.nil;unfold Qbx at this;rw[if_pos (Qk2 _)]at this;exact q _ _ _ this
    .cases e
   .cases e
  .cases e) ho ha hb hl hs
end
def QwE{X:Cx}:MtR X "str.partition" (λx xs H Q=>∃z y,x= .str z/\xs=[.str y]/\(y.length == 0)=false/\z.length<=sizeLine/\∀l,H l=none->Q (.ref l) (L2.upd H l (.tup [.str (Txt.partition z y).1,.str (Txt.partition z y).2.1,.str (Txt.partition z y).2.2]))):=by
 intro pins s σ H x xs v us Q I rx rs q;obtain⟨z,y,rfl,rfl,hy,hsz,q⟩:=q;obtain⟨t,rfl⟩:=(show ∃t,v=Value.str z t from rx);obtain⟨u',rfl,ru⟩:=vals1 rs;obtain⟨u,rfl⟩:=(show ∃t,u'=Value.str y t from ru);refine call_meets F.slot_str_partition (typeIs_str _ _ _) F.entry_str_partition (F.args_str_partition_2 _ _) (meets_str_partition z y t u hy hsz) ?_;have hn:H s.heap.objs.size=none:=I.hok.fresh (Ze _);have fin:∀(a b c:Str) (ta tb tc:Tok) (k:Nat),(a,b,c)=Txt.partition z y->EP X pins σ Q (.ref s.heap.objs.size) {s with toks:=k,heap:=s.heap.push {cls:= .type "tuple",data:= .seq [.str a ta,.str b tb,.str c tc].toArray}}:=λa b c ta tb tc k e=>by
  refine⟨.ref s.heap.objs.size,_,?_,rfl,q _ hn⟩;rw[← e];refine I.laid (t':=k) (λb o e=>Zu _ e) (Ze _) ⟨by simp only[ZM,List.length_nil];rw[sizeLine_eq];decide,[.str a ta,.str b tb,.str c tc],.cons ⟨_,rfl⟩ (.cons ⟨_,rfl⟩ (.cons ⟨_,rfl⟩ .nil)),?_⟩;exact⟨_,ZA s.heap rfl,rfl,0,rfl⟩
 unfold Txt.partition at fin;revert fin;cases Builtin.Str.occurrences z y 0 z.length 1 with
 | nil=>intro fin;exact fin _ _ _ _ _ _ _ rfl
 | cons i r=>intro fin;exact fin _ _ _ _ _ _ _ rfl
noncomputable def Qk9(a b:D):Option D:=match a with
 | .str z=>match b with
  | .str y=>if(y.length == 0)=false/\z.length<=sizeLine then some (.tup [.str (Txt.partition z y).1,.str (Txt.partition z y).2.1,.str (Txt.partition z y).2.2])else none
  | _=>none
 | _=>none
section
variable {X:Cx}{o b:Expr}{fa:DE}{fs:DA}{apos cpos pos:Pos}{e:Expr}{es:List Expr}
def Qwp(ho:SE X o fa)(ha:SA X [b] fs)(hb:attributeBase o "partition" X.env (eval o X.env)=eval o X.env)(hl:(apos.endLine == cpos.line)=true)(hs:starEach [b] X.env=[(false,eval b X.env)]):
  SE X (.Call (.Attribute o "partition" apos) [b] [] cpos) (dM1 Qk9 fa fs):=
 QmV PySem.F.slot_str_partition PySem.F.type_str_partition QwE (λa b d e=>by
  unfold Qk9 at e;split at e
  .split at e
   .split at e
    .rename_i hc;cases e;refine⟨_,rfl,λH0 H ρ F y G Q s r q=>⟨_,_,rfl,by rw[r.str_inv],hc.1,hc.2,λp hp=>q _ _ [] (.flat (s.trans (Qcr hp)) (Rp.Qnr QaM ?_) rfl)⟩⟩;simp only[Rps];exact⟨_,_,[],[],rfl,rfl,.str_mk,_,_,[],[],rfl,rfl,.str_mk,_,_,[],[],rfl,rfl,.str_mk,rfl,rfl⟩
    .cases e
   .cases e
  .cases e) ho ha hb hl hs
noncomputable def QtR(fa:DE):DE:=λρ=>(fa ρ).bind λr=>match r.d with
 | .int i=>if i.natAbs.log2<1920 then some ⟨.str (toString i),true,[]⟩else none
 | .str x=>if x.length<=sizeLine then some ⟨.str x,true,[]⟩else none
 | _=>none
def Qyi(ha:SE X e fa):SE X (.FormattedValue e (-1) none pos) (QtR fa):=λH0 A0 pins s σ H Q I=>exK λρ hs F r' rel h q=>by
 refine Qi h λra e1 h=>?_;refine FormattedValue_plain (thn (ha H0 A0 pins s σ H (λx H1=>x=x/\∃G,Qae X.K ρ F H H1 ra x G) I ⟨ρ,hs,F,ra,rel,e1,λx H1 G p=>⟨rfl,G,p⟩⟩) λu s1=>exJ λx H1 I1 r1 q1=>?_);obtain⟨_,G,p⟩:=q1;have rp:=p.rp;cases hd:ra.d with
 | int i=>
  rw[hd]at h rp;dsimp only at h;split at h
  .rename_i hz;cases h;rw[rp.int_inv]at r1;obtain⟨t,rfl⟩:=(show ∃t,u=Value.int i t from r1);exact formatField_int_small hz ⟨.str _,H1,I1.tok _,⟨_,rfl⟩,q _ H1 [] (.flat p.same .str_mk)⟩
  .cases h
 | str z=>
  rw[hd]at h rp;dsimp only at h;split at h
  .rename_i hz;cases h;rw[rp.str_inv]at r1;obtain⟨t,rfl⟩:=(show ∃t,u=Value.str z t from r1);exact formatField_str (λt' tk=>⟨.str _,H1,I1.tok _,⟨_,rfl⟩,q _ H1 [] (.flat p.same .str_mk)⟩) hz
  .cases h
 | _=>rw[hd]at h;cases h
noncomputable def QxV(out:Str)(ts:List Str):Str:=ts.foldl (· ++ ·) out
noncomputable def dFs(fs:DA):DE:=λρ=>(fs ρ).bind λr=>(Qei r.ds).bind λts=>if(ts.map (·.length)).sum<=sizeLine then some ⟨.str (QxV Str.empty ts),true,[]⟩else none
def SJ(X:Cx)(es:List Expr)(fs:DA):Prop:=∀(H0:Hp) (A0:LAd) (out:Str) (pins:List (Addr×Obj)) (s:Shared) (σ:L2.St) (H:Hp) (Q:VK) (ρ:En) (hs:List (V×D×List Addr)) (F:Nat->List Addr) (rs:RA) (ts:List Str),Inv X pins σ H s->Rel X.K H0 A0 hs ρ F σ H->fs ρ=some rs->Qei rs.ds=some ts->out.length+(ts.map (·.length)).sum<=sizeLine->(∀H',QJ H H'->Q (.str (QxV out ts)) H')→
 wpAny (model X.prog X.w) X.A (joinParts out (evalEach es X.env)) (EP X pins σ Q) X.xe s
def Qw7:SJ X [] Qb:=λH0 A0 out pins s σ H Q ρ hs F rs ts I rel e1 e2 hl q=>by
 cases e1;cases e2;exact joinParts_nilE (joinParts_nil ⟨.str _,H,I.tok _,⟨_,rfl⟩,q H (QJ.refl _)⟩ (by simpa using hl))
def QvJ(ha:SE X e fa)(hr:SJ X es fs):SJ X (e::es) (Qa fa fs):=λH0 A0 out pins s σ H Q ρ hs F rs ts I rel e1 e2 hl q=>by
 refine Qi e1 λra ea e1=>?_;refine Qi e1 λrb eb e1=>?_;cases e1;have e2:Qei (ra.d::rb.ds)=some ts:=e2;cases hd:ra.d with
 | str y=>
  rw[hd]at e2;obtain⟨ts',e3,rfl⟩:=Zb.mp (show(Qei rb.ds).map (λr=>y::r)=some ts from e2);simp only[Zs,Zab]at hl;refine joinParts_consE (joinParts_cons (thn (ha H0 A0 pins s σ H (λx H1=>x= .str y/\QJ H H1) I ⟨ρ,hs,F,ra,rel,ea,λx H1 G p=>⟨by have rp:=p.rp;rw[hd]at rp;exact rp.str_inv,p.same⟩⟩) λu s1=>exJ λx H1 I1 r1 q1=>?_));obtain⟨rfl,sm⟩:=q1;obtain⟨t,rfl⟩:=(show ∃t,u=Value.str y t from r1);have hl1:(out++y).length=out.length+y.length:=Str.length_append out y;refine⟨by rw[hl1];omega,?_⟩;exact hr H0 A0 (out++y) pins s1 σ H1 Q ρ hs F rb ts' I1 (rel.ext sm) eb e3 (by rw[hl1];omega) λH' s'=>q H' (sm.trans s')
 | _=>rw[hd]at e2;cases e2
def Qz1{e':Expr}(h:SJ X (e::e'::es) fs):SE X (.JoinedStr (e::e'::es) pos) (dFs fs):=λH0 A0 pins s σ H Q I=>exK λρ hs F r' rel e q=>by
 refine Qi e λra e1 e=>?_;refine Qi e λts e2 e=>?_;split at e
 .rename_i hz;cases e;exact JoinedStr_many (h H0 A0 Str.empty pins s σ H Q ρ hs F ra ts I rel e1 e2 (by show 0+_<=_;omega) λH' sm=>q _ H' [] (.flat sm .str_mk))
 .cases e
end
def QBn(K:Fgg):V->List V->Hp->VK->Prop:=λx ys H Q=>∃(p:Addr) (ns:List Int) (i:Int),x= .ref p/\ys=[.int i]/\SqL K H p (ns.map V.int)/\Q (.int (ns.count i:Nat)) H
def QtA{X:Cx}:MtR X "list.count" (QBn X.K):=by
 intro pins s σ H x vs v us Q I rx rv h;obtain⟨p,ns,i,rfl,rfl,hq,q⟩:=h;cases rx;obtain⟨u,rfl,ru⟩:=rv.one;obtain⟨t,rfl⟩:=ru;obtain⟨its,r',pl,hz⟩:=I.list hq;refine count_list_ints pl.isList (QgC r') ?_;exact⟨.int (ns.count i:Nat),H,I.tok _,⟨_,rfl⟩,q⟩
noncomputable def Qtk(a b:D):Option D:=match a with
 | .lst xs=>match b with
  | .int i=>(Qm5 xs).map λns=> .int (ns.count i:Nat)
  | _=>none
 | _=>none
section
variable {X:Cx}{o b:Expr}{fa:DE}{fs:DA}{apos cpos:Pos}
def Qym(ho:SE X o fa)(ha:SA X [b] fs)(hb:attributeBase o "count" X.env (eval o X.env)=eval o X.env)(hl:(apos.endLine == cpos.line)=true)(hs:starEach [b] X.env=[(false,eval b X.env)]):
  SE X (.Call (.Attribute o "count" apos) [b] [] cpos) (dM1 Qtk fa fs):=λH0 A0=>
 (Qko Zaw PySem.F.slot_list_count PySem.F.type_list_count QtA (ho H0 A0) (ha H0 A0) hb (by rw[hs];rfl) hl hs (by rfl)).mono λσ H Q=>exK λρ hs F r' rel e q=>by
  refine Qi e λra e1 e=>?_;refine Qi e λrb e2 e=>?_;refine⟨ρ,hs,F,ra,rel,e1,λx H1 G1 p1=>?_⟩;split at e
  .rename_i b' hds;obtain⟨d,ed,e⟩:=Zb.mp e;subst e;unfold Qtk at ed;split at ed
   .rename_i xs hxs;split at ed
    .rename_i i;obtain⟨ns,h1,rfl⟩:=Zb.mp ed;have rp:=p1.rp;rw[hxs]at rp;obtain⟨l,ws,L,rfl,hl,rl,zl,el⟩:=rp.lst_inv;rw[Qmt h1]at rl;rw[rl.ints]at hl;refine⟨.inl ⟨rfl,_,QaP hl⟩,ρ,hs,F,rb,rel.ext p1.same,e2,λys H2 G2 p2=>?_⟩;have rp2:=p2.rp;rw[hds]at rp2;obtain⟨y,rfl,ry⟩:=rp2.one;rw[ry.int_inv];have hl2:H2 l=some (.lst (ns.map V.int))∨Fix X.K H2 l (ns.map V.int):=hl.elim (λz=> .inl (p2.same _ _ z)) λz=> .inr (Qka p2.same z);exact⟨l,ns,i,rfl,rfl,QaP hl2,q _ _ [] (.flat (p1.same.trans p2.same) .int_mk)⟩
    .cases ed
   .cases ed
  .cases e
end
section
variable {X:Cx}{e:Expr}{es:List Expr}{fs:DA}{pos:Pos}
def Qu0{p:Pos}(hcl:X.calm=true)(hg:Gl X "list")(hm:X.mg "list" =none)(ha:SA X (e::es) fs)(he:starEach (e::es) X.env=(false,eval e X.env)::starEach es X.env)(hpl:(backTo pos (starEach es X.env)).any (·.1)=false):
    SE X (.Call (.Name "list" p) (e::es) [] pos) (dList fs):=λH0 A0=>
 (Qmc QoF hg hm Zbu (ha H0 A0) ∅ ∅ he hpl).mono λσ H Q=>exK λρ hs F r' rel e q=>by
    refine Qi e λra e1 e=>?_;refine⟨ρ,hs,F,ra,rel,e1,λvs H1 G p1=>?_⟩;have rp:=p1.rp;have src:=p1.src;split at e
    · rename_i xs hds
      cases e;rw[hds]at rp;obtain⟨v,rfl,rq⟩:=rp.one;obtain⟨l,ws,L,rfl,hl,rl,zl,el⟩:=rq.lst_inv;refine⟨l,ws,rfl,.inl (QaP hl),λc hc=>q _ _ (c::L) (Qae.Qbx p1.same hc rl zl (λz hz=>src z ?_) p1.own)⟩;rcases el with rfl | rfl
      · exact Zc _ hz
      · exact hz
    · rename_i xs hds
      split at e
      · rename_i hz
        cases e;rw[hds]at rp;obtain⟨v,rfl,rq⟩:=rp.one;obtain⟨l,ws,rfl,hl,rl⟩:=rq.QbF;exact⟨l,ws,rfl,.inr hl,λc hc=>q _ _ (c::G) (Qae.Qbx p1.same hc rl hz src p1.own)⟩
      · cases e
    · cases e
end
end HS
namespace HS
open PySem L2
end HS
namespace HS
open PySem
section
variable {t:SetTable}
end
section
variable {mask:Nat}{owner:Array (Option Nat)}
end
end HS
namespace HS
open PySem L2 PyProof.Rows
section
variable {prog:Program}{w:World}{A:Around}{E:Value->Shared->Prop}{s:Shared}
end
section
variable {prog:Program}{w:World}{A:Around}{R:Result->Shared->Prop}{I:Addr}{fp wr:LAd}{G:Array GenState->Array GenState->Prop}{n:Nat}{P:Nat->Value->Prop}{St:Nat->Shared->Prop}
end
section
variable {prog:Program}{w:World}{A:Around}{E:Value->Shared->Prop}{s:Shared}
end
section
variable {prog:Program}{w:World}
end
section
variable {prog:Program}{w:World}{A:Around}{E:Value->Shared->Prop}{s:Shared}
end
section
variable {prog:Program}{w:World}{A:Around}{E:Value->Shared->Prop}{s:Shared}
end
section
variable {prog:Program}{w:World}{A:Around}{E:Value->Shared->Prop}{s:Shared}
end
end HS
namespace HS
open PySem PySem.Spec L2 PyProof.Rows
section
variable {X:Cx}{a:Expr}{fa:DE}{pos:Pos}
end
end HS
namespace HS
open PySem PySem.Spec PyProof.Rows L2
section
variable {X:Cx}{a b c:Expr}{fa fb fc:DE}{pos:Pos}
end
end HS
namespace HS
open PySem PySem.Spec L2
noncomputable abbrev Cn:=Int ⊕ Str
noncomputable def cnD:Cn->D
 | .inl i=> .int i
 | .inr x=> .str x
noncomputable def cnV:Cn->Tok->Value
 | .inl i,t=> .int i t
 | .inr x,t=> .str x t
structure FnR where
 n:Nat
 dfl:List D
 den:Den
structure Th where
 N:List Str
 sc:List (Str×NameKind)
 Γ:List (Str×FnR)
 cs:List (Str×Cn)
 tr:Stmt->Option DS:=λ_=>none
 te:Expr->Option DE:=λ_=>none
noncomputable def posOf(x:Str):List Str->Option Nat
 | []=>none
 | y::ys=>if x=y then some 0 else(posOf x ys).map (· +1)
def Qgp:∀{x:Str}{ys:List Str}{i:Nat},posOf x ys=some i->ys[i]? =some x
 | x,[],i,h=>by cases h
 | x,y::ys,i,h=>by
  unfold posOf at h;split at h
  .rename_i e;cases h;subst e;rfl
  .obtain⟨j,hj,rfl⟩:=Zb.mp h;simpa using Qgp hj
noncomputable def look{α:Type}(x:Str):List (Str×α)->Option α
 | []=>none
 | (y,a)::r=>if x=y then some a else look x r
def Qa4{α:Type}:∀{x:Str}{l:List (Str×α)},look x l=l.lookup x
 | x,[]=>rfl
 | x,(y,a)::r=>by
  unfold look;rw[Zt];by_cases h:x=y
  .subst h;simp
  .rw[if_neg h,Qa4];have:(x == y)=false:=by simpa using h
   rw[this]
noncomputable def Quv:NameKind->Bool
 | .local =>true | .cell=>true | .free=>true | _=>false
noncomputable def QuF:NameKind->Bool
 | .local =>true | .cell=>true | _=>false
noncomputable def QAQ:NameKind->Bool
 | .globalImplicit=>true | _=>false
noncomputable def isFree:NameKind->Bool
 | .free=>true | _=>false
noncomputable def odd(x:Str):Bool:=decide (x= "__debug__") || decide (x= "__classdict__") || decide (x= "__name__")
noncomputable def Th.slot(Θ:Th)(x:Str):Option Nat:=if((look x Θ.sc).map Quv).getD false && !odd x then posOf x Θ.N else none
noncomputable def Th.QbT(Θ:Th)(x:Str):Option Nat:=if((look x Θ.sc).map QuF).getD false && !odd x then posOf x Θ.N else none
noncomputable def Th.gl(Θ:Th)(x:Str):Bool:=((look x Θ.sc).map QAQ).getD false && !odd x
def Qws(X:Cx)(x:Str)(r:FnR):Prop:=∃k f fd ps,Qck X.prog X.w X.K X.mg X.base CX0 k f fd ps (spV X.K r.n r.den)/\Qa6 k X.A/\X.mg x=some (.ref f)/\PySem.W.keepIn X.K (.ref f)=true∧
 ∀m,m<=r.dfl.length->∃ds dvs,Binds X.K fd ps ds/\QH dvs ds/\∀H,Rps X.K H (r.dfl.drop (r.dfl.length-m)) dvs []
noncomputable def Qou:List Str:=["range","enumerate","zip","len","list","min","max","sum","abs","isinstance","int","bool","tuple","str","divmod","sorted","any","all","set"]
structure CtxB (X:Cx) (Θ:Th):Prop where
 N:X.N=Θ.N
 nd:Θ.N.Nodup
 lc:∀x,look x Θ.sc=some .local ->X.env.scope.names.lookup x=some .local
 ce:∀x,look x Θ.sc=some .cell->X.env.scope.names.lookup x=some .cell/\X.fn x=true
 fe:∀x,look x Θ.sc=some .free->X.env.scope.names.lookup x=some .cell∨X.env.scope.names.lookup x=some .free
 gl:∀x,look x Θ.sc=some .globalImplicit->X.env.scope.names.lookup x=some .globalImplicit
 units:X.A.units+64<cLine
 mg:∀x∈Qou,X.mg x=none
 cs:∀x i,look x Θ.cs=some i->∃t,X.mg x=some (cnV i t)
structure QS (X:Cx) (Θ:Th):Prop extends CtxB X Θ where
 calm:X.calm=true
 pass:PassesOwn (model X.prog X.w) X.A X.env X.xe
 fns:∀x r,look x Θ.Γ=some r->Qws X x r
 tr:∀st f,Θ.tr st=some f->S1 X st f
 te:∀e f,Θ.te e=some f->SE X e f
section
def QpG(h:odd x=false):(x == ("__debug__" :Str))=false/\(x == ("__classdict__" :Str))=false/\x≠ "__name__" :=by
 unfold odd at h;simp only[Zat,decide_eq_false_iff_not]at h;exact⟨by simpa using h.1.1,by simpa using h.1.2,h.2⟩
def Qdp(ok:CtxB X Θ)(h:Θ.slot x=some i):PE X (.Name x pos) (QdQ i):=by
 unfold Th.slot at h;split at h
 .rename_i hc;simp only[Zf,ZT]at hc;obtain⟨h1,h2,_⟩:=QpG hc.2;refine Qyf (by rw[ok.N];exact Qgp h) ?_ h1 h2;cases q:look x Θ.sc with
  | none=>rw[q]at hc;cases hc.1
  | some k=>
   rw[q]at hc;cases k with
   | «local» =>exact .inl (ok.lc x q)
   | cell=>exact .inr (.inl (ok.ce x q).1)
   | free=>exact .inr (ok.fe x q)
   | _=>cases hc.1
 .cases h
def Qct(ok:CtxB X Θ)(h:Θ.QbT x=some i):X.N[i]? =some x/\Loc X.env.scope x/\(X.fn x=true∨X.env.scope.names.lookup x=some .local):=by
 unfold Th.QbT at h;split at h
 .rename_i hc;simp only[Zf,ZT]at hc;refine⟨by rw[ok.N];exact Qgp h,?_⟩;cases q:look x Θ.sc with
  | none=>rw[q]at hc;cases hc.1
  | some k=>
   rw[q]at hc;cases k with
   | «local» =>exact⟨.inl (ok.lc x q),.inr (ok.lc x q)⟩
   | cell=>exact⟨.inr (ok.ce x q).1,.inl (ok.ce x q).2⟩
   | _=>cases hc.1
 .cases h
def QdF(ok:CtxB X Θ)(h:Θ.gl x=true):Gl X x/\(x == ("__debug__" :Str))=false/\x≠ "__name__" :=by
 unfold Th.gl at h;simp only[Zf,ZT]at h;obtain⟨h1,h2,h3⟩:=QpG h.2;refine⟨?_,h1,h3⟩;cases q:look x Θ.sc with
 | none=>rw[q]at h;cases h.1
 | some k=>
  rw[q]at h;cases k with
  | globalImplicit=>exact ok.gl x q
  | _=>cases h.1
end
noncomputable def isTup:Expr->Bool
 | .Tuple .. =>true
 | _=>false
noncomputable def QbQ:Expr->Option Str
 | .Name x _=>some x
 | _=>none
noncomputable def Qix(Θ:Th):Expr->Option Tg
 | .Name x _=>(Θ.QbT x).map .nm
 | .Tuple es _ _=>((es.mapM QbQ).bind λxs=>xs.mapM Θ.QbT).map .tp
 | _=>none
noncomputable def Qqe:CmpOp->Option (D->D->Option D)
 | .Eq=>some gEq | .NotEq=>some gNe | .Lt=>some gLt | .LtE=>some gLe | .Gt=>some gGt | .GtE=>some gGe
 | .Is=>some (Qcp false) | .IsNot=>some (Qcp true)
 | .In=>some (gIn false) | .NotIn=>some (gIn true)
noncomputable def Qt6(x:Str):Option String:=
 if x= "int" then some "int" else if x= "bool" then some "bool" else if x= "list" then some "list" else if x= "tuple" then some "tuple" else if x= "str" then some "str" else none
noncomputable def inner(Θ:Th)(scope:Scope):Th:={N:=(scope.names.filter λy=>Quv y.2).map (·.1),sc:=scope.names,Γ:=Θ.Γ,cs:=Θ.cs}
noncomputable def QhK(Θ:Th)(scope:Scope):List (Option Nat):=(inner Θ scope).N.map λx=>if((look x scope.names).map isFree).getD false then posOf x Θ.N else none
noncomputable def Qin(Θ:Th)(scope:Scope)(t:Tg):Bool:=(scope.kind == .function) && decide (inner Θ scope).N.Nodup &&
 (scope.names.all λy=>match y.2 with
  | .cell=>decide (look y.1 scope.names=some .cell)
  | .local =>decide (look y.1 scope.names=some .local)
  | .free=>match look y.1 Θ.sc with
   | some .cell=>true
   | some .free=>true
   | _=>false
  | _=>true) &&
 t.slots.all λj=>match (QhK Θ scope)[j]? with
  | some (some _)=>false
  | _=>true
noncomputable def QuL:List Expr->Bool
 | []=>true | [_]=>true | _=>false
noncomputable def bf1(x:Str)(fa:DE):Option DE:=
 if x= "len" then some (dBf Qaa (Qa fa Qb))else
 if x= "list" then some (dList (Qa fa Qb))else
 if x= "int" then some (dBf Qde (Qa fa Qb))else
 if x= "str" then some (dBf Qfv (Qa fa Qb))else
 if x= "any" then some (dBf Qea (Qa fa Qb))else
 none
noncomputable def bf2(x:Str)(fa fb:DE):Option DE:=
 if x= "min" then some (dBf Qcb (Qa fa (Qa fb Qb)))else
 if x= "max" then some (dBf Qb9 (Qa fa (Qa fb Qb)))else
 none
noncomputable def Qli:Expr->Bool
 | .Name .. =>true
 | .Constant .. =>true
 | _=>false
noncomputable def tm1(m:Str)(fa fb:DE):Option DE:=
 if m= "split" then some (dM1 QiD fa (Qa fb Qb))else
 if m= "join" then some (dM1 QhX fa (Qa fb Qb))else
 if m= "startswith" then some (dM1 gSw fa (Qa fb Qb))else
 if m= "partition" then some (dM1 Qk9 fa (Qa fb Qb))else
 if m= "count" then some (dM1 Qtk fa (Qa fb Qb))else
 none
mutual
noncomputable def Qt(n:Nat)(Θ:Th)(e:Expr):Option DE:=match n with
 | 0=>none
 | n+1=>match e with
  | .Name x _=>match Θ.slot x with
   | some i=>some (Qc i)
   | none=>if Θ.gl x then(look x Θ.cs).map λi=>dC (cnD i)else none
  | .Constant (.int i) _ _=>some (dC (.int i))
  | .Constant (.bool b) _ _=>some (dC (.bl b))
  | .Constant .none _ _=>some (dC .non)
  | .Constant (.str x) _ _=>some (dC (.str x))
  | .BinOp a op b _=>(Qt n Θ a).bind λfa=>(Qt n Θ b).bind λfb=>match op with
   | .Add=>some (QL fa fb)
   | .Mult=>some (QaD fa fb)
   | .Sub=>some (dOp Qge fa fb)
   | .FloorDiv=>some (dOp Qdv fa fb)
   | .Mod=>some (dOp Qan fa fb)
   | .Pow=>some (dOp Qqy fa fb)
   | _=>none
  | .UnaryOp .USub a _=>(Qt n Θ a).map Qy9
  | .UnaryOp .Not a _=>(Qt n Θ a).map Qtg
  | .BoolOp .And [a] _=>Qt n Θ a
  | .BoolOp .And (a::b::r) p=>(Qt n Θ a).bind λfa=>(Qt n Θ (.BoolOp .And (b::r) p)).map λfb=>QtF fa fb
  | .BoolOp .Or [a] _=>Qt n Θ a
  | .BoolOp .Or (a::b::r) p=>(Qt n Θ a).bind λfa=>(Qt n Θ (.BoolOp .Or (b::r) p)).map λfb=>dOr fa fb
  | .Compare a [op] [b] _=>(Qt n Θ a).bind λfa=>(Qt n Θ b).bind λfb=>(Qqe op).map λg=>dOp g fa fb
  | .IfExp c a b _=>(QaJ n Θ c).bind λg=>(Qt n Θ a).bind λfa=>(Qt n Θ b).map λfb=>dIf g fa fb
  | .Tuple es _ _=>(Qa7 n Θ es).map Qaj
  | .List es _=>(Qa7 n Θ es).map Q4
  | .Subscript a (.Slice lo hi none _) _=>(Qt n Θ a).bind λfa=>(Qk7 n Θ lo).bind λfl=>(Qk7 n Θ hi).map λfh=>QU fa fl fh
  | .Subscript a b _=>(Qt n Θ a).bind λfa=>(Qt n Θ b).map λfb=>Qm fa fb
  | .Call (.Name x _) args [] _=>if Θ.gl x then(match look x Θ.Γ with
    | some r=>if r.n<=args.length+r.dfl.length/\args.length<=r.n then(Qa7 n Θ args).map λfs=>Ql r.n r.den (r.dfl.drop (r.dfl.length-(r.n-args.length))) fs else none
    | none=>Qm0 n Θ x args)else none
  | .Call (.Attribute (.Name x p) m apos) [] [] cpos=>if m= "bit_length" /\(apos.endLine == cpos.line)=true then(Qt n Θ (.Name x p)).map Qqi else none
  | .Call (.Attribute o m apos) [b] [] cpos=>if Qli o=true/\(apos.endLine == cpos.line)=true then(Qt n Θ o).bind λfo=>(Qt n Θ b).bind λfb=>tm1 m fo fb else none
  | .FormattedValue v c none _=>if c= -1 then(Qt n Θ v).map QtR else none
  | .JoinedStr (v::v'::es) _=>(Qa7 n Θ (v::v'::es)).map dFs
  | .ListComp elt [⟨tg,iter,ifs,0⟩] scope _=>(Qix (inner Θ scope) tg).bind λt=>if Qin Θ scope t && QuL ifs then
    (QgF n Θ tg iter).bind λfi=>(Qf4 n (inner Θ scope) ifs).bind λft=>(Qt n (inner Θ scope) elt).map λfe=>Qau fi t (QhK Θ scope) ft fe else none
  | _=>none
noncomputable def Qm0(n:Nat)(Θ:Th)(x:Str)(args:List Expr):Option DE:=match n with
  | 0=>none
  | n+1=>match args with
    | [a]=>
         (Qt n Θ a).bind λfa=>bf1 x fa
    | [a,b]=>if x= "isinstance" then(Qt n Θ a).bind λfa=>match b with
        | .Name y _=>if Θ.gl y then(Qt6 y).map λT=>QcM T fa else none
        | _=>none
      else(Qt n Θ a).bind λfa=>(Qt n Θ b).bind λfb=>bf2 x fa fb
    | _=>none
noncomputable def QaJ(n:Nat)(Θ:Th)(e:Expr):Option DT:=match n with
 | 0=>none
 | n+1=>match e with
  | .UnaryOp .Not a _=>(QaJ n Θ a).map Qcs
  | .BoolOp .And [a] _=>QaJ n Θ a
  | .BoolOp .And (a::b::r) p=>(QaJ n Θ a).bind λfa=>(QaJ n Θ (.BoolOp .And (b::r) p)).map λfb=>QeY fa fb
  | .BoolOp .Or [a] _=>QaJ n Θ a
  | .BoolOp .Or (a::b::r) p=>(QaJ n Θ a).bind λfa=>(QaJ n Θ (.BoolOp .Or (b::r) p)).map λfb=>bOr fa fb
  | .Compare a [op] [b] _=>(Qt n Θ a).bind λfa=>(Qt n Θ b).bind λfb=>(Qqe op).map λg=>Qf (dOp g fa fb)
  | .BoolOp _ _ _=>none
  | .IfExp _ _ _ _=>none
  | .Compare _ _ _ _=>none
  | e=>(Qt n Θ e).map Qf
noncomputable def Qf4(n:Nat)(Θ:Th)(es:List Expr):Option DT:=match n with
 | 0=>none
 | n+1=>match es with
  | []=>some QaE
  | [c]=>QaJ n Θ c
  | _=>none
noncomputable def Qa7(n:Nat)(Θ:Th)(es:List Expr):Option DA:=match n with
 | 0=>none
 | n+1=>match es with
  | []=>some Qb
  | e::es=>(Qt n Θ e).bind λfa=>(Qa7 n Θ es).map λfs=>Qa fa fs
noncomputable def Qk7(n:Nat)(Θ:Th)(e:Option Expr):Option DO:=match n with
 | 0=>none
 | n+1=>match e with
  | none=>some QX
  | some e=>(Qt n Θ e).map QD
noncomputable def QgF(n:Nat)(Θ:Th)(tg e:Expr):Option DI:=match n with
 | 0=>none
 | n+1=>match e with
  | .Call (.Name x _) args [] _=>if Θ.gl x && (look x Θ.Γ).isNone then(match args with
    | [a]=>if x= "range" then(Qt n Θ a).map QdR else
     if x= "enumerate" then(if isTup tg then(Qt n Θ a).map Qk0 else none)else
     (Qt n Θ e).map Q3
    | [a,b,c]=>
     (Qt n Θ e).map Q3
    | [a,b]=>
     (Qt n Θ e).map Q3
    | _=>(Qt n Θ e).map Q3)else(Qt n Θ e).map Q3
  | e=>(Qt n Θ e).map Q3
end
def QcY{α β γ:Type}{x:Option α}{y:α->Option β}{k:α->β->γ}{r:γ}(e:(x.bind λa=>(y a).map λb=>k a b)=some r):∃a b,x=some a/\y a=some b/\k a b=r:=by
 refine Qi e λa h1 e=>?_;obtain⟨b,h2,e⟩:=Zb.mp e;exact⟨a,b,h1,h2,e⟩
def bindR{α β γ:Type}{x:Option α}{y:α->Option β}{k:α->β->γ}{r:γ}{M:γ->Prop}(e:(x.bind λa=>(y a).map λb=>k a b)=some r)(g:∀a b,x=some a->y a=some b->M (k a b)):M r:=by
 obtain⟨a,b,h1,h2,rfl⟩:=QcY e;exact g a b h1 h2
def Qcc(h:Qt n Θ e=some f)(es:List Expr)(env:Env):starEach (e::es) env=(false,eval e env)::starEach es env:=by
 cases n with
 | zero=>exact nn h
 | succ n=>cases e<;>first | rfl | (exact nn h)
def QpJ:∀{n:Nat}{Θ:Th}{es:List Expr}{f:DA},Qa7 n Θ es=some f->∀(pos:Pos) (env:Env),(backTo pos (starEach es env)).any (·.1)=false
 | 0,_,_,_,h,_,_=>by simp[Qa7]at h
 | n+1,_,[],_,h,_,_=>rfl
 | n+1,_,e::es,_,h,pos,env=>by
  simp only[Qa7]at h;obtain⟨fa,fs,h1,h2,_⟩:=QcY h;rw[Qcc h1];have:=QpJ h2 pos env;simpa[backTo]using this
def Qpw(h:Qt n Θ b=some f):Qjg b:=by
 cases n with
 | zero=>exact nn h
 | succ n=>cases b<;>first | (intro o i;rfl) | (exact nn h)
def Qyo(h:Qt n Θ e=some f)(env:Env):∀x,foldedSetIterable e env x=pure x:=by
 cases n with
 | zero=>exact nn h
 | succ n=>cases e<;>first | (intro x;rfl) | (exact nn h)
def QrT(h:Qt n Θ e=some f)(op:CmpOp):behindInMarks op e=false:=by
 cases n with
 | zero=>exact nn h
 | succ n=>cases e<;>first | rfl | (exact nn h)
def QeB{env:Env}:∀{names:List (Str×NameKind)}{x:Str},names.lookup x=some .cell→
  (names.map λ(n,k)=>if(k == NameKind.free && env.scope.kind == .function && env.kindOf n == some .cell)then(n,NameKind.cell)else(n,k)).lookup x=some .cell
 | [],_,h=>by simp at h
 | (n,k)::r,x,h=>by
  have ih:= @QeB env r x;rw[Zs];cases hx:x == n with
  | true=>
   simp only[Zt,hx]at h;cases h;dsimp only;split<;>simp[Zt,hx]
  | false=>
   simp only[Zt,hx]at h;dsimp only;split<;>(simp only[Zt,hx];exact ih h)
def QjZ{X:Cx}{Θ:Th}{scope:Scope}{t:Tg}(ok:QS X Θ)(h:Qin Θ scope t=true):Qem X (inner Θ scope).N scope/\Qlb X (inner Θ scope).N scope (QhK Θ scope) t.slots/\∀cl C fp s3 H3,QS (cxc X (inner Θ scope).N scope cl C fp s3 H3) (inner Θ scope):=by
 unfold Qin at h;simp only[Zf,decide_eq_true_eq]at h;obtain⟨⟨⟨h1,h2⟩,h3⟩,h4⟩:=h;have hk:scope.kind= .function:=by simpa using h1
 have each:∀y∈scope.names,(y.2= .cell->scope.names.lookup y.1=some .cell)/\(y.2= .local ->scope.names.lookup y.1=some .local)/\(y.2= .free->X.env.kindOf y.1=some .cell∨X.env.kindOf y.1=some .free):=λy hy=>by
  have:=ZC.mp h3 y hy;obtain⟨y,k⟩:=y;cases k with
  | cell=>exact⟨λ_=>(by rw[← Qa4];simpa using this),λz=>(by cases z),λz=>(by cases z)⟩
  | «local» =>exact⟨λz=>(by cases z),λ_=>by rw[← Qa4];simpa using this,λz=>by cases z⟩
  | free=>
   refine⟨λz=>(by cases z),λz=>(by cases z),λ_=>?_⟩;dsimp only at this;split at this
   .rename_i q;exact .inl (ok.ce _ q).1
   .rename_i q;exact ok.fe _ q
   .cases this
  | _=>exact⟨λz=>(by cases z),λz=>(by cases z),λz=>(by cases z)⟩
 have S:Qem X (inner Θ scope).N scope:=⟨hk,λy hy=>(each y hy).1,λy hy=>(each y hy).2.1,λy hy=>(each y hy).2.2⟩;refine⟨S,⟨by unfold QhK;simp,λj i e=>?_,λj i e hj=>?_⟩,λcl C fp s3 H3=>⟨⟨rfl,h2,λx e=>?_,λx e=>?_,λx e=>?_,λx e=>?_,ok.units,ok.mg,ok.cs⟩,ok.calm,PassesOwn.never,ok.fns,λ_ _ e=>(nomatch e),λ_ _ e=>(nomatch e)⟩⟩
 .unfold QhK at e;rw[Zv]at e;cases q:(inner Θ scope).N[j]? with
  | none=>rw[q]at e;cases e
  | some x=>
   rw[q]at e;simp only[ZO,Option.some.injEq]at e;split at e
   .rename_i hf;cases hl:look x scope.names with
    | none=>rw[hl]at hf;cases hf
    | some k=>
     rw[hl]at hf;cases k with
     | free=>
      rw[Qa4]at hl;exact⟨x,rfl,hl,by rw[ok.N];exact Qgp e,(each (x,.free) (ZP hl)).2.2 rfl⟩
     | _=>cases hf
   .cases e
 .have:=ZC.mp h4 j hj;rw[e]at this;cases this
 .have e':scope.names.lookup x=some .local :=by rw[← Qa4];exact e
  exact lookup_relabel_local e'
 .have e':scope.names.lookup x=some .cell:=by rw[← Qa4];exact e
  exact⟨QeB e',decide_eq_true e'⟩
 .have e':scope.names.lookup x=some .free:=by rw[← Qa4];exact e
  exact QcO e'
 .have e':scope.names.lookup x=some .globalImplicit:=by rw[← Qa4];exact e
  show(relabel scope X.env).names.lookup x=some .globalImplicit;unfold relabel
  have gen:∀{names:List (Str×NameKind)},names.lookup x=some .globalImplicit→
    (names.map λ(n,k)=>if(k == NameKind.free && X.env.scope.kind == .function && X.env.kindOf n == some .cell)then(n,NameKind.cell)else(n,k)).lookup x=some .globalImplicit:=by
   intro names
   induction names with
   | nil=>intro z;simp at z
   | cons y r ih=>
    intro z;obtain⟨n,k⟩:=y;rw[Zs];cases hx:x == n with
    | true=>
     simp only[Zt,hx]at z;cases z;simp[Zt,hx]
    | false=>
     simp only[Zt,hx]at z;dsimp only;split<;>(simp only[Zt,hx];exact ih z)
  exact gen e'
def Qkt(ok:QS X Θ)(h:Qix Θ tg=some t):SG X tg t:=by
 have hN:X.N.Nodup:=by rw[ok.N];exact ok.nd
 cases tg with
 | Name x pos=>
  change Option.map _ _=_ at h;refine mapR h λi hi=>?_;obtain⟨h1,h2,h3⟩:=Qct ok.toCtxB hi;exact QvP (Qpd hN h1 h2 h3)
 | Tuple es k pos=>
  change Option.map _ _=_ at h;refine mapR h λis hi=>?_;refine Qi hi λxs h1 h2=>?_;have key:∀(es:List Expr) (xs:List Str) (is:List Nat),es.mapM QbQ=some xs->xs.mapM Θ.QbT=some is->PGs X es (Qki is)/\(assignEach es X.env).length=is.length/\(assignEach es X.env).findIdx? (·.1)=none:=by
   intro es
   induction es with
   | nil=>
    intro xs is h1 h2;cases h1;cases h2;exact⟨Qw2,rfl,rfl⟩
   | cons e es ih=>
    intro xs is h1 h2;rw[List.mapM_cons]at h1;refine Qi h1 λx hx h1=>?_;refine Qi h1 λys hy h1=>?_;cases h1;rw[List.mapM_cons]at h2;refine Qi h2 λi hi h2=>?_;refine Qi h2 λjs hj h2=>?_;cases h2;obtain⟨a1,a2,a3⟩:=ih ys js hy hj;cases e with
    | Name y p=>
     cases hx;obtain⟨g1,g2,g3⟩:=Qct ok.toCtxB hi;refine⟨Qst (Qpd hN g1 g2 g3) a1 rfl,?_,?_⟩
     .show(assignEach es X.env).length+1=_;rw[a2];rfl
     .show List.findIdx? (·.1) ((false,assign (.Name x p) X.env)::assignEach es X.env)=none;rw[List.findIdx?_cons];simp only[a3];rfl
    | _=>cases hx
  obtain⟨a1,a2,a3⟩:=key es xs is h1 h2;exact QxD ok.calm a1 a2 a3
 | _=>exact nn h
def Qqh{f:Int->Int->Bool}:∀a b d,gI (λi j=>some (.bl (f i j))) a b=some d->∃k,d= .bl k:=λa b d h=>by
 obtain⟨i,j,_,_,e⟩:=QrL h;cases e;exact⟨_,rfl⟩
def Qrw(ok:QS X Θ)(h:Qqe op=some g):∃r,OpR X (compareOp op) r/\Qb6 X.K g r/\∀a b d,g a b=some d->∃k,d= .bl k:=by
 cases op<;>cases h
 .exact⟨_,Qxd ok.units,QAt,λa b d h=>by unfold gEq at h;split at h<;>cases h;exact⟨_,rfl⟩⟩
 .exact⟨_,Qy2 ok.units,Qzv,λa b d h=>by unfold gNe at h;split at h<;>cases h;exact⟨_,rfl⟩⟩
 .exact⟨_,QAu,QzI,Qqh⟩
 .exact⟨_,QzE,QAa,Qqh⟩
 .exact⟨_,QzJ,Qzr,Qqh⟩
 .exact⟨_,Qz7,Qz6,Qqh⟩
 .exact⟨_,QxE.or Qyx,Qxu,Qph⟩
 .exact⟨_,Qvw.or QvO,Qrt,Qph⟩
 .exact⟨_,Qzb ok.units,QuC,QqN⟩
 .exact⟨_,Qsd ok.units,QuC,QqN⟩
structure Qlh (n:Nat):Prop where
 E:∀X Θ e f,QS X Θ->Qt n Θ e=some f->SE X e f
 B:∀X Θ x args f p pos,QS X Θ->Θ.gl x=true->Qm0 n Θ x args=some f->SE X (.Call (.Name x p) args [] pos) f
 T:∀X Θ e f,QS X Θ->QaJ n Θ e=some f->ST X e f
 Ts:∀X Θ e f,QS X Θ->Qf4 n Θ e=some f->QlV X e f
 A:∀X Θ e f,QS X Θ->Qa7 n Θ e=some f->SA X e f
 J:∀X Θ e f,QS X Θ->Qa7 n Θ e=some f->SJ X e f
 O:∀X Θ e f,QS X Θ->Qk7 n Θ e=some f->SO X e f
 I:∀X Θ tg e f,QS X Θ->QgF n Θ tg e=some f->SI X tg e f/\∀x,foldedSetIterable e X.env x=pure x
def callArgs{X:Cx}{n:Nat}{Θ:Th}{es:List Expr}{fs:DA}(h:Qa7 n Θ es=some fs){e:Expr}{es':List Expr}(he:es=e::es')(pos:Pos):starEach (e::es') X.env=(false,eval e X.env)::starEach es' X.env/\(backTo pos (starEach es' X.env)).any (·.1)=false:=by
 subst he;cases n with
 | zero=>simp[Qa7]at h
 | succ n=>
  simp only[Qa7]at h;obtain⟨fa,fs',h1,h2,_⟩:=QcY h;exact⟨Qcc h1 es' X.env,QpJ h2 pos X.env⟩
def Qfj{X:Cx}{o:Expr}{m:Str}(h:Qli o=true):attributeBase o m X.env (eval o X.env)=eval o X.env:=by
 cases o<;>first | rfl | cases h
def QxO{X:Cx}{o b:Expr}{m:Str}{fo fb f:DE}{apos pos:Pos}(h1:SE X o fo)(h2:SE X b fb)(ht:Qli o=true)(hl:(apos.endLine == pos.line)=true)(hs:starEach [b] X.env=[(false,eval b X.env)])(h:tm1 m fo fb=some f):SE X (.Call (.Attribute o m apos) [b] [] pos) f:=by
 unfold tm1 at h;by_cases e:m= "split"
 .rw[if_pos e]at h;cases h;subst e;exact Qxh h1 (Qcl h2 Qdy hs) (Qfj ht) hl hs
 rw[if_neg e]at h;clear e;by_cases e:m= "join"
 .rw[if_pos e]at h;cases h;subst e;exact QvZ h1 (Qcl h2 Qdy hs) (Qfj ht) hl hs
 rw[if_neg e]at h;clear e;by_cases e:m= "startswith"
 .rw[if_pos e]at h;cases h;subst e;exact QzH h1 (Qcl h2 Qdy hs) (Qfj ht) hl hs
 rw[if_neg e]at h;clear e;by_cases e:m= "partition"
 .rw[if_pos e]at h;cases h;subst e;exact Qwp h1 (Qcl h2 Qdy hs) (Qfj ht) hl hs
 rw[if_neg e]at h;clear e;by_cases e:m= "count"
 .rw[if_pos e]at h;cases h;subst e;exact Qym h1 (Qcl h2 Qdy hs) (Qfj ht) hl hs
 rw[if_neg e]at h;cases h
def QzQ(ih:Qlh n):∀X Θ e f,QS X Θ->Qt (n+1) Θ e=some f->SE X e f:=by
  intro X Θ e f ok h;cases e with
  | Name x pos=>
    (conv at h=>lhs;whnf)
    cases q:Θ.slot x with
    | some i=>rw[q]at h;cases h;exact Qrv (Qdp ok.toCtxB q)
    | none=>
      rw[q]at h;dsimp only at h;split at h
      · rename_i hg
        refine mapR h λi hi=>?_;obtain⟨g1,g2,g3⟩:=QdF ok.toCtxB hg;obtain⟨t,hm⟩:=ok.cs x i hi;cases i with
        | inl i=>exact QgO (v:= .int i) (QpR g1 hm ⟨t,rfl⟩ g2) (λ_ _=> .int_mk) rfl
        | inr i=>exact QgO (v:= .str i) (QpR g1 hm ⟨t,rfl⟩ g2) (λ_ _=> .str_mk) rfl
      · cases h
  | Constant c k pos=>
    cases c with
    | int i=>(conv at h=>lhs;whnf);cases h;exact QgO QrZ (λ_ _=> .int_mk) rfl
    | bool b=>(conv at h=>lhs;whnf);cases h;exact QgO Qup (λ_ _=> .Qbt) rfl
    | none=>(conv at h=>lhs;whnf);cases h;exact QgO Qrz (λ_ _=> .Qey) rfl
    | str x=>(conv at h=>lhs;whnf);cases h;exact QgO Qrs (λ_ _=> .str_mk) rfl
    | _=>exact nn h
  | BinOp a op b pos=>
    (conv at h=>lhs;whnf)
    refine Qi h λfa h1 h=>?_;refine Qi h λfb h2 h=>?_;have ha:=ih.E X Θ a fa ok h1;have hb:=ih.E X Θ b fb ok h2;cases op with
    | Add=>cases h;exact QrB ha hb
    | Mult=>cases h;exact QrJ ha hb
    | Sub=>cases h;exact QmT QyM Qr4 ha hb
    | FloorDiv=>cases h;exact QmT QuU Qxm ha hb
    | Mod=>cases h;exact QmT QuS Qxe ha hb
    | Pow=>cases h;exact QmT Qvm Qzm ha hb
    | _=>cases h
  | UnaryOp op a pos=>
    cases op with
    | USub=>
      (conv at h=>lhs;whnf)
      refine mapR h λfa h1=>?_;exact Qw8 (ih.E X Θ a fa ok h1)
    | Not=>
      (conv at h=>lhs;whnf)
      refine mapR h λfa h1=>?_;exact Qro (ih.E X Θ a fa ok h1)
    | _=>exact nn h
  | BoolOp op es pos=>
    cases op with
    | And=>
      match es,h with
      | [],h=>exact nn h
      | [a],h=>(conv at h=>lhs;whnf);exact Qoo (ih.E X Θ a f ok h)
      | a::b::r,h=>
        (conv at h=>lhs;whnf)
        refine bindR h λfa fb h1 h2=>?_;exact Qq3 (ih.E X Θ a fa ok h1) (ih.E X Θ _ fb ok h2)
    | Or=>
      match es,h with
      | [],h=>exact nn h
      | [a],h=>(conv at h=>lhs;whnf);exact Qoo (ih.E X Θ a f ok h)
      | a::b::r,h=>
        (conv at h=>lhs;whnf)
        refine bindR h λfa fb h1 h2=>?_;exact QAw (ih.E X Θ a fa ok h1) (ih.E X Θ _ fb ok h2)
  | Compare a ops bs pos=>
    match ops,bs,h with
    | [op],[b],h=>
      (conv at h=>lhs;whnf)
      refine Qi h λfa h1 h=>?_;refine bindR h λfb g h2 h3=>?_;obtain⟨r,o1,o2,_⟩:=Qrw ok h3;exact Qxk o1 o2 (ih.E X Θ a fa ok h1) (ih.E X Θ b fb ok h2) (QrT h2 op)
    | [],_,h=>exact nn h
    | [_],[],h=>exact nn h
    | [_],_::_::_,h=>exact nn h
    | _::_::_,_,h=>exact nn h
  | IfExp c a b pos=>
    (conv at h=>lhs;whnf)
    refine Qi h λg h1 h=>?_;refine bindR h λfa fb h2 h3=>?_;exact Qzw (ih.T X Θ c g ok h1) (ih.E X Θ a fa ok h2) (ih.E X Θ b fb ok h3)
  | Tuple es k pos=>
    (conv at h=>lhs;whnf)
    refine mapR h λfs h1=>?_;exact QqT (ih.A X Θ es fs ok h1)
  | List es pos=>
    (conv at h=>lhs;whnf)
    refine mapR h λfs h1=>?_;exact QxG (ih.A X Θ es fs ok h1)
  | Subscript a b pos=>
    by_cases hb:∃lo hi p2,b= .Slice lo hi none p2
    · obtain⟨lo,hi,p2,rfl⟩:=hb
      (conv at h=>lhs;whnf)
      refine Qi h λfa h1 h=>?_;refine bindR h λfl fh h2 h3=>?_;exact QxM (ih.E X Θ a fa ok h1) (ih.O X Θ lo fl ok h2) (ih.O X Θ hi fh ok h3)
    · have h':((Qt n Θ a).bind λfa=>(Qt n Θ b).map λfb=>Qm fa fb)=some f:=by
        cases b<;>first
          | (exact h)
          | (rename_i lo hi st p2;cases lo<;>cases hi<;>cases st<;>first | (exact absurd ⟨_,_,_,rfl⟩ hb) | (exact h))
      refine bindR h' λfa fb h1 h2=>?_;exact Qxo (ih.E X Θ a fa ok h1) (ih.E X Θ b fb ok h2) (Qpw h2)
  | Call fn args kws pos=>
    cases fn with
    | Name x p=>
     cases kws with
     | cons k ks=>exact nn h
     | nil=>
      have h:(if Θ.gl x then(match look x Θ.Γ with | some r=>if r.n<=args.length+r.dfl.length/\args.length<=r.n then(Qa7 n Θ args).map λfs=>Ql r.n r.den (r.dfl.drop (r.dfl.length-(r.n-args.length))) fs else none | none=>Qm0 n Θ x args)else none)=some f:=h;split at h
      · rename_i hg
        obtain⟨g1,g2,g3⟩:=QdF ok.toCtxB hg;split at h
        · rename_i r hr
          split at h
          · rename_i hn
            refine mapR h λfs h1=>?_;obtain⟨k,fa,fd,ps,F1,F2,F3,F4,F5⟩:=ok.fns x r hr;obtain⟨ds,dvs,b1,b2,b3⟩:=F5 (r.n-args.length) ⋯;cases args with
            | nil=>
              cases n with
              | zero=>simp[Qa7]at h1
              | succ n=>
                simp only[Qa7]at h1;cases h1;exact QtV F1 F2 g1 F3 F4 b1 b2 b3 g2
            | cons e es=>
              obtain⟨s1,s2⟩:=callArgs (X:=X) h1 rfl pos;exact Qwj F1 F2 g1 F3 F4 b1 b2 b3 (ih.A X Θ _ fs ok h1) g2 s1 s2
          · cases h
        · exact ih.B X Θ x args f p pos ok hg h
      · cases h
    | Attribute o m apos=>
      match args,kws,h with
      | [b],[],h=>
        have h:(if Qli o=true/\(apos.endLine == pos.line)=true then(Qt n Θ o).bind λfo=>(Qt n Θ b).bind λfb=>tm1 m fo fb else none)=some f:=by
          cases o<;>exact h
        split at h
        · rename_i hc
          refine Qi h λfo h1 h=>?_;refine Qi h λfb h2 h=>?_;exact QxO (ih.E X Θ o fo ok h1) (ih.E X Θ b fb ok h2) hc.1 hc.2 (Qcc h2 [] X.env) h
        · cases h
      | [],[],h=>
        cases o with
        | Name x p=>
            have h:(if m= "bit_length" /\(apos.endLine == pos.line)=true then(Qt n Θ (.Name x p)).map Qqi else none)=some f:=h;split at h
            · rename_i hc
              refine mapR h λfa h1=>?_;obtain⟨rfl,hl⟩:=hc;exact QuY (ih.E X Θ _ fa ok h1) rfl hl
            · cases h
        | _=>exact nn h
      | _::_::_,[],h=>exact nomatch (show(none:Option DE)=some _ from(by cases o<;>exact h))
      | [],_::_,h=>exact nomatch (show(none:Option DE)=some _ from(by cases o<;>exact h))
      | [_],_::_,h=>exact nomatch (show(none:Option DE)=some _ from(by cases o<;>exact h))
      | _::_::_,_::_,h=>exact nomatch (show(none:Option DE)=some _ from(by cases o<;>exact h))
    | _=>exact nn h
  | FormattedValue v c sp pos=>
    cases sp with
    | some q=>exact nn h
    | none=>
      have h:(if c= -1 then(Qt n Θ v).map QtR else none)=some f:=h;split at h
      · rename_i hc
        subst hc;refine mapR h λfa h1=>?_;exact Qyi (ih.E X Θ v fa ok h1)
      · cases h
  | JoinedStr es pos=>
    match es,h with
    | v::v'::es,h=>
      (conv at h=>lhs;whnf)
      refine mapR h λfs h1=>?_;exact Qz1 (ih.J X Θ _ fs ok h1)
    | [],h=>exact nn h
    | [_],h=>exact nn h
  | ListComp elt gens scope pos=>
    match gens,h with
    | [⟨tg,iter,ifs,k⟩],h=>
      by_cases hk:k=0
      · subst hk
        (conv at h=>lhs;whnf)
        refine Qi h λt ht h=>?_;split at h
        · rename_i hc
          simp only[Zf]at hc;refine Qi h λfi h1 h=>?_;refine bindR h λft fe h2 h3=>?_;obtain⟨S,cap,inn⟩:=QjZ ok hc.1;obtain⟨i1,i2⟩:=ih.I X Θ tg iter fi ok h1;exact Qv5 ok.calm S i1 cap (λcl C fp s3 H3=>⟨Qkt (inn cl C fp s3 H3) ht,ih.Ts _ _ ifs ft (inn cl C fp s3 H3) h2,ih.E _ _ elt fe (inn cl C fp s3 H3) h3⟩) i2
        · cases h
      · exfalso
        cases k with
        | ofNat k=>
          cases k with
          | zero=>exact hk rfl
          | succ k=>exact nn h
        | negSucc k=>exact nn h
    | [],h=>exact nn h
    | ⟨_,_,_,.ofNat 0⟩::_::_,h=>exact nn h
    | ⟨_,_,_,.ofNat (k+1)⟩::_::_,h=>exact nn h
    | ⟨_,_,_,.negSucc k⟩::_::_,h=>exact nn h
  | _=>exact nn h
def Qx3(ok:QS X Θ)(g1:Gl X x)(sa:SA X [a] (Qa fa Qb))(st:starEach [a] X.env=(false,eval a X.env)::starEach [] X.env)(h:bf1 x fa=some f):SE X (.Call (.Name x p) [a] [] pos) f:=by
 unfold bf1 at h;by_cases e:x= "len"
 .rw[if_pos e]at h;cases h;subst e;have hm:=ok.mg "len" nofun;exact QmO Qsf Qxr g1 hm PySem.boot_len sa ∅ ∅ st rfl
 rw[if_neg e]at h;clear e;by_cases e:x= "list"
 .rw[if_pos e]at h;cases h;subst e;have hm:=ok.mg "list" nofun;exact Qu0 ok.calm g1 hm sa st rfl
 rw[if_neg e]at h;clear e;by_cases e:x= "int"
 .rw[if_pos e]at h;cases h;subst e;have hm:=ok.mg "int" nofun;exact QnX Qmw QrU g1 hm ZaW sa ∅ ∅ st rfl
 rw[if_neg e]at h;clear e;by_cases e:x= "str"
 .rw[if_pos e]at h;cases h;subst e;have hm:=ok.mg "str" nofun;exact QnX QnE Qx7 g1 hm PyProof.Rows.boot_str sa ∅ ∅ st rfl
 rw[if_neg e]at h;clear e;by_cases e:x= "any"
 .rw[if_pos e]at h;cases h;subst e;have hm:=ok.mg "any" nofun;exact QmO (QrD ok.calm) Qww g1 hm PyProof.Rows.boot_any sa ∅ ∅ st rfl
 rw[if_neg e]at h;clear e;cases h
def Qxt(ok:QS X Θ)(g1:Gl X x)(sa:SA X [a,b] (Qa fa (Qa fb Qb)))(st:starEach [a,b] X.env=(false,eval a X.env)::starEach [b] X.env)(pl:(backTo pos (starEach [b] X.env)).any (·.1)=false)(h:bf2 x fa fb=some f):SE X (.Call (.Name x p) [a,b] [] pos) f:=by
 unfold bf2 at h;by_cases e:x= "min"
 .rw[if_pos e]at h;cases h;subst e;have hm:=ok.mg "min" nofun;exact QmO (QrA ok.calm) QuP g1 hm PyProof.Rows.boot_min sa ∅ ∅ st pl
 rw[if_neg e]at h;clear e;by_cases e:x= "max"
 .rw[if_pos e]at h;cases h;subst e;have hm:=ok.mg "max" nofun;exact QmO (Qre ok.calm) QwH g1 hm PyProof.Rows.boot_max sa ∅ ∅ st pl
 rw[if_neg e]at h;clear e;cases h
def Qzt(ih:Qlh n):∀X Θ x args f p pos,QS X Θ->Θ.gl x=true->Qm0 (n+1) Θ x args=some f->SE X (.Call (.Name x p) args [] pos) f:=by
 intro X Θ x args f p pos ok hg h;obtain⟨g1,g2,g3⟩:=QdF ok.toCtxB hg
 match args,h with
 | [],h=>exact nn h
 | [a],h=>
  change((Qt n Θ a).bind λfa=>bf1 x fa)=some f at h;refine Qi h λfa h1 h=>?_;have ha:=ih.E X Θ a fa ok h1;have st:=Qcc h1 [] X.env;exact Qx3 ok g1 (Qcl ha Qdy st) st h
 | [a,b],h=>
  change(if x= "isinstance" then(Qt n Θ a).bind λfa=>(match b with | .Name y _=>if Θ.gl y then(Qt6 y).map λT=>QcM T fa else none | _=>none)else(Qt n Θ a).bind λfa=>(Qt n Θ b).bind λfb=>bf2 x fa fb)=some f at h;split at h
  .rename_i e;refine Qi h λfa h1 h=>?_;have ha:=ih.E X Θ a fa ok h1;split at h
   .rename_i y p2;split at h
    .rename_i hy;refine mapR h λT hT=>?_;obtain⟨y1,y2,y3⟩:=QdF ok.toCtxB hy;clear h;subst e;refine QxZ g1 (ok.mg _ nofun) ha ?_ (Qcc h1 _ X.env);unfold Qt6 at hT;split at hT
     .rename_i e;cases hT;subst e;exact Qhi y1 (ok.mg _ nofun) ZaW rfl
     .split at hT
      .rename_i e;cases hT;subst e;exact Qhi y1 (ok.mg _ nofun) PyProof.Rows.boot_bool rfl
      .split at hT
       .rename_i e;cases hT;subst e;exact Qhi y1 (ok.mg _ nofun) Zbu rfl
       .split at hT
        .rename_i e;cases hT;subst e;exact Qhi y1 (ok.mg _ nofun) PyProof.Rows.boot_tuple rfl
        .split at hT
         .rename_i e;cases hT;subst e;exact Qhi y1 (ok.mg _ nofun) PyProof.Rows.boot_str rfl
         .cases hT
    .cases h
   .cases h
  .refine Qi h λfa h1 h=>?_;refine Qi h λfb h2 h=>?_;have ha:=ih.E X Θ a fa ok h1;have hb:=ih.E X Θ b fb ok h2;have sb:SA X [b] (Qa fb Qb):=Qcl hb Qdy (Qcc h2 [] X.env);have sa:SA X [a,b] (Qa fa (Qa fb Qb)):=Qcl ha sb (Qcc h1 [b] X.env);have pl:(backTo pos (starEach [b] X.env)).any (·.1)=false:=by rw[Qcc h2 [] X.env];rfl
   exact Qxt ok g1 sa (Qcc h1 [b] X.env) pl h
 | _::_::_::_,h=>exact nn h
def QAj{n:Nat}(ih:Qlh n):∀X Θ e f,QS X Θ->QaJ (n+1) Θ e=some f->ST X e f:=by
 intro X Θ e f ok h;have dflt:(Qt n Θ e).map Qf=some f->(∀whole,isTrue e X.env whole=(do let v ← whole;standAt e.pos;holding [v] (truthy v)))->ST X e f:=λh he=>by
  refine mapR h λfa h1=>?_;exact Qsb (ih.E X Θ e fa ok h1) he
 cases e with
 | UnaryOp op a pos=>
  cases op with
  | Not=>
   change(QaJ n Θ a).map Qcs=some f at h;refine mapR h λfa h1=>?_;exact Qrx (ih.T X Θ a fa ok h1)
  | _=>exact dflt h λ_=>rfl
 | BoolOp op es pos=>
  cases op with
  | And=>
   match es,h with
   | [],h=>exact nn h
   | [a],h=>exact(Qwu (ih.T X Θ a f ok h)).st
   | a::b::r,h=>
    change((QaJ n Θ a).bind λfa=>(QaJ n Θ (.BoolOp .And (b::r) pos)).map λfb=>QeY fa fb)=some f at h;refine bindR h λfa fb h1 h2=>?_;have hb:=ih.T X Θ _ fb ok h2;exact(QxL (ih.T X Θ a fa ok h1) (λH0 A0 wh pins s σ H Q I q=>by have:=hb H0 A0 pins s σ H Q I q;exact this)).st
  | Or=>
   match es,h with
   | [],h=>exact nn h
   | [a],h=>exact(QrM (ih.T X Θ a f ok h)).st
   | a::b::r,h=>
    change((QaJ n Θ a).bind λfa=>(QaJ n Θ (.BoolOp .Or (b::r) pos)).map λfb=>bOr fa fb)=some f at h;refine bindR h λfa fb h1 h2=>?_;have hb:=ih.T X Θ _ fb ok h2;exact(Quy (ih.T X Θ a fa ok h1) (λH0 A0 wh pins s σ H Q I q=>by have:=hb H0 A0 pins s σ H Q I q;exact this)).st
 | Compare a ops bs pos=>
  match ops,bs,h with
  | [op],[b],h=>
   change((Qt n Θ a).bind λfa=>(Qt n Θ b).bind λfb=>(Qqe op).map λg=>Qf (dOp g fa fb))=some f at h;refine Qi h λfa h1 h=>?_;refine bindR h λfb g h2 h3=>?_;obtain⟨r,o1,o2,o3⟩:=Qrw ok h3;exact QyN o1 o2 o3 (ih.E X Θ a fa ok h1) (ih.E X Θ b fb ok h2) (QrT h2 op)
  | [],_,h=>exact nn h
  | [_],[],h=>exact nn h
  | [_],_::_::_,h=>exact nn h
  | _::_::_,_,h=>exact nn h
 | IfExp c a b pos=>exact nn h
 | _=>exact dflt h λ_=>rfl
def Qz2(ih:Qlh n):∀X Θ tg e f,QS X Θ->QgF (n+1) Θ tg e=some f->SI X tg e f/\∀x,foldedSetIterable e X.env x=pure x:=by
 intro X Θ tg e f ok h;have dflt:(Qt n Θ e).map Q3=some f->SI X tg e f/\∀x,foldedSetIterable e X.env x=pure x:=λh=>by
  obtain⟨fa,h1,rfl⟩:=Zb.mp h;exact⟨Qze (ih.E X Θ e fa ok h1),Qyo h1 X.env⟩
 cases e with
 | Call fn args kws pos=>
  cases fn with
  | Name x p=>
   cases kws with
   | cons k ks=>exact dflt h
   | nil=>
    change @ite _ _ _ _ _=_ at h;split at h
    .rename_i hg;simp only[Zf]at hg;obtain⟨g1,g2,g3⟩:=QdF ok.toCtxB hg.1
     match args,h with
     | [],h=>exact dflt h
     | [a],h=>
      dsimp only at h;by_cases er:x= "range"
      .rw[if_pos er]at h;obtain⟨fa,h1,rfl⟩:=Zb.mp h;subst er;exact⟨Qr0 g1 (ok.mg _ nofun) (ih.E X Θ a fa ok h1) (Qcc h1 [] X.env),λ_=>rfl⟩
      rw[if_neg er]at h;by_cases ez:x= "enumerate"
      .rw[if_pos ez]at h;split at h
       .rename_i ht;obtain⟨fa,h1,rfl⟩:=Zb.mp h;subst ez;cases tg with
        | Tuple es k tp=>exact⟨Qvi g1 (ok.mg _ nofun) (ih.E X Θ a fa ok h1) (Qcc h1 [] X.env),λ_=>rfl⟩
        | _=>exact nomatch (show false=true from ht)
       .cases h
      rw[if_neg ez]at h;exact dflt h
     | [a,b],h=>
      dsimp only at h;exact dflt h
     | [a,b,c],h=>
      dsimp only at h;exact dflt h
     | _::_::_::_::_,h=>exact dflt h
    .exact dflt h
  | _=>exact dflt h
 | _=>exact dflt h
def QaG:∀n,Qlh n
 | 0=>⟨λ_ _ _ _ _ h=>(nn h),λ_ _ _ _ _ _ _ _ _ h=>(nn h),λ_ _ _ _ _ h=>(nn h),λ_ _ _ _ _ h=>(nn h),λ_ _ _ _ _ h=>(nn h),
  λ_ _ _ _ _ h=>(nn h),
  λ_ _ _ _ _ h=>(nn h),λ_ _ _ _ _ _ h=>(nn h)⟩
 | n+1=>by
  have ih:=QaG n
  refine⟨QzQ ih,Qzt ih,QAj ih,λX Θ e f ok h=>?_,λX Θ e f ok h=>?_,
   λX Θ e f ok h=>?_,
   λX Θ e f ok h=>?_,Qz2 ih⟩
  .match e,h with
   | [],h=>simp only[Qf4]at h;cases h;exact QtK
   | [c],h=>simp only[Qf4]at h;exact Qsu (ih.T X Θ c f ok h)
   | _::_::_,h=>simp only[Qf4]at h;cases h
  .match e,h with
   | [],h=>simp only[Qa7]at h;cases h;exact Qdy
   | e::es,h=>
    simp only[Qa7]at h;refine bindR h λfa fs h1 h2=>?_;exact Qcl (ih.E X Θ e fa ok h1) (ih.A X Θ es fs ok h2) (Qcc h1 es X.env)
  .match e,h with
   | [],h=>simp only[Qa7]at h;cases h;exact Qw7
   | e::es,h=>
    simp only[Qa7]at h;refine bindR h λfa fs h1 h2=>?_;exact QvJ (ih.E X Θ e fa ok h1) (ih.J X Θ es fs ok h2)
  .match e,h with
   | none,h=>simp only[Qk7]at h;cases h;exact Qw5
   | some e,h=>
    simp only[Qk7]at h;refine mapR h λfa h1=>?_;exact QwD (ih.E X Θ e fa ok h1)
section
noncomputable def Qp:DS:=λ_=>none
def QtM:S1 X st Qp:=λH0 A0=>Qs2.mono λE σ H ⟨ρ,hs,F,o,rel,e,q⟩=>by cases e
def Qu7(hN:X.N.Nodup)(hx1:X.N[i]? =some x)(hx:Loc X.env.scope x)(hf:X.fn x=true∨X.env.scope.names.lookup x=some .local)
  (hcalm:X.calm=true) (S:Qem X N' scope) (hi:SI X tg iter fi) (hcap:Qlb X N' scope cap t.slots)
  (hin:∀cl C fp s3 H3,SG (cxc X N' scope cl C fp s3 H3) tg t/\QlV (cxc X N' scope cl C fp s3 H3) ifs ft/\SE (cxc X N' scope cl C fp s3 H3) elt fe) (hs:∀x,foldedSetIterable iter X.env x=pure x):
  S1 X (.Assign [.Name x pos'] (.ListComp elt [⟨tg,iter,ifs,0⟩] scope pos) spos) (Qu i (Qau fi t cap ft fe)):=
 QkM λH0 A0=>(QwV hN hx1 hx hf hcalm S (hi H0 A0) (λcl C fp s3 H3=>⟨(hin cl C fp s3 H3).1 _ _,(hin cl C fp s3 H3).2.1 _ _,(hin cl C fp s3 H3).2.2 _ _⟩) hs).mono λE σ H h=>Qmr hcap h
end
end HS
namespace HS
open PySem PySem.Spec L2 PyProof.Rows
section
variable {X:Cx}{a b e:Expr}{fa fb:DE}{pf:DP}{x:Nat}{pos apos:Pos}
def Qpm{X:Cx}{H:Hp}{ds:List D}{w:V}{Gm:LAd}(h:Rp X.K H (.lst ds) w Gm):tyV X.K "list" w H:=by
 obtain⟨l,ws,L,rfl,hl,_⟩:=h.lst_inv;exact .inl ⟨rfl,ws,QaP hl⟩
def Qae.unit{K:Fgg}{ρ:En}{F:Nat->List Addr}{H:Hp}:Qae K ρ F H H ⟨.non,true,[]⟩ .non []:= .flat (QJ.refl _) .Qey
def QwB:MtM X "list.extend" (Qm6 X.K):=by
 intro pins s σ H x vs v us Q I rx rv h;obtain⟨l,b,xs,zs,rfl,rfl,hH,hb,hz,q⟩:=h;cases rx;obtain⟨u,rfl,ru⟩:=rv.one;cases ru;obtain⟨z,its,n,r,hl,e⟩:=I.QsR hH;obtain⟨z2,its2,n2,r2,hl2,e2⟩:=I.Ql3 hb;have hsz:its.toArray.size+its2.toArray.size<=sizeLine:=by rw[Zr,Zr];omega
 have hlong:¬(!its.toArray.isEmpty && Builtin.List.listTooLong (its.toArray.size+its2.toArray.size))=true:=by
  rw[Qoq hsz,ZaU];exact ZK
 refine call_meets F.slot_list_extend ⟨_,e,rfl⟩ F.entry_list_extend (F.args_list_extend_2 _ _)
  (AutoSeq1.list_extend_list_list_0 l its.toArray n b its2.toArray n2 hlong (by rw[Zr];omega) ⋯) ⟨e,e2,?_⟩
 refine⟨.non,_,I.Qx6 (its':=its++its2) hH e ⋯ (r.append r2) ?_,rfl,q⟩;rw[Zd];omega
def QsB{H0:Hp}{A0:LAd}{E:Ends}{σ:L2.St}{H:Hp}:tS X.K H0 A0 (Qit x pf fa) E σ H->QfH (tBM X.K "list" (Qm6 X.K) (tP X.K H0 A0 x pf) (Qgu (tV X.K H0 A0 fa) QhC)) E σ H:=exK λρ hs F o rel e q=>by
 unfold Qit at e;split at e
 .rename_i d hx;refine Qi e λis e2 e=>?_;refine Qi e λr0 e1 e=>?_;split at e
  .rename_i ds es hp hr;split at e
   .rename_i hc;simp only[Zf,decide_eq_true_eq]at hc;cases e;refine⟨ρ,hs,F,d,true,is,.lst ds,rel,hx,e2,hp,λv0 w H2 Gm s2 hv0 fo=>⟨Qpm fo.rp,ρ,hs,F,r0,rel.ext s2,e1,λvn H3 Gn p=>?_⟩⟩;have rel3:=(rel.ext s2).ext p.same;obtain⟨l,vsm,Gp,rfl,g1,g2,g3,g4,g5,g6,g7⟩:=rel3.write .unit rfl ZZ hx ⋯ hv0 (fo.same p.same);have rn:=p.rp;rw[hr]at rn;obtain⟨b,zs,L,rfl,hb,rl,zl,el⟩:=rn.lst_inv;have eL:=rl.Qcd hc.1;subst eL;have n1:=g2.length;have n2:=rl.length;refine⟨l,b,vsm,zs,rfl,rfl,g1,hb,⋯,?_⟩;obtain⟨F',rel'⟩:=g7 (ds++es) (vsm++zs) (Gp++[]) ((g2.upd g1 g4).append (rl.upd g1 ⋯)) (by rw[Zd];exact hc.2) (by rw[ZJ,Qex,g3,Qh0 es hc.1];rfl) (λa=>by rw[ZJ];omega);exact q _ _ F' rel'
   .cases e
  .cases e
 .cases e
end
noncomputable def QfQ:Expr->Bool
 | .ListComp .. =>false
 | .SetComp .. =>false
 | .DictComp .. =>false
 | _=>true
def QdU(h:QfQ e=true):swapsWith e t l env=pure false:=by
 cases e<;>first | rfl | cases h
noncomputable def Qe8(n:Nat)(Θ:Th)(e:Expr):Option (Nat×DP):=match n with
 | 0=>none
 | n+1=>match e with
  | .Name x _=>(Θ.slot x).map λi=>(i,Qbe)
  | .Subscript a b _=>(Qe8 n Θ a).bind λq=>(Qt n Θ b).map λfb=>(q.1,Qjl q.2 fb)
  | _=>none
def QhZ:∀(n:Nat) (X:Cx) (Θ:Th) (e:Expr) (q:Nat×DP),QS X Θ->Qe8 n Θ e=some q->SPa X e q.1 q.2/\attributeBase e=λ_ env w=>w
 | 0,_,_,_,_,_,h=>(nn h)
 | n+1,X,Θ,e,q,ok,h=>by
  cases e with
  | Name x pos=>
   change Option.map _ _=_ at h;obtain⟨i,hi,rfl⟩:=Zb.mp h;exact⟨QsT (Qdp ok.toCtxB hi),by funext a b c;rfl⟩
  | Subscript a b pos=>
   change Option.bind _ _=_ at h;obtain⟨q',fb,h1,h2,rfl⟩:=QcY h;exact⟨QvL (QhZ n X Θ a q' ok h1).1 ((QaG n).E X Θ b fb ok h2) (Qpw h2),by funext a b c;rfl⟩
  | _=>exact nn h
noncomputable def Qjo:Expr->Bool
 | .Name .. =>true
 | .Subscript _ (.Slice ..) _=>false
 | .Subscript (.Call ..) _ _=>false
 | .Subscript .. =>true
 | _=>false
noncomputable def Qsy:Operator->Option (D->D->Option D)
 | .Add=>some (gI λi j=>some (.int (i+j)))
 | .Sub=>some Qge
 | _=>none
def Qys(h:Qsy op=some g):∃r,OpR X (inplaceOp op) r/\Qb6 X.K g r:=by
 cases op<;>cases h
 .exact⟨_,QwF,Qh1 (λi j d e=>by cases e;rfl) λi j d e H Q q=>by cases e;exact⟨i,j,rfl,rfl,q _ λ_=> .int_mk⟩⟩
 .exact⟨_,QuW,Qr4⟩
noncomputable def QvV:Expr->Bool
 | .Slice .. =>true
 | _=>false
noncomputable def QkX(n:Nat)(Θ:Th)(o:Expr)(m:Str)(args:List Expr):Option DS:=match args with
  | []=>(Qe8 n Θ o).bind λq=>
    none
  | [e]=>if m= "append" then
     ((Qe8 n Θ o).bind λq=>(Qt n Θ e).map λfa=>Qf1 q.1 q.2 fa)
    else
    none
  | _=>none
def Quf(ok:QS X Θ)(h:QkX n Θ o m args=some f)(hl:(apos.endLine == cpos.line)=true):
  S1 X (.Expr (.Call (.Attribute o m apos) args [] cpos) pos) f:=by
 have base:∀{q:Nat×DP},Qe8 n Θ o=some q->SPa X o q.1 q.2/\attributeBase o m X.env (eval o X.env)=eval o X.env:=λ{q} h1=>by
  obtain⟨sp,ab⟩:=QhZ n X Θ o _ ok h1;exact⟨sp,by rw[ab]⟩
 have app:∀{e:Expr}{f:DS},m= "append" ->((Qe8 n Θ o).bind λq=>(Qt n Θ e).map λfa=>Qf1 q.1 q.2 fa)=some f->S1 X (.Expr (.Call (.Attribute o m apos) [e] [] cpos) pos) f:=λ{e f} em h=>by
  obtain⟨q,fa,h1,h2,rfl⟩:=QcY h;obtain⟨sp,hb⟩:=base h1;subst em;have he:=(QaG n).E X Θ e fa ok h2;have st:=Qcc h2 [] X.env;have sa:∀H0 A0,PA X [e] (Qgu (tV X.K H0 A0 fa) QhC):=λH0 A0=>QbG (he H0 A0) Qek st;exact λH0 A0=>(Qg9 (Qko Zaw PySem.F.slot_list_append PySem.F.type_list_append QiK (sp H0 A0) (sa H0 A0) hb (by rw[st];rfl) hl st rfl) rfl).mono λE σ H q=>QsA q
 match args,h with
 | [],h=>
  unfold QkX at h;dsimp only at h;obtain⟨⟨x,pf⟩,h1,h⟩:=bind1 h;obtain⟨sp,hb⟩:=base h1;cases h
 | [e],h=>
  unfold QkX at h;dsimp only at h;by_cases em:m= "append"
  .rw[if_pos em]at h;exact app em h
  rw[if_neg em]at h;clear em;clear app;cases h
 | _::_::_,h=>exact nn h
end HS
namespace HS
open PySem PySem.Spec L2
section
variable {X:Cx}{K:Fgg}{H0 H H':Hp}{A0:LAd}{hs:List (V×D×List Addr)}{ρ:En}{F:Nat->List Addr}{σ:L2.St}{st1 st2:Stmt}{sts:List Stmt}{g:DS}{gc:DT}{fe:DE}{w a b:Nat}
def Rel.Qx9(rel:Rel K H0 A0 hs ρ F σ H){i:Nat}{v:V}(hi:∀d b,ρ[i]? ≠some (some (d,b))):Rel K H0 A0 hs ρ F (σ.set i (some v)) H:=
 ⟨by rw[ZaL];exact rel.len,λj d b e=>by
  have hj:i≠j:=λz=>by subst z;exact hi d b e
  rw[Zl hj];exact rel.val j d b e,rel.own,rel.src,rel.held,rel.same⟩
noncomputable def QcS(w a b:Nat)(gc:DT)(fe:DE):DS:=λρ=>(gc ρ).bind λc=>if w<ρ.length/\w≠(if c=true then a else b)then Qit (if c=true then a else b) Qbe fe (ρ.set w none)else none
def QyP{x:Nat}{Q:VK}(h:tP K H0 A0 x Qbe σ H Q)(hw:σ[w]? =σ[x]?):QdQ w σ H Q:=by
 obtain⟨ρ,hs,F,d,b,is,dm,rel,hx,hp,hd,q⟩:=h;cases hp;cases hd;obtain⟨v,h1,h2⟩:=rel.val x d b hx;exact⟨v,by rw[hw];exact h1,q v v H (F x) (QJ.refl _) h1 ⟨rfl,rfl,rfl,h2⟩⟩
def Qp2{x:Nat}{o:Out}(h:Qit x Qbe fe ρ=some o):(∃d,ρ[x]? =some (some (d,true)))/\∃ρ',o= .nx ρ':=by
 unfold Qit at h;split at h
 .rename_i d hx;refine⟨⟨d,hx⟩,?_⟩;refine Qi h λis _ h=>?_;refine Qi h λr _ h=>?_;split at h
  .split at h
   .cases h;exact⟨_,rfl⟩
   .cases h
  .cases h
 .cases h
def QxR(p1:∀H0 A0,PS X st1 (QjU (tIf (tVT X.K H0 A0 gc) (QdQ a) (QdQ b)) (Qe1 w)))(p2:∀H0 A0,PS X st2 (QfH (tBM X.K "list" (Qm6 X.K) (QdQ w) (Qgu (tV X.K H0 A0 fe) QhC))))(h:SS X sts g):
  SS X (st1::st2::sts) (Qd (QcS w a b gc fe) g):=λH0 A0=>
 (QfX (p1 H0 A0) (QfX (p2 H0 A0) (h H0 A0))).mono λE σ H=>exK λρ hs F o rel e q=>by
 refine Qi e λo1 e1 e=>?_;refine Qi e1 λc ec e1=>?_;have e1:(if w<ρ.length/\w≠(if c=true then a else b)then Qit (if c=true then a else b) Qbe fe (ρ.set w none)else none)=some o1:=e1;by_cases hw:w<ρ.length/\w≠(if c=true then a else b)
 case neg=>rw[if_neg hw]at e1;cases e1
 rw[if_pos hw]at e1;obtain⟨hwl,hwx⟩:=hw;refine⟨ρ,hs,F,c,rel,ec,λH1 s1=>?_⟩;have hr0:∀d b,(ρ.set w none)[w]? ≠some (some (d,b)):=λd b z=>by
  rw[Zp hwl]at z;cases z
 have rel0:=(rel.ext s1).weak (Qgy (ρ:=ρ) w);obtain⟨⟨d,hd⟩,ρ',rfl⟩:=Qp2 e1;obtain⟨v,hv,_⟩:=rel0.val _ d true hd;have rel1:=rel0.Qx9 (i:=w) (v:=v) hr0;have key:QdQ (if c=true then a else b) σ H1 λv' H'=>Qe1 w v' σ H' λσ' H'=>QfH (tBM X.K "list" (Qm6 X.K) (QdQ w) (Qgu (tV X.K H0 A0 fe) QhC)) {E with nx:=tS X.K H0 A0 g E} σ' H':=by
  refine⟨v,hv,?_⟩;have hσw:(σ.set w (some v))[w]? =some (some v):=Zp (by rw[← rel.len];exact hwl);have hσx:(σ.set w (some v))[if c=true then a else b]? =some (some v):=by rw[Zl hwx];exact hv
  show QfH _ _ (σ.set w (some v)) H1;have:=QsB (X:=X) (H0:=H0) (A0:=A0) (E:={E with nx:=tS X.K H0 A0 g E}) (σ:=σ.set w (some v)) (H:=H1) (x:=if c=true then a else b) (pf:=Qbe) (fa:=fe) ⟨ρ.set w none,hs,F,.nx ρ',rel1,e1,λσ' H' F' rel'=>⟨ρ',hs,F',o,rel',e,q⟩⟩;exact QyP this (hσw.trans hσx.symm)
 cases c with
 | true=>exact key
 | false=>exact key
end
structure Alx where
 w:Str
 c:Expr
 a:Str
 b:Str
 e:Expr
 r:List Stmt
noncomputable def Qt4:Stmt->Option (Str×Expr)
 | .Assign ts e _=>match ts with
  | [t]=>(QbQ t).map λx=>(x,e)
  | _=>none
 | _=>none
noncomputable def Qti:Expr->Option (Expr×Str×Str)
 | .IfExp c a b _=>(QbQ a).bind λx=>(QbQ b).map λy=>(c,x,y)
 | _=>none
noncomputable def QyD:Expr->Option (Expr×Str×Pos)
 | .Attribute o m p=>some (o,m,p)
 | _=>none
noncomputable def QtN:Expr->Option (Str×Expr)
 | .Call f args kws cpos=>match args with
  | [e]=>match kws with
   | []=>(QyD f).bind λz=>if z.2.1= "extend" /\(z.2.2.endLine == cpos.line)=true then(QbQ z.1).map λw=>(w,e)else none
   | _=>none
  | _=>none
 | _=>none
noncomputable def Qw6:Stmt->Option Expr
 | .Expr e _=>some e
 | _=>none
noncomputable def Qlt:List Stmt->Option Alx
 | a::b::r=>(Qt4 a).bind λz=>(Qti z.2).bind λy=>(Qw6 b).bind λf=>(QtN f).bind λu=>if u.1=z.1 then some ⟨z.1,y.1,y.2.1,y.2.2,u.2,r⟩else none
 | _=>none
def Qe6{e:Expr}{x:Str}(h:QbQ e=some x):∃p,e= .Name x p:=by
 unfold QbQ at h;split at h
 .cases h;exact⟨_,rfl⟩
 .cases h
def Quh{st:Stmt}{x:Str}{e:Expr}(h:Qt4 st=some (x,e)):∃p q,st= .Assign [.Name x p] e q:=by
 unfold Qt4 at h;split at h
 .split at h
  .obtain⟨y,hy,h⟩:=Zb.mp h;cases h;obtain⟨p,rfl⟩:=Qe6 hy;exact⟨p,_,rfl⟩
  .cases h
 .cases h
def Qs5{e c:Expr}{x y:Str}(h:Qti e=some (c,x,y)):∃p q r,e= .IfExp c (.Name x p) (.Name y q) r:=by
 unfold Qti at h;split at h
 .refine Qi h λx' h1 h=>?_;obtain⟨y',h2,h⟩:=Zb.mp h;cases h;obtain⟨p,rfl⟩:=Qe6 h1;obtain⟨q,rfl⟩:=Qe6 h2;exact⟨p,q,_,rfl⟩
 .cases h
def Qs9{f e:Expr}{w:Str}(h:QtN f=some (w,e)):∃p apos cpos,f= .Call (.Attribute (.Name w p) "extend" apos) [e] [] cpos/\(apos.endLine == cpos.line)=true:=by
 unfold QtN at h;split at h
 .split at h
  .split at h
   .refine Qi h λz h1 h=>?_;split at h
    .rename_i hc;obtain⟨w',h2,h⟩:=Zb.mp h;cases h;unfold QyD at h1;split at h1
     .cases h1;obtain⟨p,rfl⟩:=Qe6 h2;obtain⟨rfl,hl⟩:=hc;exact⟨p,_,_,rfl,hl⟩
     .cases h1
    .cases h
   .cases h
  .cases h
 .cases h
def Qol{sts:List Stmt}{q:Alx}(h:Qlt sts=some q):∃p1 p2 p3 p4 p5 p6 apos cpos p7,sts= .Assign [.Name q.w p1] (.IfExp q.c (.Name q.a p2) (.Name q.b p3) p4) p5:: .Expr (.Call (.Attribute (.Name q.w p6) "extend" apos) [q.e] [] cpos) p7::q.r/\(apos.endLine == cpos.line)=true:=by
 unfold Qlt at h;split at h
 .refine Qi h λz h1 h=>?_;refine Qi h λy h2 h=>?_;refine Qi h λf h3 h=>?_;refine Qi h λu h4 h=>?_;split at h
  .rename_i hc;cases h;obtain⟨z1,z2⟩:=z;obtain⟨y1,y2,y3⟩:=y;obtain⟨u1,u2⟩:=u;cases hc;obtain⟨p1,p5,rfl⟩:=Quh h1;obtain⟨p2,p3,p4,rfl⟩:=Qs5 h2;obtain⟨p6,apos,cpos,rfl,hl⟩:=Qs9 h4;unfold Qw6 at h3;split at h3
   .cases h3;exact⟨p1,p2,p3,p4,p5,p6,apos,cpos,_,rfl,hl⟩
   .cases h3
  .cases h
 .cases h
end HS
namespace HS
open PySem PySem.Spec L2 PyProof.Rows
section
variable {K:Fgg}{H0 H H':Hp}{A0:LAd}{hs:List (V×D×List Addr)}{ρ:En}{F:Nat->List Addr}{σ:L2.St}{x i j:Nat}{ds es:List D}{a:Addr}{vs:List V}{v vn:V}{dn:D}
end
mutual
noncomputable def QkI(n:Nat)(Θ:Th)(st:Stmt):Option DS:=match n with
 | 0=>none
 | n+1=>match st with
  | .Pass _=>some Qe
  | .Break _=>some QsZ
  | .Continue _=>some QtE
  | .Raise _ _ _=>some Qp
  | .Return none _=>some Qjt
  | .Return (some e) _=>(Qt n Θ e).map QB
  | .Expr (.Constant (.str _) _ _) _=>some Qe
  | .Expr (.Call (.Attribute o m apos) args [] cpos) _=>if(apos.endLine == cpos.line)=true then QkX n Θ o m args else none
  | .Expr (.Call (.Name x p) args [] cpos) _=>(Qt n Θ (.Call (.Name x p) args [] cpos)).map Qdi
  | .Assign [.Name x _] e _=>(Θ.QbT x).bind λi=>(Qt n Θ e).map λfa=>Qu i (if Qjo e=true then Qef fa else fa)
  | .Assign [.Subscript a i _] e _=>(Qe8 n Θ a).bind λq=>(Qt n Θ i).bind λfi=>(Qt n Θ e).map λfa=>QgS q.1 q.2 fi fa
  | .AugAssign (.Subscript a i _) op e _=>(Qe8 n Θ a).bind λq=>(Qt n Θ i).bind λfi=>(Qsy op).bind λg=>(Qt n Θ e).map λfa=>Qgo g q.1 q.2 fi fa
  | .If c a b _=>(QaJ n Θ c).bind λg=>(QaR n Θ a).bind λf1=>(QaR n Θ b).map λf2=>sIf g f1 f2
  | .For tg iter body [] _=>(Qix Θ tg).bind λt=>(QgF n Θ tg iter).bind λfi=>(QaR n Θ body).map λfb=>Qbd fi t fb
  | .Try a b c d p=>Θ.tr (.Try a b c d p)
  | _=>none
noncomputable def QaR(n:Nat)(Θ:Th)(sts:List Stmt):Option DS:=match n with
  | 0=>none
  | n+1=>match sts with
    | []=>some Qe
    | st::r=>
       match Qlt (st::r)with
       | some q=>(Θ.QbT q.w).bind λw=>(Θ.slot q.w).bind λw'=>(Θ.slot q.a).bind λa=>(Θ.slot q.b).bind λb=>if w'=w then(QaJ n Θ q.c).bind λgc=>(Qt n Θ q.e).bind λfe=>(QaR n Θ q.r).map λg=>Qd (QcS w a b gc fe) g else none
       | none=>
       (QkI n Θ st).bind λf=>(QaR n Θ r).map λg=>Qd f g
end
def Qpc(h:Qt n Θ e=some f):QvV e=false:=by
 cases n with
 | zero=>exact nn h
 | succ n=>cases e<;>first | rfl | (exact nn h)
def Qvh(h:Qt n Θ (.ListComp elt gens scope pos)=some f):∃m tg iter ifs t fi ft fe,n=m+1/\gens=[⟨tg,iter,ifs,0⟩]/\Qix (inner Θ scope) tg=some t/\Qin Θ scope t=true∧
  QgF m Θ tg iter=some fi/\Qf4 m (inner Θ scope) ifs=some ft/\Qt m (inner Θ scope) elt=some fe/\f=Qau fi t (QhK Θ scope) ft fe:=by
 cases n with
 | zero=>exact nn h
 | succ n=>
  match gens,h with
  | [⟨tg,iter,ifs,k⟩],h=>
   by_cases hk:k=0
   .subst hk
    (conv at h=>lhs;whnf)
    refine Qi h λt ht h=>?_;split at h
    .rename_i hc;simp only[Zf]at hc;refine Qi h λfi h1 h=>?_;obtain⟨ft,fe,h2,h3,rfl⟩:=QcY h;exact⟨n,tg,iter,ifs,t,fi,ft,fe,rfl,rfl,ht,hc.1,h1,h2,h3,rfl⟩
    .cases h
   .exfalso;cases k with
    | ofNat k=>
     cases k with
     | zero=>exact hk rfl
     | succ k=>exact nn h
    | negSucc k=>exact nn h
  | [],h=>exact nn h
  | ⟨_,_,_,.ofNat 0⟩::_::_,h=>exact nn h
  | ⟨_,_,_,.ofNat (k+1)⟩::_::_,h=>exact nn h
  | ⟨_,_,_,.negSucc k⟩::_::_,h=>exact nn h
def QvN(ok:QS X Θ)(hx:Θ.QbT x=some i)(h:Qt n Θ e=some fa):S1 X (.Assign [.Name x p] e pos) (Qu i fa):=by
 have hN:X.N.Nodup:=by rw[ok.N];exact ok.nd
 obtain⟨h1,h2,h3⟩:=Qct ok.toCtxB hx;by_cases hc:QfQ e=true
 .have he:=(QaG n).E X Θ e fa ok h;exact QkM λH0 A0=>Qgd hN h1 h2 (he H0 A0) (QdU hc) h3
 .cases e with
  | ListComp elt gens scope cpos=>
   obtain⟨m,tg,iter,ifs,t,fi,ft,fe,rfl,rfl,ht,hco,g1,g2,g3,rfl⟩:=Qvh h;obtain⟨S,cap,inn⟩:=QjZ ok hco;obtain⟨i1,i2⟩:=(QaG m).I X Θ tg iter fi ok g1;exact Qu7 hN h1 h2 h3 ok.calm S i1 cap (λcl C fp s3 H3=>⟨Qkt (inn cl C fp s3 H3) ht,(QaG m).Ts _ _ ifs ft (inn cl C fp s3 H3) g2,(QaG m).E _ _ elt fe (inn cl C fp s3 H3) g3⟩) i2
  | SetComp _ _ _ _=>cases n<;>exact nn h
  | DictComp _ _ _ _ _=>cases n<;>exact nn h
  | _=>exact absurd rfl hc
def QsJ(ok:QS X Θ)(hx:Θ.QbT x=some i)(h:Qt n Θ e=some fa)(ha:Qjo e=true):S1 X (.Assign [.Name x p] e pos) (Qu i (Qef fa)):=by
 have hN:X.N.Nodup:=by rw[ok.N];exact ok.nd
 obtain⟨h1,h2,h3⟩:=Qct ok.toCtxB hx;have hc:QfQ e=true:=by cases e<;>first | rfl | cases ha
 have he:=QsS ((QaG n).E X Θ e fa ok h);exact QkM λH0 A0=>Qgd hN h1 h2 (he H0 A0) (QdU hc) h3
def QrH:swapsWithSole [.Subscript a i p] e l env=pure false:=by
 cases e<;>rfl
structure Qyn (n:Nat):Prop where
 S:∀X Θ st f,QS X Θ->QkI n Θ st=some f->S1 X st f
 Ss:∀X Θ sts f,QS X Θ->QaR n Θ sts=some f->SS X sts f
def Qy0(ih:Qyn n):∀X Θ st f,QS X Θ->QkI (n+1) Θ st=some f->S1 X st f:=by
 intro X Θ st f ok h;have hN:X.N.Nodup:=by rw[ok.N];exact ok.nd
 have E:=QaG n;cases st with
 | Pass pos=>change some Qe=some f at h;cases h;exact QvI
 | Break pos=>change some QsZ=some f at h;cases h;exact Qt9
 | Continue pos=>change some QtE=some f at h;cases h;exact Qwg
 | Raise a b pos=>change some Qp=some f at h;cases h;exact QtM
 | Return e pos=>
  cases e with
  | none=>change some Qjt=some f at h;cases h;exact Qwr
  | some e=>
   change(Qt n Θ e).map QB=some f at h;obtain⟨fa,h1,rfl⟩:=Zb.mp h;exact Qok (E.E X Θ e fa ok h1)
 | Expr e pos=>
  cases e with
  | Constant c k p=>
   cases c with
   | str x=>
    change some Qe=some f at h;cases h;exact λH0 A0=>QyL.mono λE σ H ⟨ρ,hs,F,o,rel,e,q⟩=>by cases e;exact q σ H F rel
   | _=>exact nn h
  | Call fn args kws cpos=>
   cases fn with
   | Attribute o m apos=>
    cases kws with
    | nil=>
     change(if(apos.endLine == cpos.line)=true then QkX n Θ o m args else none)=some f at h;split at h
     .rename_i hl;exact Quf ok h hl
     .cases h
    | cons _ _=>exact nn h
   | Name x p=>
    cases kws with
    | nil=>
     change(Qt n Θ (.Call (.Name x p) args [] cpos)).map Qdi=some f at h;obtain⟨fa,h1,rfl⟩:=Zb.mp h;exact λH0 A0=>QvY (Qg9 (E.E X Θ _ fa ok h1 H0 A0) rfl)
    | cons _ _=>exact nn h
   | _=>exact nn h
  | _=>exact nn h
 | Assign ts e pos=>
  match ts,h with
  | [t],h=>
   cases t with
   | Name x p=>
    change((Θ.QbT x).bind λi=>(Qt n Θ e).map λfa=>Qu i (if Qjo e=true then Qef fa else fa))=some f at h;obtain⟨i,fa,h1,h2,rfl⟩:=QcY h;split
    .rename_i ha;exact QsJ ok h1 h2 ha
    .exact QvN ok h1 h2
   | Subscript a i p=>
    change((Qe8 n Θ a).bind λq=>(Qt n Θ i).bind λfi=>(Qt n Θ e).map λfa=>QgS q.1 q.2 fi fa)=some f at h;refine Qi h λq h1 h=>?_;obtain⟨fi,fa,h2,h3,rfl⟩:=QcY h;obtain⟨sp,_⟩:=QhZ n X Θ a q ok h1;have ns:=Qpc h2;refine Qy6 (E.E X Θ e fa ok h3) sp (E.E X Θ i fi ok h2) λte to ti he ho hi=>QxF he (Qyg ho hi set_list ?_) QrH ?_ rfl
    .intro v;cases i<;>first | rfl | (cases ns)
    .cases e<;>rfl
   | _=>exact nn h
  | [],h=>exact nn h
  | t::_::_,h=>cases t<;>exact nn h
 | AugAssign t op e pos=>
  cases t with
  | Subscript a i p=>
   change((Qe8 n Θ a).bind λq=>(Qt n Θ i).bind λfi=>(Qsy op).bind λg=>(Qt n Θ e).map λfa=>Qgo g q.1 q.2 fi fa)=some f at h;refine Qi h λq h1 h=>?_;refine Qi h λfi h2 h=>?_;obtain⟨g,fa,h3,h4,rfl⟩:=QcY h;obtain⟨r,o1,o2⟩:=Qys (X:=X) h3;obtain⟨sp,_⟩:=QhZ n X Θ a q ok h1;have ns:=Qpc h2;exact Qv7 o1 o2 (E.E X Θ e fa ok h4) sp (E.E X Θ i fi ok h2) λov iv new=>by cases i<;>first | rfl | (cases ns)
  | _=>exact nn h
 | If c a b pos=>
  change((QaJ n Θ c).bind λg=>(QaR n Θ a).bind λf1=>(QaR n Θ b).map λf2=>sIf g f1 f2)=some f at h;refine Qi h λg h1 h=>?_;obtain⟨f1,f2,h2,h3,rfl⟩:=QcY h;exact QuN (E.T X Θ c g ok h1) (ih.Ss X Θ a f1 ok h2) (ih.Ss X Θ b f2 ok h3)
 | For tg iter body els pos=>
  cases els with
  | nil=>
   change((Qix Θ tg).bind λt=>(QgF n Θ tg iter).bind λfi=>(QaR n Θ body).map λfb=>Qbd fi t fb)=some f at h;refine Qi h λt h1 h=>?_;obtain⟨fi,fb,h2,h3,rfl⟩:=QcY h;obtain⟨i1,i2⟩:=E.I X Θ tg iter fi ok h2;exact Qyt ok.pass ok.calm i1 (Qkt ok h1) (ih.Ss X Θ body fb ok h3) i2
  | cons _ _=>exact nn h
 | Try a b c d pos=>exact ok.tr _ _ h
 | _=>exact nn h
def QhY:∀n,Qyn n
 | 0=>⟨λ_ _ _ _ _ h=>(nn h),λ_ _ _ _ _ h=>(nn h)⟩
 | n+1=>by
  have ih:=QhY n;refine⟨Qy0 ih,λX Θ sts f ok h=>?_⟩
  match sts,h with
  | [],h=>change some Qe=some f at h;cases h;exact Qk3
  | st::r,h=>
   change(match Qlt (st::r)with
    | some q=>(Θ.QbT q.w).bind λw=>(Θ.slot q.w).bind λw'=>(Θ.slot q.a).bind λa=>(Θ.slot q.b).bind λb=>if w'=w then(QaJ n Θ q.c).bind λgc=>(Qt n Θ q.e).bind λfe=>(QaR n Θ q.r).map λg=>Qd (QcS w a b gc fe) g else none
    | none=>_)=some f at h
   split at h
   .rename_i q hq;refine Qi h λw hw h=>?_;refine Qi h λw' hw' h=>?_;refine Qi h λa ha h=>?_;refine Qi h λb hb h=>?_;split at h
    case isFalse=>cases h
    rename_i hww;subst hww;refine Qi h λgc h1 h=>?_;obtain⟨fe,g,h2,h3,rfl⟩:=QcY h;obtain⟨p1,p2,p3,p4,p5,p6,apos,cpos,p7,hs,hl⟩:=Qol hq;rw[hs];have E:=QaG n;have B:=ok.toCtxB;have hN:X.N.Nodup:=by rw[ok.N];exact ok.nd
    obtain⟨l1,l2,l3⟩:=Qct B hw;have st:=Qcc h2 [] X.env;exact QxR (λH0 A0=>Qgd hN l1 l2 (QhN (E.T X Θ q.c gc ok h1 H0 A0) (Qdp B ha) (Qdp B hb)) (QdU rfl) l3) (λH0 A0=>Qg9 (Qko Zaw Zbn Zbo QwB (Qdp B hw') (QbG (E.E X Θ q.e fe ok h2 H0 A0) Qek st) rfl (by rw[st];rfl) hl st rfl) rfl) (ih.Ss X Θ q.r g ok h3)
   change((QkI n Θ st).bind λf=>(QaR n Θ r).map λg=>Qd f g)=some f at h;obtain⟨fs,fr,h1,h2,rfl⟩:=QcY h;exact QlX (ih.S X Θ st fs ok h1) (ih.Ss X Θ r fr ok h2)
noncomputable def Qkm(n:Nat)(Θ:Th)(st:Stmt):Option DS:=match Θ.tr st with
 | some f=>some f
 | none=>QkI n Θ st
def Qra{X:Cx}{Θ:Th}{n:Nat}{st:Stmt}{f:DS}(ok:QS X Θ)(h:Qkm n Θ st=some f):S1 X st f:=by
 unfold Qkm at h;split at h
 .rename_i g hg;cases h;exact ok.tr st _ hg
 .exact(QhY n).S X Θ st f ok h
noncomputable def QP(k:Nat)(ds:List D):En:=ds.map (λd=>some (d,d.flat))++List.replicate (k-ds.length) none
noncomputable def outD:Out->Option (D×Bool)
 | .rt d fr=>some (d,fr)
 | .nx _=>some (.non,true)
 | _=>none
noncomputable def Qr(k:Nat)(f:DS):Den:=λds=>(f (QP k ds)).bind outD
def Rps.parts{K:Fgg}{H:Hp}:∀{ds:List D}{vs:List V}{F:LAd},Rps K H ds vs F→
  ∃Fs:List (List Addr),(∀L∈Fs,∀a∈L,a∈F)/\∀(i:Nat) (d:D),ds[i]? =some d->∃v,vs[i]? =some v/\Rp K H d v (Fs.getD i [])
 | [],_,_,h=>⟨[],λL hL=>by simp at hL,λi d e=>by simp at e⟩
 | d::ds,_,_,h=>by
  simp only[Rps]at h;obtain⟨v,ws,F1,F2,rfl,rfl,r,q⟩:=h;obtain⟨Fs,h1,h2⟩:=Rps.parts q;refine⟨F1::Fs,λL hL a ha=>?_,λi d' e=>?_⟩
  .rcases Zn.mp hL with rfl | hL
   .exact Zk _ ha
   .exact Zg _ (h1 L hL a ha)
  .cases i with
   | zero=>simp at e;subst e;exact⟨v,⋯,by simpa using r⟩
   | succ i=>obtain⟨w,hw,hr⟩:=h2 i d' (by simpa using e);exact⟨w,by simpa using hw,by simpa using hr⟩
def QjN{k:Nat}{ds:List D}{i:Nat}{d:D}{b:Bool}(h:(QP k ds)[i]? =some (some (d,b))):ds[i]? =some d/\b=d.flat:=by
 unfold QP at h;by_cases hi:i<ds.length
 .rw[Zae (by simpa using hi),Zv]at h;cases e:ds[i]? with
  | none=>rw[e]at h;cases h
  | some a=>rw[e]at h;cases h;exact⟨rfl,rfl⟩
 .rw[ZaE (by simpa using hi),Zbs]at h;split at h<;>cases h
def QdV{K:Fgg}{H:Hp}{ds:List D}{vs:List V}{F:LAd}{N:List Str}(r:Rps K H ds vs F):∃F0,Rel K H F [] (QP N.length ds) F0 (start N vs) H:=by
 obtain⟨Fs,h1,h2⟩:=r.parts;have hl:=r.length;have src:∀i a,a∈Fs.getD i []->a∈F:=λi a ha=>by
  by_cases hi:i<Fs.length
  .have:Fs.getD i []∈Fs:=by rw[Zad,Zag hi];exact List.getElem_mem hi
   exact h1 _ this a ha
  .rw[Zad,ZD ⋯]at ha;simp at ha
 refine⟨λi=>Fs.getD i [],?_,λi d b e=>?_,λi d e=>?_,λi d b e a ha=> .inr (src i a ha),λt ht=>absurd ht ⋯,QJ.refl _⟩
 .unfold QP L2.start;simp[hl]
 .obtain⟨e1,_⟩:=QjN e;obtain⟨v,hv,hr⟩:=h2 i d e1;refine⟨v,?_,hr⟩;have hi:i<vs.length:=(Zj.mp hv).1;unfold L2.start;rw[Zae (by simpa using hi),Zv,hv];rfl
 .obtain⟨e1,e2⟩:=QjN e;obtain⟨v,hv,hr⟩:=h2 i d e1;have z:Fs.getD i []=[]:=hr.Qcd e2.symm;simp only[z];exact⟨(QdT d e2.symm).symm,ZZ,λa ha=>by simp at ha,λ_ _ _ _ _ a ha=>by simp at ha,λ_ _ a ha=>by simp at ha⟩
section
variable (P:Program) (w:World) (K:Fgg) (mg:Str->Option Value) (base:Heap)
def Known(k:Nat)(x:Str)(r:FnR):Prop:=∃f fd ps,Qck P w K mg base CX0 k f fd ps (spV K r.n r.den)/\mg x=some (.ref f)/\PySem.W.keepIn K (.ref f)=true∧
 ∀m,m<=r.dfl.length->∃ds dvs,Binds K fd ps ds/\QH dvs ds/\∀H,Rps K H (r.dfl.drop (r.dfl.length-m)) dvs []
def Qbr(k:Nat)(Γ:List (Str×FnR)):Prop:=∀x r,look x Γ=some r->Known P w K mg base k x r
structure Qdu (cs:List (Str×Cn)):Prop where
 bn:∀x∈Qou,mg x=none
 cs:∀x i,look x cs=some i->∃t,mg x=some (cnV i t)
end
section
variable {P:Program}{w:World}{K:Fgg}{mg:Str->Option Value}{base:Heap}
def Qbr.nil{k:Nat}:Qbr P w K mg base k []:=λx r h=>by cases h
def Known.mono{j k:Nat}{x:Str}{r:FnR}(h:Known P w K mg base j x r)(hk:j<=k):Known P w K mg base k x r:=by
 obtain⟨f,fd,ps,h1,h2⟩:=h;exact⟨f,fd,ps,h1.mono hk,h2⟩
def Qbr.cons{k:Nat}{Γ:List (Str×FnR)}{x:Str}{r:FnR}(t:Qbr P w K mg base k Γ)(h:Known P w K mg base (k+1) x r):Qbr P w K mg base (k+1) ((x,r)::Γ):=λy q e=>by
 unfold look at e;split at e
 .rename_i z;cases e;subst z;exact h
 .exact(t y q e).mono (Zh _)
noncomputable def namesOf(sc:Scope):List Str:=(sc.names.filter λy=>QuF y.2).map (·.1)
noncomputable def Qc6(st:Stmt)(Γ:List (Str×FnR))(cs:List (Str×Cn)):Th:=⟨namesOf (Qh st),(Qh st).names,Γ,cs,λ_=>none,λ_=>none⟩
def QlN{CX:CXT}{xe:Value->Shared->Prop}{st:Stmt}{ps:List Str}{qual:Str}{f:Addr}{cdv:Value}{A:Around}{outer:List Env}{s:Shared}{H:Hp}{E:XK}{k:Nat}{Γ:List (Str×FnR)}{cs:List (Str×Cn)}(S:Qba (namesOf (Qh st)) ps (Qh st))(M:Qdu mg cs)(tab:Qbr P w K mg base k Γ)
  (hr:Qa6 k (A.deeper (envOfC qual (Qh st) s.heap.objs.size f cdv))) (hp:PassesOwn (model P w) (A.deeper (envOfC qual (Qh st) s.heap.objs.size f cdv)) (envOfC qual (Qh st) s.heap.objs.size f cdv) xe):
  QS ((QcL CX P w K mg base (namesOf (Qh st)) qual (Qh st) f cdv A outer s H E).Qgh xe) (Qc6 st Γ cs) where
 N:=rfl
 nd:=S.nd
 lc:=λx h=>by rw[Qa4]at h;exact h
 ce:=λx h=>by rw[Qa4]at h;exact⟨h,rfl⟩
 fe:=λx h=>by rw[Qa4]at h;exact absurd rfl (S.nofree _ (ZP h))
 gl:=λx h=>by rw[Qa4]at h;exact h
 calm:=decide_eq_true hr.hd
 pass:=hp
 tr:=λ_ _ h=>by cases h
 te:=λ_ _ h=>by cases h
 units:=hr.units
 mg:=M.bn
 fns:=λx r h=>by
  obtain⟨f',fd,ps',h1,h2,h3,h4⟩:=tab x r h;exact⟨k,f',fd,ps',h1,hr,h2,h3,h4⟩
 cs:=M.cs
def Qnn{st:Stmt}{ps:List Str}{qual:Str}{f:Addr}{cdv:Value}{A:Around}{outer:List Env}{s:Shared}{H:Hp}{E:XK}{k:Nat}{Γ:List (Str×FnR)}{cs:List (Str×Cn)}(S:Qba (namesOf (Qh st)) ps (Qh st))(M:Qdu mg cs)(tab:Qbr P w K mg base k Γ)
  (hr:Qa6 k (A.deeper (envOfC qual (Qh st) s.heap.objs.size f cdv))):QS (QcL CX0 P w K mg base (namesOf (Qh st)) qual (Qh st) f cdv A outer s H E).nox (Qc6 st Γ cs):=QlN S M tab hr PassesOwn.never
def Qrj{x qual:Str}{st:Stmt}{f:Addr}{fd:FuncData}{ps:List Str}{k n:Nat}{Γ:List (Str×FnR)}{cs:List (Str×Cn)}{g:DS}(F:Fun K x qual st f fd)(S:Qba (namesOf (Qh st)) ps (Qh st))(M:Qdu mg cs)(tab:Qbr P w K mg base k Γ)
  (hc:QaR n (Qc6 st Γ cs) (Qac st)=some g):Qck P w K mg base CX0 (k+1) f fd ps (spV K ps.length (Qr (namesOf (Qh st)).length g)):=by
 refine F.ok S (Qi3 rfl) λcdv A outer s H vs Q E hr h=>?_;obtain⟨ds,L,d,fr,rps,hl,hd,q⟩:=h;refine⟨_,(QhY n).Ss _ _ _ g (Qnn S M tab hr) hc H L,?_⟩;obtain⟨F0,rel⟩:=QdV (N:=namesOf (Qh st)) rps;unfold Qr at hd;refine Qi hd λo ho hd=>?_;refine⟨_,[],F0,o,rel,ho,?_⟩;cases o with
 | nx ρ=>
  cases hd;exact λσ H' F' rel'=>q .non H' [] ⟨rel'.same,.Qey,λa ha=>by simp at ha,λ_=>⟨ZZ,rfl,λa ha=>by simp at ha⟩⟩
 | bk ρ=>cases hd
 | ct ρ=>cases hd
 | rt d' fr'=>
  cases hd;exact λv H' G r=>q v H' G r
structure Fact (K:Fgg) (x:Str) (st:Stmt):Prop where
 ex:∃f fd,Fun K x x st f fd/\PySem.W.nsIn K mainGlobals x=some (some (.ref f))
def fact_mk{x:Str}{st:Stmt}{f:Addr}{oc:Value}{od an:Option Addr}{osl:Array (Option Value)}{kV doc pm cdv ct:Value}(a:PySem.W.nsIn K mainGlobals x=some (some (.ref f)))(l:K.lookup f=some ⟨oc,od,.func (PySem.W.fnOf x x (QbY st) (Qac st) (Qh st) .none kV doc pm an cdv ct),osl⟩)
  (c:PySem.W.codeIn K cdv x=true) (k:PySem.W.keepIn K (.ref f)=true):Fact K x st:=⟨f,_,QxH l c k,a⟩
def l0{α:Type}{P:List α->Prop}(h:P []):∀l:List α,l.length=0->P l:=λl e=>(List.length_eq_zero_iff.mp e).symm▸h
def lc{α:Type}{n:Nat}{P:List α->Prop}(h:∀a,∀l:List α,l.length=n->P (a::l)):∀l:List α,l.length=n+1->P l
 | a::l,e=>h a l (Nat.succ.inj e)
def Qag(x:Str)(st:Stmt)(ps:List Str):Prop:=∀(kV doc pm:Value) (an:Option Addr) (cdv ct:Value) (us:List Value),us.length=ps.length->bindArgs (PySem.W.fnOf x x (QbY st) (Qac st) (Qh st) .none kV doc pm an cdv ct) ⟨us,[]⟩=pure (ps.zip us)
def QbM{h:Heap}{x:Str}{st:Stmt}{ps:List Str}{k n:Nat}{Γ:List (Str×FnR)}{cs:List (Str×Cn)}{g:DS}(X:K.In h)(G:h.Ns mainGlobals mg)(F:Fact K x st)(S:Qba (namesOf (Qh st)) ps (Qh st))(B:Qag x st ps)(M:Qdu mg cs)(tab:Qbr P w K mg base k Γ)
  (hc:QaR n (Qc6 st Γ cs) (Qac st)=some g):Known P w K mg base (k+1) x ⟨ps.length,[],Qr (namesOf (Qh st)).length g⟩:=by
 obtain⟨f,fd,Fn,a⟩:=F.ex;refine⟨f,fd,ps,Qrj Fn S M tab hc,Zac X G a,Fn.kp,λm hm=>⟨[],[],Fn.binds (B ·),.nil,λH=>by simp[Rps]⟩⟩
end
end HS
namespace HS
open PySem PySem.Spec L2 PyProof.Rows
def Qs0{l:PySem.W.OpenLaw}{k:Nat}{q:Program}{loose:List Str}{XP:(Str->Option Value)->Heap->Prop}{YP:World->Heap->Prop}{d:DefRec}{K:Params->PySem.W.Frag}{den:Den}{x:Str}
  (hn:l.most=some 63) (hdf:d.params.defaults=[]) (hr:Qa6 k callerA) (hY:∀(w:World) (h:Heap),YP w h->(K w.params).In h)
  (hden:∀ns:List Int,ns.length<=63->∃fr,den [.lst (ns.map .int)]=some (.bl true,fr))
  (F:∀(w:World) (mg:Str->Option Value) (fa:Addr) (h:Heap),(K w.params).In h->h.Ns mainGlobals mg->mg d.name=some (.ref fa)→
   ∃fd:FuncData,(∀(s:Shared) (u:Value),BindsTo s fd ⟨[u],[]⟩ [(x,u)])∧
    ∀base:Heap,(K w.params).In base->base.Ns mainGlobals mg->Qck l.prog w (K w.params) mg base CX0 k fa fd [x] (spV (K w.params) 1 den)):
  PySem.W.WalkO q loose XP YP l.row.toRowW d [] (λf vs=>PySem.call f vs):=by
 refine Att.QoU hn hdf λw s₀ s₁ mg mb fa o pm cd doc a vs ns G Y ho hd hcd hmg hobj hints hlen hg=>?_;have KX:=hY w _ Y;obtain⟨fd,hb,hF⟩:=F w mg fa _ KX G.T.g hmg;have h63:(63:Nat)<=sizeLine:= ∅
 refine Qtd KX G.T.g G.T.b G.T.builtins G.T.nolimit hg hobj hints (Zx hlen h63) hr hF hb (λH hO hS=>?_) λH e s' z=>z;have fx:Fix (K w.params) H a (ns.map V.int):=by
  rcases hS with(h | ⟨o,h⟩) | ⟨o,its,n,hk,hc,hdn,hda,hz,rv⟩
  .rcases hO a with z | ⟨o,xs,z⟩<;>rw[h]at z<;>cases z
  .exact .inl ⟨o,h⟩
  .have e:=KX a o hk;rw[hobj]at e;cases e;cases hda;exact .inr ⟨vs,_,hk,by rw[Zo];exact Zx hlen h63,by simpa using rv⟩
 obtain⟨fr,hfr⟩:=hden ns hlen;have rp:Rp (K w.params) H (.lst (ns.map .int)) (.ref a) []:=by
  simp only[Rp];refine⟨by rw[Zo];exact Zx hlen h63,a,_,rfl,.inr ⟨fx,?_⟩⟩;have gen:∀ns:List Int,Rps (K w.params) H (ns.map .int) (ns.map .int) []:=by
   intro ns
   induction ns with
   | nil=>simp[Rps]
   | cons n ns ih=>simp only[Zs,Rps];exact⟨_,_,[],[],rfl,rfl,.int_mk,ih⟩
  exact gen ns
 refine⟨[.lst (ns.map .int)],[],.bl true,fr,?_,rfl,hfr,λv H' G r=>r.rp.Qc5⟩;simp only[Rps];exact⟨_,_,[],[],rfl,rfl,rp,rfl,rfl⟩
def Qzx{P:Program}{w:World}{K:Fgg}{mg:Str->Option Value}{h:Heap}{x y:Str}{st:Stmt}{fa:Addr}{k n:Nat}{Γ:List (Str×FnR)}{cs:List (Str×Cn)}{g:DS}(X:K.In h)(G:h.Ns mainGlobals mg)(hmg:mg x=some (.ref fa))
  (F:Fact K x st) (S:Qba (namesOf (Qh st)) [y] (Qh st)) (B:Qag x st [y]) (M:Qdu mg cs) (tab:∀base:Heap,Qbr P w K mg base k Γ) (hc:QaR n (Qc6 st Γ cs) (Qac st)=some g):
  ∃fd:FuncData,(∀(s:Shared) (u:Value),BindsTo s fd ⟨[u],[]⟩ [(y,u)])∧
    ∀base:Heap,K.In base->base.Ns mainGlobals mg->Qck P w K mg base CX0 (k+1) fa fd [y] (spV K 1 (Qr (namesOf (Qh st)).length g)):=by
 obtain⟨f,fd,Fn,a⟩:=F.ex;have e:=hmg.symm.trans (Zac X G a);cases e;refine⟨fd,λs u=>?_,λbase _ _=>Qrj Fn S M (tab base) hc⟩;obtain⟨oc,od,kV,doc,pm,an,cdv,ct,osl,rfl,lk,hcd⟩:=Fn.ex;exact .of_eq (B kV doc pm an cdv ct [u] rfl)
end HS
namespace HS
open PySem PySem.Spec PyProof.Rows L2
section
variable {P:Program}{w:World}{K:Fgg}{mg:Str->Option Value}{base:Heap}
end
end HS
namespace HS
open PySem PySem.Spec L2 PyProof.Rows
def Qth(x:Qb4 P w H h a o):∃u,h.get? a=some u:=by
 cases o with
 | lst xs=>obtain⟨_,_,_,_,e⟩:=x;exact⟨_,e⟩
 | tup xs=>obtain⟨_,_,_,ob,e,_⟩:=x;exact⟨_,e⟩
 | dK kvs=>obtain⟨_,_,_,_,o,_,_,e,_⟩:=x;exact⟨_,e⟩
 | dT kvs=>obtain⟨_,_,_,_,o,_,_,e,_⟩:=x;exact⟨_,e⟩
 | set S n=>obtain⟨o,_,_,_,e,_⟩:=x;exact⟨_,e⟩
 | ins C dx fs=>obtain⟨_,_,_,e,_⟩:=x;exact⟨_,e⟩
 | own y=>exact x
 | xd fs=>obtain⟨_,⟨_,_,_,e,_⟩,_⟩:=x;exact⟨_,e⟩
 | rng lo hi=>obtain⟨_,_,_,e⟩:=x;exact⟨_,e⟩
 | frz ob u=>obtain⟨e,_⟩:=x;exact⟨_,e⟩
 | tbl ps=>exact⟨_,show h.get? a=some _ from x⟩
 | met f y=>exact⟨_,show h.get? a=some _ from x⟩
 | ext φ=>obtain⟨_,e,_⟩:=x;exact e
section
variable {P:Program}{w:World}{H H':Hp}{h0 h h' B:Heap}{fs:LAd}
def Cov(H:Hp)(B:Heap):Prop:=∀b u,H b=some u->∃o,B.get? b=some o
def QlS(hok:HOk P w H h)(hB:B.StaysIn h)(hB':B.StaysIn h')(cov:Cov H B):HOk P w H h':=λa o e=>
 (hok a o e).QgR (λc v hc q=>by
  have:∃u,H c=some u:=by
   rcases hc with rfl | hc
   .exact⟨_,e⟩
   .exact⟨_,hc⟩
  obtain⟨u,hu⟩:=this;obtain⟨o',ho'⟩:=cov c u hu;have:=hB _ _ ho';rw[q]at this;cases this;exact hB' _ _ ho') (λ_ q=>q) λ_ _ q=>q
def Qoh(u:Un fs [] H H' h0 h)(hB:B.StaysIn h)(hB':B.StaysIn h')(up:h.UpToSlots h')(old:∀b o,h0.get? b=some o->b∉fs->∃o',B.get? b=some o')
  (dat:∀b o,h0.get? b=some o->b∈fs->∀vs,o.data≠ .fields vs) (frf:∀b∈fs,H b=none):Un fs [] H H' h0 h' where
 keep:=λb o e n hb hx=>by
  obtain⟨o',e1⟩:=old b o e hb;have:=hB _ _ e1;rw[u.keep b o e n hb hx]at this;cases this;exact hB' _ _ e1
 slot:=λb o e n hb hx=>by
  obtain⟨sl,e1⟩:=u.slot b o e n hb hx;obtain⟨sl',e2⟩:=up b _ e1 (dat b o e hb);exact⟨sl',e2⟩
 free:=u.free
 there:=λb o e hx=>by
  by_cases hb:b∈fs
  .obtain⟨sl,e1⟩:=u.slot b o e (frf b hb) hb hx;obtain⟨sl',e2⟩:=up b _ e1 (dat b o e hb);exact⟨_,e2⟩
  .obtain⟨o',e1⟩:=old b o e hb;exact⟨_,hB' _ _ e1⟩
 tups:=u.tups
 frzs:=u.frzs
 tbls:=u.tbls
end
noncomputable def CXR(P:Program)(w:World):CXT:=λouter H s E e s'=>∃ea C H' B a0,e=Value.ref ea/\s'.os=s.os/\AllBare s'.gens/\Un (frs outer) [] H H' s.heap s'.heap/\HOk P w H' s'.heap/\Heap.FlyingW B outer ea C a0 s'.heap∧
 Cov H' B/\(∀b o,s.heap.get? b=some o->b∉frs outer->∃o',B.get? b=some o')/\E C none H'
def QgH(B:Heap)(l:List Env)(e:Addr)(cls a0 fl:Value)(h:Heap):Prop:=B.StaysIn h/\B.get? e=none/\h.FunFrames B l/\h.TracedAtW B e cls a0 fl
section
variable {M:Model}{A:Around}{E:Value->Shared->Prop}{s:Shared}{B:Heap}{env:Env}{outer:List Env}{L e:Addr}{cls a0 fl:Value}{Q:Unit->Shared->Prop}
def Qj4(hfr:A.frames=some (env::outer))(hf:env.frame=some L)(hh:QgH B (env::outer) e cls a0 fl s.heap)(hQ:∀h',Heap.HeldW B (env::outer) e cls a0 L h'->s.heap.UpToSlots h'->Q () {s with heap:=h'}):wpAny M A (noteFrame (.ref e) env) Q E s:=by
 obtain⟨g1,g2,g3,tr⟩:=hh;by_cases hq:fl=rawInt L
 .subst hq;exact wpAny_noteFrame_againW hf tr (hQ _ ⟨g1,g2,g3,tr⟩ (Heap.UpToSlots.refl _))
 obtain⟨o1,v1,T,o2,v2,e1,⟨c1,c2⟩,d1,f1,nT,ne,e2,d2,f3⟩:=tr;subst c1;unfold noteFrame;rw[hf];refine wpAny_bind (wpAny_field e1 d1 f1 ?_);rw[if_pos ⋯];refine wpAny_bind (wpAny_field e2 d2 f3 ?_);rw[if_neg (by simpa using hq)];refine wpAny_bind (wpAny_setField e2 d2 (Array.getElem?_eq_some_iff.mp f3).1 ?_);have oth:∀b,b≠T->(s.heap.update T (Obj.mapFields (·.setIfInBounds 3 Value.none))).get? b=s.heap.get? b:=λb n=>Zaz _ _ n.symm;have far:∀b o,s.heap.get? b=some o->(∀vs,o.data≠ .fields vs)->b≠T:=λb o x y z=>by
  subst z;cases x.symm.trans e2;exact y _ d2
 refine wpAny_entryW hfr (g3.of_keeps λb o x y=>⟨o,(oth b (far b o x y)).trans x,rfl⟩) hf ((oth e ne.symm).trans e1) (λb o x=>(oth b λz=>by subst z;rw[nT]at x;cases x).trans (g1 b o x)) g2 d1 (Array.getElem?_eq_some_iff.mp f1).1 c2 λh' ⟨k1,k2,k3,k4⟩=>
  hQ h' ⟨k1,g2,k2,k3⟩ λb o x y=>k4 b o ((oth b (far b o x y)).trans x) y
def QqJ(hfr:A.frames=some (env::outer))(hf:env.frame=some L)(hh:QgH B (env::outer) e cls a0 fl s.heap)(hQ:∀h',Heap.FlyingW B outer e cls a0 h'->s.heap.UpToSlots h'->Q () {s with heap:=h'}):wpAny M A (leaving env (.ref e)) Q E s:=by
 unfold leaving;refine wpAny_bind (Qj4 hfr hf hh λh1 hd up=>?_);refine wpAny_landsW (s:={s with heap:=h1}) hd λh2 ⟨k1,k2,⟨_,_,k3⟩,k4⟩ up2=>?_;exact hQ h2 ⟨k1,k2,k3,k4⟩ (up.trans up2)
end
def Qhr(X:Cx)(H0:Hp)(A0:LAd)(hs:List (V×D×List Addr))(ρ:En)(C:Value)(ea:Addr)(s':Shared):Prop:=∃pins σ H F,Rel X.K H0 A0 hs ρ F σ H∧
 ((∃sg args,Inv X pins σ H sg/\Heap.MadeExcOf sg.heap s'.heap ea C args/\s'.os=sg.os/\s'.gens=sg.gens)∨
  ∃B a0 fl,Inv X pins σ H s'/\QgH B X.stack ea C a0 fl s'.heap/\Cov H B/\(∀b o,X.s₀.heap.get? b=some o->b∉X.fs->∃o',B.get? b=some o')/\∀p∈X.pn++pins,∃o,B.get? p.1=some o)
def Qoi(I:Inv X pins σ H s)(hx:X.ex=[])(e:X.s₀.heap.get? b=some o)(hb:b∉X.fs):(∃o',s.heap.get? b=some o')/\b∉frs X.stack:=by
 refine⟨I.base.there b o e (by rw[hx];simp),λz=>?_⟩;rcases Zn.mp (I.QdA b z)with q | q
 .have h1:=Zq e;have h2:=I.ok.above;rw[q]at h1;exact absurd (Zm h1 h2) (ZH _)
 .exact hb q
def QkA{X:Cx}(ok:X.Ok){b:Addr}{o:Obj}(e:X.s₀.heap.get? b=some o)(hb:b∈X.fs):∀vs,o.data≠ .fields vs:=by
 obtain⟨_,o',e',h⟩:=ok.Qel.mem hb;rw[e]at e';cases e';exact h
def Qn5(I:Inv X pins σ H s)(hx:X.ex=[]):∃B:Heap,B.StaysIn s.heap/\s.heap.FunFrames B X.stack/\Cov H B/\(∀b o,X.s₀.heap.get? b=some o->b∉X.fs->∃o',B.get? b=some o')/\∀p∈X.pn++pins,∃o,B.get? p.1=some o:=by
 refine⟨PySem.W.hideAll s.heap (frs X.stack),λb o e=>Zay _ e,PySem.W.funFrames_hide I.stack λenv he a ha=>Zaa.mpr ⟨env,he,ha⟩,λb u e=>?_,λb o e hb=>?_,λp hp=>?_⟩
 .obtain⟨o,ho⟩:=Qth (I.hok b u e);exact⟨o,Zav _ ho λz=>by rw[I.Qlv b z]at e;cases e⟩
 .obtain⟨⟨o',h1⟩,h2⟩:=Qoi I hx e hb;exact⟨o',Zav _ h1 h2⟩
 .obtain⟨e,_,ne,nf,_⟩:=I.pin p hp;exact⟨_,Zav _ e λz=>(Zn.mp (I.QdA _ z)).elim ne nf⟩
def QiL{X:Cx}{P:Program}{w:World}{E:XK}{H0:Hp}{A0:LAd}{hs:List (V×D×List Addr)}{ρ:En}{C:Value}{ea:Addr}{s':Shared}{env:Env}{outer:List Env}{Er:Value->Shared->Prop}
  (hp:X.prog=P) (hw:X.w=w) (hx:X.ex=[]) (hst:X.stack=env::outer) (hfs:X.outer=outer) (hen:X.env=env) (hf:env.frame=some X.env.locals) (T:Qhr X H0 A0 hs ρ C ea s')
  (hE:∀H,QJ H0 H->E C none H):wpAny (model P w) X.A (leaving env (.ref ea)) (λ_ s''=>CXR P w outer X.H₀ X.s₀ E (.ref ea) s'') Er s':=by
 subst hp hw hfs;obtain⟨pins,σ,H,F,rel,⟨sg,args,I,hm,ho,hg⟩ | ⟨B,a0,f0,I,fl,cov,old,_⟩⟩:=T
 .obtain⟨B,b1,b2,cov,old,_⟩:=Qn5 I hx;rw[hst]at b2;have hfr:=I.ok.frames;rw[hst]at hfr;refine wpAny_leaves_madeW hfr hf b1 b2 hm λh' t fl _ _ up=>?_;have up':sg.heap.UpToSlots h':=(Heap.UpToSlots.of_keeps hm.keeps).trans up;have hb:=I.base;rw[hx]at hb;exact⟨ea,C,H,B,_,rfl,ho.trans I.os,hg▸I.bare,Qoh hb b1 fl.1 up' old (λb o e hb=>QkA I.ok e hb) I.ok.frf,QlS I.hok b1 fl.1 cov,fl,cov,old,hE H rel.same⟩
 .have hfr:=I.ok.frames;rw[hst]at hfr fl;refine QqJ hfr hf fl λh' fl' up=>?_;have hb:=I.base;rw[hx]at hb;exact⟨ea,C,H,B,_,rfl,I.os,I.bare,Qoh hb fl.1 fl'.1 up old (λb o e hb=>QkA I.ok e hb) I.ok.frf,QlS I.hok fl.1 fl'.1 cov,fl',cov,old,hE H rel.same⟩
section
variable {X:Cx}{pins:List (Addr×Obj)}{σ:L2.St}{H:Hp}{s s':Shared}{B:Heap}
def Qmf{h h':Heap}{c:Addr}{v:Option Value}(up:h.UpToSlots h')(z:h.IsCell c v):h'.IsCell c v:=by
 obtain⟨o,e,d⟩:=z;obtain⟨sl,e'⟩:=up c o e λvs q=>by rw[d]at q;cases q
 exact⟨_,e',d⟩
def Qhd(I:Inv X pins σ H s)(ho:s'.os=s.os)(hg:AllBare s'.gens)(hx:X.ex=[])(b1:B.StaysIn s.heap)(b2:B.StaysIn s'.heap)(up:s.heap.UpToSlots s'.heap)(cov:Cov H B)
  (old:∀b o,X.s₀.heap.get? b=some o->b∉X.fs->∃o',B.get? b=some o') (pb:∀p∈X.pn++pins,∃o,B.get? p.1=some o):Inv X pins σ H s' where
 ok:=I.ok
 os:=ho.trans I.os
 bare:=hg
 base:=by
  have hb:=I.base;rw[hx]at hb ⊢;exact Qoh hb b1 b2 up old (λb o e hb=>QkA I.ok e hb) I.ok.frf
 loc:=by
  obtain⟨m,hn,hl⟩:=I.loc;refine⟨m,up.ns hn,λi x v e1 e2 e3=>?_⟩;obtain⟨u,r,q⟩:=hl i x v e1 e2 e3;refine⟨u,r,?_⟩;rcases q with q | ⟨k,c,e,z⟩
  .exact .inl q
  .exact .inr ⟨k,c,e,Qmf up z⟩
 cell:=λx c e=>by
  obtain⟨v,z⟩:=I.cell x c e;exact⟨v,Qmf up z⟩
 free:=I.free
 freeC:=I.freeC
 pin:=λp hp=>by
  obtain⟨e,n,ne,nf,d⟩:=I.pin p hp;obtain⟨o,eo⟩:=pb p hp;have:=b1 _ _ eo;rw[e]at this;cases this;exact⟨b2 _ _ eo,n,ne,nf,d⟩
 hok:=QlS I.hok b1 b2 cov
 len:=I.len
end
noncomputable abbrev DX:=En->Option (Str×En)
def ClsAt(K:Fgg)(x:Str)(C:Addr):Prop:=PySem.W.nsIn K mainGlobals x=some (some (.ref C))
def cRz(X:Cx)(H0:Hp)(A0:LAd)(fx:DX)(σ:L2.St)(H:Hp):Prop:=∃ρ hs F x ρ',Rel X.K H0 A0 hs ρ F σ H/\fx ρ=some (x,ρ')/\∀C ea s',ClsAt X.K x C->Qhr X H0 A0 hs ρ' (.ref C) ea s'->X.xe (.ref ea) s'
noncomputable def tRz(X:Cx)(H0:Hp)(A0:LAd)(fx:DX):TS:=λ_ σ H=>cRz X H0 A0 fx σ H
noncomputable def eRz(X:Cx)(H0:Hp)(A0:LAd)(fx:DX):TE:=λσ H _=>cRz X H0 A0 fx σ H
def Rz(X:Cx)(st:Stmt)(fx:DX):Prop:=∀H0 A0,PS X st (tRz X H0 A0 fx)
def RzS(X:Cx)(sts:List Stmt)(fx:DX):Prop:=∀H0 A0,PSs X sts (tRz X H0 A0 fx)
def RzE(X:Cx)(e:Expr)(fx:DX):Prop:=∀H0 A0,PE X e (eRz X H0 A0 fx)
noncomputable def xNo:DX:=λ_=>none
noncomputable def QaS(x:Str)(fs:DA):DX:=λρ=>(fs ρ).bind λr=>if r.ds.length<=1 then some (x,ρ)else none
noncomputable def QY(n:Nat)(xd:List D->Option Str)(fs:DA):DX:=λρ=>(fs ρ).bind λr=>if r.ds.length=n then(xd r.ds).map λc=>(c,ρ)else none
noncomputable def xIf(g:DT)(fa fb:DX):DX:=λρ=>(g ρ).bind λb=>if b=true then fa ρ else fb ρ
noncomputable def QC(f:DS)(fx fr:DX):DX:=λρ=>match f ρ with
 | some (.nx ρ')=>fr ρ'
 | some _=>none
 | none=>fx ρ
noncomputable def Qe0(t:Tg)(fb:DS)(fx:DX):List D->DX
 | [],_=>none
 | d::ds,ρ=>(Qa1 t d ρ).bind λρ1=>match fb ρ1 with
  | some (.nx ρ2)=>Qe0 t fb fx ds ρ2
  | some (.ct ρ2)=>Qe0 t fb fx ds ρ2
  | some _=>none
  | none=>fx ρ1
noncomputable def Qf6(fi:DI)(t:Tg)(fb:DS)(fx:DX):DX:=λρ=>(fi ρ).bind λir=>Qe0 t fb fx ir.items (Qcj ir.M ρ)
noncomputable def spX(K:Fgg)(n:Nat)(xd:List D->Option Str):Sp:=λvs H _ E=>∃ds L x,Rps K H ds vs L/\ds.length=n/\xd ds=some x/\∀C H',ClsAt K x C->QJ H H'->E (.ref C) none H'
def Qpz{K:Fgg}{n:Nat}{xd:List D->Option Str}{ps:List Str}(hn:ps.length=n):∀vs H Q E,spX K n xd vs H Q E->vs.length=ps.length:=λvs H Q E ⟨ds,L,x,r,hl,_⟩=>by rw[hn,← hl,r.length]
section
variable {X:Cx}{st:Stmt}{sts:List Stmt}{e:Expr}{es:List Expr}{fs:DA}{f:DS}{fx fr fy:DX}{g:DT}{pos p np cpos:Pos}{x:Str}{k n:Nat}{fa:Addr}{fd:FuncData}{ps:List Str}{xd:List D->Option Str}
def QgA:Rz X st xNo:=λH0 A0 pins s σ H Dd I ⟨ρ,hs,F,x,ρ',rel,e,q⟩=>by cases e
def Qvu:RzS X [] xNo:=λH0 A0 pins s σ H Dd I ⟨ρ,hs,F,x,ρ',rel,e,q⟩=>by cases e
def Qhr.hold(h:Qhr X H0 A0 (ts++hs) ρ C ea s'):Qhr X H0 A0 hs ρ C ea s':=by
 obtain⟨pins,σ,H,F,rel,q⟩:=h;exact⟨pins,σ,H,F,rel.Qnq,q⟩
def RzC(X:Cx)(e:Expr)(fx:DX):Prop:=∀H0 A0 pins s σ H ρ hs F c ρ' (Er:Value->Shared->Prop),Inv X pins σ H s->Rel X.K H0 A0 hs ρ F σ H->fx ρ=some (c,ρ')->(∀v s',X.xe v s'->Er v s')→
 (∀C ea s' H' s1 H1 B a0,ClsAt X.K c C->Inv X pins σ H1 s1->QJ H H'->Inv X pins σ H' s'->Heap.FlyingW B X.stack ea (.ref C) a0 s'.heap->Cov H' B->(∀b o,s1.heap.get? b=some o->b∉frs X.stack->∃o',B.get? b=some o')->ρ'=ρ->Er (.ref ea) s')→
 wpAny (model X.prog X.w) X.A (eval e X.env) (λ_ _=>False) Er s
def Qu6(Fk:Qck X.prog X.w X.K X.mg X.base (CXR X.prog X.w) k fa fd ps (spX X.K n xd))(hr:Qa6 k X.A)(hg:Gl X x)(hm:X.mg x=some (.ref fa))(hk:PySem.W.keepIn X.K (.ref fa)=true)(hb:Binds X.K fd ps [])(hn:ps.length=n)
  (ha:SA X (e::es) fs) (hdb:(x == ("__debug__" :Str))=false) (he:starEach (e::es) X.env=(false,eval e X.env)::starEach es X.env) (hpl:(backTo pos (starEach es X.env)).any (·.1)=false):
  RzC X (.Call (.Name x p) (e::es) [] pos) (QY n xd fs):=λH0 A0 pins s σ H ρ hs F c ρ' Er I rel ex hxe q=>by
 refine Qi ex λra e1 ex=>?_;split at ex
 .rename_i hl;obtain⟨c',e2,e3⟩:=Zb.mp ex;cases e3;refine wpAny_Call_Name_kw (QeJ I hg hm ?_ hdb);refine Zbk (h₀:=X.base) I.ok.mod.kin hk (wpAny_mono (ha H0 A0 pos pins s σ H (λvs H1=>∃G,QpX X.K ρ F H H1 ra vs G) I ⟨ρ,hs,F,ra,rel,e1,λvs H1 G p1=>⟨G,p1⟩⟩) (λus s1 ⟨vs,H1,I1,rv,G,p1⟩=>⟨I1.kIn,?_⟩) hxe) he hpl;have hlen:(us++[]).length=ps.length:=by rw[ZJ,← rv.length,← p1.rp.length,hl,hn]
  have hbb:=hb s1 us I1.kIn hlen;rw[ZJ]at hbb;refine wpAny_call (codeAny_mono (Fk.run X.A X.stack s1 H1 ⟨us,[]⟩ us vs (λ_ _=>False) (λc' _ H'=>∃C,c'= .ref C/\ClsAt X.K c C/\QJ H1 H') hr I1.Qud hbb rv ⟨ra.ds,G,c,p1.rp,hl,e2,λC H' hC sm=>⟨C,rfl,hC,sm⟩⟩) λr s' hq=>?_);cases r with
  | error ev=>
   obtain⟨ea,C',H',B,a0,rfl,os,bare,un,hok,fl,cov,old,C,rfl,hC,sm⟩:=hq;exact q C ea s' H' s1 H1 B a0 hC I1 (p1.same.trans sm) (I1.Qp3 os un hok bare (λb z=>absurd z ⋯)) fl cov old rfl
  | ok fl=>
   cases fl with
   | ret u=>obtain⟨v,H',_,_,_,_,_,z⟩:=hq;exact z.elim
   | next=>exact False.elim hq
   | brk=>exact False.elim hq
   | cont=>exact False.elim hq
 .cases ex
def Qlo(hx:X.ex=[])(h:RzC X e fx):RzE X e fx:=λH0 A0 pins s σ H Q I=>λ⟨ρ,hs,F,c,ρ',rel,ex,q⟩=>
 thn (h H0 A0 pins s σ H ρ hs F c ρ' X.xe I rel ex (λ_ _ z=>z) λC ea s' H' s1 H1 B a0 hC I1 sm I' fl cov old z=>q C ea s' hC ⟨pins,σ,H',F,by subst z;exact rel.ext sm,.inr ⟨B,a0,.none,I',fl,cov,λb o eb hbf=>by
  obtain⟨⟨o',h1⟩,h2⟩:=Qoi I1 hx eb hbf;exact old b o' h1 h2,λp hp=>by
  obtain⟨e,_,ne,nf,_⟩:=I1.pin p hp;exact old _ _ e λz=>(Zn.mp (I1.QdA _ z)).elim ne nf⟩⟩) λ_ _ z=>z.elim
def Qwf(h:RzE X e fx)(hs:swapsWith e none pos.line X.env=pure false):Rz X (.Expr e pos) fx:=λH0 A0=>Qg9 (h H0 A0) hs
def Qxy(h:RzE X e fx):Rz X (.Return (some e) pos) fx:=λH0 A0=>Qrn (h H0 A0)
def QyF{i:Nat}(hN:X.N.Nodup)(h1:X.N[i]? =some x)(h2:Loc X.env.scope x)(h3:X.fn x=true∨X.env.scope.names.lookup x=some .local)(h:RzE X e fx)(hs:swapsWith e (some (.Name x p)) pos.line X.env=pure false):Rz X (.Assign [.Name x p] e pos) fx:=λH0 A0=>Qgd hN h1 h2 (h H0 A0) hs h3
def Qzs(hc:ST X c g)(ha:RzS X a fx)(hb:RzS X b fy):Rz X (.If c a b pos) (xIf g fx fy):=λH0 A0=>(Qux (hc H0 A0) (ha H0 A0) (hb H0 A0)).mono λDd σ H Z=>by
 obtain⟨ρ,hs,F,x,ρ',rel,e,q⟩:=Z;refine Qi e λc e1 e=>?_;refine⟨ρ,hs,F,c,rel,e1,λH1 s1=>?_⟩;cases c with
 | true=>exact Qqs ⟨ρ,hs,F,x,ρ',rel.ext s1,e,q⟩
 | false=>exact Qqj ⟨ρ,hs,F,x,ρ',rel.ext s1,e,q⟩
def QzF{t u:TS}(h1:PS X st t)(h2:PS X st u):PS X st (λDd σ H=>t Dd σ H∨u Dd σ H):=λpins s σ H Dd I q=>q.elim (h1 pins s σ H Dd I) (h2 pins s σ H Dd I)
def Qy1(h1:PSs X sts t)(h2:PSs X sts u):PSs X sts (λDd σ H=>t Dd σ H∨u Dd σ H):=λpins s σ H Dd I q=>q.elim (h1 pins s σ H Dd I) (h2 pins s σ H Dd I)
def Qt1(h1:S1 X st f)(h2:Rz X st fx)(h3:RzS X sts fr):RzS X (st::sts) (QC f fx fr):=λH0 A0=>(QfX (QzF (h1 H0 A0) (h2 H0 A0)) (h3 H0 A0)).mono λDd σ H Z=>by
 obtain⟨ρ,hs,F,x,ρ',rel,e,q⟩:=Z;unfold QC at e;split at e
 .rename_i ρ1 e1;exact .inl ⟨ρ,hs,F,_,rel,e1,λσ' H' F' rel'=>⟨ρ1,hs,F',x,ρ',rel',e,q⟩⟩
 .cases e
 .exact .inr ⟨ρ,hs,F,x,ρ',rel,e,q⟩
def Qyc(hp:PassesOwn (model X.prog X.w) X.A X.env X.xe)(hc:X.calm=true)(hi:SI X tg iter fi)(hg:SG X tg t)(hb:SS X body f)(hbx:RzS X body fx)(hs:∀x,foldedSetIterable iter X.env x=pure x):
  Rz X (.For tg iter body [] pos) (Qf6 fi t f fx):=λH0 A0=>(QqV hp hc (hi H0 A0) (hg H0 A0) (Qy1 (hb H0 A0) (hbx H0 A0)) hs).mono λDd σ H Z=>by
 obtain⟨ρ,hs,F,c,ρ',rel,e,q⟩:=Z;refine Qi e λir e1 e=>?_;refine⟨ρ,hs,F,ir,rel,e1,λJ H1 ts s1 wk hts ow hz=>?_⟩;have rel1:Rel X.K H0 A0 (ts++hs) (Qcj ir.M ρ) F σ H1:=((rel.ext s1).weak (Qcz ir.M ρ)).hold λt ht=>⟨(hts t ht).1,Shr.of rel (hts t ht).2⟩;refine⟨λi m σ' H'=>m=ir.items.length-i/\i<=ir.items.length/\∃ρi Fi,Rel X.K H0 A0 (ts++hs) ρi Fi σ' H'/\Qe0 t f fx (ir.items.drop i) ρi=some (c,ρ'),⟨_,rfl,ZQ _,_,F,rel1,by simpa using e⟩,?_⟩;rintro i m σ' H' ⟨rfl,hi',ρi,Fi,reli,ei⟩;have held:QjR X.K H' ts:=λt ht=>(reli.held t (Zk _ ht)).1;by_cases hlt:i<ir.items.length
 .rw[ZL hlt]at ei;unfold Qe0 at ei;refine Qi ei λρ1 eb ei=>?_;refine .inr ⟨wk.go i H' hlt held,λσ2 H2=>∃ρ2 F2,Rel X.K H0 A0 (ts++hs) ρ2 F2 σ2 H2/\Qe0 t f fx (ir.items.drop (i+1)) ρ2=some (c,ρ'),λσ2 H2 ⟨ρ2,F2,rel2,e2⟩=>⟨_,⋯,rfl,hlt,ρ2,F2,rel2,e2⟩,λx H2 hy=>?_⟩;obtain⟨s2,G0,rp0,hG0⟩:=wk.yld i ir.items[i] H' x H2 (by simp[hlt]) held hy;have shr:Shr H0 A0 ρi Fi G0:=λa ha=>by
   obtain⟨t,ht,hat⟩:=hG0 a ha;exact⟨(reli.held t (Zk _ ht)).2 a hat,λj d ej hj=>(reli.own j d ej).2.2.2.2 t (Zk _ ht) a hj hat⟩
  refine⟨ρi,ts++hs,Fi,ir.items[i],G0,ρ1,reli.ext s2,rp0,shr,eb,λσ3 F3 rel3 _ _=>?_⟩;split at ei
  .rename_i ρ2 eo;exact .inl ⟨ρ1,ts++hs,F3,_,rel3,eo,λσ4 H4 F4 rel4=>⟨ρ2,F4,rel4,ei⟩⟩
  .rename_i ρ2 eo;exact .inl ⟨ρ1,ts++hs,F3,_,rel3,eo,λσ4 H4 F4 rel4=>⟨ρ2,F4,rel4,ei⟩⟩
  .cases ei
  .exact .inr ⟨ρ1,ts++hs,F3,c,ρ',rel3,ei,λC ea s' hC T=>q C ea s' hC T.hold⟩
 .have hn:i=ir.items.length:= ⋯
  subst hn;rw[Zba]at ei;cases ei
end
noncomputable abbrev QBc:List Value:=[.type "ValueError",.type "Exception",.type "BaseException",.type "object"]
structure Qh4 (K:Fgg) (x:Str):Prop where
 ex:∃C,ClsAt K x C/\PySem.W.excIn K C QBc "ValueError.__new__" =true
def Qsv{K:Fgg}{C:Addr}{bmB:List Value}{newId:String}(q:PySem.W.excIn K C bmB newId=true){h:Heap}(X:K.In h):∃bm N nm qn bs hdct sn sub ab col dd k0 k1 k2 k3 k5 mN,
  h.get? C=some (excClassObj nm qn C N bs bm hdct sn sub ab col dd k0 k1 k2 k3 k5 newId)/\h.Ns N mN/\mN "__init__" =none/\OwnTail h bmB bm:=by
 rw[PySem.W.excIn.eq_def]at q;split at q
 case h_2=>cases q
 rename_i dd cd sl ho;split at q
 case h_2=>cases q
 rename_i C1 bm k0 k1 k2 k3 nid k5 em es;simp only[Zf,beq_iff_eq,ZT]at q;obtain⟨⟨⟨⟨⟨z1,z2⟩,nodel⟩,tl⟩,okN⟩,noInit⟩:=q;subst z1 z2;have hget:=X _ _ ho;have hsl:sl= #[k0,k1,k2,k3,some (.builtin nid),k5]:=Array.ext' es;rw[hsl]at hget;refine⟨bm,cd.ns,cd.name,cd.qualname,cd.bases,cd.hasDict,cd.slotNames,cd.subclasses,cd.abstract,cd.collection,dd,k0,k1,k2,k3,k5,_,?_,.of_isNs (PySem.W.isNs_of_in X okN),PySem.W.nsMap_none_of_in X okN noInit,PySem.W.tail_of_in X tl⟩;rw[hget];cases cd with
 | mk c1 c2 c3 c4 c5 c6 c7 c8 c9 c10 c11=>
  dsimp only at em nodel;rw[em,nodel]
section
variable {X:Cx}{e:Expr}{fs:DA}{x:Str}{np cpos pos:Pos}
def Qsw(hc:X.calm=true)(hg:Gl X x)(hk:Qh4 X.K x)(hdb:(x == ("__debug__" :Str))=false)(ha:SA X [e] fs)(he:starEach [e] X.env=(false,eval e X.env)::starEach [] X.env):
  Rz X (.Raise (some (.Call (.Name x np) [e] [] cpos)) none pos) (QaS x fs):=λH0 A0 pins s σ H Dd I Z=>by
 obtain⟨ρ,hs,F,c,ρ',rel,ex,q⟩:=Z;refine Qi ex λra e1 e2=>?_;split at e2
 case isFalse=>cases e2
 rename_i hl;cases e2;obtain⟨C,hC,hq⟩:=hk.ex;obtain⟨bm,N,nm,qn,bs,hdct,sn,sub,ab,col,dd,k0,k1,k2,k3,k5,mN,o1,o2,o3,o4⟩:=Qsv hq I.ok.mod.kin;have hm:X.mg x=some (.ref C):=Zac I.ok.mod.kin I.ok.mod.glob hC
 refine wpAny_Raise_call_subT (C:=C) (nm:=nm) (q:=qn) (N:=N) (bs:=bs) (bm:=bm) (hdct:=hdct) (sn:=sn) (sub:=sub) (ab:=ab) (col:=col) (dd:=dd) (k0:=k0) (k1:=k1) (k2:=k2) (k3:=k3) (k5:=k5)
  PySem.F.excBase_ValueError (mN:=mN) (o4.hasType PySem.F.excBase_ValueError.hasBase) (I.ok.hd hc) (by rw[he];rfl) o3 (QeJ I hg hm ⟨rfl,?_⟩ hdb)
 have hargs:=ha H0 A0 cpos pins s σ H (λvs H1=>∃G,QpX X.K ρ F H H1 ra vs G) I ⟨ρ,hs,F,ra,rel,e1,λvs H1 G p1=>⟨G,p1⟩⟩;rw[he]at hargs ⊢;refine Calls.evalArgs_plain (thn hargs λus s2 ⟨vs,H1,I1,rv,G,p1⟩=>⟨rfl,?_,I1.bk _ _ o1,o2.keeps I1.bk,o4.keeps I1.bk,λh' ea hm=>?_⟩)
 .show us.length<=sizeLine;rw[← rv.length,← p1.rp.length];exact Zx hl ∅
 .exact q C ea _ hC ⟨pins,σ,H1,F,rel.ext p1.same,.inl ⟨s2,us,I1,hm,rfl,rfl⟩⟩
end
section
variable {M:Model}{A:Around}{E:Value->Shared->Prop}{s:Shared}{B h h':Heap}{env:Env}{l:List Env}{L e C:Addr}{cls a0 fl:Value}
def Qug{α:Type}{what:String}{Q:α->Shared->Prop}(hh:QgH B l e cls a0 fl s.heap)(hQ:∀h' f',QgH B l e cls a0 f' h'->s.heap.UpToSlots h'->E (.ref e) {s with heap:=h'}):wpAny M A (PySem.passOn what (.ref e) env:Sem α) Q E s:=by
 obtain⟨g1,g2,g3,o1,v1,T,o2,v2,e1,c1,d1,f1,nT,ne,e2,d2,f3⟩:=hh;unfold PySem.passOn setFlight;refine wpAny_bind (wpAny_field e1 d1 f1 ?_);rw[if_neg ⋯];refine wpAny_bind (wpAny_bind (wpAny_field e1 d1 f1 ?_));rw[if_pos ⋯];have hz:3<v2.size:=(Array.getElem?_eq_some_iff.mp f3).1;have oth:∀x b,b≠T->(s.heap.update T (Obj.mapFields (·.setIfInBounds 3 x))).get? b=s.heap.get? b:=λx b n=>Zaz _ _ n.symm;have far:∀b o,s.heap.get? b=some o->(∀vs,o.data≠ .fields vs)->b≠T:=λb o x y z=>by
  subst z;cases x.symm.trans e2;exact y _ d2
 refine wpAny_setField e2 d2 hz (wpAny_throw (hQ _ (env.frame.elim Value.none λf=>rawInt f) ⟨λb o x=>(oth _ b λz=>by subst z;rw[nT]at x;cases x).trans (g1 b o x),g2,g3.of_keeps λb o x y=>⟨o,(oth _ b (far b o x y)).trans x,rfl⟩,o1,v1,T,_,_,(oth _ e ne.symm).trans e1,c1,d1,f1,nT,ne,
  Heap.get?_update_self _ e2 (Obj.isFreed_of_fields (Obj.data_mapFields d2 _)),Obj.data_mapFields d2 _,by simp[hz]⟩ λb o x y=>⟨o.slots,(oth _ b (far b o x y)).trans x⟩))
def QpL(hs:Heap.SameBut C h h'):∀{l:List Env},(∀b∈frs l,b≠C)->h.FunFrames B l->h'.FunFrames (PySem.W.hideAll B [C]) l
 | [],_,_=>trivial
 | env::l,hn,⟨k,⟨L,o,f,n,ho,hd⟩,r⟩=>by
  have hL:L≠C:=hn L (Zaa.mpr ⟨env,Zw,f⟩);refine⟨k,⟨L,o,f,?_,(hs.2 L hL).trans ho,hd⟩,QpL hs (λb hb=>hn b ?_) r⟩
  .cases q:(PySem.W.hideAll B [C]).get? L with
   | none=>rfl
   | some u=>have:=Zay _ q;rw[n]at this;cases this
  .obtain⟨v,h1,h2⟩:=Zaa.mp hb;exact Zaa.mpr ⟨v,Zc _ h1,h2⟩
def QrE(hs:Heap.SameBut C h h')(hn:∀b∈frs l,b≠C){m:Str->Option Value}(hC:h.Ns C m)(hh:QgH B l e cls a0 fl h):QgH (PySem.W.hideAll B [C]) l e cls a0 fl h':=by
 obtain⟨g1,g2,g3,o1,v1,T,o2,v2,e1,c1,d1,f1,nT,ne,e2,d2,f3⟩:=hh;have apart:∀b o vs,h.get? b=some o->o.data= .fields vs->b≠C:=λb o vs x y z=>by
  subst z;obtain⟨o',es,ep,ho,hd,_⟩:=hC;rw[x]at ho;cases ho;rw[hd]at y;cases y
 have gone:∀b,B.get? b=none->(PySem.W.hideAll B [C]).get? b=none:=λb n=>by
  cases q:(PySem.W.hideAll B [C]).get? b with
  | none=>rfl
  | some u=>have:=Zay _ q;rw[n]at this;cases this
 refine⟨λb o x=>?_,gone _ g2,QpL hs hn g3,o1,v1,T,o2,v2,(hs.2 e (apart _ _ _ e1 d1)).trans e1,c1,d1,f1,gone _ nT,ne,(hs.2 T (apart _ _ _ e2 d2)).trans e2,d2,f3⟩;have hb:b≠C:=λz=>by
  subst z;have hm:(PySem.W.hideAll B [b]).get? b=none:=PySem.W.hideAll_none _ Zw;rw[hm]at x;cases x
 exact(hs.2 b hb).trans (g1 b o (Zay _ x))
end
section
variable {prog:Program}{w:World}{A:Around}{env:Env}{it acc:Value}{tg iter elt:Expr}{ifs:List Expr}{scope:Scope}{pos:Pos}{R:Result->Shared->Prop}{s0:Shared}
def Qp5(J:Nat->Shared->Prop)
  (turn:∀n s,J n s->wpAny (model prog w) A (pyNext it) (λr s1=>∃v,r=some v/\wpAny (model prog w) A (letOwnedTupleGo tg it v) (λ_ s2=>wpAny (model prog w) A (assign tg env v) (λ_ s3=>
     wpAny (model prog w) A (forIn ifs true λc r=>if r=true then do let ok ← isTrue c env (eval c env);pure (ForInStep.yield ok)else pure (ForInStep.yield r)) (λok s4=>
      if ok=true then wpAny (model prog w) A (eval elt env) (λx s5=>wpAny (model prog w) A (call (.builtin "list.append") [acc,x]) (λ_ s6=>∃m,m<n/\J m s6) (λ_ _=>False) s5) (notedBy (model prog w) A env λx s=>R (.error x) s) s4
      else ∃m,m<n/\J m s4) (λ_ _=>False) s3) (λ_ _=>False) s2) (λ_ _=>False) s1) (λ_ _=>False) s)
  (n:Nat) (h:J n s0):codeAny (model prog w) A (.compLoop (.ListComp elt [⟨tg,iter,ifs,0⟩] scope pos) 0 it acc env) R s0:=by
 have up:∀{α:Type}{t:Sem α}{Q:α->Shared->Prop}{E:Value->Shared->Prop}{s:Shared},wpAny (model prog w) A t Q (λ_ _=>False) s->wpAny (model prog w) A t Q E s:=λh=>wpAny_mono h (λ_ _ q=>q) λ_ _ f=>f.elim;refine codeAny_loop (by rfl) J (λk sk hk=>?_) n h;show wpAny (model prog w) A ((compTurn (.ListComp elt [⟨tg,iter,ifs,0⟩] scope pos) 0 it acc env).onRaise (λx=>do noteFrame x env;theTreesLotGoes x)) _ _ sk;refine wpAny_noted ?_;rw[compTurn_list];refine wpAny_bind (wpAny_standAt (wpAny_bind (thn (up (turn k sk hk)) λr s1 h1=>?_)));obtain⟨v,rfl,h1⟩:=h1;refine wpAny_bind (thn (up h1) λ_ s2 h2=>wpAny_bind (thn (up h2) λ_ s3 h3=>wpAny_bind (thn (up h3) λok s4 h4=>?_)));cases ok with
 | false=>exact wpAny_pure ⟨rfl,h4⟩
 | true=>exact wpAny_bind (wpAny_bind (thn h4 λx s5 h5=>wpAny_bind (thn (up h5) λ_ s6 h6=>wpAny_pure (wpAny_pure ⟨rfl,h6⟩))))
end
section
variable {X:Cx}{tg iter elt:Expr}{ifs:List Expr}{scope:Scope}{N':List Str}{pos:Pos}
def QqI{it D C:Addr}{fp:LAd}{tn:Nat->Heap->Prop}{J:It}{cl:List (Str×Addr)}{s3 s4:Shared}{H3:Hp}{σc:L2.St}{g:TG}{tc:TT}{te:TE}{tr:L2.St->Hp->Prop}{R:Result->Shared->Prop}(hcalm:X.calm=true)
  (T:Turn X.prog X.w X.K tg J fp it tn)
  (hg:PG (cxc X N' scope cl C fp s3 H3) tg g) (ht:PTs (cxc X N' scope cl C fp s3 H3) ifs tc) (he:PE (cxc X N' scope cl C fp s3 H3) elt te)
  (hx:∀pins s σ H,Inv (cxc X N' scope cl C fp s3 H3) pins σ H s->tr σ H->wpAny (model X.prog X.w) X.A (eval elt (compEnvC scope cl C X.env)) (λ_ _=>False) (notedBy (model X.prog X.w) X.A (compEnvC scope cl C X.env) λx s=>R (.error x) s) s)
  (I:Inv (cxc X N' scope cl C fp s3 H3) [] σc H3 s4) (st:tn 0 s4.heap) (ff:∀b∈fp,Qc2 (cxc X N' scope cl C fp s3 H3) [] H3 b)
  (W:Nat->Nat->List V->Hp->Prop) (hw:∃m,W 0 m [] H3)
  (turn:∀i m acc H2,W i m acc H2->J.go i H2/\∀x H5,J.yld i H2 x H5->g x σc H5 λσ2 H6=>(∀(j:Nat) v,σc[j]? =some (some v)->σ2[j]? =some (some v))/\tc σ2 H6 λb H7=>if b=true then
    (te σ2 H7 λy H8=>H8 D=some (.lst acc)/\acc.length<sizeLine/\∃m',m'<m/\W (i+1) m' (acc++[y]) (upd H8 D (.lst (acc++[y]))))∨tr σ2 H7
    else ∃m',m'<m/\W (i+1) m' acc H7):
  codeAny (model X.prog X.w) X.A (.compStart (.ListComp elt [⟨tg,iter,ifs,0⟩] scope pos) 0 (.ref it) (.ref D) (compEnvC scope cl C X.env)) R s4:=by
 obtain⟨m0,w0⟩:=hw;have stat:∀{H':Hp},(∀b∈fp,H' b=none)->∀b∈fp,Qc2 (cxc X N' scope cl C fp s3 H3) [] H' b:=λhn b hb=>⟨hn b hb,(ff b hb).2⟩;have loop:codeAny (model X.prog X.w) X.A (.compLoop (.ListComp elt [⟨tg,iter,ifs,0⟩] scope pos) 0 (.ref it) (.ref D) (compEnvC scope cl C X.env)) R s4:=by
  refine Qp5 (λn s'=>∃i acc H',Inv (cxc X N' scope cl C fp s3 H3) [] σc H' s'/\tn i s'.heap/\(∀b∈fp,H' b=none)/\W i n acc H') ?_ m0 ⟨0,[],H3,I,st,λb hb=>(ff b hb).1,w0⟩;rintro n s5 ⟨i,acc,H5,I5,st5,fr5,w5⟩;obtain⟨go,step⟩:=turn i n acc H5 w5;refine thn (T.item (cxc X N' scope cl C fp s3 H3) rfl rfl rfl hcalm i [] s5 σc H5 _ I5 (stat fr5) st5 go) λr s6 Z=>?_;obtain⟨u,hr,h6⟩:=Z;refine⟨u,hr,?_⟩;refine thn h6 λ_ s7 Z=>?_;obtain⟨x,H7,I7,r7,y7,st7,fr7⟩:=Z;have I7':=I7.pinned (stat fr7) (T.obj _ _ st7);refine thn (hg _ s7 σc H7 x u _ I7' r7 (step x H7 y7)) λ_ s8=>exJ λσ8 H8 I8 k8 q8=>?_;refine thn (ht _ s8 σ8 H8 _ I8 q8) λok s9 Z=>?_;obtain⟨H9,I9,q9⟩:=Z
  have again:∀{H':Hp}{s':Shared}{acc':List V},Inv (cxc X N' scope cl C fp s3 H3) ([]++Qg8 fp s7.heap) σ8 H' s'->(∃m',m'<n/\W (i+1) m' acc' H')→
    ∃m,m<n/\∃i acc H',Inv (cxc X N' scope cl C fp s3 H3) [] σc H' s'/\tn i s'.heap/\(∀b∈fp,H' b=none)/\W i m acc H':=λ{H' s' acc'} I' ⟨m',hm,w'⟩=>by
   have pin:∀b∈fp,∀o,s7.heap.get? b=some o->s'.heap.get? b=some o/\H' b=none:=λb hb o e=>by
    have z:=I'.pin (b,o) (Zg _ (Zg _ (QfJ hb e)));exact⟨z.1,z.2.1⟩
   refine⟨m',hm,i+1,acc',H',?_,T.keep _ _ _ st7 λb hb o e=>(pin b hb o e).1,λb hb=>?_,w'⟩
   .exact I'.Qf2.weak (I.len.trans I8.len.symm) k8
   .obtain⟨o,e,_⟩:=T.obj _ _ st7 b hb;exact(pin b hb o e).2
  cases ok with
  | false=>
   rw[if_neg ZK]at q9 ⊢;exact again I9 q9
  | true=>
   rw[if_pos rfl]at q9 ⊢;rcases q9 with q9 | q9
   .refine wpAny_mono (he _ s9 σ8 H9 _ I9 q9) (λyv s10 Z=>?_) λ_ _ z=>z.elim;obtain⟨y,H10,I10,r10,e10,l10,q10⟩:=Z;refine thn (QiK _ s10 σ8 H10 (.ref D) [y] (.ref D) [yv] (λv H11=>H11=upd H10 D (.lst (acc++[y]))) I10 rfl (.cons r10 .nil) ⟨D,acc,y,rfl,rfl,e10,l10,rfl⟩) λ_ s11 Z=>?_;obtain⟨_,H11,I11,_,e11⟩:=Z;subst e11;exact again I11 q10
   .exact thn (hx _ s9 σ8 H9 I9 q9) λ_ _ z=>z.elim
 exact codeAny_compStart_list loop (T.self _ 0 _ _ _ st loop)
end
noncomputable def Qe7(t:Tg)(ft:DT)(fe:DE)(fx:DX)(ρc:En):List D->Option Str
 | []=>none
 | d::ds=>(Qa1 t d ρc).bind λρ1=>(ft ρ1).bind λc=>if c=true then(match fe ρ1 with
  | some _=>Qe7 t ft fe fx ρc ds
  | none=>(fx ρ1).map (·.1))else Qe7 t ft fe fx ρc ds
noncomputable def QhU(fi:DI)(t:Tg)(cap:List (Option Nat))(ft:DT)(fe:DE)(fx:DX):DX:=λρ=>(fi ρ).bind λir=>(Qe7 t ft fe fx (QaU cap ρ) ir.items).map λc=>(c,ρ)
section
variable {K:Fgg}{H0 H1:Hp}{A0:LAd}{hs:List (V×D×List Addr)}{ρ:En}{F:Nat->List Addr}{σ:L2.St}{cap:List (Option Nat)}
def Qv3(rel1:Rel K H0 A0 hs ρ F σ H1):∃Fc:Nat->List Addr,(∀H2,QJ H1 H2->Rel K (λ_=>none) [] [] (QaU cap ρ) Fc (cap.map λo=>o.bind λi=>σ[i]?.join) H2)/\∀G,Shr (λ_=>none) [] (QaU cap ρ) Fc G:=by
 have hF0:∃Fc:Nat->List Addr,Fc=λj=>match cap[j]? with
  | some (some i)=>(match ρ[i]? with
   | some (some _)=>F i
   | _=>[])
  | _=>[]:=⟨_,rfl⟩
 obtain⟨Fc,hFc⟩:=hF0;have nil:∀j d,(QaU cap ρ)[j]? =some (some (d,true))->d.flat=true/\Fc j=[]:=λj d e=>by
  have hf:d.flat=true:=QhL cap ρ j d e;obtain⟨i,b',h1,h2⟩:=Qgr e;obtain⟨v,h3,h4⟩:=rel1.val i d b' h2;refine⟨hf,?_⟩;rw[hFc];simp only[h1,h2];exact h4.Qcd hf
 refine⟨Fc,λH2 s2=>⟨by simp[QaU],λj d b e=>?_,λj d e=>?_,λj d b e a ha=> .inl rfl,λt ht=>(by simp at ht),λb o z=>(by cases z)⟩,λG a ha=>⟨.inl rfl,λj d e hj=>?_⟩⟩
 .obtain⟨i,b',h1,h2⟩:=Qgr e;obtain⟨v,h3,h4⟩:=(rel1.ext s2).val i d b' h2;refine⟨v,?_,?_⟩
  .rw[Zv,h1];simp only[ZO,Za,h3,Option.join_some]
  .rw[hFc];simp only[h1,h2];exact h4
 .obtain⟨hf,z⟩:=nil j d e;rw[z];exact⟨(QdT d hf).symm,ZZ,λa ha=>(by simp at ha),λ_ _ _ _ _ a ha=>(by simp at ha),λt ht=>(by simp at ht)⟩
 .rw[(nil j d e).2]at hj;simp at hj
end
section
variable {X:Cx}{tg iter elt:Expr}{ifs:List Expr}{scope:Scope}{N':List Str}{pos:Pos}{fi:DI}{t:Tg}{cap:List (Option Nat)}{ft:DT}{fe:DE}{fx:DX}
def QwN(hcalm:X.calm=true)(hxs:X.ex=[])(hst:X.stack=X.env::X.outer)(hfe:X.env.frame=some X.env.locals)(S:Qem X N' scope)(hi:SI X tg iter fi)(hcap:Qlb X N' scope cap t.slots)
  (hin:∀cl C fp s3 H3,SG (cxc X N' scope cl C fp s3 H3) tg t/\QlV (cxc X N' scope cl C fp s3 H3) ifs ft/\SE (cxc X N' scope cl C fp s3 H3) elt fe) (hr:∀cl C fp s3 H3,RzC (cxc X N' scope cl C fp s3 H3) elt fx) (hs':∀x,foldedSetIterable iter X.env x=pure x):
  RzE X (.ListComp elt [⟨tg,iter,ifs,0⟩] scope pos) (QhU fi t cap ft fe fx):=λH0 A0 pins s σ H Q I=>λ⟨ρ,hs,F,c,ρ',rel,ex,q⟩=>by
 refine Qi ex λir e1 ex=>?_;obtain⟨c',e2,e3⟩:=Zb.mp ex;cases e3;rw[eval_ListComp];obtain⟨cl,hcl,hc1,hc2⟩:=QpN λy hy hf=>I.ok.has y.1 (S.free y hy hf);refine wpAny_comprehension_free rfl hs' hcl S.kind S.loc ?_;refine thn (hi H0 A0 pins s σ H (λJ H1=>∃ts,QJ H H1/\Walk X.K J ts ir.items/\(∀t∈ts,Rp X.K H1 t.2.1 t.1 t.2.2)/\ir.items.length<=sizeLine) I ⟨ρ,hs,F,ir,rel,e1,λJ H1 ts s1 wk hts ow hz=>⟨ts,s1,wk,λt ht=>(hts t ht).1,hz⟩⟩) λv s1 h1=>thn h1 λitv s2 h2=>?_;obtain⟨it,fp,tn,J,H2,e,I2,T,st2,f2,ts,sm2,wk,hts,hz⟩:=h2;subst e;have rel2:=rel.ext sm2;obtain⟨Fc,relC,shC⟩:=Qv3 (cap:=cap) rel2;have cap':Qi4 X N' scope σ (cap.map λo=>o.bind λi=>σ[i]?.join):=⟨by simp[hcap.len],λj x v hN hv=>by
  rw[Zv]at hv;cases qc:cap[j]? with
  | none=>rw[qc]at hv;cases hv
  | some o=>
   rw[qc]at hv;cases o with
   | none=>cases hv
   | some i=>
    simp only[ZO,Za,Option.some.injEq]at hv;obtain⟨y,h1,h2,h3,h4⟩:=hcap.get j i qc;rw[hN]at h1;cases h1;exact⟨h2,i,h3,join_some hv,h4⟩⟩
 generalize hσc:(cap.map λo=>o.bind λi=>σ[i]?.join)=σc at relC cap';have hD0:H2 s2.heap.objs.size=none:=I2.hok.fresh (Ze _);have fpl:∀b∈fp,b<s2.heap.objs.size:=λb hb=>let ⟨o,e,_⟩:=T.obj _ _ st2 b hb;Zq e;refine wpAny_newObj_type ?_
 have I3:Inv X pins σ (upd H2 s2.heap.objs.size (.lst [])) {s2 with heap:=s2.heap.push {cls:= .type "list",dict:=none,data:= .seq ([]:List Value).toArray}}:=
  I2.laid (t':=s2.toks) (λb o e=>Zu _ e) (Ze _) ⟨ZQ _,[],0,.nil,ZA _ rfl⟩
 generalize hs3:({s2 with heap:=s2.heap.push {cls:= .type "list",dict:=none,data:= .seq ([]:List Value).toArray}}:Shared)=s3 at I3;have hs3':s3.heap=s2.heap.push {cls:= .type "list",dict:=none,data:= .seq ([]:List Value).toArray}:=by rw[← hs3]
 have sz3:s3.heap.objs.size=s2.heap.objs.size+1:=by rw[hs3',Zbl]
 have old3:∀b o,s2.heap.get? b=some o->s3.heap.get? b=some o:=λb o e=>by rw[hs3'];exact Zu _ e
 have f3:∀b∈fp,Qc2 X pins (upd H2 s2.heap.objs.size (.lst [])) b:=λb hb=>⟨by rw[QQ (ZE (fpl b hb))];exact(f2 b hb).1,(f2 b hb).2⟩;have fpl3:∀b∈fp,b<s3.heap.objs.size:=λb hb=>by rw[sz3];exact ZaR (fpl b hb)
 refine Qln (λh4 hns4' keep4 hown4=>?_);have I4:=Qna (tk:=s3.toks) S I3 f3 fpl3 hc1 hc2 cap' hns4' keep4 hown4;have hout:∀{pins' σ' H' s'},Inv (cxc X N' scope (cellsFrom (s3.heap.objs.size+1) scope.names cl) s3.heap.objs.size fp s3 (upd H2 s2.heap.objs.size (.lst []))) pins' σ' H' s'->Inv X pins σ H' s':=λJ'=>
  I3.Qp3 J'.os J'.base J'.hok J'.bare λb hb=>⟨(f3 b hb).2.2.2.1,(f3 b hb).2.1,(f3 b hb).2.2.2.2.1,(f3 b hb).2.2.2.2.2⟩
 obtain⟨hg,ht,he⟩:=hin (cellsFrom (s3.heap.objs.size+1) scope.names cl) s3.heap.objs.size fp s3 (upd H2 s2.heap.objs.size (.lst []));have hrz:=hr (cellsFrom (s3.heap.objs.size+1) scope.names cl) s3.heap.objs.size fp s3 (upd H2 s2.heap.objs.size (.lst []));have fc:∀b∈fp,Qc2 (cxc X N' scope (cellsFrom (s3.heap.objs.size+1) scope.names cl) s3.heap.objs.size fp s3 (upd H2 s2.heap.objs.size (.lst []))) [] (upd H2 s2.heap.objs.size (.lst [])) b:=λb hb=>
  ⟨(f3 b hb).1,ZE (fpl3 b hb),λhs'=>(Zn.mp (I3.QdA b hs')).elim (f3 b hb).2.1 (f3 b hb).2.2.1,.inl hb,λx c e=>(by
   rcases QfO scope.names _ cl x c e with e | ⟨e,_⟩
   .exact(f3 b hb).2.2.2.2.1 x c (hc1 x c e)
   .intro z;rw[z]at e;exact absurd (Zm (fpl3 b hb) (Zx (Zh _) e)) (ZH _)),λp hp=>absurd (show p∈([]:List (Addr×Obj))from hp) ⋯⟩
 have hCf:∀b∈frs X.stack,b≠s3.heap.objs.size:=λb hb z=>by
  rcases Zn.mp (I3.QdA b hb)with y | y
  .exact absurd I3.lt (by rw[← y,z];exact ZH _)
  .exact I3.Qyj (Nat.le_of_eq z.symm) y
 have hC1:s3.heap.objs.size≠X.env.locals:=Ne.symm (ZE I3.lt);have hC4:∀x c,X.env.cells.lookup x=some c->c≠s3.heap.objs.size:=λx c e z=>by
  obtain⟨v,o,ho,_⟩:=I3.cell x c e;exact absurd (Zq ho) (by rw[z];exact ZH _)
 have hC5:∀p∈X.pn++pins,p.1≠s3.heap.objs.size:=λp hp z=>absurd (Zq (I3.pin p hp).1) (by rw[z];exact ZH _);have hCB:∀{B:Heap} b,(∃o,B.get? b=some o)->b≠s3.heap.objs.size->∃o,(PySem.W.hideAll B [s3.heap.objs.size]).get? b=some o:=λ{B} b ⟨o,ho⟩ hb=>⟨o,Zav _ ho (by simpa using hb)⟩
 refine QqI (D:=s2.heap.objs.size) (tr:=λσ' H'=>∃ρ1 ρ2 F1,Rel X.K (λ_=>none) [] [] ρ1 F1 σ' H'/\fx ρ1=some (c,ρ2)/\QJ H2 H') (W:=λi m acc H'=>m=ir.items.length-i/\i<=ir.items.length/\QJ H2 H'/\H' s2.heap.objs.size=some (.lst acc)/\acc.length<=i/\Qe7 t ft fe fx (QaU cap ρ) (ir.items.drop i)=some c)
  hcalm T (hg (λ_=>none) []) (ht (λ_=>none) []) (he (λ_=>none) []) (λpn s5 σ5 H5 I5 ⟨ρ1,ρ2,F1,rel5,e5,sm5⟩=>?_) I4 (T.keep _ _ _ st2 λb hb o e=>keep4 b o (old3 b o e)) fc ⟨_,rfl,ZQ _,Qcr hD0,QaM,Ze _,by simpa using e2⟩ ?_
 .refine hrz (λ_=>none) [] pn s5 σ5 H5 ρ1 [] F1 c ρ2 _ I5 rel5 e5 (λ_ _ z=>z.elim) λC ea s' H' s6 H6 B a0 hC I6 sm I' fl cov old _=>?_;have O6:=hout I6;have O:=hout I';have hfr:=I.ok.frames;have fl':Heap.FlyingW B X.stack ea (.ref C) a0 s'.heap:=fl;have oldX:∀b o,X.s₀.heap.get? b=some o->b∉X.fs->∃o',B.get? b=some o':=λb o eb hbf=>by
   obtain⟨⟨o',h1⟩,h2⟩:=Qoi O6 hxs eb hbf;exact old b o' h1 h2
  have pb:∀p∈X.pn++pins,∃o,B.get? p.1=some o:=λp hp=>by
   obtain⟨e,_,ne,nf,_⟩:=O6.pin p hp;exact old _ _ e λz=>(Zn.mp (O6.QdA _ z)).elim ne nf
  have frC:H' s3.heap.objs.size=none:=I'.free;have ns:∃m,s'.heap.Ns s3.heap.objs.size m:=let ⟨m,hn,_⟩:=I'.loc;⟨m,hn⟩;obtain⟨m,hm⟩:=ns;rw[hst]at hfr fl';show wpAny (model X.prog X.w) X.A (noteFrame (.ref ea) X.env) _ _ s';refine Qj4 (fl:= .none) hfr hfe fl' λh1 hd up=>?_;refine⟨m,up.ns hm,λh2 hsb cenv _=>?_⟩;have O1:Inv X pins σ H' {s' with heap:=h1}:=Qhd O rfl O.bare hxs fl.1 hd.1 up cov oldX pb;have O2:=O1.Qqu (h':=h2) hsb frC hC1 (Zx I3.sz (Ze _)) hC4 hC5;have hd2:QgH (PySem.W.hideAll B [s3.heap.objs.size]) X.stack ea (.ref C) a0 (rawInt X.env.locals) h2:=QrE hsb hCf (up.ns hm) (by rw[hst];exact hd);have cov2:Cov H' (PySem.W.hideAll B [s3.heap.objs.size]):=λb u e=>hCB b (cov b u e) λz=>by rw[z,frC]at e;cases e
  have old2:∀b o,X.s₀.heap.get? b=some o->b∉X.fs->∃o',(PySem.W.hideAll B [s3.heap.objs.size]).get? b=some o':=λb o eb hbf=>hCB b (oldX b o eb hbf) λz=>absurd (Zm (Zq eb) I3.sz) (by rw[z];exact ZH _);have pb2:∀p∈X.pn++pins,∃o,(PySem.W.hideAll B [s3.heap.objs.size]).get? p.1=some o:=λp hp=>hCB _ (pb p hp) (hC5 p hp);refine Qug (s:={s' with heap:=h2}) hd2 λh3 f3' hd3 up3=>?_;exact q C ea _ hC ⟨pins,σ,H',F,rel2.ext (sm5.trans sm),.inr ⟨_,a0,f3',Qhd O2 rfl O2.bare hxs hd2.1 hd3.1 up3 cov2 old2 pb2,hd3,cov2,old2,pb2⟩⟩
 .rintro i m acc H3 ⟨rfl,hi3,s3',eD,hlen,hst'⟩;have heldOf:∀H4,QJ H2 H4->QjR X.K H4 ts:=λH4 s4 t ht=>(hts t ht).same s4;have hlt:i<ir.items.length:=by
   rcases Nat.lt_or_ge i ir.items.length with z | z
   .exact z
   .rw[Zbv z]at hst';cases hst'
  refine⟨wk.go i H3 hlt (heldOf H3 s3'),λx H5 hy=>?_⟩;obtain⟨s5,G0,rp0,hG0⟩:=wk.yld i ir.items[i] H3 x H5 (by simp[hlt]) (heldOf H3 s3') hy;rw[ZL hlt]at hst';refine Qi hst' λρ1 eb hst'=>?_;refine Qi hst' λb ec hst'=>?_;refine⟨QaU cap ρ,[],Fc,ir.items[i],G0,ρ1,relC H5 (s3'.trans s5),rp0,shC G0,eb,λσ6 F6 rel6 keep mem6=>⟨λj v hv=>?_,ρ1,[],F6,b,rel6,ec,λH7 s7=>?_⟩⟩
  .have hj:j∉t.slots:=λhj=>by
    rw[← hσc,Zv]at hv;cases qc:cap[j]? with
    | none=>rw[qc]at hv;cases hv
    | some o=>
     cases o with
     | none=>rw[qc]at hv;cases hv
     | some k=>exact hcap.apart j k qc hj
   rw[keep j hj];exact hv
  have s17:QJ H2 H7:=(s3'.trans s5).trans s7;have eD7:H7 s2.heap.objs.size=some (.lst acc):=s7 _ _ (s5 _ _ eD);cases b with
  | false=>
   refine Qqj ⟨_,⋯,rfl,hlt,s17,eD7,⋯,?_⟩;exact hst'
  | true=>
   refine Qqs ?_;cases er:fe ρ1 with
   | some r=>
    have hst2:Qe7 t ft fe fx (QaU cap ρ) (ir.items.drop (i+1))=some c:=by
     have:=hst';rw[if_pos rfl,er]at this;exact this
    refine .inl ⟨ρ1,[],F6,r,rel6.ext s7,er,λy H8 Ge pe=>⟨pe.same _ _ eD7,Nat.lt_of_le_of_lt hlen (Zm hlt hz),_,⋯,rfl,hlt,λb o hb=>?_,QaM,by rw[Zd,ZI];omega,hst2⟩⟩;rw[QQ (QbA hb hD0)];exact pe.same _ _ (s17 b o hb)
   | none=>
    have hst2:(fx ρ1).map (·.1)=some c:=by
     have:=hst';rw[if_pos rfl,er]at this;exact this
    obtain⟨⟨c',ρ2⟩,e1',e2'⟩:=Zb.mp hst2;cases e2';exact .inr ⟨ρ1,ρ2,F6,rel6.ext s7,e1',s17⟩
end
structure ThX where
 Γx:List (Str×(Nat×(List D->Option Str)))
 cls:List Str
structure XOk (X:Cx) (ΘX:ThX):Prop where
 ex:X.ex=[]
 stk:X.stack=X.env::X.outer
 fr:X.env.frame=some X.env.locals
 fx:∀x r,look x ΘX.Γx=some r->∃k f fd ps,Qck X.prog X.w X.K X.mg X.base (CXR X.prog X.w) k f fd ps (spX X.K r.1 r.2)/\Qa6 k X.A/\X.mg x=some (.ref f)/\PySem.W.keepIn X.K (.ref f)=true/\Binds X.K fd ps []/\ps.length=r.1
 cl:∀x∈ΘX.cls,Qh4 X.K x
noncomputable def xc0(n:Nat)(Θ:Th)(ΘX:ThX)(e:Expr):DX:=match e with
 | .Call (.Name x _) (a::as) [] _=>if Θ.gl x then(match look x ΘX.Γx with
  | some r=>(match Qa7 n Θ (a::as)with | some fs=>QY r.1 r.2 fs | none=>xNo)
  | none=>xNo)else xNo
 | _=>xNo
noncomputable def xOr(f g:DX):DX:=λρ=>match f ρ with
 | some q=>some q
 | none=>g ρ
noncomputable abbrev xcE:=xc0
noncomputable def xbE(n:Nat)(Θ:Th)(ΘX:ThX)(e:Expr):DX:=
 xcE n Θ ΘX e
noncomputable def xuE(n:Nat)(Θ:Th)(ΘX:ThX)(e:Expr):DX:=
 xbE n Θ ΘX e
noncomputable def QeU(f:DE)(fx:DX):DX:=λρ=>(f ρ).bind λ_=>fx ρ
noncomputable def xAs(n:Nat)(Θ:Th)(ΘX:ThX):List Expr->DX
 | []=>xNo
 | e::es=>xOr (xc0 n Θ ΘX e) (match Qt n Θ e with
  | some f=>QeU f (xAs n Θ ΘX es)
  | none=>xNo)
noncomputable def Qz4:Expr->Option (List Expr)
 | .Tuple es _ _=>some es
 | _=>none
noncomputable def Quo:Expr->Option (List Expr)
 | .List es _=>match es with
  | []=>none
  | e::es=>match es with
   | []=>Qz4 e
   | _=>none
 | _=>none
noncomputable def xmE(n:Nat)(Θ:Th)(ΘX:ThX)(e:Expr):DX:=match e with
 | .ListComp elt [⟨tg,iter,ifs,0⟩] scope _=>match Qix (inner Θ scope) tg with
  | some t=>if(Qin Θ scope t && QuL ifs)=true then(match QgF n Θ tg iter with
   | some fi=>(match Qf4 n (inner Θ scope) ifs with
    | some ft=>(match Qt n (inner Θ scope) elt with
     | some fe=>QhU fi t (QhK Θ scope) ft fe (xc0 n (inner Θ scope) ΘX elt)
     | none=>xNo)
    | none=>xNo)
   | none=>xNo)else xNo
  | none=>xNo
 | .BinOp a _ b _=>match Quo a with
  | some es=>(match Qt n Θ b with
   | some _=>xAs n Θ ΘX es
   | none=>xNo)
  | none=>xNo
 | e=>xuE n Θ ΘX e
noncomputable def xiE(n:Nat)(Θ:Th)(ΘX:ThX)(e:Expr):DX:=match e with
 | .IfExp c a b _=>match QaJ n Θ c with
  | some g=>xIf g (xc0 n Θ ΘX a) (xc0 n Θ ΘX b)
  | none=>xNo
 | e=>xcE n Θ ΘX e
noncomputable def QiZ(w a b:Nat)(gc:DT)(fx:DX):DX:=λρ=>(gc ρ).bind λc=>match ρ[if c=true then a else b]? with
 | some (some (.lst _,true))=>if w<ρ.length/\w≠(if c=true then a else b)then fx (ρ.set w none)else none
 | _=>none
noncomputable def xtE(n:Nat)(Θ:Th)(ΘX:ThX)(e:Expr):DX:=
 xmE n Θ ΘX e
noncomputable def xaE(n:Nat)(Θ:Th)(ΘX:ThX)(e:Expr):DX:=
 xiE n Θ ΘX e
noncomputable def QsX:List Expr->Option Str
 | [e]=>QbQ e
 | _=>none
def QmR{e:Expr}{x:Str}{G:Expr->Prop}(h:QbQ e=some x)(g:∀p,G (.Name x p)):G e:=by
 cases e with
 | Name z p=>cases h;exact g p
 | _=>exact nn h
noncomputable def Qzz:Expr->Option (Str×Expr)
 | .Call f as kw _=>match kw with
  | _::_=>none
  | []=>match as with
   | []=>none
   | a::as=>match as with
    | _::_=>none
    | []=>(QbQ f).map λx=>(x,a)
 | _=>none
mutual
noncomputable def QqA(n:Nat)(Θ:Th)(ΘX:ThX)(st:Stmt):Option DX:=match n with
 | 0=>none
 | n+1=>match st with
  | .Raise v c _=>match c with
   | some _=>none
   | none=>v.bind λe=>(Qzz e).bind λq=>if Θ.gl q.1 && ΘX.cls.contains q.1 then(Qa7 n Θ [q.2]).map λfs=>QaS q.1 fs else none
  | .Expr e _=>some (xcE n Θ ΘX e)
  | .Return v _=>match v with
   | none=>some xNo
   | some e=>some (xtE n Θ ΘX e)
  | .Assign ts e _=>match QsX ts with
   | none=>some xNo
   | some x=>(Θ.QbT x).map λ_=>xaE n Θ ΘX e
  | .If c a b _=>(QaJ n Θ c).bind λg=>(Qeo n Θ ΘX a).bind λfa=>(Qeo n Θ ΘX b).map λfb=>xIf g fa fb
  | .For tg iter body els _=>match els with
   | _::_=>some xNo
   | []=>(Qix Θ tg).bind λt=>(QgF n Θ tg iter).bind λfi=>(QaR n Θ body).bind λfb=>(Qeo n Θ ΘX body).map λfx=>Qf6 fi t fb fx
  | _=>some xNo
noncomputable def Qeo(n:Nat)(Θ:Th)(ΘX:ThX)(sts:List Stmt):Option DX:=match n with
  | 0=>none
  | n+1=>match sts with
    | []=>some xNo
    | st::r=>
     match Qlt (st::r)with
     | some q=>if q.r.isEmpty=true then(Θ.QbT q.w).bind λw=>(Θ.slot q.w).bind λw'=>(Θ.slot q.a).bind λa=>(Θ.slot q.b).bind λb=>if w'=w then(QaJ n Θ q.c).bind λgc=>(Qt n Θ q.e).map λfe=>QC (QcS w a b gc fe) (QiZ w a b gc (xc0 n Θ ΘX q.e)) xNo else none else none
     | none=>
     (Qkm n Θ st).bind λf=>(QqA n Θ ΘX st).bind λfx=>(Qeo n Θ ΘX r).map λfr=>QC f fx fr
end
section
variable {X:Cx}{Θ:Th}{ΘX:ThX}
def Qfi{e:Expr}:RzE X e xNo:=λH0 A0 pins s σ H Q I ⟨ρ,hs,F,x,ρ',rel,e,q⟩=>by cases e
def XFx(X:Cx)(ΘX:ThX):Prop:=∀x r,look x ΘX.Γx=some r->∃k f fd ps,Qck X.prog X.w X.K X.mg X.base (CXR X.prog X.w) k f fd ps (spX X.K r.1 r.2)/\Qa6 k X.A/\X.mg x=some (.ref f)/\PySem.W.keepIn X.K (.ref f)=true/\Binds X.K fd ps []/\ps.length=r.1
def Qkn{e:Expr}:RzC X e xNo:=λH0 A0 pins s σ H ρ hs F c ρ' Er I rel ex=>by cases ex
def Qho{n:Nat}(ok:QS X Θ)(xf:XFx X ΘX)(e:Expr):RzC X e (xc0 n Θ ΘX e):=by
 unfold xc0;split
 .split
  .rename_i hg;obtain⟨g1,g2,g3⟩:=QdF ok.toCtxB hg;split
   .rename_i r hr;split
    .rename_i fs hfs;obtain⟨k,f,fd,ps,F1,F2,F3,F4,F5,F6⟩:=xf _ r hr;obtain⟨s1,s2⟩:=callArgs (X:=X) hfs rfl _;exact Qu6 F1 F2 g1 F3 F4 F5 F6 ((QaG n).A X Θ _ fs ok hfs) g2 s1 s2
    .exact Qkn
   .exact Qkn
  .exact Qkn
 .exact Qkn
def QnN{n:Nat}{e:Expr}(h:xc0 n Θ ΘX e≠xNo):∃x p a as pos,e= .Call (.Name x p) (a::as) [] pos:=by
 unfold xc0 at h;split at h
 .exact⟨_,_,_,_,_,rfl⟩
 .exact absurd rfl h
def QyB{n:Nat}(ok:QS X Θ)(xk:XOk X ΘX)(e:Expr):RzE X e (xc0 n Θ ΘX e)/\(xc0 n Θ ΘX e≠xNo->∃x p a as pos,e= .Call (.Name x p) (a::as) [] pos):=⟨Qlo xk.ex (Qho ok xk.fx e),QnN⟩
def Qnj{n:Nat}(ok:QS X Θ)(xk:XOk X ΘX)(e:Expr):RzE X e (xcE n Θ ΘX e)/\(xcE n Θ ΘX e≠xNo->∃x p a as pos,e= .Call (.Name x p) (a::as) [] pos):=QyB ok xk e
def Qy8{n:Nat}(ok:QS X Θ)(xk:XOk X ΘX)(e:Expr):RzE X e (xbE n Θ ΘX e):=
 (Qnj ok xk e).1
def QxP{n:Nat}(ok:QS X Θ)(xk:XOk X ΘX)(e:Expr):RzE X e (xuE n Θ ΘX e):=
 Qy8 ok xk e
def RzA(X:Cx)(es:List Expr)(fx:DX):Prop:=∀H0 A0,PA X es (λσ H _=>cRz X H0 A0 fx σ H)
def QqP{n:Nat}(ok:QS X Θ)(xk:XOk X ΘX):∀es:List Expr,RzA X es (xAs n Θ ΘX es)
 | []=>λH0 A0 pos pins s σ H Q I ⟨ρ,hs,F,x,ρ',rel,e,q⟩=>by cases e
 | e::es=>λH0 A0 pos pins s σ H Q I ⟨ρ,hs,F,x,ρ',rel,ex,q⟩=>by
  have ex:xOr (xc0 n Θ ΘX e) (match Qt n Θ e with
   | some f=>QeU f (xAs n Θ ΘX es)
   | none=>xNo) ρ=some (x,ρ'):=ex
  unfold xOr at ex;split at ex
  .rename_i e1;cases ex;obtain⟨y,p,a,as,pos',rfl⟩:=QnN (n:=n) (Θ:=Θ) (ΘX:=ΘX) (e:=e) λz=>by rw[z]at e1;cases e1
   exact QbG (t:=λ_ _ _=>False) (Qlo xk.ex (Qho ok xk.fx _) H0 A0) (λ_ _ _ _ _ _ _ z=>z.elim) rfl pos pins s σ H Q I ⟨ρ,hs,F,x,ρ',rel,e1,q⟩
  .cases hf:Qt n Θ e with
   | none=>rw[hf]at ex;cases ex
   | some f=>
    rw[hf]at ex;refine Qi ex λr er ex=>?_;exact QbG ((QaG n).E X Θ e f ok hf H0 A0) (QqP ok xk es H0 A0) (Qcc hf _ _) pos pins s σ H Q I ⟨ρ,hs,F,r,rel,er,λv H1 G p=>⟨ρ,hs,F,x,ρ',rel.ext p.same,ex,q⟩⟩
def QrK{a:Expr}{es:List Expr}(h:Quo a=some es):∃k p q,a= .List [.Tuple es k p] q:=by
 cases a with
 | List as q=>
  rcases as with _ | ⟨a,_ | ⟨b,as⟩⟩
  .cases h
  .cases a with
   | Tuple es' k p=>cases(show some es'=some es from h);exact⟨k,p,q,rfl⟩
   | _=>exact nomatch (show(none:Option (List Expr))=some _ from h)
  .cases h
 | _=>exact nomatch (show(none:Option (List Expr))=some _ from h)
def Qy4{n:Nat}(ok:QS X Θ)(xk:XOk X ΘX)(e:Expr):RzE X e (xmE n Θ ΘX e):=by
 unfold xmE;split
 .rename_i elt tg iter ifs scope pos;split
  .rename_i t ht;split
   .rename_i hc;simp only[Zf]at hc;split
    .rename_i fi h1;split
     .rename_i ft h2;split
      .rename_i fe h3;obtain⟨S,cap,inn⟩:=QjZ ok hc.1;obtain⟨i1,i2⟩:=(QaG n).I X Θ tg iter fi ok h1;exact QwN ok.calm xk.ex xk.stk xk.fr S i1 cap (λcl C fp s3 H3=>⟨Qkt (inn cl C fp s3 H3) ht,(QaG n).Ts _ _ ifs ft (inn cl C fp s3 H3) h2,(QaG n).E _ _ elt fe (inn cl C fp s3 H3) h3⟩) (λcl C fp s3 H3=>Qho (inn cl C fp s3 H3) xk.fx elt) i2
      .exact Qfi
     .exact Qfi
    .exact Qfi
   .exact Qfi
  .exact Qfi
 .rename_i a op b pos;split
  .rename_i es hl;split
   .rename_i fb hb;obtain⟨k,p,q,rfl⟩:=QrK hl;refine λH0 A0 pins s σ H Q I h=>Qm1 (r:=λ_ _ _ _=>False) (λ_ _ _ _ _ _ _ _ _ _ _ _ z=>z.elim) (Qq9 (QbG (Qq2 (QqP (n:=n) ok xk es H0 A0)) Qek rfl)) ((QaG n).E X Θ b fb ok hb H0 A0) pins s σ H Q I ?_;exact h
   .exact Qfi
  .exact Qfi
 .exact QxP ok xk _
def Qzd{n:Nat}(ok:QS X Θ)(xk:XOk X ΘX)(e:Expr):RzE X e (xiE n Θ ΘX e)/\(xiE n Θ ΘX e≠xNo->QfQ e=true):=by
 unfold xiE;split
 .rename_i c a b pos;refine⟨?_,λ_=>rfl⟩;split
  .rename_i g hg;refine λH0 A0 pins s σ H Q I ⟨ρ,hs,F,x,ρ',rel,ex,q⟩=>?_;refine Qi ex λv ev ex=>?_;refine QhN ((QaG n).T X Θ c g ok hg H0 A0) (Qlo xk.ex (Qho (n:=n) ok xk.fx a) H0 A0) (Qlo xk.ex (Qho (n:=n) ok xk.fx b) H0 A0) pins s σ H Q I ⟨ρ,hs,F,v,rel,ev,λH1 s1=>?_⟩;cases v with
   | true=>exact⟨ρ,hs,F,x,ρ',rel.ext s1,ex,q⟩
   | false=>exact⟨ρ,hs,F,x,ρ',rel.ext s1,ex,q⟩
  .exact Qfi
 .obtain⟨h1,h2⟩:=Qnj (n:=n) ok xk e;refine⟨h1,λz=>?_⟩;obtain⟨y,p,a,as,pos,rfl⟩:=h2 z;rfl
def Qzn{n:Nat}(ok:QS X Θ)(xk:XOk X ΘX)(e:Expr):RzE X e (xtE n Θ ΘX e):=
 Qy4 ok xk e
def QxK{n:Nat}(ok:QS X Θ)(xk:XOk X ΘX)(e:Expr):RzE X e (xaE n Θ ΘX e)/\(xaE n Θ ΘX e≠xNo->QfQ e=true):=by
 exact Qzd ok xk e
def Qw4{st1 st2:Stmt}{w a b:Nat}{gc:DT}{fe:DE}{fx:DX}(p1:∀H0 A0,PS X st1 (QjU (tIf (tVT X.K H0 A0 gc) (QdQ a) (QdQ b)) (Qe1 w)))(p2:∀H0 A0,PS X st2 (QfH (tBM X.K "list" (λ_ _ _ _=>False) (QdQ w) (Qgu (eRz X H0 A0 fx) QhC)))):
  RzS X [st1,st2] (QC (QcS w a b gc fe) (QiZ w a b gc fx) xNo):=λH0 A0=>(QfX (p1 H0 A0) (QwM (p2 H0 A0))).mono λE σ H Z=>by
 obtain⟨ρ,hs,F,x,ρ',rel,e,q⟩:=Z;unfold QC at e;split at e
 .cases e
 .cases e
 refine Qi e λc ec e=>?_;obtain⟨xs,hx,hw,e⟩:∃xs,ρ[if c=true then a else b]? =some (some (.lst xs,true))/\(w<ρ.length/\w≠(if c=true then a else b))/\fx (ρ.set w none)=some (x,ρ'):=by
  generalize hk:(if c=true then a else b)=k at e ⊢;split at e
  .rename_i xs hx;split at e
   .rename_i hw;exact⟨xs,hx,hw,e⟩
   .cases e
  .cases e
 obtain⟨hwl,hwx⟩:=hw;refine⟨ρ,hs,F,c,rel,ec,λH1 s1=>?_⟩;have hr0:∀d b,(ρ.set w none)[w]? ≠some (some (d,b)):=λd b z=>by
  rw[Zp hwl]at z;cases z
 have rel0:=(rel.ext s1).weak (Qgy (ρ:=ρ) w);obtain⟨v,hv,rv⟩:=(rel.ext s1).val _ _ true hx;have rel1:=rel0.Qx9 (i:=w) (v:=v) hr0;have key:QdQ (if c=true then a else b) σ H1 λv' H'=>Qe1 w v' σ H' λσ' H'=>QfH (tBM X.K "list" (λ_ _ _ _=>False) (QdQ w) (Qgu (eRz X H0 A0 fx) QhC)) E σ' H':=by
  refine⟨v,hv,?_⟩;have hσw:(σ.set w (some v))[w]? =some (some v):=Zp (by rw[← rel.len];exact hwl);exact⟨v,hσw,Qpm rv,ρ.set w none,hs,F,x,ρ',rel1,e,q⟩
 cases c with
 | true=>exact key
 | false=>exact key
structure Qyq (n:Nat):Prop where
 X:∀X Θ ΘX st f,QS X Θ->XOk X ΘX->QqA n Θ ΘX st=some f->Rz X st f
 Xs:∀X Θ ΘX sts f,QS X Θ->XOk X ΘX->Qeo n Θ ΘX sts=some f->RzS X sts f
def Qzl{n:Nat}(ih:Qyq n):∀X Θ ΘX st f,QS X Θ->XOk X ΘX->QqA (n+1) Θ ΘX st=some f->Rz X st f:=by
 intro X Θ ΘX st f ok xk h;have hN:X.N.Nodup:=by rw[ok.N];exact ok.nd
 cases st with
 | Raise v c pos=>
  cases c with
  | some _=>exact nn h
  | none=>
   refine Qi (show v.bind _=some _ from h) λe he h=>?_;cases he;refine Qi h λq hq h'=>?_;clear h;split at h'
   .rename_i hc;simp only[Zf]at hc;refine mapR h' λfs h1=>?_;clear h';obtain⟨g1,g2,g3⟩:=QdF ok.toCtxB hc.1;obtain⟨s1,s2⟩:=callArgs (X:=X) h1 rfl pos;cases e with
    | Call fn as kw cp=>
     rcases kw with _ | ⟨k1,k2⟩
     .rcases as with _ | ⟨a,_ | ⟨a2,as⟩⟩
      .cases hq
      .obtain⟨x,hx,rfl⟩:=Zb.mp (show(QbQ fn).map _=some q from hq);exact QmR (G:=λt=>Rz X (.Raise (some (.Call t [a] [] cp)) none pos) (QaS x fs)) hx λnp=>Qsw ok.calm g1 (xk.cl x (by simpa using hc.2)) g2 ((QaG n).A X Θ _ fs ok h1) s1
      .cases hq
     .cases hq
    | _=>exact nomatch (show(none:Option (Str×Expr))=some _ from hq)
   .cases h'
 | Expr e pos=>
  cases(show some (xcE n Θ ΘX e)=some f from h);obtain⟨h1,h2⟩:=Qnj (n:=n) ok xk e;by_cases hz:xcE n Θ ΘX e=xNo
  .rw[hz];exact QgA
  .obtain⟨x,p,a,as,pos',rfl⟩:=h2 hz;exact Qwf h1 rfl
 | Return v pos=>
  cases v with
  | none=>cases(show some xNo=some f from h);exact QgA
  | some e=>cases(show some (xtE n Θ ΘX e)=some f from h);exact Qxy (Qzn (n:=n) ok xk e)
 | Assign ts e pos=>
  rcases ts with _ | ⟨t,_ | ⟨t2,ts⟩⟩
  .cases(show some xNo=some f from h);exact QgA
  .cases t with
   | Name x p=>
    refine mapR (show(Θ.QbT x).map _=some f from h) λi hi=>?_;obtain⟨g1,g2,g3⟩:=Qct ok.toCtxB hi;obtain⟨h1,h2⟩:=QxK (n:=n) ok xk e;by_cases hz:xaE n Θ ΘX e=xNo
    .rw[hz];exact QgA
    .exact QyF hN g1 g2 g3 h1 (QdU (h2 hz))
   | _=>cases(show some xNo=some f from h);exact QgA
  .cases(show some xNo=some f from h);exact QgA
 | If c a b pos=>
  refine Qi (show(QaJ n Θ c).bind _=some f from h) λg h1 h=>?_;exact bindR h λfa fb h2 h3=>Qzs ((QaG n).T X Θ c g ok h1) (ih.Xs X Θ ΘX a fa ok xk h2) (ih.Xs X Θ ΘX b fb ok xk h3)
 | For tg iter body els pos=>
  cases els with
  | cons _ _=>cases(show some xNo=some f from h);exact QgA
  | nil=>
   refine Qi (show(Qix Θ tg).bind _=some f from h) λt h1 h=>?_;refine Qi h λfi h2 h=>?_;refine bindR h λfb fx h3 h4=>?_;obtain⟨i1,i2⟩:=(QaG n).I X Θ tg iter fi ok h2;exact Qyc ok.pass ok.calm i1 (Qkt ok h1) ((QhY n).Ss X Θ body fb ok h3) (ih.Xs X Θ ΘX body fx ok xk h4) i2
 | _=>cases(show some xNo=some f from h);exact QgA
def QmS:∀n,Qyq n
 | 0=>⟨λ_ _ _ _ _ _ _ h=>(nn h),λ_ _ _ _ _ _ _ h=>(nn h)⟩
 | n+1=>by
  have ih:=QmS n;refine⟨Qzl ih,λX Θ ΘX sts f ok xk h=>?_⟩;cases sts with
  | nil=>cases(show some xNo=some f from h);exact Qvu
  | cons st r=>
   change(match Qlt (st::r)with
    | some q=>if q.r.isEmpty=true then(Θ.QbT q.w).bind λw=>(Θ.slot q.w).bind λw'=>(Θ.slot q.a).bind λa=>(Θ.slot q.b).bind λb=>if w'=w then(QaJ n Θ q.c).bind λgc=>(Qt n Θ q.e).map λfe=>QC (QcS w a b gc fe) (QiZ w a b gc (xc0 n Θ ΘX q.e)) xNo else none else none
    | none=>_)=some f at h
   split at h
   .rename_i q hq;split at h
    case isFalse=>cases h
    rename_i hr;refine Qi h λw hw h=>?_;refine Qi h λw' hw' h=>?_;refine Qi h λa ha h=>?_;refine Qi h λb hb h=>?_;split at h
    case isFalse=>cases h
    rename_i hww;subst hww;refine bindR h λgc fe h1 h2=>?_;obtain⟨p1,p2,p3,p4,p5,p6,apos,cpos,p7,hs,hl⟩:=Qol hq;rw[hs,List.isEmpty_iff.mp hr];have B:=ok.toCtxB;have hN:X.N.Nodup:=by rw[ok.N];exact ok.nd
    obtain⟨l1,l2,l3⟩:=Qct B hw;have st:=Qcc h2 [] X.env;exact Qw4 (λH0 A0=>Qgd hN l1 l2 (QhN ((QaG n).T X Θ q.c gc ok h1 H0 A0) (Qdp B ha) (Qdp B hb)) (QdU rfl) l3) (λH0 A0=>Qg9 (Qko Zaw Zbn Zbo (λ_ _ _ _ _ _ _ _ _ _ _ _ z=>z.elim) (Qdp B hw') (QbG (Qlo xk.ex (Qho ok xk.fx q.e) H0 A0) Qek st) rfl (by rw[st];rfl) hl st rfl) rfl)
   refine Qi (show(Qkm n Θ st).bind _=some f from h) λfs h1 h=>?_;exact bindR h λfx fr h2 h3=>Qt1 (Qra ok h1) (ih.X X Θ ΘX st fx ok xk h2) (ih.Xs X Θ ΘX r fr ok xk h3)
end
noncomputable def Q6(k:Nat)(f:DX):List D->Option Str:=λds=>(f (QP k ds)).map (·.1)
section
variable (P:Program) (w:World) (K:Fgg) (mg:Str->Option Value) (base:Heap)
def Qf5(k:Nat)(x:Str)(r:Nat×(List D->Option Str)):Prop:=∃f fd ps,Qck P w K mg base (CXR P w) k f fd ps (spX K r.1 r.2)/\mg x=some (.ref f)/\PySem.W.keepIn K (.ref f)=true/\Binds K fd ps []/\ps.length=r.1
def QeI(k:Nat)(Γx:List (Str×(Nat×(List D->Option Str)))):Prop:=∀x r,look x Γx=some r->Qf5 P w K mg base k x r
end
section
variable {P:Program}{w:World}{K:Fgg}{mg:Str->Option Value}{base:Heap}
def QeI.nil{k:Nat}:QeI P w K mg base k []:=λx r h=>by cases h
def Qf5.mono{j k:Nat}{x:Str}{r:Nat×(List D->Option Str)}(h:Qf5 P w K mg base j x r)(hk:j<=k):Qf5 P w K mg base k x r:=by
 obtain⟨f,fd,ps,h1,h2⟩:=h;exact⟨f,fd,ps,h1.mono hk,h2⟩
def QeI.mono{j k:Nat}{Γ:List (Str×(Nat×(List D->Option Str)))}(t:QeI P w K mg base j Γ)(hk:j<=k):QeI P w K mg base k Γ:=λx r e=>(t x r e).mono hk
def QeI.cons{k:Nat}{Γ:List (Str×(Nat×(List D->Option Str)))}{x:Str}{r:Nat×(List D->Option Str)}(t:QeI P w K mg base k Γ)(h:Qf5 P w K mg base (k+1) x r):QeI P w K mg base (k+1) ((x,r)::Γ):=λy q e=>by
 unfold look at e;split at e
 .rename_i z;cases e;subst z;exact h
 .exact(t y q e).mono (Zh _)
def Qbr.up{j k:Nat}{Γ:List (Str×FnR)}(t:Qbr P w K mg base j Γ)(hk:j<=k):Qbr P w K mg base k Γ:=λx r e=>(t x r e).mono hk
def QcE{h:Heap}{x:Str}{st:Stmt}{ps:List Str}{k n:Nat}{Γ:List (Str×FnR)}{Γx:List (Str×(Nat×(List D->Option Str)))}{cls:List Str}{cs:List (Str×Cn)}{g:DX}(X:K.In h)(G:h.Ns mainGlobals mg)(F:Fact K x st)(S:Qba (namesOf (Qh st)) ps (Qh st))(B:Qag x st ps)(M:Qdu mg cs)(tab:Qbr P w K mg base k Γ)(tabx:QeI P w K mg base k Γx)
  (hcl:∀x∈cls,Qh4 K x) (hc:Qeo n (Qc6 st Γ cs) ⟨Γx,cls⟩ (Qac st)=some g):Qf5 P w K mg base (k+1) x (ps.length,Q6 (namesOf (Qh st)).length g):=by
 obtain⟨f,fd,Fn,a⟩:=F.ex;refine⟨f,fd,ps,?_,Zac X G a,Fn.kp,Fn.binds (B ·),rfl⟩;obtain⟨oc,od,kV,doc,pm,an,cdv,ct,osl,rfl,lk,hcd⟩:=Fn.ex;refine QmM lk hcd S (Qpz rfl) λA outer s H vs Q E hr hsp=>?_;obtain⟨ds,L,y,rps,hl,hd,hE⟩:=hsp;have ok:QS (QcL (CXR P w) P w K mg base (namesOf (Qh st)) x (Qh st) f cdv A outer s H E) (Qc6 st Γ cs):=QlN (CX:=CXR P w) (E:=E) S M tab hr PassesOwn.leaving;have xk:XOk (QcL (CXR P w) P w K mg base (namesOf (Qh st)) x (Qh st) f cdv A outer s H E) ⟨Γx,cls⟩:=⟨rfl,rfl,rfl,λz r e=>by
  obtain⟨f',fd',ps',h1,h2,h3,h4,h5⟩:=tabx z r e;exact⟨k,f',fd',ps',h1,hr,h2,h3,h4,h5⟩,hcl⟩
 refine⟨_,(QmS n).Xs _ _ _ _ g ok xk hc H L,?_⟩;obtain⟨F0,rel⟩:=QdV (N:=namesOf (Qh st)) rps;obtain⟨⟨y',ρ'⟩,e1,e2⟩:=Zb.mp hd;cases e2;exact⟨_,[],F0,y',ρ',rel,e1,λC ea s' hC T=>QiL rfl rfl rfl rfl rfl rfl rfl T λH' sm=>hE C H' hC sm⟩
end
end HS
namespace HS
open PySem PySem.Spec L2 PyProof.Rows
section
variable {X:Cx}{pins:List (Addr×Obj)}{σ:L2.St}{H:Hp}{s s':Shared}{B:Heap}
def QwG{ea C:Addr}{a0:Value}(I:Inv X pins σ H s)(hx:X.ex=[])(fl:Heap.FlyingW B X.stack ea (.ref C) a0 s.heap)(cov:Cov H B)(old:∀b o,X.s₀.heap.get? b=some o->b∉X.fs->∃o',B.get? b=some o')
  (pb:∀p∈X.pn++pins,∃o,B.get? p.1=some o):H ea=none/\Inv X pins σ (upd H ea (.ext (QdO ea C))) s:=by
 obtain⟨oe,vs,he,hc,hd,_⟩:=fl.first
 have ne:∀{b o},B.get? b=some o->b≠ea:=λ{b o} e z=>by rw[z,fl.2.1]at e;cases e
 have hn:H ea=none:=by
  cases q:H ea with
  | none=>rfl
  | some u=>obtain⟨o,e⟩:=cov ea u q;exact absurd rfl (ne e)
 have nd:∀{b o},s.heap.get? b=some o->(∀vs,o.data≠ .fields vs)->b≠ea:=λ{b o} e h z=>by
  rw[z,he]at e;cases e;exact h vs hd
 have tr:∀b u,H b=some u->upd H ea (.ext (QdO ea C)) b=some u:=λb u e=>by
  obtain⟨o,eo⟩:=cov b u e;rw[QQ (ne eo)];exact e
 refine⟨hn,I.ok,I.os,I.bare,⟨I.base.keep,I.base.slot,λb o e n hxx=>?_,I.base.there,λb xs q=>tr _ _ (I.base.tups b xs q),λb o u q=>tr _ _ (I.base.frzs b o u q),λb ps q=>?_⟩,I.loc,I.cell,?_,λx c e=>?_,λp hp=>?_,λb u e=>?_,I.len⟩
 .rw[QQ]
  .exact I.base.free b o e n hxx
  .by_cases hb:b∈X.fs
   .obtain⟨sl,e1⟩:=I.base.slot b o e n hb hxx;exact nd e1 λvs q=>QkA I.ok e hb vs q
   .obtain⟨o',e1⟩:=old b o e hb;exact ne e1
 .obtain⟨more,q⟩:=I.base.tbls b ps q;exact⟨more,tr _ _ q⟩
 .rw[QQ]
  .exact I.free
  .obtain⟨m,⟨o,es,ep,e,d,_⟩,_⟩:=I.loc;exact nd e λvs q=>by rw[d]at q;cases q
 .rw[QQ]
  .exact I.freeC x c e
  .obtain⟨v,o,eo,d⟩:=I.cell x c e;exact nd eo λvs q=>by rw[d]at q;cases q
 .obtain⟨e,n,ne',nf,d⟩:=I.pin p hp;obtain⟨o,eo⟩:=pb p hp;exact⟨e,by rw[QQ (ne eo)];exact n,ne',nf,d⟩
 .by_cases hb:b=ea
  .subst hb;rw[QaM]at e;cases e;refine⟨⟨oe,vs,he,hc,hd⟩,⟨oe,he⟩,λh1 h2 ⟨o,w,e1,e2,e3⟩ k=>⟨o,w,k _ e1,e2,e3⟩⟩
  .rw[QQ hb]at e;exact(I.hok b u e).QgR (λc v _ q=>q) (λc q=>tr _ _ q) λc xs q=>tr _ _ q
def Qla{M:Model}{A:Around}{E:Value->Shared->Prop}{i:Nat}{x:Str}{pos:Pos}{Q:Unit->Shared->Prop}(I:Inv X pins σ H s)(hN:X.N.Nodup)(hi:X.N[i]? =some x)(hx:X.env.scope.names.lookup x=some .local)
  (h:∀s',Inv X pins (σ.set i none) H s'->Q () s'):wpAny M A (do bindName X.env x .none;unbindBehindTheSuite X.env x pos) Q E s:=by
 refine wpAny_bind (wpAny_bindName (QhF (v:= .non) I hN hi (.inl hx) rfl (λs1 I1=>?_) (.inr hx)));have hcls:(X.env.scope.kind == .class || (X.env.scope.kind == .module && X.env.locals != X.env.globals))=false:=by rw[I.ok.kind];rfl
 have hiσ:i<σ.length:=by rw[I.len];exact(Zj.mp hi).1
 obtain⟨m,hn,hl⟩:=id I1.loc;obtain⟨u,_,q⟩:=hl i x .non hi (Zp hiσ) (.inl hx);have hm:m x=some u:=by
  rcases q with⟨_,e⟩ | ⟨k,_⟩
  .exact e
  .have hx':X.env.kindOf x=some .local :=hx;rcases k with k | k<;>rw[hx']at k<;>cases k
 unfold unbindBehindTheSuite;refine wpAny_onRaise (wpAny_unbindName_local hx hn hm hcls λh' u' hn' hs=>h _ ?_);have cne:=I1.cne;obtain⟨oL,_,_,hoL,_⟩:=id hn;refine⟨I1.ok,I1.os,I1.bare,⟨λb o e n hb hx=>?_,λb o e n hb hx=>?_,I1.base.free,λb o e hx=>?_,I1.base.tups,I1.base.frzs,I1.base.tbls⟩,⟨_,hn',λj y v' e1 e2 e3=>?_⟩,λy c e=>?_,I1.free,I1.freeC,λp hp=>?_,λb ob e=>?_,by simpa using I1.len⟩
 .exact(hs.2 b (ZE (Zm (Zq e) I.ok.above))).trans (I1.base.keep b o e n hb hx)
 .obtain⟨sl,e1⟩:=I1.base.slot b o e n hb hx;exact⟨sl,(hs.2 b (ZE (Zm (Zq e) I.ok.above))).trans e1⟩
 .obtain⟨o',e1⟩:=I1.base.there b o e hx;exact⟨o',(hs.2 b (ZE (Zm (Zq e) I.ok.above))).trans e1⟩
 .by_cases hj:j=i
  .subst hj;rw[Zp hiσ]at e2;cases e2
  .rw[Zl (Ne.symm hj)]at e2;have e2':(σ.set i (some V.non))[j]? =some (some v'):=by rw[Zl (Ne.symm hj)];exact e2
   obtain⟨u1,r1,q1⟩:=hl j y v' e1 e2' e3;refine⟨u1,r1,?_⟩;rcases q1 with⟨k,e⟩ | ⟨k,c,e,z⟩
   .refine .inl ⟨k,?_⟩;have:y≠x:=λe=>hj (Qkd hN e1 (e▸hi));simp[this,e]
   .exact .inr ⟨k,c,e,z.sameBut hs (cne y c e)⟩
 .obtain⟨w',z⟩:=I1.cell y c e;exact⟨w',z.sameBut hs (cne y c e)⟩
 .obtain⟨e,n,ne,nf,d⟩:=I1.pin p hp;exact⟨(hs.2 p.1 ne).trans e,n,ne,nf,d⟩
 .refine(I1.hok b ob e).QgR (λc w' hc q=>(hs.2 c ?_).trans q) (λ_ q=>q) λ_ _ q=>q;rintro rfl;have hfree:=I1.free;rcases hc with rfl | hc
  .rw[hfree]at e;cases e
  .rw[hfree]at hc;cases hc
end
noncomputable abbrev inH(X:Cx)(ea:Addr):Cx:={X with A:=X.A.mark (some (.ref ea)),calm:=false,xe:=λ_ _=>False}
def Fly(X:Cx)(pins:List (Addr×Obj))(H:Hp)(ea C:Addr)(s:Shared):Prop:=∃B a0,Heap.FlyingW B X.stack ea (.ref C) a0 s.heap/\Cov H B/\(∀b o,X.s₀.heap.get? b=some o->b∉X.fs->∃o',B.get? b=some o')/\∀p∈X.pn++pins,∃o,B.get? p.1=some o
section
variable {X:Cx}{pins:List (Addr×Obj)}{σ:L2.St}{H:Hp}{s s':Shared}{B:Heap}{ea C:Addr}
def _root_.L2.Inv.inH(I:Inv X pins σ H s):Inv (HS.inH X ea) pins σ H s:=
 ⟨⟨I.ok.mod,I.ok.kind,I.ok.glob,I.ok.blt,I.ok.above,I.ok.inj,I.ok.has,I.ok.cab,λz=>(by cases z),I.ok.frames,I.ok.stk,I.ok.exf,I.ok.bs,I.ok.bsz,I.ok.noex,I.ok.exfs,I.ok.Qel,I.ok.frf⟩,I.os,I.bare,I.base,I.loc,I.cell,I.free,I.freeC,I.pin,I.hok,I.len⟩
def _root_.L2.Inv.QgM(ok:X.Ok)(I:Inv (HS.inH X ea) pins σ H s):Inv X pins σ H s:=⟨ok,I.os,I.bare,I.base,I.loc,I.cell,I.free,I.freeC,I.pin,I.hok,I.len⟩
def Qo1{E:Value->Shared->Prop}{Qk:Shared->Prop}{H0:Hp}{A0:LAd}{hs:List (V×D×List Addr)}{ρ:En}(T:Qhr X H0 A0 hs ρ (.ref C) ea s')(hx:X.ex=[])(hst:X.stack=X.env::X.outer)(hf:X.env.frame=some X.env.locals)
  (k:∀pins σ H F s'',Rel X.K H0 A0 hs ρ F σ H->Inv X pins σ H s''->Fly X pins H ea C s''->Qk s''):
  wpAny (model X.prog X.w) X.A (noteFrame (.ref ea) X.env) (λ_ s₂=>wpAny (model X.prog X.w) X.A (setFlight (.ref ea) none) (λ_ s₃=>Qk s₃) E s₂) E s':=by
 obtain⟨pins,σ,H,F,rel,⟨sg,args,I,hm,ho,hg⟩ | ⟨B,a0,f0,I,fl,cov,old,pb⟩⟩:=T
 .obtain⟨B,b1,b2,cov,old,pb⟩:=Qn5 I hx;have hfr:=I.ok.frames;rw[hst]at hfr b2;obtain⟨t,he,htn,ht⟩:=hm.there;have fresh:B.get? ea=none:=by
   cases q:B.get? ea with
   | none=>rfl
   | some o=>have:=b1 _ _ q;rw[hm.new]at this;cases this
  have note:∀Q:Unit->Shared->Prop,(∀h',Heap.NotedW B (X.env::X.outer) ea (.ref C) (.ref t) (rawInt X.env.locals) s'.heap h'->Q () {s' with heap:=h'})->wpAny (model X.prog X.w) X.A (noteFrame (.ref ea) X.env) Q E s':=λQ hq=>by
   unfold noteFrame;simp only[hf];refine wpAny_bind (wpAny_field (x:= .none) he rfl rfl ?_);rw[if_neg ∅];exact wpAny_entryW (a0:= .ref t) hfr (b2.of_keeps λb o hb _=>⟨o,hm.keeps b o hb,rfl⟩) hf he (λb o hb=>hm.keeps b o (b1 b o hb)) fresh rfl (by show 1<6;decide) rfl hq
  refine note _ λh1 Z=>?_;obtain⟨n1,n2,n3,n4⟩:=Z;refine wpAny_landsW (s:={s' with heap:=h1}) (L:=X.env.locals) ⟨n1,fresh,n2,n3⟩ λh2 fl up=>?_;have up':sg.heap.UpToSlots h2:=((Heap.UpToSlots.of_keeps hm.keeps).trans n4).trans up;refine k pins σ H F _ rel (Qhd I ho (by show AllBare s'.gens;rw[hg];exact I.bare) hx b1 fl.1 up' cov old pb) ⟨B,_,by rw[hst];exact fl,cov,old,pb⟩
 .have hfr:=I.ok.frames;rw[hst]at hfr fl;refine Qj4 hfr hf fl λh1 hd up1=>?_;refine wpAny_landsW (s:={s' with heap:=h1}) hd λh2 fl2 up2=>?_;exact k pins σ H F _ rel (Qhd I rfl I.bare hx fl.1 fl2.1 (up1.trans up2) cov old pb) ⟨B,a0,by rw[hst];exact fl2,cov,old,pb⟩
def Qqo(K:Fgg)(sub:Str->Str->Option Bool):Prop:=∀x y b,sub x y=some b->∃C c,ClsAt K x C/\PySem.W.KtsName K y c/\PySem.W.exmOne K (.ref C) c=some b
def QrW{E:Value->Shared->Prop}{y:Str}{c:Value}{np:Pos}{Q:Value->Shared->Prop}(I:Inv X pins σ H s)(hg:Gl X y)(hdb:(y == ("__debug__" :Str))=false)(k:PySem.W.KtsName X.K y c)(h:Q c s):wpAny (model X.prog X.w) X.A (eval (.Name y np) X.env) Q E s:=by
 rcases k with k | ⟨k1,k2,k3⟩
 .exact QeJ I hg (Zac I.ok.mod.kin I.ok.mod.glob k) h hdb
 .exact Qhb I hg (PySem.W.mg_none_of I.ok.mod.kin I.ok.mod.glob k1) k2 h k3 hdb
def QiF{K:Fgg}{x:Str}{C C':Addr}(a:ClsAt K x C)(b:ClsAt K x C'):C=C':=by
 unfold ClsAt at a b;rw[a]at b;exact Value.ref.inj (Option.some.inj (Option.some.inj b))
def Rel.QlR{K:Fgg}{H0:Hp}{A0:LAd}{hs:List (V×D×List Addr)}{ρ:En}{F:Nat->List Addr}{i:Nat}(r:Rel K H0 A0 hs ρ F σ H):Rel K H0 A0 hs (ρ.set i none) F (σ.set i none) H:=by
 have w:=r.weak (Qgy (ρ:=ρ) i);refine⟨by simpa using r.len,λj d b e=>?_,w.own,w.src,w.held,w.same⟩;obtain⟨v,h1,h2⟩:=w.val j d b e;refine⟨v,?_,h2⟩;by_cases hj:i=j
 .subst hj;exfalso;by_cases hl:i<ρ.length
  .rw[Zp hl]at e;cases e
  .rw[ZD (by simp;omega)]at e;cases e
 .rw[Zl hj];exact h1
noncomputable def QyU(i:Nat):Out->Out
 | .nx ρ=> .nx (ρ.set i none)
 | .bk ρ=> .bk (ρ.set i none)
 | .ct ρ=> .ct (ρ.set i none)
 | .rt d fr=> .rt d fr
noncomputable abbrev Hd:=Str×Option Nat×DS
noncomputable def Qm9(sub:Str->Str->Option Bool)(x:Str)(ρ:En):List Hd->Option Out
 | []=>none
 | h::r=>(sub x h.1).bind λb=>if b=true then(match h.2.1 with
  | none=>h.2.2 ρ
  | some i=>(h.2.2 (ρ.set i (some (.exc x,true)))).map (QyU i))else Qm9 sub x ρ r
noncomputable def Qfq(f:DS)(fx:DX)(sub:Str->Str->Option Bool)(hl:List Hd):DS:=λρ=>match f ρ with
 | some o=>some o
 | none=>(fx ρ).bind λq=>Qm9 sub q.1 q.2 hl
inductive QgQ (X:Cx):List ExceptHandler->List Hd->Prop
 | nil:QgQ X [] []
 | bare {y:Str}{np pos:Pos}{b₀:Stmt}{suite:List Stmt}{r:List ExceptHandler}{hr:List Hd}{f:DS}(hg:Gl X y) (hdb:(y == ("__debug__" :Str))=false) (hS:∀ea,SS (inH X ea) (b₀::suite) f) (t:QgQ X r hr):
   QgQ X (.ExceptHandler (some (.Name y np)) none (b₀::suite) pos::r) ((y,none,f)::hr)
 | as {y n:Str}{np pos:Pos}{b₀:Stmt}{suite:List Stmt}{r:List ExceptHandler}{hr:List Hd}{f:DS}{i:Nat}(hg:Gl X y) (hdb:(y == ("__debug__" :Str))=false) (hi:X.N[i]? =some n) (hl:X.env.scope.names.lookup n=some .local) (hS:∀ea,SS (inH X ea) (b₀::suite) f) (t:QgQ X r hr):
   QgQ X (.ExceptHandler (some (.Name y np)) (some n) (b₀::suite) pos::r) ((y,some i,f)::hr)
def _root_.L2.SP.QgM{Dd:Ends}{f:Flow}(ok:X.Ok)(h:SP (HS.inH X ea) pins Dd f s):SP X pins Dd f s:=by
 cases f with
 | next=>obtain⟨σ',H',I,q⟩:=h;exact⟨σ',H',I.QgM ok,q⟩
 | brk=>obtain⟨σ',H',I,q⟩:=h;exact⟨σ',H',I.QgM ok,q⟩
 | cont=>obtain⟨σ',H',I,q⟩:=h;exact⟨σ',H',I.QgM ok,q⟩
 | ret u=>obtain⟨v,σ',H',I,r,q⟩:=h;exact⟨v,σ',H',I.QgM ok,r,q⟩
def QqO{sub:Str->Str->Option Bool}{x:Str}{H0:Hp}{A0:LAd}{hs:List (V×D×List Addr)}{ρ:En}{Dd:Ends}{o:Out}(hN:X.N.Nodup)(hx:X.ex=[])(hsub:Qqo X.K sub)(hC:ClsAt X.K x C):
  ∀{hds:List ExceptHandler}{hl:List Hd},QgQ X hds hl->∀{F:Nat->List Addr}{σ:L2.St}{H:Hp}{s:Shared},Inv X pins σ H s->Rel X.K H0 A0 hs ρ F σ H->Fly X pins H ea C s->Qm9 sub x ρ hl=some o->Fits X.K H0 A0 hs Dd o→
   wpAny (model X.prog X.w) X.A (handleBy (.ref ea) X.env hds) (SP X pins Dd) X.xe s:=by
 intro hds hl h
 have test:∀{y:Str}{np pos:Pos}{nm:Option Str}{b₀:Stmt}{suite:List Stmt}{r:List ExceptHandler}{b:Bool}{σ:L2.St}{H:Hp}{s:Shared},Gl X y->(y == ("__debug__" :Str))=false->sub x y=some b->Inv X pins σ H s->Fly X pins H ea C s→
   (b=true->codeAny (model X.prog X.w) (X.A.mark (some (.ref ea))) (.handlers (.ref ea) [.ExceptHandler none nm (b₀::suite) pos] X.env) (λr s₂=>match r with
     | .ok f=>(match nm with
      | none=>SP X pins Dd f s₂
      | some n=>wpAny (model X.prog X.w) X.A (do bindName X.env n .none;unbindBehindTheSuite X.env n pos) (λ_ s₃=>SP X pins Dd f s₃) X.xe s₂)
     | .error x=>cameBackBy (model X.prog X.w) X.A X.env X.xe x s₂) s)→
   (b=false->wpAny (model X.prog X.w) X.A (handleBy (.ref ea) X.env r) (SP X pins Dd) X.xe s)->wpAny (model X.prog X.w) X.A (handleBy (.ref ea) X.env (.ExceptHandler (some (.Name y np)) nm (b₀::suite) pos::r)) (SP X pins Dd) X.xe s:=by
  intro y np pos nm b₀ suite r b σ H s hg hdb e1 I fly ht hf;obtain⟨C',c,k1,k2,k3⟩:=hsub x y b e1;cases QiF hC k1;obtain⟨B,a0,fl,_⟩:=fly;obtain⟨ob,hob,hc⟩:=fl.there;have LT:PySem.W.Looks (model X.prog X.w) s.heap (typeOf (.ref ea)) (.ref C):=hc▸(PySem.W.Looks.ld hob).andThen .now;refine wpAny_handleBy_cons (codeAny_handlers_test (QrW (X:=HS.inH X ea) (I.inH (ea:=ea)) hg hdb k2 ((PySem.W.exm_one I.kIn LT k3).here ?_))) (by intro q;cases q);cases b with
  | true=>exact ht rfl
  | false=>exact hf rfl
 induction h with
 | nil=>intro F σ H s I rel fly e q;cases e
 | @bare y np pos b₀ suite r hr f hg hdb hS t ih=>
  intro F σ H s I rel fly e q;refine Qi e λb e1 e=>?_;refine test hg hdb e1 I fly (λhb=>?_) λhb=>?_
  .subst hb;rw[if_pos rfl]at e;obtain⟨B,a0,fl,cov,old,pb⟩:=fly;refine codeAny_handlers_suite (lands_againW fl λh' fl' up=>?_);have I1:=Qhd (s':={s with heap:=h'}) I rfl I.bare hx fl.1 fl'.1 up cov old pb;exact wpAny_mono (hS ea H0 A0 pins _ σ H Dd (I1.inH (ea:=ea)) ⟨ρ,hs,F,o,rel,e,q⟩) (λf s2 hq=>SP.QgM I.ok hq) λ_ _ z=>z.elim
  .subst hb;rw[if_neg ZK]at e;exact ih I rel fly e q
 | @as y n np pos b₀ suite r hr f i hg hdb hi hl hS t ih=>
  intro F σ H s I rel fly e q;refine Qi e λb e1 e=>?_;refine test hg hdb e1 I fly (λhb=>?_) λhb=>?_
  .subst hb;rw[if_pos rfl]at e;obtain⟨o1,e2,e3⟩:=Zb.mp e;subst e3;obtain⟨B,a0,fl,cov,old,pb⟩:=fly;refine codeAny_handlers_suite_as (lands_againW fl λh' fl' up=>?_);have I1:=Qhd (s':={s with heap:=h'}) I rfl I.bare hx fl.1 fl'.1 up cov old pb;obtain⟨hn,I2⟩:=QwG I1 hx fl' cov old pb;have sm:QJ H (upd H ea (.ext (QdO ea C))):=λb u eb=>by rw[QQ (λz=>by rw[z,hn]at eb;cases eb)];exact eb
   refine QhF (X:=HS.inH X ea) (v:= .ref ea) (I2.inH (ea:=ea)) hN hi (.inl hl) rfl (λs3 I3=>?_) (.inr hl);obtain⟨F',rel'⟩:=(rel.ext sm).QA1 (i:=i) (d:= .exc x) (v:= .ref ea) (by rw[Rp];exact⟨⟨ea,rfl,C,hC,QaM⟩,rfl⟩) rfl;refine wpAny_mono (hS ea H0 A0 pins _ _ _ ⟨λσ' H'=>Dd.nx (σ'.set i none) H',Dd.rt,λσ' H'=>Dd.bk (σ'.set i none) H',λσ' H'=>Dd.ct (σ'.set i none) H'⟩ I3 ⟨_,hs,F',o1,rel',e2,?_⟩) (λf s4 hq=>?_) λ_ _ z=>z.elim
   .cases o1 with
    | nx ρ1=>exact λσ' H' F' rel'=>q _ _ _ rel'.QlR
    | bk ρ1=>exact λσ' H' F' rel'=>q _ _ _ rel'.QlR
    | ct ρ1=>exact λσ' H' F' rel'=>q _ _ _ rel'.QlR
    | rt d fr=>exact q
   .cases f with
    | next=>obtain⟨σ',H',I4,q4⟩:=hq;exact Qla (I4.QgM I.ok) hN hi hl λs5 I5=>⟨_,H',I5,q4⟩
    | brk=>obtain⟨σ',H',I4,q4⟩:=hq;exact Qla (I4.QgM I.ok) hN hi hl λs5 I5=>⟨_,H',I5,q4⟩
    | cont=>obtain⟨σ',H',I4,q4⟩:=hq;exact Qla (I4.QgM I.ok) hN hi hl λs5 I5=>⟨_,H',I5,q4⟩
    | ret u=>obtain⟨v,σ',H',I4,r4,q4⟩:=hq;exact Qla (I4.QgM I.ok) hN hi hl λs5 I5=>⟨v,_,H',I5,r4,q4⟩
  .subst hb;rw[if_neg ZK]at e;exact ih I rel fly e q
noncomputable abbrev Cx.chg(X:Cx)(xe:Value->Shared->Prop)(pn:List (Addr×Obj)):Cx:={X with xe:=xe,pn:=pn}
def _root_.L2.Inv.chg{xe:Value->Shared->Prop}(I:Inv X pins σ H s):Inv (Cx.chg X xe (X.pn++pins)) [] σ H s:=
 ⟨⟨I.ok.mod,I.ok.kind,I.ok.glob,I.ok.blt,I.ok.above,I.ok.inj,I.ok.has,I.ok.cab,I.ok.hd,I.ok.frames,I.ok.stk,I.ok.exf,I.ok.bs,I.ok.bsz,I.ok.noex,I.ok.exfs,I.ok.Qel,I.ok.frf⟩,I.os,I.bare,I.base,I.loc,I.cell,I.free,I.freeC,λp hp=>I.pin p (by simpa using hp),I.hok,I.len⟩
def _root_.L2.Inv.Qkk{xe:Value->Shared->Prop}{pins':List (Addr×Obj)}(ok:X.Ok)(I:Inv (Cx.chg X xe (X.pn++pins)) pins' σ H s):Inv X pins σ H s:=
 ⟨ok,I.os,I.bare,I.base,I.loc,I.cell,I.free,I.freeC,λp hp=>I.pin p (Zk _ hp),I.hok,I.len⟩
def QxT{sub:Str->Str->Option Bool}{body:List Stmt}{h₀:ExceptHandler}{hds:List ExceptHandler}{hl:List Hd}{f:DS}{fx:DX}{pos:Pos}(hN:X.N.Nodup)(hx:X.ex=[])(hst:X.stack=X.env::X.outer)(hf:X.env.frame=some X.env.locals)(hsub:Qqo X.K sub)
  (hb:∀xe pn,PassesOwn (model X.prog X.w) X.A X.env xe->SS (Cx.chg X xe pn) body f/\RzS (Cx.chg X xe pn) body fx) (hh:QgQ X (h₀::hds) hl):S1 X (.Try body (h₀::hds) [] [] pos) (Qfq f fx sub hl):=λH0 A0 pins s σ H Dd I=>exK λρ hs F o rel e q=>by
 refine wpAny_Try_except ?_;have pass:PassesOwn (model X.prog X.w) X.A X.env (λe s₁=>wpAny (model X.prog X.w) X.A (noteFrame e X.env) (λ_ s₂=>wpAny (model X.prog X.w) X.A (setFlight e none) (λ_ s₃=>wpAny (model X.prog X.w) X.A (handleBy e X.env (h₀::hds)) (SP X pins Dd) X.xe s₃) X.xe s₂) X.xe s₁):=PassesOwn.looking;obtain⟨b1,b2⟩:=hb _ (X.pn++pins) pass;unfold Qfq at e;split at e
 .rename_i o' eo;cases e;refine thn (b1 H0 A0 [] s σ H Dd I.chg ⟨ρ,hs,F,o,rel,eo,q⟩) λfl s1 hq=>?_;cases fl with
  | next=>obtain⟨σ',H',I1,q1⟩:=hq;exact wpAny_execs_nil ⟨σ',H',I1.Qkk I.ok,q1⟩
  | brk=>obtain⟨σ',H',I1,q1⟩:=hq;exact⟨σ',H',I1.Qkk I.ok,q1⟩
  | cont=>obtain⟨σ',H',I1,q1⟩:=hq;exact⟨σ',H',I1.Qkk I.ok,q1⟩
  | ret u=>obtain⟨v,σ',H',I1,r1,q1⟩:=hq;exact⟨v,σ',H',I1.Qkk I.ok,r1,q1⟩
 .obtain⟨⟨x,ρ'⟩,e1,e⟩:=bind1 e;refine thn (b2 H0 A0 [] s σ H ⟨λ_ _=>False,λ_ _=>False,λ_ _=>False,λ_ _=>False⟩ I.chg ⟨ρ,hs,F,x,ρ',rel,e1,λC ea s' hC T=>?_⟩) λfl s1 hq=>?_
  .refine Qo1 (X:=Cx.chg X _ (X.pn++pins)) (E:=X.xe) (Qk:=λs₃=>wpAny (model X.prog X.w) X.A (handleBy (.ref ea) X.env (h₀::hds)) (SP X pins Dd) X.xe s₃) T hx hst hf λpins' σ' H' F' s'' rel' I' fly=>?_;obtain⟨B,a0,fl,cov,old,pb⟩:=fly;exact QqO hN hx hsub hC hh (I'.Qkk I.ok) rel' ⟨B,a0,fl,cov,old,λp hp=>pb p (Zk _ hp)⟩ e q
  .cases fl with
   | next=>obtain⟨σ',H',I1,q1⟩:=hq;exact q1.elim
   | brk=>obtain⟨σ',H',I1,q1⟩:=hq;exact q1.elim
   | cont=>obtain⟨σ',H',I1,q1⟩:=hq;exact q1.elim
   | ret u=>obtain⟨v,σ',H',I1,r1,q1⟩:=hq;exact q1.elim
end
end HS
namespace HS
open PySem PySem.Spec L2 PyProof.Rows PySem.W
structure QhI (K:Frag) (C:Addr):Prop where
 cl:(clsIn K C).isSome=true
 ga:findIn K (.ref C) "__getattribute__" =some (some (.builtin "BaseException.__getattribute__"))
 hk:findIn K (.ref C) "__getattr__" =some none
 ca:findIn K (.ref C) "__class__" =some (some (.builtin "object.__class__"))
 mo:mroIn K C (.type "object")=some true
 be:subIn K (.ref C) (.type "BaseException")=some true
section
variable {prog:Program}{w:World}{A:Around}{E:Value->Shared->Prop}{s:Shared}{K:Frag}{a C:Addr}
def QiG{M:Model}{h:Heap}(x:QdO a C h):Looks M h (typeOf (.ref a)) (.ref C):=by
 obtain⟨o,vs,e,c,_⟩:=x;exact c▸(Looks.ld e).andThen .now
def Qwo{R:Result->Shared->Prop}{tp:Value}(z:QhI K C)(X:K.In s.heap)(x:QdO a C s.heap)(h:R (.ok (.ret (.ref C))) s):
  codeAny (model prog w) A (.call (.builtin "getset_descriptor.__get__") ⟨[.builtin "object.__class__",.ref a,tp],[]⟩) R s:=by
 obtain⟨hh,g,dr,t,os⟩:=s;have T0:=QiG (M:=model prog w) x;have T1:=looks_mroIn (M:=model prog w) X z.mo
 refine codeAny_call_builtin KF.slot_gs.plain KF.entry_gs
  (KF.slot_gs.check _ _ _ _ _ _ _ _ KF.type_class (KF.args_gs _ _ _) ?_)
 unfold Builtin.«getset_descriptor.__get__» Builtin.Getset_descriptor.descrGet;rw[dga_obj];refine wpAny_bind (wpAny_pure ?_)
 unfold Builtin.Getset_descriptor.descrGetter Builtin.Getset_descriptor.descrCheckInstance
  Builtin.Getset_descriptor.descrNameAndClass isInstance
 simp only[KF.owner_class]
 repeat lk
 refine⟨Code.quiet_builtin _ nofun,
  codeAny_builtin KF.entry_class ?_⟩
 unfold Builtin.«object.__class__» shownTypeOf;repeat lk
 exact h
def Qso{tk:Tok}{Q:Fin->Shared->Prop}(z:QhI K C)(X:K.In s.heap)(x:QdO a C s.heap)(h:Q (.done (.ret (.ref C))) s):
  wpAny (model prog w) A (Builtin.«object.__getattribute__» ⟨[.ref a,.str "__class__" tk],[]⟩) Q E s:=by
 obtain⟨hh,g,dr,t,os⟩:=s;have T0:=QiG (M:=model prog w) x;have T1:=looks_findIn (M:=model prog w) X z.ca;have f5:=F.typeOf_object_class;have f6:=F.slot_gs_get.lookup;have f7:=F.slot_gs_set.lookup;obtain⟨o,vs,hx,hc,hd⟩:=id x;have hT5:(⟨hh,g,dr,t,os⟩:Shared).TypeIs (.builtin "object.__class__") "getset_descriptor" :=f5
 repeat (any_goals (first | assumption | (with_reducible refine wpAny_loadPart_at hx ?_;rw[hc]) | with_reducible refine T1.at ?_ | wp_step))
 refine Qwo z X x ?_
 repeat (any_goals (first | assumption | wp_step))
def QqK{M:Model}{nameV:Value}{Q:Unit->Shared->Prop}(z:QhI K C)(X:K.In s.heap)(x:QdO a C s.heap)(h:Q () s):wpAny M A (checkBuiltinCall "BaseException.__getattribute__" ⟨[.ref a,nameV],[]⟩) Q E s:=by
 obtain⟨hh,g,dr,t,os⟩:=s;have k1:builtinKind "BaseException.__getattribute__" =some .slot:= nofun
 have k2:splitId "BaseException.__getattribute__" =some ("BaseException","__getattribute__"):= nofun
 have T0:=QiG (M:=M) x;have T1:=looks_subIn (M:=M) X z.be;have T2:Looks M hh (isInstance (.ref a) (.type "BaseException")) true:=T0.andThen T1;have k3:=F.args_bexc_ga (.ref a) nameV;simp only[checkBuiltinCall,k1,k2];refine wpAny_bind (T2.at ?_);rw[if_neg ∅];have k4:Q () ⟨hh,g,dr,t,os⟩:=h
 repeat (any_goals (first | assumption | wp_step))
def Qyu{tk:Tok}{Q:Value->Shared->Prop}(z:QhI K C)(X:K.In s.heap)(x:QdO a C s.heap)(h:Q (.ref C) s):wpAny (model prog w) A (getAttrBy (.ref a) (.str "__class__" tk) false) Q E s:=by
 obtain⟨hh,g,dr,t,os⟩:=s;have T0:=QiG (M:=model prog w) x;have T1:=looks_findIn (M:=model prog w) X z.ga;have T2:=looks_findIn (M:=model prog w) X z.hk;have f3:=PySem.F.attr_ValueError.ga.bind (.ref a);have n2:(Value.builtin "BaseException.__getattribute__" == Value.builtin "object.__getattribute__")=false:= nofun
 have n1:(onTheHeap (Value.ref C) && Value.builtin "BaseException.__getattribute__" == Value.builtin "object.__getattribute__")=false:=by rw[n2];rfl
 obtain⟨o,vs,hx,hc,hd⟩:=id x
 repeat (any_goals (first | assumption | (with_reducible refine wpAny_loadPart_at hx ?_;rw[hc]) | with_reducible refine T1.at ?_ | with_reducible refine T2.at ?_ | wp_step))
 refine codeAny_call_builtin PySem.F.attr_ValueError.ga.plain F.entry_bexc_ga (QqK z X x (Qso z X x ?_));have k4:Q (.ref C) ⟨hh,g,dr,t,os⟩:=h
 repeat (any_goals (first | assumption | wp_step))
def Qt8{Q:Option Value->Shared->Prop}(z:QhI K C)(X:K.In s.heap)(x:QdO a C s.heap)(h:Q (some (.ref C)) {s with toks:=s.toks+1}):wpAny (model prog w) A (getAttr? (.ref a) "__class__") Q E s:=by
 obtain⟨hh,g,dr,t,os⟩:=s;have k4:Q (some (.ref C)) ⟨hh,g,dr,t+1,os⟩:=h;have X':K.In (⟨hh,g,dr,t+1,os⟩:Shared).heap:=X;have x':QdO a C (⟨hh,g,dr,t+1,os⟩:Shared).heap:=x;unfold getAttr? getAttrBy?
 repeat (any_goals (first | assumption | with_reducible apply Qyu z X' x' | wp_step))
def Qot(z:QhI K C):KitX K (.ref a) (.ref C) (QdO a C) where
 ty:=λ_ _ _ x=>QiG x
 it:=λ_ _ X _=>by
  have h0:=z.cl;unfold clsIn at h0;split at h0
  .rename_i ho;intro A' Q' E' s' k q;unfold isType loadHead;refine wpAny_bind ?_;exact wpAny_loadPart (k _ _ (X _ _ ho)) (wpAny_pure q)
  .cases h0
 ne:=λh tp dd its n sl X htp=>by
  have h0:=z.cl;refine Bool.eq_false_iff.mpr λq=>?_;obtain rfl:C=tp:=Value.ref.inj (beq_iff_eq.mp q);unfold clsIn at h0;split at h0
  .rename_i ho;have e:=X _ _ ho;rw[htp]at e;cases e
  .cases h0
 ca:=λX x k=>Qt8 z X x k
end
end HS
namespace HS
open PySem PySem.Spec L2 PyProof.Rows
def Qvd(K:Fgg)(x y:Str)(b:Bool):Prop:=∃C c,ClsAt K x C/\PySem.W.KtsName K y c/\PySem.W.exmOne K (.ref C) c=some b/\PySem.W.kitOne K (.ref C) c=some b/\QhI K C
def Qby(K:Fgg)(sub:Str->Str->Option Bool):Prop:=∀x y b,sub x y=some b->Qvd K x y b
def Qby.ok{K:Fgg}{sub:Str->Str->Option Bool}(h:Qby K sub):Qqo K sub:=λx y b e=>by
 obtain⟨C,c,h1,h2,h3,_⟩:=h x y b e;exact⟨C,c,h1,h2,h3⟩
noncomputable def vC:Value->V
 | .ref a=> .ref a
 | .type n=> .ty n
 | _=> .non
def Qr1{K:Fgg}{C:Addr}{c:Value}{b:Bool}(h:PySem.W.kitOne K (.ref C) c=some b):RelV (vC c) c:=by
 cases c with
 | ref a=>exact rfl
 | type n=>exact rfl
 | _=>
  unfold PySem.W.kitOne at h;split at h
  .rename_i q;have:=beq_iff_eq.mp q;cases this
  .cases h
noncomputable def anyS(sub:Str->Str->Option Bool)(x:Str):List Str->Option Bool
 | []=>some false
 | y::r=>(sub x y).bind λb=>(anyS sub x r).map λd=>b || d
noncomputable def QeV(sub:Str->Str->Option Bool)(ys:List Str)(fa:DE):DE:=λρ=>(fa ρ).bind λr=>match r.d with
 | .exc x=>(anyS sub x ys).map λb=>⟨.bl b,true,[]⟩
 | _=>none
section
variable {X:Cx}{a:Expr}{fa:DE}{p p2 pos:Pos}{sub:Str->Str->Option Bool}
def QA4(K:Fgg):List V->Hp->VK->Prop:=λxs H Q=>∃C a y,xs=[.ref a,y]/\H a=some (.ext (QdO a C))/\QhI K C∧
 ((∃c b,y=vC c/\PySem.W.kitOne K (.ref C) c=some b/\Q (.bl b) H)∨∃tp cs b,y= .ref tp/\H tp=some (.tup (cs.map vC))/\(∀c∈cs,RelV (vC c) c)/\PySem.W.kitAny K (.ref C) cs=some b/\Q (.bl b) H)
def QoB{v:V}{c c':Value}(hv:v=vC c)(h:RelV (vC c) c)(h':RelV v c'):c'=c:=by
 subst hv;cases c with
 | ref a=>exact h'
 | type n=>exact h'
 | none=>cases h';rfl
 | _=>cases h
def Qoy:∀{cs:List Value}{us:List Value},(∀c∈cs,RelV (vC c) c)->QH (cs.map vC) us->us=cs
 | [],_,_,.nil=>rfl
 | c::cs,_,h,.cons r t=>by
  rw[QoB rfl (h c Zw) r,Qoy (λc hc=>h c (Zc _ hc)) t]
def QsO:Qbo X (.builtin "isinstance") (QA4 X.K):=by
 intro pins s σ H xs us Q I r h;obtain⟨C,a,y,rfl,hH,z,h⟩:=h;obtain⟨u,w,rfl,ru,rw'⟩:=vals2 r;cases(show u=Value.ref a from ru);have xo:QdO a C s.heap:=(show Qb4 X.prog X.w H s.heap a (.ext (QdO a C))from I.hok a _ hH).1;rcases h with⟨c,b,rfl,k,q⟩ | ⟨tp,cs,b,rfl,ht,hr,k,q⟩
 .cases QoB rfl (Qr1 k) rw';exact Zar (Qot z) I.kIn xo k (λz=>nomatch z) λtk=>⟨.bl b,H,I.tok _,rfl,q⟩
 .cases(show w=Value.ref tp from rw');obtain⟨_,its,rv,o,e1,e2,n,e3⟩:=(show Qb4 X.prog X.w H s.heap tp (.tup (cs.map vC))from I.hok tp _ ht);have hits:=Qoy hr rv;subst hits;obtain⟨oc,od,odat,osl⟩:=o;dsimp only at e2 e3;subst e2 e3;exact PySem.W.kia_tup (Qot z) I.kIn xo e1 k (λz=>nomatch z) λtk=>⟨.bl b,H,I.tok _,rfl,q⟩
def QyT{y:Str}{c:Value}{np:Pos}(hg:Gl X y)(hdb:(y == ("__debug__" :Str))=false)(k:PySem.W.KtsName X.K y c)(hr:RelV (vC c) c):PE X (.Name y np) (tC (vC c)):=λpins s σ H Q I h=>QrW I hg hdb k ⟨vC c,H,I,hr,h⟩
def Qvk{y:Str}(hsub:Qby X.K sub)(hg:Gl X "isinstance")(hm:X.mg "isinstance" =none)(hy:Gl X y)(hdb:(y == ("__debug__" :Str))=false)(ha:SE X a fa)(he:starEach [a,.Name y p2] X.env=(false,eval a X.env)::starEach [.Name y p2] X.env):
  SE X (.Call (.Name "isinstance" p) [a,.Name y p2] [] pos) (QeV sub [y] fa):=λH0 A0 pins s σ H Q I=>exK λρ hs F r' rel e q=>by
 refine Qi e λr e1 e=>?_;split at e
 .rename_i x hd;obtain⟨b,eb,rfl⟩:=Zb.mp e;have eb':sub x y=some b:=by
   unfold anyS at eb;refine Qi eb λb' h1 h2=>?_;cases b' with
   | true=>cases h2;exact h1
   | false=>cases h2;exact h1
  obtain⟨C,c,k1,k2,k3,k4,k5⟩:=hsub x y b eb';refine QjY QsO hg hm Zbg (QbG (ha H0 A0) (QbG (QyT hy hdb k2 (Qr1 k4)) Qek) he) ∅ ∅ he (by rfl) pins s σ H Q I ?_;refine⟨ρ,hs,F,r,rel,e1,λv H1 G p=>?_⟩;have rp:=p.rp;rw[hd,Rp]at rp;obtain⟨⟨ea,rfl,C',hC',hH⟩,rfl⟩:=rp;cases QiF k1 hC';exact⟨C,ea,_,rfl,hH,k5,.inl ⟨c,b,rfl,k4,q _ H1 [] (.flat p.same .Qbt)⟩⟩
 .cases e
end
structure Qb8 (k:Nat) (A:Around):Prop where
 dp:A.depth+3*k+5<recursionLimit
 un:A.units+16*k+200<cLine
def Qzy{k:Nat}{A:Around}(r:Qa6 k A):Qb8 k A:=⟨r.dp,r.un⟩
def Qb8.mono{j k:Nat}{A:Around}(r:Qb8 k A)(h:j<=k):Qb8 j A:=⟨by have:=r.dp;omega,by have:=r.un;omega⟩
def Qb8.deeper{k:Nat}{A:Around}(r:Qb8 (k+1) A)(env:Env):Qb8 k (A.deeper env):=
 ⟨by have:=r.dp;show A.depth+1+3*k+5<_;omega,by have:=r.un;show A.units+3+16*k+200<_;omega⟩
def Qb8.units{k:Nat}{A:Around}(r:Qb8 k A):A.units+64<cLine:=by have:=r.un;omega
def Qb8.mark{k:Nat}{A:Around}{v:Option Value}(r:Qb8 k A):Qb8 k (A.mark v):=⟨r.dp,r.un⟩
structure FnH (P:Program) (w:World) (K:Fgg) (mg:Str->Option Value) (base:Heap) (k:Nat) (f:Addr) (fd:FuncData) (ps:List Str) (sp:Sp):Prop where
 len:∀vs H Q E,sp vs H Q E->vs.length=ps.length
 run:∀(A:Around) (outer:List Env) (s:Shared) (H:Hp) (args:Args) (us:List Value) (vs:List V) (Q:VK) (E:XK),Qb8 k A->QnU P w K mg base A outer s H->BindsTo s fd args (ps.zip us)->QH vs us->sp vs H Q E→
  codeAny (model P w) A (.call (.ref f) args) (CR CX0 outer P w H s Q E) s
section
variable {P:Program}{w:World}{K:Fgg}{mg:Str->Option Value}{base:Heap}
def FnH.mono{j k:Nat}{f:Addr}{fd:FuncData}{ps:List Str}{sp:Sp}(F:FnH P w K mg base j f fd ps sp)(h:j<=k):FnH P w K mg base k f fd ps sp:=⟨F.len,λA outer s H args us vs Q E hr=>F.run A outer s H args us vs Q E (hr.mono h)⟩
def QvS{x qual:Str}{st:Stmt}{f:Addr}{fd:FuncData}{N ps:List Str}{k:Nat}{sp:Sp}(F:Fun K x qual st f fd)(S:Qba N ps (Qh st))(len:∀vs H Q E,sp vs H Q E->vs.length=ps.length)
  (hbody:∀(cdv:Value) (A:Around) (outer:List Env) (s:Shared) (H:Hp) (vs:List V) (Q:VK) (E:XK),Qb8 k (A.deeper (envOfC qual (Qh st) s.heap.objs.size f cdv))->sp vs H Q E→
   ∃t,PSs (QcL CX0 P w K mg base N qual (Qh st) f cdv A outer s H E).nox (Qac st) t/\t {nx:=λ_ H'=>Q .non H',rt:=Q} (start N vs) H):FnH P w K mg base (k+1) f fd ps sp:=by
 obtain⟨oc,od,kV,doc,pm,an,cdv,ct,osl,rfl,lk,hcd⟩:=F.ex;refine⟨len,λA outer s H args us vs Q E hr e0 hb r hsp=>?_⟩;have hl:=len _ _ _ _ hsp;have KX:K.In s.heap:=e0.mod.kin.keeps λb o e=>(e0.bs b o e).1;have lim:s.heap.NoLimit:=e0.mod.nolimit.keeps λb o e=>(e0.bs b o e).1;have hkind:∀y∈ps.zip us,(Qh st).names.lookup y.1=some .local ∨((Qh st).names.lookup y.1=some .cell/\((cellsFrom (s.heap.objs.size+1) (Qh st).names []).lookup y.1).isSome=true):=λZ hy=>by
  obtain⟨n,v⟩:=Z;rcases S.par n (Zbf hy).1 with q | q
  .exact .inl q
  .exact .inr ⟨q,ZaQ _ _ _ (.inl q)⟩
 refine codeAny_call_function (by have:=hr.dp;omega) (KX _ _ lk) rfl S.co S.gen rfl (PySem.W.codeRec_of KX hcd) (hb _ _ _ _ ?_);refine wpAny_newFunctionEnv_cells S.kind hkind λenv he s1 x=>?_;subst he;refine⟨lim.keeps x.toInCall.keep,codeAny_func ?_⟩;obtain⟨t,ht,hq⟩:=hbody cdv A outer s H vs Q E (hr.deeper _) hsp;have I:Inv (QcL CX0 P w K mg base N qual (Qh st) f cdv A outer s H E) [] (start N vs) H s1:=Qmo S e0 hl r x;refine wpAny_mono (ht.nox [] s1 (start N vs) H _ I hq) (λfl s' hs=>?_) λe s' hs=>hs
 have fin:∀{σ':L2.St}{H':Hp}{v:V}{u:Value},Inv (QcL CX0 P w K mg base N qual (Qh st) f cdv A outer s H E) [] σ' H' s'->RelV v u->Q v H'->CE outer P w H s Q u s':=
  λ{σ' H' v u} J rv q=>⟨v,H',J.os,J.bare,J.base,J.hok,rv,q⟩
 cases fl with
 | ret u=>obtain⟨v,σ',H',J,rv,q⟩:=hs;exact fin J rv q
 | next=>obtain⟨σ',H',J,q⟩:=hs;exact fin (v:=V.non) (u:=Value.none) J rfl q
 | brk=>obtain⟨_,_,_,q⟩:=hs;exact False.elim q
 | cont=>obtain⟨_,_,_,q⟩:=hs;exact False.elim q
end
section
variable {X:Cx}{e:Expr}{es:List Expr}{fs:DA}{pos p:Pos}{x:Str}{n k:Nat}{f:Addr}{fd:FuncData}{ps:List Str}{den:Den}
def QtW(Fk:FnH X.prog X.w X.K X.mg X.base k f fd ps (spV X.K n den))(hr:Qb8 k X.A)(hg:Gl X x)(hm:X.mg x=some (.ref f))(hk:PySem.W.keepIn X.K (.ref f)=true)(hb:Binds X.K fd ps [])
  (ha:SA X (e::es) fs) (hdb:(x == ("__debug__" :Str))=false) (he:starEach (e::es) X.env=(false,eval e X.env)::starEach es X.env) (hpl:(backTo pos (starEach es X.env)).any (·.1)=false):
  SE X (.Call (.Name x p) (e::es) [] pos) (Ql n den [] fs):=λH0 A0=>by
 intro pins s σ H Q I h;have h:=Qis (X:=X) (dvs:=[]) (λH=>by simp[Rps]) h;refine wpAny_Call_Name_kw (QeJ I hg hm ?_ hdb);refine Zbk (h₀:=X.base) I.ok.mod.kin hk (thn (ha H0 A0 pos pins s σ H _ I h) λus s1 ⟨vs,H1,I1,r,q⟩=>⟨I1.kIn,?_⟩) he hpl;have r2:QH (vs++[]) (us++[]):=by rw[ZJ,ZJ];exact r
 have hl:(us++[]).length=ps.length:=by rw[← r2.length];exact Fk.len _ _ _ _ q
 refine wpAny_call (codeAny_mono (Fk.run X.A X.stack s1 H1 ⟨us,[]⟩ (us++[]) (vs++[]) Q E0 hr I1.Qud (hb s1 us I1.kIn hl) r2 q) λr s' hq=>?_);cases r with
 | error ev=>exact Qqq pins σ H1 s1 ev s' I1 hq
 | ok fl=>
  cases fl with
  | ret u=>exact I1.after hq
  | next=>exact False.elim hq
  | brk=>exact False.elim hq
  | cont=>exact False.elim hq
end
def Qfo(X:Cx)(hΓ:List (Str×FnR)):Prop:=∀x r,look x hΓ=some r->∃k f fd ps,FnH X.prog X.w X.K X.mg X.base k f fd ps (spV X.K r.n r.den)/\Qb8 k X.A/\X.mg x=some (.ref f)/\PySem.W.keepIn X.K (.ref f)=true/\Binds X.K fd ps []
def Qfo.inH{X:Cx}{hΓ:List (Str×FnR)}{ea:Addr}(h:Qfo X hΓ):Qfo (HS.inH X ea) hΓ:=λx r e=>by
 obtain⟨k,f,fd,ps,h1,h2,h3⟩:=h x r e;exact⟨k,f,fd,ps,h1,h2.mark,h3⟩
section
variable (P:Program) (w:World) (K:Fgg) (mg:Str->Option Value) (base:Heap)
def Qhj(k:Nat)(x:Str)(r:FnR):Prop:=∃f fd ps,FnH P w K mg base k f fd ps (spV K r.n r.den)/\mg x=some (.ref f)/\PySem.W.keepIn K (.ref f)=true/\Binds K fd ps []
def QeM(k:Nat)(Γ:List (Str×FnR)):Prop:=∀x r,look x Γ=some r->Qhj P w K mg base k x r
end
section
variable {P:Program}{w:World}{K:Fgg}{mg:Str->Option Value}{base:Heap}
def QeM.nil{k:Nat}:QeM P w K mg base k []:=λx r h=>by cases h
def Qhj.mono{j k:Nat}{x:Str}{r:FnR}(h:Qhj P w K mg base j x r)(hk:j<=k):Qhj P w K mg base k x r:=by
 obtain⟨f,fd,ps,h1,h2⟩:=h;exact⟨f,fd,ps,h1.mono hk,h2⟩
def QeM.mono{j k:Nat}{Γ:List (Str×FnR)}(t:QeM P w K mg base j Γ)(hk:j<=k):QeM P w K mg base k Γ:=λx r e=>(t x r e).mono hk
def QeM.cons{k:Nat}{Γ:List (Str×FnR)}{x:Str}{r:FnR}(t:QeM P w K mg base k Γ)(h:Qhj P w K mg base (k+1) x r):QeM P w K mg base (k+1) ((x,r)::Γ):=λy q e=>by
 unfold look at e;split at e
 .rename_i z;cases e;subst z;exact h
 .exact(t y q e).mono (Zh _)
end
def QzZ{X:Cx}{hΓ:List (Str×FnR)}{k:Nat}(hr:Qa6 k X.A)(t:QeM X.prog X.w X.K X.mg X.base k hΓ):Qfo X hΓ:=λz r e=>by
 obtain⟨f',fd',ps',h1,h2⟩:=t z r e;exact⟨k,f',fd',ps',h1,Qzy hr,h2⟩
noncomputable def QyJ:Const->Option DE
 | .bool b=>some (dC (.bl b))
 | .str x=>some (dC (.str x))
 | .int i=>some (dC (.int i))
 | .none=>some (dC .non)
 | _=>none
noncomputable def QAP:List Expr->Option (Expr×Expr)
 | [a,y]=>some (a,y)
 | _=>none
noncomputable def Qya(Θ:Th):Expr->Option (List Str)
 | .Name y _=>if Θ.gl y=true then some [y]else none
 | _=>none
mutual
noncomputable def Qbz(n:Nat)(Θ:Th)(sub:Str->Str->Option Bool)(hΓ:List (Str×FnR))(e:Expr):Option DE:=match n with
 | 0=>none
 | n+1=>match e with
  | .Name x _=>(Θ.slot x).map Qc
  | .Constant v _ _=>QyJ v
  | .UnaryOp o a _=>match o with
   | .Not=>(Qbz n Θ sub hΓ a).map Qtg
   | _=>none
  | .BoolOp o es p=>match es with
   | []=>none
   | a::r=>match r with
    | []=>Qbz n Θ sub hΓ a
    | b::r=>match o with
     | .And=>(Qbz n Θ sub hΓ a).bind λfa=>(Qbz n Θ sub hΓ (.BoolOp .And (b::r) p)).map λfb=>QtF fa fb
     | .Or=>none
  | .BinOp a o b _=>match o with
   | .Add=>(Qbz n Θ sub hΓ a).bind λfa=>(Qbz n Θ sub hΓ b).map λfb=>QL fa fb
   | .Mult=>(Qbz n Θ sub hΓ a).bind λfa=>(Qbz n Θ sub hΓ b).map λfb=>QaD fa fb
   | _=>none
  | .Tuple es _ _=>(QgZ n Θ sub hΓ es).map Qaj
  | .Call f as kw _=>match kw with
   | _::_=>none
   | []=>(QbQ f).bind λx=>if Θ.gl x=true then if x= "isinstance" then(QAP as).bind λp=>(Qya Θ p.2).bind λys=>(Qbz n Θ sub hΓ p.1).map λfa=>QeV sub ys fa
    else if x= "int" then match as with
     | []=>none
     | a::as=>match as with
      | []=>(Qbz n Θ sub hΓ a).map λfa=>dBf Qde (Qa fa Qb)
      | _=>none
    else match as with
     | []=>none
     | a::as=>(look x hΓ).bind λr=>(QgZ n Θ sub hΓ (a::as)).map λfs=>Ql r.n r.den [] fs
    else none
  | _=>none
noncomputable def QgZ(n:Nat)(Θ:Th)(sub:Str->Str->Option Bool)(hΓ:List (Str×FnR))(es:List Expr):Option DA:=match n with
 | 0=>none
 | n+1=>match es with
  | []=>some Qb
  | e::es=>(Qbz n Θ sub hΓ e).bind λfa=>(QgZ n Θ sub hΓ es).map λfs=>Qa fa fs
end
def Qjn{n:Nat}{Θ:Th}{sub:Str->Str->Option Bool}{hΓ:List (Str×FnR)}{e:Expr}{f:DE}(h:Qbz n Θ sub hΓ e=some f)(es:List Expr)(env:Env):starEach (e::es) env=(false,eval e env)::starEach es env:=by
 cases n with
 | zero=>exact nn h
 | succ n=>cases e<;>first | rfl | exact nn h
def QnS:∀{n:Nat}{Θ:Th}{sub:Str->Str->Option Bool}{hΓ:List (Str×FnR)}{es:List Expr}{fs:DA},QgZ n Θ sub hΓ es=some fs->∀(pos:Pos) (env:Env),(backTo pos (starEach es env)).any (·.1)=false
 | 0,_,_,_,_,_,h,_,_=>nomatch (show(none:Option DA)=some _ from h)
 | n+1,_,_,_,[],_,h,_,_=>rfl
 | n+1,_,_,_,e::es,_,h,pos,env=>by
  refine Qi (show Option.bind _ _=some _ from h) λfa h1 h=>?_;refine mapR (M:=λ_=>(backTo pos (starEach (e::es) env)).any (·.1)=false) h λfs' h2=>?_;rw[Qjn h1];have:=QnS h2 pos env;simpa[backTo]using this
def QAz{X:Cx}{n:Nat}{Θ:Th}{sub:Str->Str->Option Bool}{hΓ:List (Str×FnR)}{a:Expr}{as:List Expr}{fs:DA}(h:QgZ n Θ sub hΓ (a::as)=some fs)(pos:Pos):
  starEach (a::as) X.env=(false,eval a X.env)::starEach as X.env/\(backTo pos (starEach as X.env)).any (·.1)=false:=by
 cases n with
 | zero=>exact nn h
 | succ n=>
  refine Qi (show Option.bind _ _=some _ from h) λfa h1 h=>?_;exact mapR (M:=λ_=>starEach (a::as) X.env=(false,eval a X.env)::starEach as X.env/\(backTo pos (starEach as X.env)).any (·.1)=false) h λfs' h2=>⟨Qjn h1 _ _,QnS h2 pos X.env⟩
def QAN{X:Cx}{Θ:Th}{sub:Str->Str->Option Bool}{a e:Expr}{fa:DE}{ys:List Str}{p pos:Pos}(ok:CtxB X Θ)(hs:Qby X.K sub)(g1:Θ.gl "isinstance" =true)(h:Qya Θ e=some ys)(ha:SE X a fa)(he:starEach [a,e] X.env=(false,eval a X.env)::starEach [e] X.env):SE X (.Call (.Name "isinstance" p) [a,e] [] pos) (QeV sub ys fa):=by
 obtain⟨a1,a2,a3⟩:=QdF ok g1;cases e with
 | Name y p2=>
  change(if Θ.gl y=true then some [y]else none)=some ys at h;split at h
  .rename_i g2;cases h;obtain⟨b1,b2,b3⟩:=QdF ok g2;exact Qvk hs a1 (ok.mg _ nofun) b1 b2 ha he
  .cases h
 | _=>exact nomatch (show(none:Option (List Str))=some _ from h)
structure QyG (n:Nat):Prop where
 E:∀X Θ sub hΓ e f,CtxB X Θ->Qby X.K sub->Qfo X hΓ->Qbz n Θ sub hΓ e=some f->SE X e f
 A:∀X Θ sub hΓ es f,CtxB X Θ->Qby X.K sub->Qfo X hΓ->QgZ n Θ sub hΓ es=some f->SA X es f
def Qy3{n:Nat}(ih:QyG n)(X:Cx)(Θ:Th)(sub:Str->Str->Option Bool)(hΓ:List (Str×FnR))(e:Expr)(f:DE)(ok:CtxB X Θ)(hs:Qby X.K sub)(hu:Qfo X hΓ)(h:Qbz (n+1) Θ sub hΓ e=some f):SE X e f:=by
 have ihE:=λe f=>ih.E X Θ sub hΓ e f ok hs hu;cases e with
 | Name x p=>exact mapR (show Option.map _ _=some _ from h) λi h1=>Qrv (Qdp ok h1)
 | Constant v k p=>
  change QyJ v=some f at h;cases v with
  | bool b=>cases h;exact QgO Qup (λ_ _=> .Qbt) rfl
  | str x=>cases h;exact QgO Qrs (λ_ _=> .str_mk) rfl
  | int i=>cases h;exact QgO QrZ (λ_ _=> .int_mk) rfl
  | none=>cases h;exact QgO Qrz (λ_ _=> .Qey) rfl
  | _=>exact nn h
 | UnaryOp o a p=>
  cases o with
  | Not=>exact mapR (show Option.map _ _=some _ from h) λfa h1=>Qro (ihE _ fa h1)
  | _=>exact nn h
 | BoolOp o es p=>
  cases es with
  | nil=>exact nn h
  | cons a r=>
   cases r with
   | nil=>exact Qoo (ihE _ f h)
   | cons b r=>
    cases o with
    | And=>exact bindR h λfa fb h1 h2=>Qq3 (ihE _ fa h1) (ihE _ fb h2)
    | Or=>exact nn h
 | BinOp a o b p=>
  cases o with
  | Add=>exact bindR h λfa fb h1 h2=>QrB (ihE _ fa h1) (ihE _ fb h2)
  | Mult=>exact bindR h λfa fb h1 h2=>QrJ (ihE _ fa h1) (ihE _ fb h2)
  | _=>exact nn h
 | Tuple es k p=>exact mapR (show Option.map _ _=some _ from h) λfs h1=>QqT (ih.A X Θ sub hΓ _ fs ok hs hu h1)
 | Call fn as kw p=>
  cases kw with
  | cons _ _=>exact nn h
  | nil=>
   refine Qi (show(QbQ fn).bind _=some _ from h) λx hx h=>QmR (G:=λt=>SE X (.Call t as [] p) f) hx λnp=>?_;split at h
   .rename_i hg;split at h
    .rename_i hi;subst hi;refine Qi h λq hq h=>?_;rcases as with _ | ⟨a,_ | ⟨y,_ | ⟨z,as⟩⟩⟩
     .cases hq
     .cases hq
     .cases hq;exact bindR h λys fa h1 h2=>QAN ok hs hg h1 (ihE _ fa h2) (Qjn h2 _ _)
     .cases hq
    split at h
    .rename_i hi _ hi2;subst hi2;rcases as with _ | ⟨a,_ | ⟨y,as⟩⟩
     .cases h
     .refine mapR h λfa h1=>?_;obtain⟨a1,a2,a3⟩:=QdF ok hg;exact QnX Qmw QrU a1 (ok.mg _ nofun) ZaW (Qcl (ihE _ fa h1) Qdy (Qjn h1 _ _)) ∅ ∅ (Qjn h1 _ _) rfl
     .cases h
    .cases as with
     | nil=>cases h
     | cons a as=>
      refine Qi h λr hr h=>?_;refine mapR h λfs h1=>?_;obtain⟨a1,a2,a3⟩:=QdF ok hg;obtain⟨k,f,fd,ps,F1,F2,F3,F4,F5⟩:=hu _ r hr;obtain⟨s1,s2⟩:=QAz (X:=X) h1 _;exact QtW F1 F2 a1 F3 F4 F5 (ih.A X Θ sub hΓ _ fs ok hs hu h1) a2 s1 s2
   .cases h
 | _=>exact nn h
def QhH:∀n,QyG n
 | 0=>⟨λ_ _ _ _ _ _ _ _ _ h=>(nn h),λ_ _ _ _ _ _ _ _ _ h=>(nn h)⟩
 | n+1=>⟨Qy3 (QhH n),λX Θ sub hΓ es f ok hs hu h=>by
  cases es with
  | nil=>cases(show some Qb=some f from h);exact Qdy
  | cons e es=>exact bindR h λfa fs h1 h2=>Qcl ((QhH n).E X Θ sub hΓ _ fa ok hs hu h1) ((QhH n).A X Θ sub hΓ _ fs ok hs hu h2) (Qjn h1 _ _)⟩
noncomputable def Qdz(n:Nat)(Θ:Th)(sub:Str->Str->Option Bool)(hΓ:List (Str×FnR))(e:Expr):Option DT:=match n with
 | 0=>none
 | n+1=>match e with
  | .UnaryOp o a _=>match o with
   | .Not=>(Qdz n Θ sub hΓ a).map Qcs
   | _=>none
  | .BoolOp o es p=>match o with
   | .Or=>match es with
    | []=>none
    | a::es=>match es with
     | []=>Qdz n Θ sub hΓ a
     | b::r=>(Qdz n Θ sub hΓ a).bind λfa=>(Qdz n Θ sub hΓ (.BoolOp .Or (b::r) p)).map λfb=>bOr fa fb
   | _=>none
  | .Call f as kw p=>(Qbz 20 Θ sub hΓ (.Call f as kw p)).map Qf
  | _=>none
def Qfc:∀(n:Nat) {X:Cx}{Θ:Th}{sub:Str->Str->Option Bool}{hΓ:List (Str×FnR)}{e:Expr}{f:DT},CtxB X Θ->Qby X.K sub->Qfo X hΓ->Qdz n Θ sub hΓ e=some f->ST X e f
 | 0,_,_,_,_,_,_,_,_,_,h=>nomatch (show(none:Option DT)=some _ from h)
 | n+1,X,Θ,sub,hΓ,e,f,ok,hs,hu,h=>by
  cases e with
  | UnaryOp op a pos=>
   cases op with
   | Not=>exact mapR (show(Qdz n Θ sub hΓ a).map Qcs=some f from h) λfa h1=>Qrx (Qfc n ok hs hu h1)
   | _=>exact nn h
  | BoolOp op es pos=>
   cases op with
   | And=>exact nn h
   | Or=>
    rcases es with _ | ⟨a,_ | ⟨b,r⟩⟩
    .exact nn h
    .exact(QrM (Qfc n ok hs hu (show Qdz n Θ sub hΓ a=some f from h))).st
    .refine bindR (show((Qdz n Θ sub hΓ a).bind λfa=>(Qdz n Θ sub hΓ (.BoolOp .Or (b::r) pos)).map λfb=>bOr fa fb)=some f from h) λfa fb h1 h2=>?_;have hb:=Qfc n ok hs hu h2;exact(Quy (Qfc n ok hs hu h1) (λH0 A0 wh pins s σ H Q I q=>by have:=hb H0 A0 pins s σ H Q I q;exact this)).st
  | Call g as kw p=>exact mapR (show(Qbz 20 Θ sub hΓ (.Call g as kw p)).map Qf=some f from h) λfa h1=>Qsb ((QhH 20).E X Θ sub hΓ _ fa ok hs hu h1) λ_=>rfl
  | _=>exact nn h
noncomputable def QtX(a:List Stmt):Option Expr:=match a with
 | []=>none
 | s::r=>match r with
  | []=>match s with
   | .Return v _=>v
   | _=>none
  | _=>none
def QtP{a:List Stmt}{e:Expr}(h:QtX a=some e):∃p,a=[.Return (some e) p]:=by
 rcases a with _ | ⟨s,_ | ⟨t,r⟩⟩
 .cases h
 .cases s with
  | Return v p=>cases(show v=some e from h);exact⟨p,rfl⟩
  | _=>exact nn h
 .cases h
noncomputable def Qrh(Θ:Th)(sub:Str->Str->Option Bool)(hΓ:List (Str×FnR))(st:Stmt):Option DS:=match st with
 | .Assign ts e _=>(QsX ts).bind λx=>(Θ.QbT x).bind λi=>if Qjo e=false/\QfQ e=true then(Qbz 20 Θ sub hΓ e).map λfa=>Qu i fa else none
 | .Return v _=>v.bind λe=>(Qbz 20 Θ sub hΓ e).map λfa=>QB fa
 | .If c a b _=>match b with
  | []=>(QtX a).bind λe=>(Qdz 20 Θ sub hΓ c).bind λg=>(Qbz 20 Θ sub hΓ e).map λfa=>sIf g (Qd (QB fa) Qe) Qe
  | _=>none
 | _=>none
def Qsl{X:Cx}{Θ:Th}{sub:Str->Str->Option Bool}{hΓ:List (Str×FnR)}{st:Stmt}{f:DS}(ok:CtxB X Θ)(hs:Qby X.K sub)(hu:Qfo X hΓ)(h:Qrh Θ sub hΓ st=some f):S1 X st f:=by
 cases st with
 | Assign ts e p=>
  refine Qi (show(QsX ts).bind _=some _ from h) λx hx h'=>?_;clear h;rcases ts with _ | ⟨t,_ | ⟨t2,ts⟩⟩
  .cases hx
  .refine QmR (G:=λt=>S1 X (.Assign [t] e p) f) hx λq=>?_;refine Qi h' λi hi h=>?_;split at h
   .rename_i hc;refine mapR h λfa h1=>?_;obtain⟨a1,a2,a3⟩:=Qct ok hi;exact QkM λH0 A0=>Qgd (by rw[ok.N];exact ok.nd) a1 a2 ((QhH 20).E X Θ sub hΓ _ fa ok hs hu h1 H0 A0) (QdU hc.2) a3
   .cases h
  .cases hx
 | Return v p=>
  refine Qi (show v.bind _=some _ from h) λe he h=>?_;cases he;exact mapR h λfa h1=>Qok ((QhH 20).E X Θ sub hΓ _ fa ok hs hu h1)
 | If c a b p=>
  rcases b with _ | ⟨t,r⟩
  .refine Qi (show(QtX a).bind _=some _ from h) λe he h=>?_;obtain⟨q,rfl⟩:=QtP he;exact bindR h λg fa h1 h2=>QuN (Qfc 20 ok hs hu h1) (QlX (Qok ((QhH 20).E X Θ sub hΓ _ fa ok hs hu h2)) Qk3) Qk3
  .exact nn h
 | _=>exact nn h
noncomputable def QiJ(Θ:Th)(sub:Str->Str->Option Bool)(hΓ:List (Str×FnR)):List Stmt->Option DS
 | []=>some Qe
 | st::r=>(Qrh Θ sub hΓ st).bind λf=>(QiJ Θ sub hΓ r).map λg=>Qd f g
def QiN{X:Cx}{Θ:Th}{sub:Str->Str->Option Bool}{hΓ:List (Str×FnR)}(ok:CtxB X Θ)(hs:Qby X.K sub)(hu:Qfo X hΓ):∀(sts:List Stmt) (f:DS),QiJ Θ sub hΓ sts=some f->SS X sts f
 | [],f,h=>by cases(show some Qe=some f from h);exact Qk3
 | st::r,f,h=>bindR h λf g h1 h2=>QlX (Qsl ok hs hu h1) (QiN ok hs hu r g h2)
noncomputable def hd1(Θ:Th)(y:Str)(f:DS):Option Str->Option Hd
 | none=>some (y,none,f)
 | some nm=>if look nm Θ.sc=some .local then(Θ.QbT nm).map λi=>(y,some i,f)else none
noncomputable def QnP(Θ:Th)(sub:Str->Str->Option Bool)(hΓ:List (Str×FnR)):List ExceptHandler->Option (List Hd)
 | []=>some []
 | .ExceptHandler t nm bs _::r=>match bs with
  | []=>none
  | b::bs=>t.bind λt=>(QbQ t).bind λy=>if Θ.gl y=true then(QiJ Θ sub hΓ (b::bs)).bind λf=>(hd1 Θ y f nm).bind λq=>(QnP Θ sub hΓ r).map λl=>q::l else none
def QtB{X:Cx}{Θ:Th}{ea:Addr}(ok:CtxB X Θ):CtxB (inH X ea) Θ:=⟨ok.N,ok.nd,ok.lc,ok.ce,ok.fe,ok.gl,ok.units,ok.mg,ok.cs⟩
def Qmx{X:Cx}{Θ:Th}{sub:Str->Str->Option Bool}{hΓ:List (Str×FnR)}(ok:CtxB X Θ)(hs:Qby X.K sub)(hu:Qfo X hΓ):∀(hds:List ExceptHandler) (hl:List Hd),QnP Θ sub hΓ hds=some hl->QgQ X hds hl
 | [],f,h=>by cases(show some []=some f from h);exact .nil
 | .ExceptHandler t nm bs p::r,l,h=>by
  cases bs with
  | nil=>exact nomatch (show(none:Option (List Hd))=some _ from h)
  | cons b bs=>
   refine Qi (show t.bind _=some _ from h) λt ht h=>?_;cases ht;refine Qi h λy hy h=>QmR (G:=λt=>QgQ X (.ExceptHandler (some t) nm (b::bs) p::r) l) hy λnp=>?_;split at h
   .rename_i hc;obtain⟨g1,g2,_⟩:=QdF ok hc;refine Qi h λf h1 h=>?_;refine bindR h λq l hq h2=>?_;have hS:=λea=>QiN (QtB (ea:=ea) ok) hs hu.inH _ f h1;have tl:=Qmx ok hs hu r l h2;cases nm with
    | none=>cases(show some (y,none,f)=some q from hq);exact .bare g1 g2 hS tl
    | some nm=>
     change(if look nm Θ.sc=some .local then(Θ.QbT nm).map λi=>(y,some i,f)else none)=some q at hq;split at hq
     .rename_i hn;refine mapR (M:=λq=>QgQ X (.ExceptHandler (some (.Name y np)) (some nm) (b::bs) p::r) (q::l)) hq λi hi=>?_;obtain⟨a1,a2,a3⟩:=Qct ok hi;exact .as g1 g2 a1 (ok.lc nm hn) hS tl
     .cases hq
   .cases h
noncomputable def Qs7(n:Nat)(Θ:Th)(ΘX:ThX)(sub:Str->Str->Option Bool)(hΓ:List (Str×FnR))(st:Stmt):Option DS:=match st with
 | .Try body (h::hs) [] [] _=>(QaR n Θ body).bind λf=>(Qeo n Θ ΘX body).bind λfx=>(QnP Θ sub hΓ (h::hs)).map λhl=>Qfq f fx sub hl
 | _=>none
def Qu8{X:Cx}{Θ:Th}{xe:Value->Shared->Prop}{pn:List (Addr×Obj)}(ok:QS X Θ)(ht:∀st f,Θ.tr st=some f->∀X,S1 X st f)(hte:∀e f,Θ.te e=some f->∀X,SE X e f)(hp:PassesOwn (model X.prog X.w) X.A X.env xe):QS (Cx.chg X xe pn) Θ:=
 ⟨⟨ok.N,ok.nd,ok.lc,ok.ce,ok.fe,ok.gl,ok.units,ok.mg,ok.cs⟩,ok.calm,hp,ok.fns,λst f h=>ht st f h _,λe f h=>hte e f h _⟩
def QwA{X:Cx}{Θ:Th}{ΘX:ThX}{sub:Str->Str->Option Bool}{hΓ:List (Str×FnR)}{n:Nat}{st:Stmt}{f:DS}(ok:QS X Θ)(ht:∀st f,Θ.tr st=some f->∀X,S1 X st f)(hte:∀e f,Θ.te e=some f->∀X,SE X e f)(xk:XOk X ΘX)(hs:Qby X.K sub)(hu:Qfo X hΓ)(h:Qs7 n Θ ΘX sub hΓ st=some f):S1 X st f:=by
 unfold Qs7 at h;split at h
 .rename_i body h0 hds pos;refine Qi h λfb h1 h=>?_;obtain⟨fx,hl,h2,h3,rfl⟩:=QcY h;have hN:X.N.Nodup:=by rw[ok.N];exact ok.nd
  refine QxT hN xk.ex xk.stk xk.fr hs.ok (λxe pn hp=>?_) (Qmx ok.toCtxB hs hu _ hl h3);have ok':=Qu8 (pn:=pn) ok ht hte hp;have xk':XOk (Cx.chg X xe pn) ΘX:=⟨xk.ex,xk.stk,xk.fr,xk.fx,xk.cl⟩;exact⟨(QhY n).Ss _ _ _ fb ok' h1,(QmS n).Xs _ _ _ _ fx ok' xk' h2⟩
 .cases h
noncomputable def thT(n:Nat)(st:Stmt)(Γ:List (Str×FnR))(cs:List (Str×Cn))(ΘX:ThX)(sub:Str->Str->Option Bool)(hΓ:List (Str×FnR)):Th:={Qc6 st Γ cs with tr:=Qs7 n (Qc6 st Γ cs) ΘX sub hΓ}
section
variable {P:Program}{w:World}{K:Fgg}{mg:Str->Option Value}{base:Heap}
def Qlr{h:Heap}{x:Str}{st:Stmt}{ps:List Str}{k n m:Nat}{Γ:List (Str×FnR)}{Γx:List (Str×(Nat×(List D->Option Str)))}{cls:List Str}{cs:List (Str×Cn)}{sub:Str->Str->Option Bool}{hΓ:List (Str×FnR)}{g:DS}(X:K.In h)(G:h.Ns mainGlobals mg)(F:Fact K x st)(S:Qba (namesOf (Qh st)) ps (Qh st))(B:Qag x st ps)(M:Qdu mg cs)(tab:Qbr P w K mg base k Γ)(tabx:QeI P w K mg base k Γx)
  (hcl:∀x∈cls,Qh4 K x) (hs:Qby K sub) (tabh:QeM P w K mg base k hΓ) (hc:QaR n (thT m st Γ cs ⟨Γx,cls⟩ sub hΓ) (Qac st)=some g):Known P w K mg base (k+1) x ⟨ps.length,[],Qr (namesOf (Qh st)).length g⟩:=by
 obtain⟨f,fd,Fn,a⟩:=F.ex;refine⟨f,fd,ps,?_,Zac X G a,Fn.kp,λm hm=>⟨[],[],Fn.binds (B ·),.nil,λH=>by simp[Rps]⟩⟩;refine Fn.ok S (Qi3 rfl) λcdv A outer s H vs Q E hr h=>?_;obtain⟨ds,L,d,fr,rps,hl,hd,q⟩:=h;have ok:=Qnn (P:=P) (w:=w) (K:=K) (base:=base) (qual:=x) (f:=f) (outer:=outer) (H:=H) (E:=E) S M tab hr;have xk:XOk (QcL CX0 P w K mg base (namesOf (Qh st)) x (Qh st) f cdv A outer s H E).nox ⟨Γx,cls⟩:=⟨rfl,rfl,rfl,λz r e=>by
  obtain⟨f',fd',ps',h1,h2,h3,h4,h5⟩:=tabx z r e;exact⟨k,f',fd',ps',h1,hr,h2,h3,h4,h5⟩,hcl⟩
 have ok2:QS (QcL CX0 P w K mg base (namesOf (Qh st)) x (Qh st) f cdv A outer s H E).nox (thT m st Γ cs ⟨Γx,cls⟩ sub hΓ):=
  ⟨⟨ok.N,ok.nd,ok.lc,ok.ce,ok.fe,ok.gl,ok.units,ok.mg,ok.cs⟩,ok.calm,ok.pass,ok.fns,λst' f' h'=>QwA ok (λ_ _ h=>(nomatch h)) (λ_ _ h=>(nomatch h)) xk hs (QzZ hr tabh) h',λ_ _ h=>(nomatch h)⟩
 refine⟨_,(QhY n).Ss _ _ _ g ok2 hc H L,?_⟩;obtain⟨F0,rel⟩:=QdV (N:=namesOf (Qh st)) rps;unfold Qr at hd;refine Qi hd λo ho hd=>?_;refine⟨_,[],F0,o,rel,ho,?_⟩;cases o with
 | nx ρ=>
  cases hd;exact λσ H' F' rel'=>q .non H' [] ⟨rel'.same,.Qey,λa ha=>by simp at ha,λ_=>⟨ZZ,rfl,λa ha=>by simp at ha⟩⟩
 | bk ρ=>cases hd
 | ct ρ=>cases hd
 | rt d' fr'=>
  cases hd;exact λv H' G r=>q v H' G r
def Qw3{h:Heap}{x:Str}{st:Stmt}{ps:List Str}{k:Nat}{cs:List (Str×Cn)}{sub:Str->Str->Option Bool}{hΓ:List (Str×FnR)}{g:DS}(X:K.In h)(G:h.Ns mainGlobals mg)(F:Fact K x st)(S:Qba (namesOf (Qh st)) ps (Qh st))(B:Qag x st ps)(M:Qdu mg cs)
  (hs:Qby K sub) (tabh:QeM P w K mg base k hΓ) (hc:QiJ (Qc6 st [] cs) sub hΓ (Qac st)=some g):Qhj P w K mg base (k+1) x ⟨ps.length,[],Qr (namesOf (Qh st)).length g⟩:=by
 obtain⟨f,fd,Fn,a⟩:=F.ex;refine⟨f,fd,ps,?_,Zac X G a,Fn.kp,Fn.binds (B ·)⟩;refine QvS Fn S (Qi3 rfl) λcdv A outer s H vs Q E hr h=>?_;obtain⟨ds,L,d,fr,rps,hl,hd,q⟩:=h
 have ok:CtxB (QcL CX0 P w K mg base (namesOf (Qh st)) x (Qh st) f cdv A outer s H E).nox (Qc6 st [] cs):=
  ⟨rfl,S.nd,λx h=>by rw[Qa4]at h;exact h,λx h=>by rw[Qa4]at h;exact⟨h,rfl⟩,λx h=>by rw[Qa4]at h;exact absurd rfl (S.nofree _ (ZP h)),λx h=>by rw[Qa4]at h;exact h,hr.units,M.bn,M.cs⟩
 refine⟨_,QiN ok hs (λz r e=>by
   obtain⟨f',fd',ps',h1,h2⟩:=tabh z r e;exact⟨k,f',fd',ps',h1,hr,h2⟩) _ g hc H L,?_⟩
 obtain⟨F0,rel⟩:=QdV (N:=namesOf (Qh st)) rps;unfold Qr at hd;refine Qi hd λo ho hd=>?_;refine⟨_,[],F0,o,rel,ho,?_⟩;cases o with
 | nx ρ=>
  cases hd;exact λσ H' F' rel'=>q .non H' [] ⟨rel'.same,.Qey,λa ha=>by simp at ha,λ_=>⟨ZZ,rfl,λa ha=>by simp at ha⟩⟩
 | bk ρ=>cases hd
 | ct ρ=>cases hd
 | rt d' fr'=>
  cases hd;exact λv H' G r=>q v H' G r
end
end HS
namespace HS
open PySem PySem.Spec L2 PyProof.Rows
section
variable {K:Fgg}{x y:Str}{C C':Addr}{v:Bool}
def QuV(a:PySem.W.nsIn K mainGlobals x=some (some (.ref C)))(b:PySem.W.excIn K C [.type "ValueError",.type "Exception",.type "BaseException",.type "object"] "ValueError.__new__" =true):Qh4 K x:=⟨⟨C,a,b⟩⟩
def XK1(K:Fgg)(x:Str):Prop:=∃C,ClsAt K x C/\QhI K C
def Qun(a:PySem.W.nsIn K mainGlobals x=some (some (.ref C)))(h1:PySem.W.isClsIn K C=true)(h2:PySem.W.findIn K (.ref C) "__getattribute__" =some (some (.builtin "BaseException.__getattribute__")))(h3:PySem.W.findIn K (.ref C) "__getattr__" =some none)
  (h4:PySem.W.findIn K (.ref C) "__class__" =some (some (.builtin "object.__class__"))) (h5:PySem.W.mroIn K C (.type "object")=some true) (h6:PySem.W.subIn K (.ref C) (.type "BaseException")=some true):XK1 K x:=⟨C,a,h1,h2,h3,h4,h5,h6⟩
def QmZ(K:Fgg)(x y:Str)(b:Bool):Prop:=∃C c,ClsAt K x C/\PySem.W.KtsName K y c/\PySem.W.exmOne K (.ref C) c=some b/\PySem.W.kitOne K (.ref C) c=some b
def Qb7(a:PySem.W.nsIn K mainGlobals x=some (some (.ref C)))(b:PySem.W.nsIn K mainGlobals y=some (some (.ref C')))(c:PySem.W.exmOne K (.ref C) (.ref C')=some v)(d:PySem.W.kitOne K (.ref C) (.ref C')=some v):QmZ K x y v:=⟨C,_,a,.inl b,c,d⟩
def QpS(a:PySem.W.nsIn K mainGlobals x=some (some (.ref C)))(b:PySem.W.nsIn K mainGlobals "ValueError" =some none)(c:PySem.W.exmOne K (.ref C) (.type "ValueError")=some v)(d:PySem.W.kitOne K (.ref C) (.type "ValueError")=some v):QmZ K x "ValueError" v:=
 ⟨C,_,a,.inr ⟨b,PyProof.Rows.Boot.«ValueError»,∅⟩,c,d⟩
def Qls(K:Fgg)(x:Str):List (Str×Bool)->Prop
 | []=>True
 | q::r=>QmZ K x q.1 q.2/\Qls K x r
def SubL(K:Fgg):List (Str×List (Str×Bool))->Prop
 | []=>True
 | q::r=>(XK1 K q.1/\Qls K q.1 q.2)/\SubL K r
noncomputable def QuJ(tab:List (Str×List (Str×Bool))):Str->Str->Option Bool:=λx y=>(look x tab).bind λr=>look y r
def Qkf{α:Type}:∀{x:Str}{l:List (Str×α)}{a:α},look x l=some a->(x,a)∈l
 | x,[],a,h=>by cases h
 | x,(y,b)::r,a,h=>by
  unfold look at h;split at h
  .rename_i e;cases h;subst e;exact Zw
  .exact Zc _ (Qkf h)
def Qls.mem:∀{r:List (Str×Bool)},Qls K x r->∀q∈r,QmZ K x q.1 q.2
 | [],_,q,h=>by simp at h
 | p::r,h,q,hq=>by
  rcases Zn.mp hq with rfl | hq
  .exact h.1
  .exact Qls.mem h.2 q hq
def SubL.mem:∀{t:List (Str×List (Str×Bool))},SubL K t->∀q∈t,XK1 K q.1/\Qls K q.1 q.2
 | [],_,q,h=>by simp at h
 | p::r,h,q,hq=>by
  rcases Zn.mp hq with rfl | hq
  .exact h.1
  .exact SubL.mem h.2 q hq
def QvX{tab:List (Str×List (Str×Bool))}(h:SubL K tab):Qby K (QuJ tab):=λx y b e=>by
 refine Qi e λr h1 h2=>?_;obtain⟨⟨C,k1,k2⟩,k3⟩:=h.mem _ (Qkf h1);obtain⟨C',c,m1,m2,m3,m4⟩:=k3.mem _ (Qkf h2);cases QiF k1 m1;exact⟨C,c,k1,m2,m3,m4,k2⟩
def QyC(K:Fgg):List Str->Prop
 | []=>True
 | x::r=>Qh4 K x/\QyC K r
def Qpa:∀{l:List Str},QyC K l->∀x∈l,Qh4 K x
 | [],_,x,h=>by simp at h
 | y::l,h,x,hx=>by
  rcases Zn.mp hx with rfl | hx
  .exact h.1
  .exact Qpa h.2 x hx
end
def Qul(K:Fgg)(t:Addr):Prop:=∃od n sl,K.lookup t=some ⟨.type "tuple",od,.seq #[.none] n,sl⟩
def Qg4(x:Str)(st:Stmt)(ps:List Str)(m:Nat)(fill:List Value):Prop:=∀(K:Fgg) (t:Addr) (od:Option Addr) (n:Nat) (sl:Array (Option Value)),K.lookup t=some ⟨.type "tuple",od,.seq #[.none] n,sl⟩->∀(kV doc pm:Value) (an:Option Addr) (cdv ct:Value) (S:Setting) (us:List Value),us.length=m→
 PySem.W.peek K S (bindArgs (PySem.W.fnOf x x (QbY st) (Qac st) (Qh st) (.ref t) kV doc pm an cdv ct) ⟨us,[]⟩)=some (ps.zip (us++fill))
structure Qm2 (K:Fgg) (x:Str) (st:Stmt) (ps:List Str):Prop where
 ex:∃(f t:Addr) (oc:Value) (od:Option Addr) (kV doc pm:Value) (an:Option Addr) (cdv ct:Value) (osl:Array (Option Value)),
  K.lookup f=some ⟨oc,od,.func (PySem.W.fnOf x x (QbY st) (Qac st) (Qh st) (.ref t) kV doc pm an cdv ct),osl⟩/\PySem.W.codeIn K cdv x=true/\PySem.W.keepIn K (.ref f)=true/\PySem.W.nsIn K mainGlobals x=some (some (.ref f))/\Qul K t
def QsY{K:Fgg}{x:Str}{st:Stmt}{ps:List Str}{f t:Addr}{oc:Value}{od an od':Option Addr}{osl sl:Array (Option Value)}{n:Nat}{kV doc pm cdv ct:Value}(a:PySem.W.nsIn K mainGlobals x=some (some (.ref f)))(l:K.lookup f=some ⟨oc,od,.func (PySem.W.fnOf x x (QbY st) (Qac st) (Qh st) (.ref t) kV doc pm an cdv ct),osl⟩)
  (c:PySem.W.codeIn K cdv x=true) (k:PySem.W.keepIn K (.ref f)=true) (h:K.lookup t=some ⟨.type "tuple",od',.seq #[.none] n,sl⟩):Qm2 K x st ps:=⟨f,t,oc,od,kV,doc,pm,an,cdv,ct,osl,l,c,k,a,od',n,sl,h⟩
def Qny{K:Fgg}{x:Str}{st:Stmt}{ps:List Str}{m:Nat}{fill:List Value}(B:Qg4 x st ps m fill)(hm:m+fill.length=ps.length){t:Addr}(h:Qul K t){kV doc pm cdv ct:Value}{an:Option Addr}:Binds K (PySem.W.fnOf x x (QbY st) (Qac st) (Qh st) (.ref t) kV doc pm an cdv ct) ps fill:=λs us hK hl=>by
 obtain⟨od,n,sl,h⟩:=h;exact PySem.W.kp_binds hK λS=>B K t od n sl h kV doc pm an cdv ct S us (by rw[Zd]at hl;omega)
section
variable {P:Program}{w:World}{K:Fgg}{mg:Str->Option Value}{base:Heap}
def Qwt{h:Heap}{x:Str}{st:Stmt}{ps:List Str}{k n m:Nat}{Γ:List (Str×FnR)}{cs:List (Str×Cn)}{g:DS}(X:K.In h)(G:h.Ns mainGlobals mg)(F:Qm2 K x st ps)(S:Qba (namesOf (Qh st)) ps (Qh st))(B0:Qg4 x st ps (m+1) [])(B1:Qg4 x st ps m [.none])(hm:ps.length=m+1)(M:Qdu mg cs)(tab:Qbr P w K mg base k Γ)
  (hc:QaR n (Qc6 st Γ cs) (Qac st)=some g):Known P w K mg base (k+1) x ⟨ps.length,[.non],Qr (namesOf (Qh st)).length g⟩:=by
 obtain⟨f,t,oc,od,kV,doc,pm,an,cdv,ct,osl,lk,hcd,kp,a,hT⟩:=F.ex;refine⟨f,PySem.W.fnOf x x (QbY st) (Qac st) (Qh st) (.ref t) kV doc pm an cdv ct,ps,?_,Zac X G a,kp,λj hj=>?_⟩
 .refine QmM lk hcd S (Qi3 rfl) λA outer s H vs Q E hr h=>?_;obtain⟨ds,L,d,fr,rps,hl,hd,q⟩:=h;have ok:=Qnn (P:=P) (w:=w) (K:=K) (base:=base) (qual:=x) (f:=f) (cdv:=cdv) (outer:=outer) (H:=H) (E:=E) S M tab hr;refine⟨_,((QhY n).Ss _ _ _ g ok hc H L).nox,?_⟩;obtain⟨F0,rel⟩:=QdV (N:=namesOf (Qh st)) rps;unfold Qr at hd;refine Qi hd λo ho hd=>?_;refine⟨_,[],F0,o,rel,ho,?_⟩;cases o with
  | nx ρ=>
   cases hd;exact λσ H' F' rel'=>q .non H' [] ⟨rel'.same,.Qey,λa ha=>by simp at ha,λ_=>⟨ZZ,rfl,λa ha=>by simp at ha⟩⟩
  | bk ρ=>cases hd
  | ct ρ=>cases hd
  | rt d' fr'=>
   cases hd;exact λv H' G r=>q v H' G r
 .have hj:j<=1:=hj;rcases Nat.le_one_iff_eq_zero_or_eq_one.mp hj with rfl | rfl
  .exact⟨[],[],Qny B0 (by simp[hm]) hT,.nil,λH=>by simp[Rps]⟩
  .refine⟨[.none],[.non],Qny B1 (by simp[hm]) hT,.cons rfl .nil,λH=>?_⟩;show Rps K H [.non] [.non] [];rw[Rps];exact⟨.non,[],[],[],rfl,rfl,.Qey,by rw[Rps];exact⟨rfl,rfl⟩⟩
def Qs1{h:Heap}{x:Str}{st:Stmt}{ps:List Str}{k n m:Nat}{Γ:List (Str×FnR)}{Γx:List (Str×(Nat×(List D->Option Str)))}{cls:List Str}{cs:List (Str×Cn)}{g:DX}(X:K.In h)(G:h.Ns mainGlobals mg)(F:Qm2 K x st ps)(S:Qba (namesOf (Qh st)) ps (Qh st))(B0:Qg4 x st ps (m+1) [])(hm:ps.length=m+1)(M:Qdu mg cs)(tab:Qbr P w K mg base k Γ)(tabx:QeI P w K mg base k Γx)
  (hcl:∀x∈cls,Qh4 K x) (hc:Qeo n (Qc6 st Γ cs) ⟨Γx,cls⟩ (Qac st)=some g):Qf5 P w K mg base (k+1) x (ps.length,Q6 (namesOf (Qh st)).length g):=by
 obtain⟨f,t,oc,od,kV,doc,pm,an,cdv,ct,osl,lk,hcd,kp,a,hT⟩:=F.ex;refine⟨f,PySem.W.fnOf x x (QbY st) (Qac st) (Qh st) (.ref t) kV doc pm an cdv ct,ps,?_,Zac X G a,kp,Qny B0 (by simp[hm]) hT,rfl⟩;refine QmM lk hcd S (Qpz rfl) λA outer s H vs Q E hr hsp=>?_;obtain⟨ds,L,y,rps,hl,hd,hE⟩:=hsp;have ok:QS (QcL (CXR P w) P w K mg base (namesOf (Qh st)) x (Qh st) f cdv A outer s H E) (Qc6 st Γ cs):=QlN (CX:=CXR P w) (E:=E) S M tab hr PassesOwn.leaving;have xk:XOk (QcL (CXR P w) P w K mg base (namesOf (Qh st)) x (Qh st) f cdv A outer s H E) ⟨Γx,cls⟩:=⟨rfl,rfl,rfl,λz r e=>by
  obtain⟨f',fd',ps',h1,h2,h3,h4,h5⟩:=tabx z r e;exact⟨k,f',fd',ps',h1,hr,h2,h3,h4,h5⟩,hcl⟩
 refine⟨_,(QmS n).Xs _ _ _ _ g ok xk hc H L,?_⟩;obtain⟨F0,rel⟩:=QdV (N:=namesOf (Qh st)) rps;obtain⟨⟨y',ρ'⟩,e1,e2⟩:=Zb.mp hd;cases e2;exact⟨_,[],F0,y',ρ',rel,e1,λC ea s' hC T=>QiL rfl rfl rfl rfl rfl rfl rfl T λH' sm=>hE C H' hC sm⟩
end
def Qmd{α:Type}{K:Fgg}{S:Setting}{a:Addr}{o:Obj}{r:α}(h:K.lookup a=some o){q}{k:Obj->Sem α}(e:PySem.W.peek K S (k o)=some r):PySem.W.peek K S (.load a q k)=some r:=by
 rw[PySem.W.peek,h];exact e
end HS
namespace HS
open PySem L2
noncomputable def pairD(p:Int×Int):D:= .tup [.int p.1,.int p.2]
noncomputable def Qt2(p:Int×Int×Bool):D:= .tup [.int p.1,.int p.2.1,.bl p.2.2]
noncomputable def QE(ns:List Int):D:= .lst (ns.map .int)
noncomputable def Qg(ps:Lpp):D:= .lst (ps.map pairD)
noncomputable def Qy(m:Int)(R L:Lpp):D:= .tup [.int m,Qg R,Qg L]
def Qb3{α:Type}{f:α->D}(h:∀a,(f a).flat=true):∀l:List α,Qah (l.map f)=true
 | []=>rfl
 | a::l=>by simp[Qah,h a,Qb3 h l]
@[simp] theorem QAV(i:Int):(D.int i).flat=true:=rfl
@[simp] theorem QBq(i:Bool):(D.bl i).flat=true:=rfl
@[simp] theorem QA2:D.non.flat=true:=rfl
@[simp] theorem QAT(x:Str):(D.str x).flat=true:=rfl
@[simp] theorem QBi(xs:List D):(D.lst xs).flat=false:=rfl
@[simp] theorem QAC:Qah []=true:=rfl
@[simp] theorem QAl(d:D)(ds:List D):Qah (d::ds)=(d.flat && Qah ds):=rfl
@[simp] theorem QAB(p:Int×Int):(pairD p).flat=true:=rfl
@[simp] theorem QAR(p:Int×Int×Bool):(Qt2 p).flat=true:=rfl
@[simp] theorem QAD(ns:List Int):(QE ns).flat=false:=rfl
@[simp] theorem QAo(ns:Lpp):(Qg ns).flat=false:=rfl
@[simp] theorem Qzp(ps:Lpp):Qah (ps.map pairD)=true:=Qb3 (λ_=>rfl) _
@[simp] theorem QzP(ps:List (Int×Int×Bool)):Qah (ps.map Qt2)=true:=Qb3 (λ_=>rfl) _
@[simp] theorem QzV(ns:List Int):Qah (ns.map .int)=true:=Qb3 (λ_=>rfl) _
@[simp] theorem QrF(xs ys:List D):Qah (xs++ys)=(Qah xs && Qah ys):=Qgc xs ys
def Run(f:DS)(ρ:En)(Q:Out->Prop):Prop:=∃o,f ρ=some o/\Q o
def Nx(Q:En->Prop):Out->Prop
 | .nx ρ=>Q ρ
 | _=>False
def Rt(Q:D->Bool->Prop):Out->Prop
 | .rt d fr=>Q d fr
 | _=>False
def Run.mono(h:Run f ρ Q)(m:∀o,Q o->Q' o):Run f ρ Q':=let ⟨o,h1,h2⟩:=h;⟨o,h1,m o h2⟩
def Qn(h:Q (.nx ρ)):Run Qe ρ Q:=⟨_,rfl,h⟩
def run_seq(h:Run f ρ (Nx λρ'=>Run g ρ' Q)):Run (Qd f g) ρ Q:=by
 obtain⟨o,h1,h2⟩:=h;cases o with
 | nx ρ'=>
  obtain⟨o',h3,h4⟩:=h2;exact⟨o',by simp[Qd,h1,h3],h4⟩
 | _=>exact False.elim h2
def Qj(h:Run f ρ λo=>match o with | .nx ρ'=>Run g ρ' Q | o=>Q o):Run (Qd f g) ρ Q:=by
 obtain⟨o,h1,h2⟩:=h;cases o with
 | nx ρ'=>
  obtain⟨o',h3,h4⟩:=h2;exact⟨o',by simp[Qd,h1,h3],h4⟩
 | bk ρ'=>exact⟨_,by simp[Qd,h1],h2⟩
 | ct ρ'=>exact⟨_,by simp[Qd,h1],h2⟩
 | rt d fr=>exact⟨_,by simp[Qd,h1],h2⟩
def Qz(h:fa ρ=some r)(q:Q (.nx (asg i r ρ))):Run (Qu i fa) ρ Q:=⟨_,by simp[Qu,h],q⟩
def Q5(h:fa ρ=some r)(q:Q (.rt r.d (r.norm.fr && decide r.norm.M.Nodup))):Run (QB fa) ρ Q:=⟨_,by simp[QB,h],q⟩
def Qs(h:g ρ=some b)(q1:b=true->Run f1 ρ Q)(q2:b=false->Run f2 ρ Q):Run (sIf g f1 f2) ρ Q:=by
 cases b with
 | true=>obtain⟨o,h1,h2⟩:=q1 rfl;exact⟨o,by simp[sIf,h,h1],h2⟩
 | false=>obtain⟨o,h1,h2⟩:=q2 rfl;exact⟨o,by simp[sIf,h,h1],h2⟩
def Q8(h:Run f (QP k ds) (Rt λd' fr'=>d'=d/\fr'=fr)):Qr k f ds=some (d,fr):=by
 obtain⟨o,h1,h2⟩:=h;unfold Qr;cases o with
 | rt d' fr'=>obtain⟨rfl,rfl⟩:=h2;rw[h1];rfl
 | _=>exact False.elim h2
def QnV{α:Type}{t:Tg}{fb:DS}{toD:α->D}{Q:Out->Prop}(I:Nat->En->Prop):∀(xs ys:List α) (ρ:En),I ys.length ρ→
  (∀i x ρ,(ys++xs)[i]? =some x->ys.length<=i->I i ρ->∃ρ1,Qa1 t (toD x) ρ=some ρ1/\Run fb ρ1 λo=>match o with | .nx ρ2=>I (i+1) ρ2 | .ct ρ2=>I (i+1) ρ2 | .bk ρ2=>Q (.nx ρ2) | .rt d fr=>Q (.rt d fr))→
  (∀ρ,I (ys++xs).length ρ->Q (.nx ρ))->Run (Qdn t fb (xs.map toD)) ρ Q
 | [],ys,ρ,h0,_,fin=>⟨_,rfl,fin ρ (by simpa using h0)⟩
 | x::xs,ys,ρ,h0,turn,fin=>by
  obtain⟨ρ1,h1,o,h2,h3⟩:=turn ys.length x ρ ⋯ (Ze _) h0;have next:∀ρ2,I (ys.length+1) ρ2->Run (Qdn t fb (xs.map toD)) ρ2 Q:=λρ2 hi=>
   QnV I xs (ys++[x]) ρ2 (by simpa using hi) (λi y ρ' e hl=>turn i y ρ' (by simpa using e) (by simp at hl;omega)) (λρ' h=>fin ρ' (by simpa using h))
  cases o with
  | nx ρ2=>obtain⟨o',e1,e2⟩:=next ρ2 h3;exact⟨o',by simp[Qdn,h1,h2,e1],e2⟩
  | ct ρ2=>obtain⟨o',e1,e2⟩:=next ρ2 h3;exact⟨o',by simp[Qdn,h1,h2,e1],e2⟩
  | bk ρ2=>exact⟨_,by simp[Qdn,h1,h2],h3⟩
  | rt d fr=>exact⟨_,by simp[Qdn,h1,h2],h3⟩
def Qbq{α:Type}{fi:DI}{t:Tg}{fb:DS}{toD:α->D}{ρ:En}{ir:IR}{Q:Out->Prop}(xs:List α)(I:Nat->En->Prop)(h:fi ρ=some ir)(hx:ir.items=xs.map toD)(h0:I 0 (Qcj ir.M ρ))
  (turn:∀i x ρ,xs[i]? =some x->I i ρ->∃ρ1,Qa1 t (toD x) ρ=some ρ1/\Run fb ρ1 λo=>match o with | .nx ρ2=>I (i+1) ρ2 | .ct ρ2=>I (i+1) ρ2 | .bk ρ2=>Q (.nx ρ2) | .rt d fr=>Q (.rt d fr))
  (fin:∀ρ,I xs.length ρ->Q (.nx ρ)):Run (Qbd fi t fb) ρ Q:=by
 obtain⟨o,h1,h2⟩:=QnV (t:=t) (fb:=fb) (toD:=toD) (Q:=Q) I xs [] (Qcj ir.M ρ) h0 (λi x ρ e _=>turn i x ρ (by simpa using e)) (λρ h=>fin ρ (by simpa using h));exact⟨o,by simp[Qbd,h,hx,h1],h2⟩
def Qmg{α:Type}{t:Tg}{ft:DT}{fe:DE}{ρc:En}{toD:α->D}{keep:α->Bool}{out:α->D}:∀(xs:List α) (acc:List D),
  (∀x∈xs,∃ρ1,Qa1 t (toD x) ρc=some ρ1/\ft ρ1=some (keep x)/\(keep x=true->∃r,fe ρ1=some r/\r.d=out x/\r.norm.fr=true))→
  (xs.map toD).foldlM (Qe3 t ft fe ρc) (acc,true)=some (acc++(xs.filter keep).map out,true)
 | [],acc,_=>by simp
 | x::xs,acc,h=>by
  obtain⟨ρ1,h1,h2,h3⟩:=h x Zw;have ih:=λacc=>Qmg xs acc (λy hy=>h y (Zc _ hy));cases hk:keep x with
  | false=>
   have e:Qe3 t ft fe ρc (acc,true) (toD x)=some (acc,true):=by simp[Qe3,h1,h2,hk]
   simp[ZaZ,e,ih,hk]
  | true=>
   obtain⟨r,h4,h5,h6⟩:=h3 hk;have e:Qe3 t ft fe ρc (acc,true) (toD x)=some (acc++[out x],true):=by simp[Qe3,h1,h2,hk,h4,h5,h6]
   simp[ZaZ,e,ih,hk]
def QvE{α:Type}{fi:DI}{t:Tg}{cap:List (Option Nat)}{ft:DT}{fe:DE}{ρ:En}{ir:IR}{toD:α->D}{keep:α->Bool}{out:α->D}(xs:List α)(h:fi ρ=some ir)(hx:ir.items=xs.map toD)
  (turn:∀x∈xs,∃ρ1,Qa1 t (toD x) (QaU cap ρ)=some ρ1/\ft ρ1=some (keep x)/\(keep x=true->∃r,fe ρ1=some r/\r.d=out x/\r.norm.fr=true)):
  Qau fi t cap ft fe ρ=some ⟨.lst ((xs.filter keep).map out),true,[]⟩:=by
 unfold Qau;rw[h,Za,hx,Qmg xs [] turn];simp
def QbN{α:Type}{fi:DI}{t:Tg}{cap:List (Option Nat)}{fe:DE}{ρ:En}{ir:IR}{toD:α->D}{out:α->D}(xs:List α)(h:fi ρ=some ir)(hx:ir.items=xs.map toD)
  (turn:∀x∈xs,∃ρ1,Qa1 t (toD x) (QaU cap ρ)=some ρ1/\∃r,fe ρ1=some r/\r.d=out x/\r.norm.fr=true):
  Qau fi t cap QaE fe ρ=some ⟨.lst (xs.map out),true,[]⟩:=by
 have:=QvE (keep:=λ_=>true) (ft:=QaE) xs h hx (cap:=cap) (t:=t) (fe:=fe) (out:=out) λx hx=>by
  obtain⟨ρ1,h1,h2⟩:=turn x hx;exact⟨ρ1,h1,rfl,λ_=>h2⟩
 rw[this,List.filter_eq_self.mpr λ_ _=>rfl]
@[simp] theorem QAY(d:D):R.norm ⟨d,true,[]⟩=⟨d,true,[]⟩:=by unfold R.norm;split<;>rfl
@[simp] theorem Qa5(i:Nat)(d:D)(ρ:En):asg i ⟨d,true,[]⟩ ρ=ρ.set i (some (d,true)):=by unfold asg;simp[kill]
def rsa{i:Nat}{fa:DE}{g:DS}{ρ:En}{d:D}{Q:Out->Prop}(h:fa ρ=some ⟨d,true,[]⟩)(q:Run g (ρ.set i (some (d,true))) Q):Run (Qd (Qu i fa) g) ρ Q:=run_seq (Qz h (by rw[Qa5];exact q))
def Quc{n k k1:Nat}(h:(List.range n)[k]? =some k1):k<n/\k=k1:=by
 obtain⟨h1,h2⟩:=Zj.mp h;simp at h1 h2;exact⟨h1,h2⟩
def Qn4{i:Nat}{d:D}{fr:Bool}{M:List Nat}{ρ:En}(h:d.flat=true):asg i ⟨d,fr,M⟩ ρ=ρ.set i (some (d,true)):=by
 unfold asg R.norm;simp[h,kill]
def Qdw{i:Nat}{ρ:En}{d:D}{b:Bool}(h:ρ[i]? =some (some (d,b))):Qc i ρ=some (if d.flat then⟨d,true,[]⟩else if b then⟨d,true,[i]⟩else⟨d,false,[]⟩):=by
 unfold Qc;rw[h];dsimp only;split
 .simp_all
 .split<;>simp_all
@[simp] theorem QxW(d:D)(ρ:En):dC d ρ=some ⟨d,true,[]⟩:=rfl
def QO{g:D->D->Option D}{fa fb:DE}{ρ:En}{ra rb:R}{d:D}(ha:fa ρ=some ra)(hb:fb ρ=some rb)(h:g ra.d rb.d=some d):dOp g fa fb ρ=some ⟨d,true,[]⟩:=by simp[dOp,ha,hb,h]
def Qx{fa:DE}{fs:DA}{ρ:En}{r:R}{rs:RA}(ha:fa ρ=some r)(hs:fs ρ=some rs):Qa fa fs ρ=some ⟨r.d::rs.ds,r.fr && rs.fr,r.M++rs.M⟩:=by simp[Qa,ha,hs]
@[simp] theorem QZ(ρ:En):Qb ρ=some ⟨[],true,[]⟩:=rfl
noncomputable def vf(d:D)(b:Bool)(i:Nat):R:=if d.flat then⟨d,true,[]⟩else if b then⟨d,true,[i]⟩else⟨d,false,[]⟩
@[simp] theorem QBu(d:D)(b:Bool)(i:Nat):(vf d b i).d=d:=by unfold vf;split;rfl;split<;>rfl
@[simp] theorem QtU(i j:Int)(h:0<=j):QiW i j=i % j:=by unfold QiW;rw[if_pos h]
@[simp] theorem QtO(i j:Int)(h:0<=j):Qim i j=i / j:=by unfold Qim;rw[if_pos h]
def Qi5{i j:Int}(h:j.natAbs<2^64):QhB i j=true:=by unfold QhB;simp[h]
def Qjv:(sizeLine:Nat)=16777216:=sizeLine_eq
noncomputable def QdP(m:Nat)(f:Mt1):D:= .lst ((List.range m).map λi=> .int (f i))
noncomputable def QeP(m n:Nat)(f:Mt2):D:= .lst ((List.range m).map λi=>QdP n (f i))
@[simp] theorem QBh(m:Nat)(f:Mt1):(QdP m f).flat=false:=rfl
@[simp] theorem QBe(m n:Nat)(f:Mt2):(QeP m n f).flat=false:=rfl
@[simp] theorem QAA(m:Nat)(f:Mt1):Qah ((List.range m).map λi=>D.int (f i))=true:=Qb3 (f:=λi=>D.int (f i)) (λ_=>rfl) _
noncomputable def up(f:Mt1)(i:Nat)(v:Int):Nat->Int:=λj=>if j=i then v else f j
noncomputable def up2(f:Mt2)(i j:Nat)(v:Int):Nat->Nat->Int:=λk=>if k=i then up (f k) j v else f k
def QfP{n:Nat}{i:Int}(h0:0<=i)(h:i<n):ixN n i=some i.toNat:=by
 unfold ixN;rw[if_pos ⋯,if_pos ⋯]
def QgX{α:Type}{xs:List α}{i:Int}(h0:0<=i)(h:i<xs.length):atI xs i=xs[i.toNat]? :=by
 unfold atI;rw[QfP h0 h];rfl
def Qft{α:Type}{m:Nat}{f:Nat->α}{i:Nat}{v:α}:((List.range m).map f).set i v=(List.range m).map λj=>if j=i then v else f j:=by
 apply List.ext_getElem?;intro k;rw[List.getElem?_set];simp only[Zo,ZU,Zv];by_cases hk:k<m
 .rw[Zaj hk];by_cases e:i=k
  .subst e;simp[hk]
  .simp[e,Ne.symm e]
 .rw[ZD (by simp;omega)];by_cases e:i=k
  .subst e;simp[hk]
  .simp[e]
def QvK{m:Nat}{f:Mt1}{i:Nat}{v:Int}:((List.range m).map λj=>D.int (f j)).set i (.int v)=(List.range m).map λj=>D.int (up f i v j):=by
 rw[Qft];congr 1;funext j;unfold up;split<;>rfl
def Qv4{m:Nat}{f:Mt1}{i:Int}(h0:0<=i)(h:i<m):atI ((List.range m).map λj=>D.int (f j)) i=some (.int (f i.toNat)):=by
 rw[QgX h0 (by simpa using h),Zv,Zaj ⋯];rfl
def Qwz{m n:Nat}{f:Mt2}{i:Int}(h0:0<=i)(h:i<m):atI ((List.range m).map λj=>QdP n (f j)) i=some (QdP n (f i.toNat)):=by
 rw[QgX h0 (by simpa using h),Zv,Zaj ⋯];rfl
def Qnm{g:D->D->Option D}{x m n:Nat}{f:Mt2}{fp fi fa:DE}{ρ:En}{i j w:Int}{rp ri ra:R}{Q:Out->Prop}(hx:ρ[x]? =some (slT (QeP m n f)))(hp:fp ρ=some rp)(ep:rp.d= .int i)(hi:fi ρ=some ri)(ei:ri.d= .int j)(ha:fa ρ=some ra)
  (h0:0<=i) (h:i<m) (k0:0<=j) (k:j<n) (hg:g (.int (f i.toNat j.toNat)) ra.d=some (.int w)) (q:Q (.nx (ρ.set x (slT (QeP m n (up2 f i.toNat j.toNat w)))))):Run (Qgo g x (Qjl Qbe fp) fi fa) ρ Q:=by
 refine⟨_,?_,q⟩;have hj:((List.range n).map λk=>D.int (f i.toNat k))[j.toNat]? =some (.int (f i.toNat j.toNat)):=by rw[Zv,Zaj ⋯];rfl
 have hd:Qcq (QeP m n f) [i]=some (QdP n (f i.toNat)):=by
  simp only[Qcq,QeP,D.items,Za,Qwz h0 h]
 have hu:QbB [i] (QeP m n f) (.lst (((List.range n).map λk=>D.int (f i.toNat k)).set j.toNat (.int w)))=QeP m n (up2 f i.toNat j.toNat w):=by
  simp only[QbB,QeP,Zo,ZU,QfP h0 h,QvK];rw[Qft];congr 2;funext k;unfold up2;split
  .rename_i e;subst e;rfl
  .rfl
 unfold Qgo;rw[hx];simp only[Qjl,Qbe,Za,hp,ep,List.nil_append,hi,ei,hd,QdP,Zo,ZU,QfP k0 k,hj,ha,hg,ZO];rw[hu]
def QhJ{n:Nat}(h:fa ρ=some r)(e:r.d= .int n)(hn:n<=16777216):QdR fa ρ=some ⟨(List.range n).map λ(k:Nat)=> .int (k:Int),[]⟩:=by
 unfold QdR;rw[h,Za,e];dsimp only;rw[if_pos ⟨⋯,⋯⟩];simp[Qkc]
def Qja{α:Type}(x:α):∀n:Nat,(List.replicate n [x]).flatten=(List.range n).map λ_=>x
 | 0=>rfl
 | n+1=>by
  rw[ZR,ZW,Qja x n,List.range_succ_eq_map,Zs,ZF];rfl
def Qzc{n:Nat}(h:fb ρ=some r)(e:r.d= .int n)(hn:n<=16777216):QaD (Q4 (Qa (dC (.int z)) Qb)) fb ρ=some (reT (QdP n (λ_=>z))):=by
 have h1:Q4 (Qa (dC (.int z)) Qb) ρ=some (reT (.lst [.int z])):=rfl;unfold QaD;rw[h1,Za,h,Za,e];dsimp only;rw[if_pos ⟨by simp[Qjv];omega,⋯,⋯,rfl⟩];simp only[ZS,Qja];rfl
noncomputable def Ql7:DS:=(Qd (Qu 2 (Qau (Q3 vv0) (.tp [1,2]) [none,none,none] QaE (Qaj (Qa vv1 (Qa vv2 Qb))))) (Qd (Qu 3 (Qau (Q3 vv0) (.tp [1,2]) [none,none,none] QaE (Qaj (Qa vv2 (Qa vv1 Qb))))) (Qd (QB (QL (QL vv2 vv3) (dList (Qa vv1 Qb)))) Qe)))
def Qjd(ha:fa ρ=some ra)(ea:ra.d=Qg A)(hb:fb ρ=some rb)(eb:rb.d=Qg B)(hl:A.length+B.length<=16777216):QL fa fb ρ=some (reT (Qg (A++B))):=by
 unfold QL;rw[ha,Za,hb,Za,ea,eb];simp only[Qg,Zo,Qjv,if_pos hl,Qbx];simp
def Qte(h:fs ρ=some rs)(e:rs.ds=[Qg A])(_:True=True):dList fs ρ=some (reT (Qg A)):=by
 unfold dList;rw[h,Za,e];simp[Qg,Qbx]
def QR(h:fa ρ=some r)(q:Q r.d (r.norm.fr && decide r.norm.M.Nodup)):Run (Qd (QB fa) g) ρ (Rt Q):=Qj (Q5 h q)
def Qmb{R L:Lpp}(hl:R.length+R.length+L.length<=16777216):Qr 4 Ql7 [Qg R,Qg L]=slT (Qg (R++R.map Prod.swap++L)):=by
 refine Q8 ?_;refine run_seq (Qz (QbN R rfl rfl λx _=>⟨[none,slI x.1,slI x.2],rfl,⟨pairD x,true,[]⟩,rfl,rfl,rfl⟩) ?_);refine run_seq (Qz (QbN R rfl rfl λx _=>⟨[none,slI x.1,slI x.2],rfl,⟨pairD x.swap,true,[]⟩,rfl,rfl,rfl⟩) ?_);have e1:(R.map λx=>pairD x.swap)=(R.map Prod.swap).map pairD:=by simp[ZF,Function.comp_def]
 rw[e1];exact QR (Qjd (Qjd rfl rfl rfl rfl (by simpa using(by omega:R.length+R.length<=16777216))) rfl (Qte rfl rfl rfl) rfl (by simpa using hl)) ⟨rfl,rfl⟩
def Qq(h:fs ρ=some r)(hd:den (r.ds++dfl)=some (d,true))(hl:r.ds.length+dfl.length=n):Ql n den dfl fs ρ=some ⟨d,true,[]⟩:=by
 unfold Ql;rw[h,Za,if_pos hl,hd];simp
def Qaz(h:fa ρ=some r)(e:r.d= .lst xs):Q3 fa ρ=some ⟨xs,r.M⟩:=by
 unfold Q3;rw[h,Za,e]
noncomputable def stepT(m:Nat)(f:Mt2)(s:Int×Int):Nat->Nat->Int:=
 let f1:=if s.1<m then up2 f s.1.toNat s.1.toNat (f s.1.toNat s.1.toNat-1)else f
 if s.1<m/\s.2<m then up2 f1 s.1.toNat s.2.toNat (f1 s.1.toNat s.2.toNat+1)else f1
noncomputable def Qbh(m:Nat)(S:Lpp):Nat->Nat->Int:=S.foldl (stepT m) λ_ _=>0
noncomputable def Qgg(Qcg:Den):DS:=(Qd (Qu 1 (Qef (Qm vv0 kk0))) (Qd (Qu 2 (Qau (QdR vv1) (.nm 1) [none,none,some 1] QaE (QaD (Q4 (Qa kk0 Qb)) vv2))) (Qd (Qbd (Q3 (Ql 2 Qcg [] (Qa (Qm vv0 kk1) (Qa (Qm vv0 kk2) Qb)))) (.tp [3,4]) (Qd (sIf (Qf (dOp gLt vv3 vv1)) (Qd (Qgo Qge 2 (Qjl Qbe vv3) vv3 kk1) Qe) Qe) (Qd (sIf (QeY (Qf (dOp gLt vv3 vv1)) (Qf (dOp gLt vv4 vv1))) (Qd (Qgo (gI λi j=>some (.int (i+j))) 2 (Qjl Qbe vv3) vv4 kk1) Qe) Qe) Qe))) (Qd (QB vv2) Qe))))
def QsG{Qcg:Den}{m:Nat}{R L S:Lpp}(hm:m<=16777216)(hs:Qcg [Qg R,Qg L]=slT (Qg S))(hS:∀s∈S,0<=s.1/\0<=s.2):Qr 5 (Qgg Qcg) [Qy m R L]=slT (QeP m m (Qbh m S)):=by
 refine Q8 ?_;refine run_seq (Qz rfl ?_);refine run_seq (Qz (QbN (List.range m) (QhJ rfl rfl hm) rfl λx _=>⟨[none,slI x,slI m],rfl,_,Qzc rfl rfl hm,rfl,rfl⟩) ?_);refine run_seq (Qbq S (λi ρ=>∃j1 j2,ρ=[slF (Qy m R L),slI m,slT (QeP m m (Qbh m (S.take i))),j1,j2]) (ir:=⟨S.map pairD,[]⟩) ?_ rfl ⟨none,none,rfl⟩ ?_ ?_)
 .exact Qaz (Qq (r:=⟨[Qg R,Qg L],false,[]⟩) rfl hs rfl) rfl
 .rintro i s ρ hi ⟨j1,j2,rfl⟩;refine⟨_,rfl,?_⟩;obtain⟨s1,s2⟩:=hS s (Zy hi);refine run_seq (Run.mono (Q:=Nx λρ=>ρ=[slF (Qy m R L),slI m,slT (QeP m m (if s.1<m then up2 (Qbh m (S.take i)) s.1.toNat s.1.toNat (Qbh m (S.take i) s.1.toNat s.1.toNat-1)else Qbh m (S.take i))),slI s.1,slI s.2]) ?_ ?_)
  .refine Qs rfl (λh=>?_) (λh=>?_)
   .have h:=of_decide_eq_true h;rw[if_pos h];exact run_seq (Qnm rfl rfl rfl rfl rfl rfl s1 h s1 h rfl (Qn rfl))
   .have h:=of_decide_eq_false h;rw[if_neg h];exact Qn rfl
  .intro o ho;cases o with
   | nx ρ=>
    subst ho;have fin:Qbh m (S.take (i+1))=stepT m (Qbh m (S.take i)) s:=by
     unfold Qbh;rw[List.take_add_one,hi,List.foldl_append];rfl
    refine run_seq (Run.mono (Q:=Nx λρ=>ρ=[slF (Qy m R L),slI m,slT (QeP m m (stepT m (Qbh m (S.take i)) s)),slI s.1,slI s.2]) ?_ ?_)
    .refine Qs (b:=decide (s.1<m/\s.2<m)) ?_ (λh=>?_) (λh=>?_)
     .by_cases h:s.1<(m:Int)
      .simp[QeY,Qf,dOp,Qc,gLt,gI,D.tru,h]
      .simp[QeY,Qf,dOp,Qc,gLt,gI,D.tru,h]
     .have h:=of_decide_eq_true h;refine run_seq (Qnm rfl rfl rfl rfl rfl rfl s1 h.1 s2 h.2 rfl (Qn ?_));unfold stepT;rw[if_pos h];rfl
     .have h:=of_decide_eq_false h;refine Qn ?_;unfold stepT;rw[if_neg h];rfl
    .intro o ho;cases o with
     | nx ρ=>
      subst ho;exact Qn ⟨_,_,by rw[fin]⟩
     | _=>exact False.elim ho
   | _=>exact False.elim ho
 .rintro ρ ⟨j1,j2,rfl⟩;rw[Zal];exact QR rfl ⟨rfl,rfl⟩
noncomputable def hit(i j:Nat)(s:Int×Int):Int:=(if s.1=i/\s.2=j then 1 else 0)-(if s.1=i/\i=j then 1 else 0)
def QpE:up2 f a b v i j=if i=a/\j=b then v else f i j:=by
 unfold up2 up;by_cases h1:i=a
 .by_cases h2:j=b
  .simp[h1,h2]
  .simp[h1,h2]
 .simp[h1]
def QrG(hi:i<m)(hj:j<m)(h1:0<=s.1)(h2:0<=s.2):stepT m f s i j=f i j+hit i j s:=by
 unfold stepT hit;have e1:(s.1=(i:Int))↔(i=s.1.toNat):= ⋯
 have e2:(s.2=(j:Int))↔(j=s.2.toNat):= ⋯
 simp only[e1,e2];by_cases c1:s.1<(m:Int)
 .by_cases c2:s.2<(m:Int)
  .simp only[c1,c2,and_self,if_true,QpE];generalize s.1.toNat=a;generalize s.2.toNat=b;by_cases d1:i=a
   .subst d1;by_cases d2:j=b
    .subst d2;by_cases d3:i=j
     .subst d3;simp
     .have d4:¬j=i:=λz=>d3 z.symm;simp[d3,d4]
    .by_cases d3:i=j
     .subst d3;simp[d2];omega
     .have d4:¬j=i:=λz=>d3 z.symm;simp[d2,d3,d4]
   .simp[d1]
  .have d2:¬(j=s.2.toNat):= ⋯
   simp only[c1,c2,and_false,if_false,if_true,QpE,d2];generalize s.1.toNat=a;by_cases d1:i=a
   .subst d1;by_cases d3:i=j
    .subst d3;simp;omega
    .have d4:¬j=i:=λz=>d3 z.symm;simp[d3,d4]
   .simp[d1]
 .have d1:¬(i=s.1.toNat):= ⋯
  simp[c1,d1]
def Qme(hi:i<m)(hj:j<m):∀(S:Lpp) (f:Mt2),(∀s∈S,0<=s.1/\0<=s.2)->S.foldl (stepT m) f i j=f i j+(S.map (hit i j)).sum
 | [],f,_=>by simp
 | s::S,f,h=>by
  obtain⟨h1,h2⟩:=h s Zw;rw[List.foldl_cons,Qme hi hj S _ (λt ht=>h t (Zc _ ht)),QrG hi hj h1 h2,Zs,Zab];omega
def Qt0(hi:i<m)(hj:j<m)(h:∀s∈S,0<=s.1/\0<=s.2):Qbh m S i j=(S.map (hit i j)).sum:=by
 unfold Qbh;rw[Qme hi hj S _ h];simp
noncomputable def isI(i:Nat)(a:Int):Int:=if a=i then 1 else 0
noncomputable def QaV(R L:Lpp)(i:Nat):Int:=(R.map λr=>isI i r.1+isI i r.2).sum+(L.map λl=>isI i l.1).sum
def sum_neg(S:Lpp)(i:Nat)(h:∀s∈S,s.1≠s.2):(S.map (hit i i)).sum= -(S.map λs=>isI i s.1).sum:=by
 induction S with
 | nil=>rfl
 | cons s S ih=>
  rw[Zs,Zab,ih λt ht=>h t (Zc _ ht),Zs,Zab];have hn:=h s Zw;unfold hit isI;by_cases e:s.1=(i:Int)
  .have:¬(s.2=(i:Int)):=λz=>hn (e.trans z.symm);simp[e,this];omega
  .simp[e]
noncomputable def QN(R L:Lpp):List (Int×Int):=R++R.map Prod.swap++L
def QrN(R L:Lpp)(i:Nat):((QN R L).map λs=>isI i s.1).sum=QaV R L i:=by
 unfold QN QaV;rw[ZV,ZV,List.sum_append_int,List.sum_append_int];have:(R.map λr=>isI i r.1+isI i r.2).sum=(R.map λs=>isI i s.1).sum+((R.map Prod.swap).map λs=>isI i s.1).sum:=by
  induction R with
  | nil=>rfl
  | cons r R ih=>simp only[Zs,Zab,ih,Prod.fst_swap];omega
 omega
def Good(m:Nat)(s:Int×Int):Prop:=0<=s.1/\0<=s.2/\s.1<=m/\s.2<=m/\s.1≠s.2
def Qhy{m:Nat}{R L:Lpp}(hR:∀s∈R,Good m s)(hL:∀s∈L,Good m s):∀s∈QN R L,Good m s:=λs hs=>by
 unfold QN at hs;rcases ZG.mp hs with hs | hs
 .rcases ZG.mp hs with hs | hs
  .exact hR s hs
  .obtain⟨t,ht,rfl⟩:=Zz.mp hs;obtain⟨h1,h2,h3,h4,h5⟩:=hR t ht;exact⟨h2,h1,h4,h3,λz=>h5 z.symm⟩
 .exact hL s hs
def QkZ(d:Den):Prop:=∀(m:Nat) (R L:Lpp),m<=1000->R.length+R.length+L.length<=1000000->(∀s∈R,Good m s)->(∀s∈L,Good m s)->d [Qy m R L]=some (QeP m m (Qbh m (QN R L)),true)
def Qwi:QkZ (Qr 5 (Qgg (Qr 4 Ql7))):=λm R L hm hl hR hL=>by
 refine QsG ⋯ (Qmb ⋯) λs hs=>?_;obtain⟨h1,h2,_⟩:=Qhy hR hL s hs;exact⟨h1,h2⟩
noncomputable def QgL(Qce:Den):DS:=(Qd (QB (Qau (Qk0 (Ql 1 Qce [] (Qa vv0 Qb))) (.tp [1,2]) [none,none,none] QaE (dOp Qge kk0 (Qm vv2 vv1)))) Qe)
def QqD{α:Type}(m:Nat)(f:Nat->D):QfG ((List.range m).map f)=(List.range m).map λi=> .tup [.int i,f i]:=by
 apply List.ext_getElem?;intro k;unfold QfG;simp only[Zv,List.getElem?_zipIdx,Nat.zero_add];by_cases hk:k<m
 .rw[Zaj hk];rfl
 .rw[ZD (by simp;omega)];rfl
def Qtv{d:Den}(hd:QkZ d){m:Nat}{R L:Lpp}(hm:m<=1000)(hl:R.length+R.length+L.length<=1000000)(hR:∀s∈R,Good m s)(hL:∀s∈L,Good m s):Qr 1 (QgL d) [Qy m R L]=slT (QdP m (QaV R L)):=by
 refine Q8 ?_;refine QR (QbN (toD:=λ(i:Nat)=> .tup [.int i,QdP m (Qbh m (QN R L) i)]) (out:=λ(i:Nat)=> .int (QaV R L i)) (ir:=⟨QfG ((List.range m).map λi=>QdP m (Qbh m (QN R L) i)),[]⟩) (List.range m) ?_ ?_ λi hi=>?_) ⟨rfl,rfl⟩
 .unfold Qk0;rw[Qq (n:=1) (fs:=Qa (Qc 0) Qb) (ρ:=QP 1 [Qy m R L]) (dfl:=[]) (r:=⟨[Qy m R L],false,[]⟩) rfl (hd m R L hm hl hR hL) rfl];rfl
 .exact QqD (α:=Nat) m _
 .have hi:=ZaP.mp hi;refine⟨[none,slI i,slF (QdP m (Qbh m (QN R L) i))],rfl,reI (0-Qbh m (QN R L) i i),?_,?_,rfl⟩
  .have e:Qm (Qc 2) (Qc 1) [none,slI (i:Int),slF (QdP m (Qbh m (QN R L) i))]=some (reI (Qbh m (QN R L) i i)):=by
    show((D.items (QdP m (Qbh m (QN R L) i))).bind λxs=>(atI xs (i:Int)).map λd=>(HS.R.norm ⟨d,false,[]⟩))=_;unfold QdP;rw[show D.items (.lst ((List.range m).map λj=>D.int (Qbh m (QN R L) i j)))=some ((List.range m).map λj=>D.int (Qbh m (QN R L) i j))from rfl,Za,Qv4 ⋯ ⋯];rfl
   exact QO (rfl) e rfl
  .have g:=Qhy hR hL;rw[Qt0 hi hi λs hs=>⟨(g s hs).1,(g s hs).2.1⟩,sum_neg _ i λs hs=>(g s hs).2.2.2.2,QrN];show D.int (0- -(QaV R L i))=_;rw[show(0:Int)- -(QaV R L i)=QaV R L i by omega]
def QlM(a b:Int):deq (.int a) (.int b)=decide (a=b):=by
 show PyData.eqv (.int a) (.int b)=_;unfold PyData.eqv;exact Bool.beq_eq_decide_eq a b
def Qcn(ha:fa ρ=some ra)(ea:ra.d= .int a)(hb:fb ρ=some rb)(eb:rb.d= .int b):dOp gEq fa fb ρ=some (reT (.bl (decide (a=b)))):=by
 refine QO ha hb ?_;rw[ea,eb];show some (D.bl (deq (.int a) (.int b)))=_;rw[QlM]
def QiO(ha:fa ρ=some ra)(ea:ra.d= .int a)(hb:fb ρ=some rb)(eb:rb.d= .int b):dOp gNe fa fb ρ=some (reT (.bl (!decide (a=b)))):=by
 refine QO ha hb ?_;rw[ea,eb];show some (D.bl (!deq (.int a) (.int b)))=_;rw[QlM]
def Qo(ha:fa ρ=some r)(e:r.d= .bl b):Qf fa ρ=some b:=by
 unfold Qf;rw[ha,Za,e];rfl
def Qdf(h:g ρ=some b):Qcs g ρ=some (!b):=by unfold Qcs;rw[h];rfl
def Qab(ha:g1 ρ=some a)(hb:g2 ρ=some b):bOr g1 g2 ρ=some (a || b):=by
 unfold bOr;rw[ha];cases a<;>simp[hb]
def Qjk(ha:g1 ρ=some a)(hb:g2 ρ=some b):QeY g1 g2 ρ=some (a && b):=by
 unfold QeY;rw[ha];cases a<;>simp[hb]
def Qip(ha:fa ρ=some ra)(ea:ra.d= .int a)(hb:fb ρ=some rb)(eb:rb.d= .int b)(h:QhB a b=true):QaD fa fb ρ=some (reI (a*b)):=by
 unfold QaD;rw[ha,Za,hb,Za,ea,eb];simp[h]
def Qdc(ha:fa ρ=some ra)(ea:ra.d= .int a)(hb:fb ρ=some rb)(eb:rb.d= .int b):QL fa fb ρ=some (reI (a+b)):=by
 unfold QL;rw[ha,Za,hb,Za,ea,eb]
def QaH(ha:fa ρ=some ra)(ea:ra.d= .int a)(hb:fb ρ=some rb)(eb:rb.d= .int b)(h:0<b):dOp Qan fa fb ρ=some (reI (a % b)):=by
 refine QO ha hb ?_;rw[ea,eb];show(if b≠0 then some (D.int (QiW a b))else none)=_;rw[if_pos ⋯,QtU _ _ ⋯]
def Qes(ha:fa ρ=some ra)(ea:ra.d= .int a)(hb:fb ρ=some rb)(eb:rb.d= .int b)(h:0<b)(h2:b<2^64):dOp Qdv fa fb ρ=some (reI (a / b)):=by
 refine QO ha hb ?_;rw[ea,eb];have:Qhz b=true:=by
  unfold Qhz;have h3:b.natAbs<2^8000:=Zm (by omega:b.natAbs<2^64) (Zau ∅ ∅);simp only[Zf,decide_eq_true_eq];exact⟨⋯,h3⟩
 show(if Qhz b=true then some (D.int (Qim a b))else none)=_;rw[if_pos this,QtO _ _ ⋯]
def Qpv{fa fb:DE}{ρ:En}{ra rb:R}{ns:List Int}{i:Int}{v:Int}(ha:fa ρ=some ra)(ea:ra.d= .lst (ns.map .int))(hb:fb ρ=some rb)(eb:rb.d= .int i)(h0:0<=i)(h:ns[i.toNat]? =some v):Qm fa fb ρ=some (reI v):=by
 have hl:i<ns.length:=by have:=(Zj.mp h).1;omega
 unfold Qm;rw[ha,Za,hb,Za,ea,eb];simp only[D.items,Za];rw[QgX h0 (by simpa using hl),Zv,h];rfl
noncomputable def Qg5:DS:=(Qd (sIf (Qf (dOp gLt vv1 (dBf Qaa (Qa vv0 Qb)))) (Qd (QB (Qm vv0 vv1)) Qe) Qe) (Qd (QB kk0) Qe))
def QiU(d:Den):Prop:=∀(ns:List Int) (k:Nat),d [.lst (ns.map .int),.int k]=some (.int (ns.getD k 0),true)
def Qwy:QiU (Qr 2 Qg5):=λns k=>by
 refine Q8 ?_;refine Qj (Qs (b:=decide ((k:Int)<ns.length)) ?_ (λh=>?_) (λh=>?_))
 .refine Qo (QO (rb:=reI ns.length) rfl ?_ rfl) rfl;show some (HS.R.mk (.int ((ns.map D.int).length:Int)) true [])=_;rw[Zo]
 .have h:=of_decide_eq_true h;have hk:k<ns.length:= ⋯
  have e:ns[k]? =some (ns.getD k 0):=by rw[Zad,Zag hk];rfl
  exact Qj (Q5 (Qpv rfl rfl rfl rfl ⋯ (by simpa using e)) ⟨rfl,rfl⟩)
 .have h:=of_decide_eq_false h;have e:ns.getD k 0=0:=by rw[Zad,ZD ⋯];rfl
  rw[e];exact Qn (QR rfl ⟨rfl,rfl⟩)
noncomputable def QzG(W:List (Int×Int×Bool)):D:= .lst (W.map Qt2)
@[simp] theorem QzS(W:List (Int×Int×Bool)):(QzG W).flat=false:=rfl
def QpC(hx:ρ[x]? =some (slT (.lst xs)))(ha:fa ρ=some r)(hf:r.d.flat=true)(hl:xs.length<16777216)(q:Q (.nx (ρ.set x (slT (.lst (xs++[r.d])))))):Run (Qf1 x Qbe fa) ρ Q:=by
 refine⟨_,?_,q⟩;have hn:r.norm=⟨r.d,true,[]⟩:=by unfold HS.R.norm;rw[if_pos hf]
 unfold Qf1;rw[hx];simp only[Qbe,Za,ha,Qcq,QmP,hn,QbB,kill,Qjv];simp[hl]
def Run.nx(h:Run f ρ (Nx Q))(m:∀ρ,Q ρ->Q' ρ):Run f ρ (Nx Q'):=h.mono λo ho=>by
 cases o with
 | nx ρ=>exact m ρ ho
 | _=>exact ho.elim
def Qco(h:Run f ρ (Nx P))(k:∀ρ',P ρ'->Run g ρ' Q):Run (Qd f g) ρ Q:=run_seq (h.nx k)
def QeO{fa:DE}{ρ:En}{r:R}{m:Int}{R L:Lpp}(h:fa ρ=some r)(e:r.d=Qy m R L):
  Qm fa (dC (.int 0)) ρ=some (reI m)/\Qm fa (dC (.int 1)) ρ=some ⟨Qg R,r.fr,r.M⟩/\Qm fa (dC (.int 2)) ρ=some ⟨Qg L,r.fr,r.M⟩:=by
 unfold Qm;rw[h];simp only[Za,e,QxW];exact⟨rfl,rfl,rfl⟩
def QnZ(h:fa ρ=some r)(e:r.d= .lst xs):dBf Qaa (Qa fa Qb) ρ=some (reI xs.length):=by
 unfold dBf;rw[Qx h (QZ _),Za];simp[e,Qaa]
def Qk1(ha:fa ρ=some ra)(ea:ra.d=d)(hb:fb ρ=some rb)(eb:rb.d=d)(hs:d.sim 8=true):dOp gNe fa fb ρ=some (reT (.bl false)):=by
 refine QO ha hb ?_;rw[ea,eb];unfold gNe;rw[hs,QnK hs];rfl
def Qy5(ha:fa ρ=some ra)(hb:fb ρ=some rb)(h1:ra.d.sim 8=true)(h2:rb.d.sim 8=true):dOp gEq fa fb ρ=some (reT (.bl (deq ra.d rb.d))):=by
 refine QO ha hb ?_;unfold gEq;rw[h1,h2];rfl
def Qiw(d:Den):Prop:=∀(m:Nat) (R L:Lpp),m<=1000->R.length+R.length+L.length<=1000000->(∀s∈R,Good m s)->(∀s∈L,Good m s)->d [Qy m R L]=some (QdP m (QaV R L),true)
def Qv8(h:QkZ d):Qiw (Qr 1 (QgL d)):=λm R L h1 h2 h3 h4=>Qtv h h1 h2 h3 h4
def Qf8(h:fa ρ=some r)(q:Q (.nx ρ)):Run (Qdi fa) ρ Q:=⟨_,by simp[Qdi,h],q⟩
def QhQ{α:Type}{g:α->Int}{X:Int}:∀S:List α,(∀s∈S,g s<=X)->(S.map g).sum<=S.length*X
 | [],_=>by simp
 | a::S,h=>by
  have h1:=h a ⋯;have h2:=QhQ S λs hs=>h s (by simp[hs]);simp only[Zs,Zab,ZM,Int.natCast_add,Int.add_mul];rw[show((1:Nat):Int)*X=X by simp];omega
def QhD{α:Type}{g:α->Int}:∀S:List α,(∀s∈S,0<=g s)->0<=(S.map g).sum
 | [],_=>by simp
 | a::S,h=>by
  have h1:=h a ⋯;have h2:=QhD S λs hs=>h s (by simp[hs]);simp only[Zs,Zab];omega
end HS
namespace HS
open PySem PySem.Spec L2 PyProof.Rows PySem.NumText
noncomputable def cp(x:Str):List Nat:=x.cps.toList
noncomputable def tx(l:List Nat):Str:=⟨l.toArray⟩
def Qak(l:List Nat):cp (tx l)=l:=rfl
def Qgw(x:Str):tx (cp x)=x:=by cases x;rfl
def Qd8{x y:Str}(h:cp x=cp y):x=y:=by rw[← Qgw x,← Qgw y,h]
def Qcm(x:Str):x.length=(cp x).length:=by unfold cp Str.length;exact Zai.symm
def Qow(x y:Str):cp (x++y)=cp x++cp y:=cps_toList_append x y
noncomputable def dig(n:Nat):List Nat:=(Nat.toDigits 10 n).map Char.toNat
def Qo5:∀d:Nat,d<10->(Nat.digitChar d).toNat=48+d:= ∅
def Qhc{n:Nat}(h:n<10):dig n=[48+n]:=by
 unfold dig;rw[Nat.toDigits_of_lt_base h,Zs,Qo5 n h];rfl
def Qg6{n:Nat}(h:10<=n):dig n=dig (n / 10)++[48+n % 10]:=by
 have e:n=10*(n / 10)+n % 10:= ⋯
 have:=Nat.toDigits_append_toDigits (b:=10) (n:=n / 10) (d:=n % 10) ∅ ⋯ ⋯;rw[← e]at this;unfold dig;rw[← this,ZV,Nat.toDigits_of_lt_base (show n % 10<10 by omega),Zs,Qo5 _ ⋯];rfl
def Qji{P:Nat->Prop}(h1:∀n,n<10->P n)(h2:∀n,10<=n->P (n / 10)->P n)(n:Nat):P n:=by
 induction n using Nat.strongRecOn with
 | ind n ih=>
  by_cases h:n<10
  .exact h1 n h
  .exact h2 n ⋯ (ih _ ⋯)
def QdW(n:Nat):AllDigits (dig n):=by
 refine Qji (P:=λn=>AllDigits (dig n)) (λn h=>?_) (λn h ih=>?_) n
 .rw[Qhc h];intro c hc;rw[Zi]at hc;omega
 .rw[Qg6 h];intro c hc;rcases ZG.mp hc with hc | hc
  .exact ih c hc
  .rw[Zi]at hc;omega
def Qpj(n:Nat):digitsVal (dig n)=n:=by
 refine Qji (P:=λn=>digitsVal (dig n)=n) (λn h=>?_) (λn h ih=>?_) n
 .rw[Qhc h];show 0*10+(48+n-48)=n;omega
 .rw[Qg6 h,digitsVal_snoc,ih];omega
def Qui{n:Nat}(h0:0<n):∃c r,dig n=c::r/\49<=c:=by
 revert h0;refine Qji (P:=λn=>0<n->∃c r,dig n=c::r/\49<=c) (λn h h0=>?_) (λn h ih h0=>?_) n
 .exact⟨_,[],Qhc h,⋯⟩
 .obtain⟨c,r,e,hc⟩:=ih ⋯;exact⟨c,r++[48+n % 10],by rw[Qg6 h,e];rfl,hc⟩
def Qhx(n:Nat):dig n≠[]:=by
 refine Qji (P:=λn=>dig n≠[]) (λn h=>?_) (λn h ih=>?_) n
 .rw[Qhc h];simp
 .rw[Qg6 h];simp
def Qjq{n k:Nat}(hk:0<k)(h:n<10^k):(dig n).length<=k:=by
 unfold dig;rw[Zo,← Nat.toList_repr,String.length_toList];exact(Nat.length_repr_le_iff hk).mpr h
noncomputable def QW(i:Int):Str:=Str.ofString (toString i)
def Qdq(i:Int):cp (QW i)=if i<0 then 45::dig i.natAbs else dig i.natAbs:=by
 show(Str.ofString (toString i)).cps.toList=_;rw[signs_ofString];cases i with
 | ofNat m=>
  rw[if_neg ⋯];show(Nat.repr m).toList.map Char.toNat=_;rw[Nat.toList_repr];rfl
 | negSucc m=>
  rw[if_pos (Int.negSucc_lt_zero m)];show("-" ++Nat.repr (m+1)).toList.map Char.toNat=_;rw[String.toList_append,ZV,Nat.toList_repr];rfl
def Qmp(i:Int):32∉cp (QW i):=by
 rw[Qdq];intro h;split at h
 .rcases Zn.mp h with h | h
  .omega
  .have:=QdW _ _ h;omega
 .have:=QdW _ _ h;omega
def QlB(i:Int):cp (QW i)≠[]:=by
 rw[Qdq];split
 .simp
 .exact Qhx _
def QhG{i:Int}{k:Nat}(hk:0<k)(h:i.natAbs<10^k):(QW i).length<=k+1:=by
 rw[Qcm,Qdq];have:=Qjq hk h;split<;>simp<;>omega
def Qj2{i:Int}{k:Nat}(hk:0<k)(h:i.natAbs<10^k)(hk':k<=4000):intText? (QW i)=some i:=by
 have hl:=QhG hk h;have hc:=Qdq i;by_cases hi:i<0
 .rw[if_pos hi]at hc;rw[intText_neg (x:=QW i) (cs:=dig i.natAbs) hc (QdW _) (Qhx _) ⋯,Qpj];congr 1;omega
 .rw[if_neg hi]at hc;have hc':(QW i).cps.toList=dig i.natAbs:=hc;rw[intText_digits (x:=QW i) (by rw[hc'];exact QdW _) (by rw[hc'];exact Qhx _) ⋯,hc',Qpj];congr 1;omega
noncomputable def jn(c:Nat):List (List Nat)->List Nat
 | []=>[]
 | [x]=>x
 | x::y::r=>x++c::jn c (y::r)
def QeG(c:Nat):∀ts:List Str,cp (Str.join (tx [c]) ts)=jn c (ts.map cp)
 | []=>rfl
 | [x]=>rfl
 | x::y::r=>by
  rw[join_cons_cons,Qow,Qow,QeG c (y::r)];show(cp x++[c])++_=cp x++c::_;rw[ZaC];rfl
def Qnc{c:Nat}:∀{a b r s:List Nat},c∉a->c∉b->a++c::r=b++c::s->a=b/\r=s
 | [],[],r,s,_,_,h=>⟨rfl,by simpa using h⟩
 | [],y::b,r,s,_,hb,h=>by simp at h;exact absurd (by simp[h.1]) hb
 | x::a,[],r,s,ha,_,h=>by simp at h;exact absurd (by simp[h.1]) ha
 | x::a,y::b,r,s,ha,hb,h=>by
  simp only[ZaH,List.cons.injEq]at h;obtain⟨e1,e2⟩:=Qnc (λm=>ha (Zc _ m)) (λm=>hb (Zc _ m)) h.2;exact⟨by rw[h.1,e1],e2⟩
def Qq5{c:Nat}:∀{a b:List (List Nat)},a≠[]->b≠[]->(∀x∈a,c∉x)->(∀x∈b,c∉x)->jn c a=jn c b->a=b
 | [],_,h,_,_,_,_=>absurd rfl h
 | _,[],_,h,_,_,_=>absurd rfl h
 | [x],[y],_,_,_,_,h=>by rw[show x=y from h]
 | [x],y::z::r,_,_,hx,_,h=>absurd (show c∈x from by rw[show x=y++c::jn c (z::r)from h];simp) (hx x ⋯)
 | y::z::r,[x],_,_,_,hx,h=>absurd (show c∈x from by rw[show x=y++c::jn c (z::r)from h.symm];simp) (hx x ⋯)
 | x::z::r,y::w::s,_,_,ha,hb,h=>by
  obtain⟨e1,e2⟩:=Qnc (ha x ⋯) (hb y ⋯) (show x++c::jn c (z::r)=y++c::jn c (w::s)from h);rw[e1,Qq5 ⋯ ⋯ (λu hu=>ha u (Zc _ hu)) (λu hu=>hb u (Zc _ hu)) e2]
def Qnv(x y:Str)(hy:y≠x->True):Txt.split x y=[]->x=Str.empty:=λh=>by
 have:=StrLaws.join_split x y;rw[h]at this;exact this.symm
def Qkg:∀{a b:List Str},a.map cp=b.map cp->a=b
 | [],[],_=>rfl
 | [],_::_,h=>by simp at h
 | _::_,[],h=>by simp at h
 | x::a,y::b,h=>by
  simp only[Zs,List.cons.injEq]at h;rw[Qd8 h.1,Qkg h.2]
def Qkx{c:Nat}{ts:List Str}(h0:∀t∈ts,c∉cp t)(h1:ts≠[])(h2:Txt.split (Str.join (tx [c]) ts) (tx [c])≠[]):Txt.split (Str.join (tx [c]) ts) (tx [c])=ts:=by
 refine Qkg (Qq5 (c:=c) ?_ ?_ ?_ ?_ ?_)
 .simpa using h2
 .simpa using h1
 .intro x hx;obtain⟨t,ht,rfl⟩:=Zz.mp hx;exact StrLaws.split_free _ c t ht
 .intro x hx;obtain⟨t,ht,rfl⟩:=Zz.mp hx;exact h0 t ht
 .rw[← QeG,← QeG,StrLaws.join_split]
def QkS:Str.ofString "-" =tx [45]:= ∅
def QlW:Str.ofString " " =tx [32]:= ∅
def Qlm:Str.ofString "" =tx []:= ∅
def Qrf:Str.ofString "0123456789" =tx [48,49,50,51,52,53,54,55,56,57]:= ∅
def Qhf:Str.ofString "0" =tx [48]:= ∅
section
variable {fa fb:DE}{ρ:En}{ra rb r:R}
def Qgv{g:D->D->Option D}{d:D}(ha:fa ρ=some ra)(hb:fb ρ=some rb)(h:g ra.d rb.d=some d):dM1 g fa (Qa fb Qb) ρ=some ⟨d,true,[]⟩:=by
 unfold dM1;rw[ha,Za,Qx hb (QZ _),Za];show(g ra.d rb.d).map _=_;rw[h];rfl
def Qf7{g:List D->Option D}{d:D}(h:fa ρ=some r)(e:g [r.d]=some d):dBf g (Qa fa Qb) ρ=some ⟨d,true,[]⟩:=by
 unfold dBf;rw[Qx h (QZ _),Za];show(g [r.d]).map _=_;rw[e];rfl
def Qlu{x:Str}(h:fa ρ=some r)(e:r.d= .str x)(hl:x.length<=16000000):Q3 fa ρ=some ⟨(cp x).map λc=> .str (tx [c]),[]⟩:=by
 unfold Q3;rw[h,Za,e];exact if_pos (by rw[QaA];exact Zx hl ∅)
def Qc8{x:Str}(h:fa ρ=some r)(e:r.d= .str x)(hl:x.length<=16000000):dBf Qaa (Qa fa Qb) ρ=some (reI x.length):=
 Qf7 h (by rw[e];exact if_pos (by rw[QaA];exact Zx hl ∅))
def Qwb{x y:Str}(ha:fa ρ=some ra)(ea:ra.d= .str x)(hb:fb ρ=some rb)(eb:rb.d= .str y)(hl:x.length+y.length<=16000000):QL fa fb ρ=some (reT (.str (x++y))):=by
 unfold QL;rw[ha,Za,hb,Za,ea,eb];exact if_pos (by rw[QaA];exact Zx hl ∅)
def Qd3{x:Str}{n:Nat}(h:∀c∈cp x,c<200):(D.str x).sim n=true:=by
 have:(D.str x).sim n=x.cps.all (· <0x110000):=by cases n<;>rfl
 rw[this,← Array.all_toList,ZC];intro c hc;have:=h c hc;exact decide_eq_true ⋯
def QrQ(x y:Str):deq (.str x) (.str y)=(x == y):=rfl
def QiH{x y:Str}(ha:fa ρ=some ra)(ea:ra.d= .str x)(hb:fb ρ=some rb)(eb:rb.d= .str y)(hx:∀c∈cp x,c<200)(hy:∀c∈cp y,c<200):dOp gEq fa fb ρ=some (reT (.bl (x == y))):=
 QO ha hb (by rw[ea,eb];unfold gEq;rw[Qd3 hx,Qd3 hy,QrQ];rfl)
def Qn1{x y:Str}(ha:fa ρ=some ra)(ea:ra.d= .str x)(hb:fb ρ=some rb)(eb:rb.d= .str y)(hx:∀c∈cp x,c<200)(hy:∀c∈cp y,c<200):dOp gNe fa fb ρ=some (reT (.bl (!(x == y)))):=
 QO ha hb (by rw[ea,eb];unfold gNe;rw[Qd3 hx,Qd3 hy,QrQ];rfl)
def Qq4{α:Type}:∀ks:List α,QiB (ks.map λ_=>D.bl false)=some (ks.map λ_=>false)
 | []=>rfl
 | k::ks=>by
  show(QiB (ks.map λ_=>D.bl false)).map _=_;rw[Qq4 ks];rfl
def Qwc{α:Type}{ks:List α}(h:fa ρ=some r)(e:r.d= .lst (ks.map λ_=> .bl false)):dBf Qea (Qa fa Qb) ρ=some (reT (.bl false)):=by
 refine Qf7 h ?_;rw[e];simp only[Qea,Qq4,ZO];congr 2;rw[ZaS];simp
end
def Qlx{w:Str}{c:Nat}{r:List Nat}(h:cp w=c::r):Txt.startswith w "-" =(c == 45):=by
 have e:w=tx (c::r):=Qd8 h;subst e;show Txt.startswith (tx (c::r)) (Str.ofString "-")=_;rw[QkS];simp[Txt.startswith,Builtin.Str.subAt,tx,Str.length,List.extract_toArray]
def Qoc{w:Str}{c:Nat}{r:List Nat}(h:cp w=c::r):Txt.slice w (some 1) none=tx r:=by
 have hl:w.length=r.length+1:=by rw[Qcm,h];rfl
 have e:Txt.slice w (some 1) none=StrLaws.sliceText w (some ((1:Nat):Int)) (some (w.length:Int)):=by
  show StrLaws.sliceText w (some 1) none=_;unfold StrLaws.sliceText;rw[StrLaws.sliceIdx_none_hi];rfl
 rw[e,StrLaws.sliceText_nat w ⋯ (Ze _)];show tx (((cp w).drop 1).take (w.length-1))=_;rw[h,hl];show tx (r.take (r.length+1-1))=_;rw[Nat.add_sub_cancel,Zal]
def QlC{n c:Nat}(h:c∈dig n):c<200:=by have:=QdW n c h;omega
def Qke{i:Int}{c:Nat}(h:c∈cp (QW i)):c<200:=by
 rw[Qdq]at h;split at h
 .rcases Zn.mp h with h | h
  .omega
  .exact QlC h
 .exact QlC h
def Qvo{n c:Nat}(h:c∈dig n):gIn true (.str (tx [c])) (.str "0123456789")=some (.bl false):=by
 have f:=StrLaws.found_one (Str.ofString "0123456789") c;have hc:=QdW n c h;show some (D.bl (!(!(Builtin.Str.occurrences (Str.ofString "0123456789") ⟨#[c]⟩ 0 (Str.ofString "0123456789").length 1).isEmpty)))=_;rw[f,Qrf];have:c∈(tx [48,49,50,51,52,53,54,55,56,57]).cps.toList:=by
  show c∈[48,49,50,51,52,53,54,55,56,57];simp only[Zn,ZaI,or_false];omega
 rw[decide_eq_true this];rfl
noncomputable def QdH:DS:=(Qd (Qu 1 (dIf (Qf (dM1 gSw vv0 (Qa (dC (.str "-")) Qb))) (QU vv0 (QD kk1) QX) vv0)) (Qd (sIf (Qf (dBf Qea (Qa (Qau (Q3 vv1) (.nm 1) [none,none] QaE (dOp (gIn true) vv1 (dC (.str "0123456789")))) Qb))) (Qd Qp Qe) Qe) (Qd (sIf (bOr (Qf (dOp gLt (dBf Qaa (Qa vv1 Qb)) kk1)) (Qf (dOp gGt (dBf Qaa (Qa vv1 Qb)) Qh2))) (Qd Qp Qe) Qe) (Qd (sIf (QeY (Qf (dOp gEq (Qm vv1 kk0) (dC (.str "0")))) (Qf (dOp gNe vv0 (dC (.str "0"))))) (Qd Qp Qe) Qe) (Qd (QB (dBf Qde (Qa vv0 Qb))) Qe)))))
def QhM(d:Den):Prop:=∀i:Int,i.natAbs<10^18->d [.str (QW i)]=some (.int i,true)
def Qzf:QhM (Qr 2 QdH):=λi h=>by
 have hl:=QhG ∅ h;have hf:=Qjq ∅ h;have hc:=Qdq i;refine Q8 ?_;have hs:Txt.startswith (QW i) "-" =decide (i<0):=by
  by_cases hi:i<0
  .rw[if_pos hi]at hc;rw[Qlx hc,decide_eq_true hi];rfl
  .rw[if_neg hi]at hc;cases hd:dig i.natAbs with
   | nil=>exact absurd hd (Qhx _)
   | cons c r=>
    rw[hd]at hc;have:=QdW i.natAbs c (by rw[hd];simp);rw[Qlx hc,decide_eq_false hi];exact beq_eq_false_iff_ne.mpr ⋯
 have e1:dIf (Qf (dM1 gSw (Qc 0) (Qa (dC (.str "-")) Qb))) (QU (Qc 0) (QD (dC (.int 1))) QX) (Qc 0) (QP 2 [.str (QW i)])=some (reT (.str (tx (dig i.natAbs)))):=by
  have h0:Qf (dM1 gSw (Qc 0) (Qa (dC (.str "-")) Qb)) (QP 2 [.str (QW i)])=some (decide (i<0)):=
   Qo (r:=reT (.bl (Txt.startswith (QW i) "-"))) (Qgv (ra:=reT (.str (QW i))) (rb:=reT (.str "-")) rfl rfl rfl) (by rw[hs])
  unfold dIf;rw[h0,Za];by_cases hi:i<0
  .rw[if_pos (decide_eq_true hi)];rw[if_pos hi]at hc;show(if(QW i).length<=sizeLine then some (HS.R.mk (.str (Txt.slice (QW i) (some 1) none)) true [])else none)=_;rw[if_pos (by rw[QaA];omega),Qoc hc]
  .rw[if_neg (by rw[decide_eq_false hi];decide)];rw[if_neg hi]at hc;show some (HS.R.mk (.str (QW i)) true [])=_;rw[show QW i=tx (dig i.natAbs)from Qd8 hc]
 refine run_seq (Qz e1 ?_);change Nx _ (.nx [slT (.str (QW i)),slT (.str (tx (dig i.natAbs)))]);have hfl:(tx (dig i.natAbs)).length<=18:=by rw[Qcm];exact hf
 refine Qj (Qs (b:=false) (Qo (r:=reT (.bl false)) (Qwc (ks:=dig i.natAbs) (QbN (toD:=λc=> .str (tx [c])) (out:=λ_=> .bl false) (dig i.natAbs) (Qlu (x:=tx (dig i.natAbs)) rfl rfl ⋯) rfl (λc hc=>⟨[none,slT (.str (tx [c]))],rfl,reT (.bl false),QO (ra:=reT (.str (tx [c]))) (rb:=reT (.str "0123456789")) rfl rfl (Qvo hc),rfl,rfl⟩)) rfl) rfl) (λh=>by cases h) (λ_=>Qn ?_));have hg:1<=(tx (dig i.natAbs)).length:=by
  rw[Qcm];exact List.length_pos_iff.mpr (Qhx _)
 refine Qj (Qs (b:=false) ?_ (λh=>by cases h) (λ_=>Qn ?_))
 .have:=Qab (a:=decide (((tx (dig i.natAbs)).length:Int)<1)) (b:=decide ((18:Int)<(tx (dig i.natAbs)).length)) (g1:=Qf (dOp gLt (dBf Qaa (Qa (Qc 1) Qb)) (dC (.int 1)))) (g2:=Qf (dOp gGt (dBf Qaa (Qa (Qc 1) Qb)) (dC (.int 18)))) (ρ:=[slT (.str (QW i)),slT (.str (tx (dig i.natAbs)))])
   (Qo (QO (ra:=reT (.int (tx (dig i.natAbs)).length)) (rb:=reI 1) (Qc8 rfl rfl ⋯) rfl rfl) rfl) (Qo (QO (ra:=reT (.int (tx (dig i.natAbs)).length)) (rb:=reI 18) (Qc8 rfl rfl ⋯) rfl rfl) rfl)
  rw[this,decide_eq_false ⋯,decide_eq_false ⋯];rfl
 have hw:(QW i == tx [48])=decide (i=0):=by
  by_cases h0:i=0
  .subst h0;decide
  .rw[decide_eq_false h0];refine beq_eq_false_iff_ne.mpr λe=>h0 ?_;have e2:=Qj2 (i:=i) ∅ h ∅;rw[e,show tx [48]=QW 0 by decide,Qj2 (i:=0) (k:=1) ∅ ∅ ∅]at e2;exact(Option.some.inj e2).symm
 refine Qj (Qs (b:=false) ?_ (λh=>by cases h) (λ_=>Qn ?_))
 .cases hd:dig i.natAbs with
  | nil=>exact absurd hd (Qhx _)
  | cons c r=>
   have ei:Qm (Qc 1) (dC (.int 0)) [slT (.str (QW i)),slT (.str (tx (c::r)))]=some (reT (.str (tx [c]))):=by
    show(if 0<=(0:Int)/\(0:Int)<2^63/\(0:Int)<(tx (c::r)).length then((tx (c::r)).cps[(0:Int).toNat]?).map λc=>HS.R.mk (.str ⟨#[c]⟩) true []else none)=_;rw[if_pos ⟨∅,∅,by rw[Qcm,Qak];simp⟩];rfl
   have hcl:c<200:=QlC (n:=i.natAbs) (by rw[hd];simp)
   have:=Qjk (a:=tx [c] == tx [48]) (b:= !(QW i == tx [48])) (g1:=Qf (dOp gEq (Qm (Qc 1) (dC (.int 0))) (dC (.str "0")))) (g2:=Qf (dOp gNe (Qc 0) (dC (.str "0")))) (ρ:=[slT (.str (QW i)),slT (.str (tx (c::r)))])
    (Qo (QiH (rb:=reT (.str "0")) ei rfl rfl (congrArg D.str Qhf) (λc' h'=>by rw[Qak,Zi]at h';omega) (λc' h'=>by rw[Qak,Zi]at h';omega)) rfl)
    (Qo (Qn1 (ra:=reT (.str (QW i))) (rb:=reT (.str "0")) rfl rfl rfl (congrArg D.str Qhf) (λc' h'=>Qke h') (λc' h'=>by rw[Qak,Zi]at h';omega)) rfl)
   rw[this,hw];by_cases h0:i=0
   .rw[decide_eq_true h0,Zbz,ZaU]
   .obtain⟨c',r',e',hc'⟩:=Qui (n:=i.natAbs) ⋯;rw[hd]at e';obtain⟨rfl,rfl⟩:=List.cons.inj e';rw[beq_eq_false_iff_ne.mpr (λe=>by have:=congrArg cp e;rw[Qak,Qak]at this;simp at this;omega),Zam]
 refine QR (Qf7 (r:=reT (.str (QW i))) (d:= .int i) rfl ?_) ⟨rfl,rfl⟩;show(if(QW i).length<=640 then(intText? (QW i)).map D.int else none)=_;rw[if_pos ⋯,Qj2 ∅ h ∅];rfl
noncomputable def Qd7(ns:List Int):Str:=Str.join (tx [32]) (ns.map QW)
def Small(k:Nat)(ns:List Int):Prop:=ns.length<=63/\∀n∈ns,n.natAbs<10^k
def Qt3{ns:List Int}{k:Nat}(hk:0<k)(h:Small k ns):∀y∈ns.map QW,y.length<=k+1:=λy hy=>by
 obtain⟨n,hn,rfl⟩:=Zz.mp hy;exact QhG hk (h.2 n hn)
def QsL{ns:List Int}{k:Nat}(hk:0<k)(h:Small k ns):(Qd7 ns).length<=63*(k+2):=by
 have h1:=StrLaws.join_length_le (tx [32]) (ns.map QW);have h2:=StrLaws.sumLen_le (B:=k+1) (ns.map QW) (Qt3 hk h);rw[Zo]at h1 h2;have e:(tx [32]).length=1:=rfl;rw[e,Nat.mul_one]at h1;have h3:ns.length*(k+1)<=63*(k+1):=Nat.mul_le_mul_right _ h.1;have h4:63*(k+2)=63*(k+1)+63:= ⋯
 have:=h.1;show(Str.join (tx [32]) (ns.map QW)).length<=_;omega
def Qrg{c b:Nat}(hc:c<b):∀{l:List (List Nat)},(∀x∈l,∀d∈x,d<b)->∀d∈jn c l,d<b
 | [],_,d,h=>by simp[jn]at h
 | [x],hx,d,h=>hx x ⋯ d h
 | x::y::r,hx,d,h=>by
  rcases ZG.mp (show d∈x++c::jn c (y::r)from h)with h | h
  .exact hx x ⋯ d h
  .rcases Zn.mp h with h | h
   .omega
   .exact Qrg hc (λz hz=>hx z (Zc _ hz)) d h
def QuA{c:Nat}:∀{l:List (List Nat)},l≠[]->(∀x∈l,x≠[])->jn c l≠[]
 | [],h,_=>absurd rfl h
 | [x],_,hx=>hx x ⋯
 | x::z::r,_,hx=>by show x++c::_≠[];simp
def QwQ{ns:List Int}(h:ns≠[]):Qd7 ns≠tx []:=λe=>by
 have:=congrArg cp e;unfold Qd7 at this;rw[QeG,Qak]at this;refine QuA (by simpa using h) (λx hx=>?_) this;rw[ZF]at hx;obtain⟨n,_,rfl⟩:=Zz.mp hx;exact QlB n
def Qm8:∀ts:List Str,Qei (ts.map .str)=some ts
 | []=>rfl
 | t::ts=>by
  show(Qei (ts.map .str)).map _=_;rw[Qm8 ts];rfl
def Qr7{n:Int}(h:n.natAbs<10^60):Qfv [.int n]=some (.str (QW n)):=by
 show(if n.natAbs.log2<1920 then some (D.str (QW n))else none)=_;refine if_pos ?_;by_cases h0:n.natAbs=0
 .rw[h0];decide
 .exact(Zby h0).mpr (Zm h (Zx (by decide:10^60<=2^200) (Zau ∅ ∅)))
noncomputable def Qeg:DS:=(Qd (sIf (Qcs (Qf (QcM "str" vv0))) (Qd Qp Qe) Qe) (Qd (QB (dM1 QiD vv0 (Qa (dC (.str " ")) Qb))) Qe))
def QeW(d:Den):Prop:=∀x:Str,x.length<=16000000->(Txt.split x (tx [32])).length<=16000000->d [.str x]=some (.lst ((Txt.split x (tx [32])).map .str),true)
def QtH:QeW (Qr 1 Qeg):=λx h1 h2=>by
 refine Q8 (Qj (Qs (b:=false) (Qdf (b:=true) (Qo (b:=true) rfl rfl)) (λh=>by cases h) (λ_=>Qn ?_)));refine QR (Qgv (ra:=reT (.str x)) (rb:=reT (.str " ")) rfl rfl ?_) ⟨rfl,rfl⟩;show(if(((Str.ofString " ").length == 0)=false/\x.length<=16000000)/\(Txt.split x (Str.ofString " ")).length<=16000000 then some (D.lst ((Txt.split x (Str.ofString " ")).map .str))else none)=_;rw[QlW,if_pos ⟨⟨rfl,h1⟩,h2⟩]
noncomputable def QfK(Q7:Den)(QI:Den):DS:=(Qd (Qu 1 (Ql 1 Q7 [] (Qa vv0 Qb))) (Qd (sIf (Qf (dOp gEq vv1 (Q4 (Qa (dC (.str "")) Qb)))) (Qd (QB (Q4 Qb)) Qe) Qe) (Qd (QB (Qau (Q3 vv1) (.nm 1) [none,none] QaE (Ql 1 QI [] (Qa vv1 Qb)))) Qe)))
def Qoe(d:Den):Prop:=∀ns,Small 18 ns->d [.str (Qd7 ns)]=some (QE ns,true)
def QhE{ts:List Str}(h:∀t∈ts,∀c∈cp t,c<200):(D.lst (ts.map .str)).sim 8=true:=by
 show(ts.map D.str).all (D.sim 7)=true;rw[ZC];intro d hd;obtain⟨t,ht,rfl⟩:=Zz.mp hd;exact Qd3 (h t ht)
def Qvb{dw dn:Den}(hw:QeW dw)(hn:QhM dn):Qoe (Qr 2 (QfK dw dn)):=λns h=>by
 have hT:=QsL ∅ h;refine Q8 ?_;by_cases h0:ns=[]
 .subst h0;have es:Txt.split (Qd7 []) (tx [32])=[tx []]:=rfl;have hd:=hw (Qd7 []) ⋯ (by rw[es];decide);rw[es]at hd;refine run_seq (Qz (Qq (r:=⟨[.str (Qd7 [])],true,[]⟩) rfl hd rfl) ?_);change Nx _ (.nx [slT (.str (Qd7 [])),slT (.lst [.str (tx [])])]);refine Qj (Qs (b:=true) ?_ (λ_=>?_) (λh=>by cases h))
  .refine Qo (QO (ra:=⟨.lst [.str (tx [])],true,[1]⟩) (rb:=reT (.lst [.str (tx [])])) (d:= .bl true) rfl ?_ ?_) rfl
   .show some (HS.R.mk (.lst [.str (Str.ofString "")]) true [])=_;rw[Qlm]
   .show(if(D.lst ([tx []].map .str)).sim 8 && (D.lst ([tx []].map .str)).sim 8 then some (D.bl (deq (.lst [.str (tx [])]) (.lst [.str (tx [])])))else none)=_;rw[QhE (ts:=[tx []]) (λt ht c hc=>by rw[Zi]at ht;rw[ht,Qak]at hc;simp at hc)];show some (D.bl ((tx [] == tx []) && true))=_;rw[beq_self_eq_true];rfl
  .exact Qj (Q5 (r:=reT (.lst [])) rfl ⟨rfl,rfl⟩)
 .have es:Txt.split (Qd7 ns) (tx [32])=ns.map QW:=by
   refine Qkx (λt ht=>?_) (by simpa using h0) λe=>QwQ h0 (Qnv _ _ (λ_=>trivial) e);obtain⟨n,_,rfl⟩:=Zz.mp ht;exact Qmp n
  have hd:=hw (Qd7 ns) ⋯ (by rw[es,Zo];have:=h.1;omega);rw[es]at hd;refine run_seq (Qz (Qq (r:=⟨[.str (Qd7 ns)],true,[]⟩) rfl hd rfl) ?_);change Nx _ (.nx [slT (.str (Qd7 ns)),slT (.lst ((ns.map QW).map .str))]);refine Qj (Qs (b:=false) ?_ (λh=>by cases h) (λ_=>Qn ?_))
  .refine Qo (QO (ra:=⟨.lst ((ns.map QW).map .str),true,[1]⟩) (rb:=reT (.lst [.str (tx [])])) (d:= .bl false) rfl ?_ ?_) rfl
   .show some (HS.R.mk (.lst [.str (Str.ofString "")]) true [])=_;rw[Qlm]
   .show(if(D.lst ((ns.map QW).map .str)).sim 8 && (D.lst ([tx []].map .str)).sim 8 then some (D.bl (deq (.lst ((ns.map QW).map .str)) (.lst [.str (tx [])])))else none)=_;rw[QhE (ts:=ns.map QW) (λt ht c hc=>by obtain⟨n,_,rfl⟩:=Zz.mp ht;exact Qke hc),QhE (ts:=[tx []]) (λt ht c hc=>by rw[Zi]at ht;rw[ht,Qak]at hc;simp at hc)];cases ns with
    | nil=>exact absurd rfl h0
    | cons n r=>
     show some (D.bl ((QW n == tx []) && _))=_;rw[beq_eq_false_iff_ne.mpr λe=>QlB n (by rw[e,Qak]),Zam]
  .refine QR (QbN (toD:=λn=> .str (QW n)) (out:=D.int) ns (Qaz (xs:=(ns.map QW).map .str) (r:=⟨.lst ((ns.map QW).map .str),true,[1]⟩) rfl rfl) (by rw[ZF];rfl) λn hm=>⟨[none,slT (.str (QW n))],rfl,reI n,Qq (r:=⟨[.str (QW n)],true,[]⟩) rfl (hn n (h.2 n hm)) rfl,rfl,rfl⟩) ⟨rfl,rfl⟩
def QrR(ns:List Int):(QE ns).sim 8=true:=by
 show(ns.map D.int).all (D.sim 7)=true;rw[ZC];intro d hd;obtain⟨t,ht,rfl⟩:=Zz.mp hd;rfl
end HS
namespace HS
open PySem PySem.Spec L2
def Ap(f:DS)(fx:DX):Prop:=∀ρ,fx ρ≠none->f ρ=none
def ApF(d:Den)(xd:List D->Option Str):Prop:=∀ds,xd ds≠none->d ds=none
def Qad{f:DS}:Ap f xNo:=λρ h=>absurd rfl h
def QA{x:Str}{fs:DA}:Ap Qp (QaS x fs):=λρ h=>rfl
def Q0{f g:DS}{fx gx:DX}(a:Ap f fx)(b:Ap g gx):Ap (Qd f g) (QC f fx gx):=λρ h=>by
 unfold QC at h;unfold Qd;split at h
 .rename_i ρ' e;rw[e];exact b ρ' h
 .exact absurd rfl h
 .rename_i e;rw[e];rfl
def Qar{c:DT}{f g:DS}{fx gx:DX}(a:Ap f fx)(b:Ap g gx):Ap (sIf c f g) (xIf c fx gx):=λρ h=>by
 unfold xIf at h;unfold sIf;cases e:c ρ with
 | none=>rfl
 | some v=>
  rw[e,Za]at h;rw[Za];cases v with
  | true=>rw[if_pos rfl]at h ⊢;exact a ρ h
  | false=>rw[if_neg ZK]at h ⊢;exact b ρ h
def QaO{fi:DI}{t:Tg}{fb:DS}{fx:DX}(a:Ap fb fx):Ap (Qbd fi t fb) (Qf6 fi t fb fx):=λρ h=>by
 unfold Qf6 at h;unfold Qbd;cases e:fi ρ with
 | none=>rfl
 | some ir=>
  rw[e,Za]at h;rw[Za];clear e;revert h;generalize ir.items=ds;generalize Qcj ir.M ρ=ρ0
  induction ds generalizing ρ0 with
  | nil=>exact λh=>absurd rfl h
  | cons d ds ih=>
   intro h;unfold Qe0 at h;unfold Qdn;cases e1:Qa1 t d ρ0 with
   | none=>rfl
   | some ρ1=>
    rw[e1,Za]at h;rw[Za];split at h
    .rename_i ρ2 e2;rw[e2,Za];exact ih ρ2 h
    .rename_i ρ2 e2;rw[e2,Za];exact ih ρ2 h
    .exact absurd rfl h
    .rename_i e2;rw[e2];rfl
def Qdr{n:Nat}{d:Den}{xd:List D->Option Str}{fs:DA}(a:ApF d xd){ρ:En}(h:QY n xd fs ρ≠none):Ql n d [] fs ρ=none:=by
 unfold QY at h;unfold Ql;cases e:fs ρ with
 | none=>rfl
 | some r=>
  rw[e,Za]at h;rw[Za];split at h
  .rename_i hl;rw[if_pos (by simpa using hl),ZJ,a r.ds (λz=>h (by rw[z];rfl))];rfl
  .exact absurd rfl h
def Qay{n:Nat}{d:Den}{xd:List D->Option Str}{fs:DA}(a:ApF d xd):Ap (Qdi (Ql n d [] fs)) (QY n xd fs):=λρ h=>by unfold Qdi;rw[Qdr a h];rfl
def Qai{n i:Nat}{d:Den}{xd:List D->Option Str}{fs:DA}(a:ApF d xd):Ap (Qu i (Ql n d [] fs)) (QY n xd fs):=λρ h=>by unfold Qu;rw[Qdr a h];rfl
def QaF{n:Nat}{d:Den}{xd:List D->Option Str}{fs:DA}(a:ApF d xd):Ap (QB (Ql n d [] fs)) (QY n xd fs):=λρ h=>by unfold QB;rw[Qdr a h];rfl
def Qec{k:Nat}{f:DS}{fx:DX}(a:Ap f fx):ApF (Qr k f) (Q6 k fx):=λds h=>by
 unfold Q6 at h;unfold Qr;rw[a _ λz=>h (by rw[z];rfl)];rfl
def QaC(f:DX)(ρ:En)(x:Str):Prop:=∃ρ',f ρ=some (x,ρ')
def QaN{x:Str}{fs:DA}{ρ:En}{r:RA}(h:fs ρ=some r)(hl:r.ds.length<=1):QaC (QaS x fs) ρ x:=⟨ρ,by unfold QaS;rw[h,Za,if_pos hl]⟩
def QbK{n:Nat}{xd:List D->Option Str}{fs:DA}{ρ:En}{r:RA}{x:Str}(h:fs ρ=some r)(hl:r.ds.length=n)(hx:xd r.ds=some x):QaC (QY n xd fs) ρ x:=⟨ρ,by unfold QY;rw[h,Za,if_pos hl,hx];rfl⟩
def Qca{g:DT}{fa fb:DX}{b:Bool}{ρ:En}{x:Str}(h:g ρ=some b)(q1:b=true->QaC fa ρ x)(q2:b=false->QaC fb ρ x):QaC (xIf g fa fb) ρ x:=by
 cases b with
 | true=>obtain⟨o,h1⟩:=q1 rfl;exact⟨o,by simp[xIf,h,h1]⟩
 | false=>obtain⟨o,h1⟩:=q2 rfl;exact⟨o,by simp[xIf,h,h1]⟩
def QG{f:DS}{fx fr:DX}{ρ:En}{x:Str}(a:Ap f fx)(q:QaC fx ρ x):QaC (QC f fx fr) ρ x:=by
 obtain⟨o,h⟩:=q;exact⟨o,by unfold QC;rw[a ρ (by rw[h];exact λz=>by cases z)];exact h⟩
def QT{f:DS}{fx fr:DX}{ρ:En}{x:Str}(h:Run f ρ (Nx λρ'=>QaC fr ρ' x)):QaC (QC f fx fr) ρ x:=by
 obtain⟨o,h1,h2⟩:=h;cases o with
 | nx ρ'=>obtain⟨o,h3⟩:=h2;exact⟨o,by unfold QC;rw[h1];exact h3⟩
 | _=>exact h2.elim
def Qor{α:Type}{fi:DI}{t:Tg}{fb:DS}{fx:DX}{toD:α->D}{ρ:En}{ir:IR}{c:Str}(a:Ap fb fx)(xs:List α)(I:Nat->En->Prop)(k:Nat)(hk:k<xs.length)(h:fi ρ=some ir)(hx:ir.items=xs.map toD)(h0:I 0 (Qcj ir.M ρ))
  (turn:∀i x ρ,i<k->xs[i]? =some x->I i ρ->∃ρ1,Qa1 t (toD x) ρ=some ρ1/\Run fb ρ1 (Nx λρ2=>I (i+1) ρ2))
  (here:∀x ρ,xs[k]? =some x->I k ρ->∃ρ1,Qa1 t (toD x) ρ=some ρ1/\QaC fx ρ1 c):QaC (Qf6 fi t fb fx) ρ c:=by
 unfold QaC Qf6;rw[h,Za,hx];clear h hx;have gen:∀(n:Nat) (i:Nat) (ρ:En),k-i=n->i<=k->I i ρ->∃ρ',Qe0 t fb fx ((xs.drop i).map toD) ρ=some (c,ρ'):=by
  intro n
  induction n with
  | zero=>
   intro i ρ e hi hI;obtain rfl:i=k:= ⋯
   rw[ZL hk,Zs];unfold Qe0;obtain⟨ρ1,e1,ρ2,e2⟩:=here xs[i] ρ (by simp[hk]) hI;refine⟨ρ2,?_⟩;rw[e1,Za,a ρ1 (by rw[e2];exact λz=>by cases z)];exact e2
  | succ n ih=>
   intro i ρ e hi hI;have hlt:i<xs.length:= ⋯
   rw[ZL hlt,Zs];unfold Qe0;obtain⟨ρ1,e1,o,e2,e3⟩:=turn i xs[i] ρ ⋯ (by simp[hlt]) hI;cases o with
   | nx ρ2=>
    obtain⟨ρ',e4⟩:=ih (i+1) ρ2 ⋯ ⋯ e3;exact⟨ρ',by rw[e1,Za,e2];exact e4⟩
   | _=>exact e3.elim
 have:=gen (k-0) 0 _ rfl (ZQ _) h0;simpa using this
def Qc1{k:Nat}{f:DX}{ds:List D}{x:Str}(h:QaC f (QP k ds) x):Q6 k f ds=some x:=by
 obtain⟨ρ,e⟩:=h;unfold Q6;rw[e];rfl
def Qtj{f:DS}{fx:DX}{sub:Str->Str->Option Bool}{y:Str}{h:DS}{r:List Hd}{x:Str}{ρ ρ':En}{Q:Out->Prop}(a:Ap f fx)(e:fx ρ=some (x,ρ'))(hs:sub x y=some true)(q:Run h ρ' Q):Run (Qfq f fx sub ((y,none,h)::r)) ρ Q:=by
 obtain⟨o,h1,h2⟩:=q;refine⟨o,?_,h2⟩;unfold Qfq;rw[a ρ (by rw[e];exact λz=>by cases z)];dsimp only;rw[e,Za];unfold Qm9;rw[hs,Za,if_pos rfl];exact h1
def Qj0{f:DS}{fx:DX}{sub:Str->Str->Option Bool}{y:Str}{i:Nat}{h:DS}{r:List Hd}{x:Str}{ρ ρ':En}{Q:Out->Prop}(a:Ap f fx)(e:fx ρ=some (x,ρ'))(hs:sub x y=some true)(q:Run h (ρ'.set i (some (.exc x,true))) λo=>Q (QyU i o)):Run (Qfq f fx sub ((y,some i,h)::r)) ρ Q:=by
 obtain⟨o,h1,h2⟩:=q;refine⟨_,?_,h2⟩;unfold Qfq;rw[a ρ (by rw[e];exact λz=>by cases z)];dsimp only;rw[e,Za];unfold Qm9;rw[hs,Za,if_pos rfl];dsimp only;rw[h1];rfl
end HS
namespace HS
open PySem L2
def QfU(i:Nat)(a:Int):0<=isI i a/\isI i a<=1:=by unfold isI;split<;>omega
def QsW(R L:Lpp)(k:Nat):0<=QaV R L k/\QaV R L k<=2*R.length+L.length:=by
 unfold QaV;have h1:=QhD (g:=λr:Int×Int=>isI k r.1+isI k r.2) R λs _=>by
  have:=QfU k s.1;have:=QfU k s.2;show 0<=isI k s.1+isI k s.2;omega
 have h2:=QhD (g:=λr:Int×Int=>isI k r.1) L λs _=>(QfU k s.1).1;have h3:=QhQ (g:=λr:Int×Int=>isI k r.1+isI k r.2) (X:=2) R λs _=>by
  have:=QfU k s.1;have:=QfU k s.2;show isI k s.1+isI k s.2<=2;omega
 have h4:=QhQ (g:=λr:Int×Int=>isI k r.1) (X:=1) L λs _=>(QfU k s.1).2;omega
def QkD(h:fs ρ=some rs)(hl:rs.ds.length<=64):Q4 fs ρ=some ⟨.lst rs.ds,rs.fr,rs.M⟩:=by
 unfold Q4;rw[h,Za,if_pos hl]
def QyE{sub:Str->Str->Option Bool}{ys:List Str}{fa:DE}{ρ:En}{x:Str}{b:Bool}(h:fa ρ=some ⟨.exc x,true,[]⟩)(hs:anyS sub x ys=some b):QeV sub ys fa ρ=some (reT (.bl b)):=by
 unfold QeV;rw[h,Za];dsimp only;rw[hs];rfl
def any_cons{sub:Str->Str->Option Bool}{x y:Str}{ys:List Str}{b c:Bool}(h:sub x y=some b)(t:anyS sub x ys=some c):anyS sub x (y::ys)=some (b || c):=by
 unfold anyS;rw[h,Za,t];rfl
def Qzg{fa fb:DE}{ρ:En}{ra rb:R}{xs ys:List D}(ha:fa ρ=some ra)(ea:ra.d= .lst xs)(hb:fb ρ=some rb)(eb:rb.d= .lst ys)(hf:Qah (xs++ys)=true)(hl:xs.length+ys.length<=16777216):QL fa fb ρ=some (reT (.lst (xs++ys))):=by
 unfold QL;rw[ha,Za,hb,Za,ea,eb];dsimp only;rw[if_pos (by exact hl)];unfold Qbx;rw[if_pos hf]
noncomputable def Qk4:DS:=(Qd (QB (dOp gEq (dBf Qaa (Qa (Qm vv0 kk2) Qb)) kk0)) Qe)
def Qjh(d:Den):Prop:=∀(m:Int) (R L:Lpp),d [Qy m R L]=some (.bl (decide ((L.length:Int)=0)),true)
def Qtw:Qjh (Qr 1 Qk4):=λm R L=>by
 refine Q8 ?_;refine QR (Qcn (QnZ (QeO (r:=reF (Qy m R L)) rfl rfl).2.2 rfl) rfl rfl rfl) ⟨?_,rfl⟩;simp
noncomputable def Qcf:Option Int->D
 | none=> .non
 | some i=> .int i
@[simp] theorem QnQ(o:Option Int):(Qcf o).flat=true:=by cases o<;>rfl
noncomputable def QaW(m:Nat)(F:Nat->Option Int):D:= .lst ((List.range m).map λi=>Qcf (F i))
@[simp] theorem QAX(m:Nat)(F:Nat->Option Int):(QaW m F).flat=false:=rfl
@[simp] theorem QqH(m:Nat)(F:Nat->Option Int):Qah ((List.range m).map λi=>Qcf (F i))=true:=Qb3 (f:=λi=>Qcf (F i)) (λ_=>QnQ _) _
noncomputable def upO(F:Nat->Option Int)(i:Nat)(v:Option Int):Nat->Option Int:=λj=>if j=i then v else F j
def QvA{m:Nat}{F:Nat->Option Int}{i:Int}(h0:0<=i)(h:i<m):atI ((List.range m).map λj=>Qcf (F j)) i=some (Qcf (F i.toNat)):=by
 rw[QgX h0 (by simpa using h),Zv,Zaj ⋯];rfl
def Qrc(h:d.flat=true):HS.R.norm ⟨d,fr,M⟩=⟨d,true,[]⟩:=by unfold HS.R.norm;rw[if_pos h]
def Qpu{fa fb:DE}{ρ:En}{ra rb:R}{m:Nat}{F:Nat->Option Int}{i:Int}(ha:fa ρ=some ra)(ea:ra.d=QaW m F)(hb:fb ρ=some rb)(eb:rb.d= .int i)(h0:0<=i)(h:i<m):Qm fa fb ρ=some ⟨Qcf (F i.toNat),true,[]⟩:=by
 unfold Qm;rw[ha,Za,hb,Za,ea,eb];simp only[QaW,D.items,Za,QvA h0 h,ZO,Qrc (QnQ _)]
def Qt5{x m:Nat}{F:Nat->Option Int}{fi fa:DE}{ρ:En}{i v:Int}{ri ra:R}{Q:Out->Prop}(hx:ρ[x]? =some (slT (QaW m F)))(hi:fi ρ=some ri)(ei:ri.d= .int i)(ha:fa ρ=some ra)(ea:ra.d= .int v)(h0:0<=i)(h:i<m)
  (q:Q (.nx (ρ.set x (slT (QaW m (upO F i.toNat (some v))))))):Run (QgS x Qbe fi fa) ρ Q:=by
 refine⟨_,?_,q⟩;have hn:ra.norm=(reI v):=by unfold HS.R.norm;rw[ea];rfl
 have hs:((List.range m).map λj=>Qcf (F j)).set i.toNat (.int v)=(List.range m).map λj=>Qcf (upO F i.toNat (some v) j):=by
  rw[Qft];congr 1;funext j;unfold upO;split<;>rfl
 unfold QgS;rw[ha,Za,hx];simp only[Qbe,Za,hi,ei,Qcq,QaW,Zo,ZU,QfP h0 h,hn,ea,QbB,hs];simp[kill]
def Qsk{m n:Nat}{F:Nat->Option Int}(h:n<=m):cutD ((List.range m).map λi=>Qcf (F i)) none (some (n:Int))=(List.range n).map λi=>Qcf (F i):=by
 unfold cutD;simp only[Zo,ZU,HT.Qn9,HT.Qpi,List.drop_zero,Nat.sub_zero,ZaN h];rw[← List.map_take,List.take_range,ZaN h]
def Qu9{fa fb:DE}{ρ:En}{ra rb:R}{m n:Nat}{F:Nat->Option Int}(ha:fa ρ=some ra)(ea:ra.d=QaW m F)(hb:fb ρ=some rb)(eb:rb.d= .int n)(h:n<=m):QU fa QX (QD fb) ρ=some (reT (QaW n F)):=by
 unfold QU QX QD;rw[ha,Za,hb,ea];simp only[Za,eb,QaW,Qsk h,Qbx,QqH,if_true]
def Qvr{n:Nat}(h:fb ρ=some r)(e:r.d= .int n)(hn:n<=16777216):QaD (Q4 (Qa (dC .non) Qb)) fb ρ=some (reT (QaW n (λ_=>none))):=by
 have h1:Q4 (Qa (dC .non) Qb) ρ=some (reT (.lst [.non])):=rfl;unfold QaD;rw[h1,Za,h,Za,e];dsimp only;rw[if_pos ⟨by simp[Qjv];omega,⋯,⋯,rfl⟩];simp only[ZS,Qja];rfl
def Qwq(o:Option Int)(t:Int):deq (Qcf o) (.int t)=decide (o=some t):=by
 cases o with
 | none=>rfl
 | some a=>
  show deq (.int a) (.int t)=_;rw[QlM];by_cases h:a=t<;>simp[h]
def QvD(n:Nat)(o:Option Int):(Qcf o).sim n=true:=by cases o<;>cases n<;>rfl
noncomputable def QhR(t:Int)(F:Nat->Option Int)(s:Int×Int):Nat->Option Int:=if F s.1.toNat=none/\F s.2.toNat=some t then upO F s.1.toNat (some (t+1))else F
noncomputable def QcV(S:Lpp)(F:Nat->Option Int):Nat->Nat->Option Int
 | 0=>F
 | t+1=>S.foldl (QhR t) (QcV S F t)
noncomputable def Qo8(Qcg:Den):DS:=(Qd (Qu 3 (QL (QaD (Q4 (Qa (dC .non) Qb)) vv0) (Q4 (Qa kk0 Qb)))) (Qd (Qu 4 (Ql 2 Qcg [] (Qa vv1 (Qa vv2 Qb)))) (Qd (Qbd (QdR vv0) (.nm 5) (Qd (Qbd (Q3 vv4) (.tp [6,7]) (Qd (sIf (QeY (Qf (dOp (Qcp false) (Qm vv3 vv6) (dC .non))) (Qf (dOp gEq (Qm vv3 vv7) vv5))) (Qd (QgS 3 Qbe vv6 (QL vv5 kk1)) Qe) Qe) Qe)) Qe)) (Qd (QB (QU vv3 QX (QD vv0))) Qe))))
noncomputable def Qc7(m:Nat):Nat->Option Int:=λi=>if i=m then some 0 else none
def Qvf:D.lst (((List.range m).map λ_=>D.non)++[.int 0])=QaW (m+1) (Qc7 m):=by
 unfold QaW;rw[List.range_succ,ZV];congr 2
 .refine ZaJ λi hi=>?_;have:=ZaP.mp hi;unfold Qc7;rw[if_neg ⋯];rfl
 .simp[Qc7,Qcf]
def Qg0(d:Den):Prop:=∀(m:Nat) (R L:Lpp),0<m->m<=1000->R.length+R.length+L.length<=1000000->(∀s∈R,Good m s)->(∀s∈L,Good m s)->d [.int m,Qg R,Qg L]=some (QaW m (QcV (QN R L) (Qc7 m) m),true)
def QsU{ds:Den}(hs:∀R L:List (Int×Int),R.length+R.length+L.length<=1000000->ds [Qg R,Qg L]=slT (Qg (QN R L))):Qg0 (Qr 8 (Qo8 ds)):=λm R L m0 hm hl hR hL=>by
 have gS:=Qhy hR hL;refine Q8 ?_;refine run_seq (Qz (r:=reT (QaW (m+1) (Qc7 m))) ?_ ?_)
 .unfold QL;rw[Qvr (n:=m) (r:=reI m) rfl rfl ⋯];show(if((List.range m).map λi=>D.non).length+[D.int 0].length<=sizeLine then some (Qbx (((List.range m).map λi=>D.non)++[D.int 0]) [])else none)=_;rw[if_pos (by simp[Qjv];omega)];unfold Qbx;rw[if_pos (by rw[QrF];simp[Qb3 (f:=λ_:Nat=>D.non) (λ_=>rfl)]),Qvf]
 rw[Qa5];refine rsa (Qq (r:=⟨[Qg R,Qg L],false,[]⟩) rfl (hs R L hl) rfl) ?_;refine Qco (P:=λρ=>∃j5 j6 j7 b,ρ=[slI m,slF (Qg R),slF (Qg L),slT (QaW (m+1) (QcV (QN R L) (Qc7 m) m)),some (Qg (QN R L),b),j5,j6,j7]) ?_ ?_
 .refine Qbq (List.range m) (λi ρ=>∃j5 j6 j7 b,ρ=[slI m,slF (Qg R),slF (Qg L),slT (QaW (m+1) (QcV (QN R L) (Qc7 m) i)),some (Qg (QN R L),b),j5,j6,j7]) (QhJ (n:=m) (r:=reI m) rfl rfl ⋯) rfl ⟨none,none,none,true,rfl⟩ ?_ ?_
  .rintro i k ρ hi ⟨j5,j6,j7,b,rfl⟩;have hk:i<m/\i=k:=by
    obtain⟨h1,h2⟩:=Zj.mp hi;simp at h1 h2;exact⟨h1,h2⟩
   obtain⟨hk,rfl⟩:=hk;refine⟨_,rfl,?_⟩;refine run_seq (g:=Qe) (Run.mono (Q:=Nx λρ=>∃j6 j7,ρ=[slI m,slF (Qg R),slF (Qg L),slT (QaW (m+1) (QcV (QN R L) (Qc7 m) (i+1))),slF (Qg (QN R L)),slI i,j6,j7]) ?_ ?_)
   .refine Qbq (toD:=pairD) (QN R L) (λj ρ=>∃j6 j7,ρ=[slI m,slF (Qg R),slF (Qg L),slT (QaW (m+1) (((QN R L).take j).foldl (QhR i) (QcV (QN R L) (Qc7 m) i))),slF (Qg (QN R L)),slI i,j6,j7]) (ir:=⟨(QN R L).map pairD,if b=true then [4]else []⟩) ?_ rfl ⟨j6,j7,?_⟩ ?_ ?_
    .have:=Qaz (Qdw (i:=4) (d:=Qg (QN R L)) (b:=b) (ρ:=[slI m,slF (Qg R),slF (Qg L),slT (QaW (m+1) (QcV (QN R L) (Qc7 m) i)),some (Qg (QN R L),b),slI i,j6,j7]) rfl) (xs:=(QN R L).map pairD) (by cases b<;>rfl);cases b<;>exact this
    .cases b<;>rfl
    .rintro j s ρ hj ⟨j6,j7,rfl⟩;obtain⟨s1,s2,s3,s4,s5⟩:=gS s (Zy hj);have c1:s.1<((m+1:Nat):Int):= ⋯
     have c2:s.2<((m+1:Nat):Int):= ⋯
     refine⟨_,rfl,?_⟩;generalize eF:((QN R L).take j).foldl (QhR i) (QcV (QN R L) (Qc7 m) i)=F;have step:((QN R L).take (j+1)).foldl (QhR i) (QcV (QN R L) (Qc7 m) i)=QhR i F s:=by
      rw[List.take_add_one,hj,List.foldl_append,eF];rfl
     have e6:=Qpu (fa:=Qc 3) (fb:=Qc 6) (F:=F) (m:=m+1) (i:=s.1) (ra:=⟨QaW (m+1) F,true,[3]⟩) (ρ:=[slI m,slF (Qg R),slF (Qg L),slT (QaW (m+1) F),slF (Qg (QN R L)),slI i,slI s.1,slI s.2]) rfl rfl rfl rfl s1 c1;have e7:=Qpu (fa:=Qc 3) (fb:=Qc 7) (F:=F) (m:=m+1) (i:=s.2) (ra:=⟨QaW (m+1) F,true,[3]⟩) (ρ:=[slI m,slF (Qg R),slF (Qg L),slT (QaW (m+1) F),slF (Qg (QN R L)),slI i,slI s.1,slI s.2]) rfl rfl rfl rfl s2 c2;have t1:Qf (dOp (Qcp false) (Qm (Qc 3) (Qc 6)) (dC .non)) [slI m,slF (Qg R),slF (Qg L),slT (QaW (m+1) F),slF (Qg (QN R L)),slI i,slI s.1,slI s.2]=some (decide (F s.1.toNat=none)):=by
      refine Qo (QO e6 (rb:=⟨.non,true,[]⟩) rfl (d:= .bl (decide (F s.1.toNat=none))) ?_) rfl;cases F s.1.toNat<;>rfl
     have t2:Qf (dOp gEq (Qm (Qc 3) (Qc 7)) (Qc 5)) [slI m,slF (Qg R),slF (Qg L),slT (QaW (m+1) F),slF (Qg (QN R L)),slI i,slI s.1,slI s.2]=some (decide (F s.2.toNat=some (i:Int))):=by
      have:=Qy5 e7 (fb:=Qc 5) (rb:=reI i) rfl (QvD 8 _) rfl;refine Qo this ?_;show D.bl (deq (Qcf (F s.2.toNat)) (.int i))=_;rw[Qwq]
     refine run_seq (Qs (b:=decide (F s.1.toNat=none/\F s.2.toNat=some (i:Int))) ?_ (λh=>?_) (λh=>?_))
     .exact(Qjk t1 t2).trans (by rw[Bool.decide_and])
     .have h:=of_decide_eq_true h;refine run_seq (Qt5 (i:=s.1) (v:=i+1) (F:=F) (m:=m+1) rfl rfl rfl (Qdc (a:=(i:Int)) (b:=1) rfl rfl rfl rfl) rfl s1 c1 (Qn (Qn ⟨slI s.1,slI s.2,?_⟩)));rw[step];unfold QhR;rw[if_pos h];rfl
     .have h:=of_decide_eq_false h;refine Qn (Qn ⟨slI s.1,slI s.2,?_⟩);rw[step];unfold QhR;rw[if_neg h];rfl
    .rintro ρ ⟨j6,j7,rfl⟩;rw[Zal];exact⟨j6,j7,rfl⟩
   .intro o ho;cases o with
    | nx ρ=>
     obtain⟨j6,j7,rfl⟩:=ho;exact Qn ⟨_,_,_,false,rfl⟩
    | _=>exact ho.elim
  .rintro ρ ⟨j5,j6,j7,b,rfl⟩;rw[ZU];exact⟨j5,j6,j7,b,rfl⟩
 rintro ρ ⟨j5,j6,j7,b,rfl⟩;exact QR (Qu9 (m:=m+1) (n:=m) (Qdw (d:=QaW (m+1) (QcV (QN R L) (Qc7 m) m)) (b:=true) rfl) rfl rfl rfl ⋯) ⟨rfl,rfl⟩
def QwC(ha:fa ρ=some ra)(ea:ra.d= .int a)(hb:fb ρ=some rb)(eb:rb.d= .int b):dBf Qcb (Qa fa (Qa fb Qb)) ρ=some (reI (if b<a then b else a)):=by
 unfold dBf;rw[Qx ha (Qx hb (QZ _)),Za];simp only[ea,eb,Qcb,ZO]
def QsE{fa fb:DE}{ρ:En}{ra rb:R}{a b:Int}(ha:fa ρ=some ra)(ea:ra.d= .int a)(hb:fb ρ=some rb)(eb:rb.d= .int b):dBf Qb9 (Qa fa (Qa fb Qb)) ρ=some (reI (if b>a then b else a)):=by
 unfold dBf;rw[Qx ha (Qx hb (QZ _)),Za];simp only[ea,eb,Qb9,ZO]
def QwK(n m:Nat)(F:Nat->Option Int):(QaW m F).sim (n+1)=true:=by
 unfold QaW;simp only[D.sim,List.all_map,ZC];intro p _;show(Qcf (F p)).sim n=true;cases F p<;>cases n<;>rfl
def QuR{m:Nat}{F:Nat->Option Int}:((List.range m).map λi=>Qcf (F i)).any (λy=>deq y .non)=(List.range m).any λi=>(F i).isNone:=by
 rw[ZaS];congr 1;funext i;show deq (Qcf (F i)) .non=(F i).isNone;cases F i<;>rfl
def QrY{neg:Bool}{fb:DE}{ρ:En}{rb:R}{m:Nat}{F:Nat->Option Int}(hb:fb ρ=some rb)(eb:rb.d=QaW m F):dOp (gIn neg) (dC .non) fb ρ=some (reT (.bl (if neg then !((List.range m).any λi=>(F i).isNone)else(List.range m).any λi=>(F i).isNone))):=by
 refine QO (ra:=⟨.non,true,[]⟩) rfl hb ?_;rw[eb];show(if D.non.sim 8 && (QaW m F).sim 8 then some (D.bl (if neg then !(((List.range m).map λi=>Qcf (F i)).any λy=>deq y .non)else((List.range m).map λi=>Qcf (F i)).any λy=>deq y .non))else none)=_;rw[QwK 7 m F,QuR];rfl
def Qsq{fa fb:DE}{ρ:En}{ra rb:R}{d:D}(ha:fa ρ=some ra)(ea:ra.d=d)(hb:fb ρ=some rb)(eb:rb.d=d)(hs:d.sim 8=true):dOp gEq fa fb ρ=some (reT (.bl true)):=by
 refine QO ha hb ?_;rw[ea,eb];unfold gEq;rw[hs,QnK hs];rfl
noncomputable def Qgi(m:Int)(s:Int×Int):Bool:=decide (0<=s.1) && decide (0<=s.2) && decide (s.1<=m) && decide (s.2<=m) && !decide (s.1=s.2)
def QnA{m:Nat}{s:Int×Int}(h:Qgi m s=true):Good m s:=by
 unfold Qgi at h;simp only[Zf,decide_eq_true_eq,ZT,decide_eq_false_iff_not]at h;exact⟨h.1.1.1.1,h.1.1.1.2,h.1.1.2,h.1.2,h.2⟩
def QiS{α:Type}{p:α->Bool}:∀{xs:List α},¬(∀x∈xs,p x=true)->∃k,k<xs.length/\(∀i x,i<k->xs[i]? =some x->p x=true)/\∀x,xs[k]? =some x->p x=false
 | [],h=>absurd (λx hx=>by simp at hx) h
 | a::xs,h=>by
  by_cases ha:p a=true
  .obtain⟨k,h1,h2,h3⟩:=QiS (xs:=xs) λhx=>h λx hm=>by
    rcases Zn.mp hm with rfl | hm
    .exact ha
    .exact hx x hm
   refine⟨k+1,by simpa using h1,λi x hi e=>?_,λx e=>h3 x (by simpa using e)⟩;cases i with
   | zero=>simp at e;subst e;exact ha
   | succ i=>exact h2 i x ⋯ (by simpa using e)
  .exact⟨0,⋯,λi x hi=> ⋯,λx e=>by simp at e;subst e;simpa using ha⟩
noncomputable def QbI:DS:=(Qd (Qu 1 (Qef (Qm vv0 kk0))) (Qd (sIf (bOr (Qf (dOp gLt vv1 kk1)) (Qf (dOp gGt vv1 kk8))) (Qd Qp Qe) Qe) (Qd (Qbd (Q3 (QL (Qm vv0 kk1) (Qm vv0 kk2))) (.tp [2,3]) (Qd (sIf (bOr (Qf (dOp gLt (dBf Qcb (Qa vv2 (Qa vv3 Qb))) kk0)) (Qf (dOp gGt (dBf Qb9 (Qa vv2 (Qa vv3 Qb))) vv1))) (Qd Qp Qe) Qe) (Qd (sIf (Qf (dOp gEq vv2 vv3)) (Qd Qp Qe) Qe) Qe))) (Qd (Qbd (Q3 (Qm vv0 kk2)) (.tp [2,3]) (Qd (sIf (Qf (dOp gEq vv2 vv1)) (Qd Qp Qe) Qe) Qe)) Qe))))
noncomputable def Qdl:DX:=(QC (Qu 1 (Qef (Qm vv0 kk0))) xNo (QC (sIf (bOr (Qf (dOp gLt vv1 kk1)) (Qf (dOp gGt vv1 kk8))) (Qd Qp Qe) Qe) (xIf (bOr (Qf (dOp gLt vv1 kk1)) (Qf (dOp gGt vv1 kk8))) (QC Qp (QaS "NoNet" (Qa (dC (.str "a net has from 1 to 8 places")) Qb)) xNo) xNo) (QC (Qbd (Q3 (QL (Qm vv0 kk1) (Qm vv0 kk2))) (.tp [2,3]) (Qd (sIf (bOr (Qf (dOp gLt (dBf Qcb (Qa vv2 (Qa vv3 Qb))) kk0)) (Qf (dOp gGt (dBf Qb9 (Qa vv2 (Qa vv3 Qb))) vv1))) (Qd Qp Qe) Qe) (Qd (sIf (Qf (dOp gEq vv2 vv3)) (Qd Qp Qe) Qe) Qe))) (Qf6 (Q3 (QL (Qm vv0 kk1) (Qm vv0 kk2))) (.tp [2,3]) (Qd (sIf (bOr (Qf (dOp gLt (dBf Qcb (Qa vv2 (Qa vv3 Qb))) kk0)) (Qf (dOp gGt (dBf Qb9 (Qa vv2 (Qa vv3 Qb))) vv1))) (Qd Qp Qe) Qe) (Qd (sIf (Qf (dOp gEq vv2 vv3)) (Qd Qp Qe) Qe) Qe)) (QC (sIf (bOr (Qf (dOp gLt (dBf Qcb (Qa vv2 (Qa vv3 Qb))) kk0)) (Qf (dOp gGt (dBf Qb9 (Qa vv2 (Qa vv3 Qb))) vv1))) (Qd Qp Qe) Qe) (xIf (bOr (Qf (dOp gLt (dBf Qcb (Qa vv2 (Qa vv3 Qb))) kk0)) (Qf (dOp gGt (dBf Qb9 (Qa vv2 (Qa vv3 Qb))) vv1))) (QC Qp (QaS "NoNet" (Qa (dC (.str "a road or lane has a number that is neither a place nor the pit")) Qb)) xNo) xNo) (QC (sIf (Qf (dOp gEq vv2 vv3)) (Qd Qp Qe) Qe) (xIf (Qf (dOp gEq vv2 vv3)) (QC Qp (QaS "NoNet" (Qa (dC (.str "a road or lane has one number twice")) Qb)) xNo) xNo) xNo))) (QC (Qbd (Q3 (Qm vv0 kk2)) (.tp [2,3]) (Qd (sIf (Qf (dOp gEq vv2 vv1)) (Qd Qp Qe) Qe) Qe)) (Qf6 (Q3 (Qm vv0 kk2)) (.tp [2,3]) (Qd (sIf (Qf (dOp gEq vv2 vv1)) (Qd Qp Qe) Qe) Qe) (QC (sIf (Qf (dOp gEq vv2 vv1)) (Qd Qp Qe) Qe) (xIf (Qf (dOp gEq vv2 vv1)) (QC Qp (QaS "NoNet" (Qa (dC (.str "a lane leads from the pit")) Qb)) xNo) xNo) xNo)) xNo))))
local macro_rules | `(tactic|ac_rfl)=> `(tactic|repeat (first | exact Qad | exact QA | assumption | apply Q0 | apply Qar | apply QaO | apply Qay | apply Qai | apply QaF))
def QzD:ApF (Qr 4 QbI) (Q6 4 Qdl):=Qec (by unfold QbI Qdl;ac_rfl)
def Qn3{ρ:En}{m a b:Int}(h1:ρ[1]? =some (slI m))(h2:ρ[2]? =some (slI a))(h3:ρ[3]? =some (slI b)):bOr (Qf (dOp gLt (dBf Qcb (Qa (Qc 2) (Qa (Qc 3) Qb))) (dC (.int 0)))) (Qf (dOp gGt (dBf Qb9 (Qa (Qc 2) (Qa (Qc 3) Qb))) (Qc 1))) ρ=some (!(decide (0<=a) && decide (0<=b) && decide (a<=m) && decide (b<=m))):=by
 have v1:Qc 1 ρ=some (reI m):=(Qdw h1).trans rfl;have v2:Qc 2 ρ=some (reI a):=(Qdw h2).trans rfl;have v3:Qc 3 ρ=some (reI b):=(Qdw h3).trans rfl;refine(Qab (Qo (QO (d:= .bl (decide ((if b<a then b else a)<0))) (rb:=reI 0) (QwC (a:=a) (b:=b) v2 rfl v3 rfl) rfl rfl) rfl) (Qo (QO (d:= .bl (decide (m<(if b>a then b else a)))) (QsE (a:=a) (b:=b) v2 rfl v3 rfl) v1 rfl) rfl)).trans ?_;congr 1;by_cases c1:0<=a<;>by_cases c2:0<=b<;>by_cases c3:a<=m<;>by_cases c4:b<=m<;>simp only[c1,c2,c3,c4,decide_true,decide_false,Zbp,ZaU,Zbz,Bool.not_false,Zam,Zbq]<;>simp only[ZaM,Zat,decide_eq_true_eq,decide_eq_false_iff_not]<;>(split<;>split<;>omega)
structure Qg7 (m:Int) (R L:Lpp):Prop where
 lo:1<=m
 hi:m<=8
 ways:∀s∈R++L,Qgi m s=true
 pit:∀s∈L,s.1≠m
def QgG(d:Den):Prop:=∀(m:Int) (R L:Lpp),R.length+L.length<=1000->Qg7 m R L->d [Qy m R L]=some (.non,true)
def Qkb(xd:List D->Option Str):Prop:=∀(m:Int) (R L:Lpp),R.length+L.length<=1000->¬Qg7 m R L->xd [Qy m R L]=some "NoNet"
def Qpp{ρ:En}{m:Int}{R L:Lpp}(h:ρ[0]? =some (slF (Qy m R L)))(hl:R.length+L.length<=1000):Q3 (QL (Qm (Qc 0) (dC (.int 1))) (Qm (Qc 0) (dC (.int 2)))) ρ=some ⟨(R++L).map pairD,[]⟩:=by
 obtain⟨_,e1,e2⟩:=QeO (m:=m) (R:=R) (L:=L) ((Qdw h).trans rfl) rfl;refine(Qaz (Qzg (xs:=R.map pairD) (ys:=L.map pairD) e1 rfl e2 rfl (by rw[← ZV];exact Qb3 (λ_=>rfl) _) (by simp;omega)) rfl).trans ?_;rw[ZV]
def Quw{m:Int}{R L:Lpp}{s:Int×Int}{j2 j3:Option (D×Bool)}(hg:Qgi m s=true){Q:Out->Prop}(q:Q (.nx [slF (Qy m R L),slI m,slI s.1,slI s.2])):
  Run (Qd (sIf (bOr (Qf (dOp gLt (dBf Qcb (Qa (Qc 2) (Qa (Qc 3) Qb))) (dC (.int 0)))) (Qf (dOp gGt (dBf Qb9 (Qa (Qc 2) (Qa (Qc 3) Qb))) (Qc 1)))) (Qd Qp Qe) Qe) (Qd (sIf (Qf (dOp gEq (Qc 2) (Qc 3))) (Qd Qp Qe) Qe) Qe)) [slF (Qy m R L),slI m,slI s.1,slI s.2] Q:=by
 unfold Qgi at hg;rw[Zf]at hg;refine run_seq (Qs (b:=false) ((Qn3 (m:=m) (a:=s.1) (b:=s.2) rfl rfl rfl).trans (by rw[hg.1];rfl)) (λh=>by cases h) (λ_=>Qn ?_));refine run_seq (Qs (b:=false) (Qo (Qcn (a:=s.1) (b:=s.2) (ra:=reI s.1) rfl rfl (rb:=reI s.2) rfl rfl) ?_) (λh=>by cases h) (λ_=>Qn (Qn q)));show D.bl _=_;have:=hg.2;simp only[ZT,decide_eq_false_iff_not]at this;rw[decide_eq_false this]
def QuB{m:Int}{R L:Lpp}(hl:R.length+L.length<=1000)(hg:∀s∈R++L,Qgi m s=true){Q:Out->Prop}(q:∀j2 j3,Q (.nx [slF (Qy m R L),slI m,j2,j3])):
  Run (Qbd (Q3 (QL (Qm (Qc 0) (dC (.int 1))) (Qm (Qc 0) (dC (.int 2))))) (.tp [2,3]) (Qd (sIf (bOr (Qf (dOp gLt (dBf Qcb (Qa (Qc 2) (Qa (Qc 3) Qb))) (dC (.int 0)))) (Qf (dOp gGt (dBf Qb9 (Qa (Qc 2) (Qa (Qc 3) Qb))) (Qc 1)))) (Qd Qp Qe) Qe) (Qd (sIf (Qf (dOp gEq (Qc 2) (Qc 3))) (Qd Qp Qe) Qe) Qe))) [slF (Qy m R L),slI m,none,none] Q:=by
 refine Qbq (toD:=pairD) (R++L) (λ_ ρ=>∃j2 j3,ρ=[slF (Qy m R L),slI m,j2,j3]) (Qpp rfl hl) rfl ⟨none,none,rfl⟩ ?_ ?_
 .rintro i s ρ hi ⟨j2,j3,rfl⟩;exact⟨_,rfl,Quw (j2:=j2) (j3:=j3) (hg s (Zy hi)) ⟨_,_,rfl⟩⟩
 .rintro ρ ⟨j2,j3,rfl⟩;exact q _ _
def QoX:QgG (Qr 4 QbI):=λm R L hl N=>by
 have key:Run QbI [slF (Qy m R L),none,none,none] (Nx λ_=>True):=by
  refine run_seq (Qz (r:=reF (.int m)) rfl ?_);rw[Qn4 rfl];refine run_seq (Qs (b:=false) ((Qab (a:=false) (b:=false) (Qo (b:=false) (QO (d:= .bl (decide (m<1))) (ra:=reI m) (rb:=reI 1) rfl rfl rfl) ?_) (Qo (b:=false) (QO (d:= .bl (decide (8<m))) (ra:=reI m) (rb:=reI 8) rfl rfl rfl) ?_))) (λh=>by cases h) (λ_=>Qn ?_))
  .show D.bl _=_;rw[decide_eq_false (by have:=N.lo;omega)]
  .show D.bl _=_;rw[decide_eq_false (by have:=N.hi;omega)]
  refine run_seq (QuB hl N.ways λj2 j3=>?_);refine run_seq (Qbq (toD:=pairD) L (λ_ ρ=>∃j2 j3,ρ=[slF (Qy m R L),slI m,j2,j3]) (Qaz (QeO (m:=m) (R:=R) (L:=L) (r:=reF (Qy m R L)) rfl rfl).2.2 rfl) rfl ⟨j2,j3,rfl⟩ ?_ ?_)
  .rintro i s ρ hi ⟨j2,j3,rfl⟩;refine⟨_,rfl,?_⟩;refine run_seq (Qs (b:=false) (Qo (Qcn (a:=s.1) (b:=m) (ra:=reI s.1) rfl rfl (rb:=reI m) rfl rfl) ?_) (λh=>by cases h) (λ_=>Qn (Qn ⟨_,_,rfl⟩)));show D.bl _=_;rw[decide_eq_false (N.pit s (Zy hi))]
  .rintro ρ ⟨j2,j3,rfl⟩;exact Qn trivial
 obtain⟨o,h1,h2⟩:=key;show Option.bind (QbI [slF (Qy m R L),none,none,none]) outD=_;rw[h1];cases o with
 | nx ρ=>rfl
 | _=>exact h2.elim
def QnT:Qkb (Q6 4 Qdl):=λm R L hl hN=>by
 refine Qc1 (QT (Qz (r:=reF (.int m)) rfl ?_));rw[Qn4 rfl];have eb:bOr (Qf (dOp gLt (Qc 1) (dC (.int 1)))) (Qf (dOp gGt (Qc 1) (dC (.int 8)))) [slF (Qy m R L),slI m,none,none]=some (decide (m<1) || decide (8<m)):=Qab (Qo (QO (d:= .bl (decide (m<1))) (ra:=reI m) (rb:=reI 1) rfl rfl rfl) rfl) (Qo (QO (d:= .bl (decide (8<m))) (ra:=reI m) (rb:=reI 8) rfl rfl rfl) rfl);by_cases c1:m<1∨8<m
 .exact QG (by ac_rfl) (Qca (b:=true) (eb.trans (by rcases c1 with c | c<;>simp[c])) (λ_=>QG QA (QaN rfl (Ze _))) (λh=>by cases h))
 refine QT (Qs (b:=false) (eb.trans (by simp;omega)) (λh=>by cases h) (λ_=>Qn ?_));by_cases c2:∀s∈R++L,Qgi m s=true
 .refine QT (QuB hl c2 λj2 j3=>?_);have c3:¬ ∀s∈L,(!decide (s.1=m))=true:=λh=>hN ⟨⋯,⋯,c2,λs hs=>by simpa using h s hs⟩;obtain⟨k,k1,k2,k3⟩:=QiS c3;refine QG (QaO (by ac_rfl)) (Qor (by ac_rfl) (toD:=pairD) L (λ_ ρ=>∃j2 j3,ρ=[slF (Qy m R L),slI m,j2,j3]) k k1 (Qaz (QeO (m:=m) (R:=R) (L:=L) (r:=reF (Qy m R L)) rfl rfl).2.2 rfl) rfl ⟨j2,j3,rfl⟩ ?_ ?_)
  .rintro i s ρ hi hx ⟨j2,j3,rfl⟩;refine⟨_,rfl,?_⟩;refine run_seq (Qs (b:=false) (Qo (Qcn (a:=s.1) (b:=m) (ra:=reI s.1) rfl rfl (rb:=reI m) rfl rfl) ?_) (λh=>by cases h) (λ_=>Qn (Qn ⟨_,_,rfl⟩)));have:=k2 i s hi hx;simp only[ZT,decide_eq_false_iff_not]at this;show D.bl _=_;rw[decide_eq_false this]
  .rintro s ρ hx ⟨j2,j3,rfl⟩;refine⟨_,rfl,?_⟩;refine QG (by ac_rfl) (Qca (b:=true) (Qo (Qcn (a:=s.1) (b:=m) (ra:=reI s.1) rfl rfl (rb:=reI m) rfl rfl) ?_) (λ_=>QG QA (QaN rfl (Ze _))) (λh=>by cases h));have:=k3 s hx;simp only[Bool.not_eq_false',decide_eq_true_eq]at this;show D.bl _=_;rw[decide_eq_true this]
 .obtain⟨k,k1,k2,k3⟩:=QiS c2;refine QG (QaO (by ac_rfl)) (Qor (by ac_rfl) (toD:=pairD) (R++L) (λ_ ρ=>∃j2 j3,ρ=[slF (Qy m R L),slI m,j2,j3]) k k1 (Qpp rfl hl) rfl ⟨none,none,rfl⟩ ?_ ?_)
  .rintro i s ρ hi hx ⟨j2,j3,rfl⟩;exact⟨_,rfl,Quw (j2:=j2) (j3:=j3) (k2 i s hi hx) ⟨_,_,rfl⟩⟩
  .rintro s ρ hx ⟨j2,j3,rfl⟩;refine⟨_,rfl,?_⟩;have hb:=k3 s hx;unfold Qgi at hb;by_cases c:(decide (0<=s.1) && decide (0<=s.2) && decide (s.1<=m) && decide (s.2<=m))=true
   .rw[c,Zbq]at hb;simp only[Bool.not_eq_false',decide_eq_true_eq]at hb;refine QT (Qs (b:=false) ((Qn3 (m:=m) (a:=s.1) (b:=s.2) rfl rfl rfl).trans (by rw[c];rfl)) (λh=>by cases h) (λ_=>Qn ?_));refine QG (by ac_rfl) (Qca (b:=true) (Qo (Qcn (a:=s.1) (b:=s.2) (ra:=reI s.1) rfl rfl (rb:=reI s.2) rfl rfl) ?_) (λ_=>QG QA (QaN rfl (Ze _))) (λh=>by cases h));show D.bl _=_;rw[decide_eq_true hb]
   .have c':=Bool.eq_false_iff.mpr c;exact QG (by ac_rfl) (Qca (b:=true) ((Qn3 (m:=m) (a:=s.1) (b:=s.2) rfl rfl rfl).trans (by rw[c'];rfl)) (λ_=>QG QA (QaN rfl (Ze _))) (λh=>by cases h))
noncomputable def QcD(QcJ:Den):DS:=(Qd (sIf (Qf (dOp gGt (QL (dBf Qaa (Qa (Qm vv0 kk1) Qb)) (dBf Qaa (Qa (Qm vv0 kk2) Qb))) Qj7)) (Qd Qp Qe) Qe) (Qd (sIf (Qf (dOp (gIn false) (dC .non) (Ql 3 QcJ [] (Qa (Qm vv0 kk0) (Qa (Qm vv0 kk1) (Qa (Qm vv0 kk2) Qb)))))) (Qd Qp Qe) Qe) Qe))
noncomputable def Qe5(QcJ:Den):DX:=(QC (sIf (Qf (dOp gGt (QL (dBf Qaa (Qa (Qm vv0 kk1) Qb)) (dBf Qaa (Qa (Qm vv0 kk2) Qb))) Qj7)) (Qd Qp Qe) Qe) (xIf (Qf (dOp gGt (QL (dBf Qaa (Qa (Qm vv0 kk1) Qb)) (dBf Qaa (Qa (Qm vv0 kk2) Qb))) Qj7)) (QC Qp (QaS "NoNet" (Qa (dC (.str "a net has at most 40 roads and lanes")) Qb)) xNo) xNo) (QC (sIf (Qf (dOp (gIn false) (dC .non) (Ql 3 QcJ [] (Qa (Qm vv0 kk0) (Qa (Qm vv0 kk1) (Qa (Qm vv0 kk2) Qb)))))) (Qd Qp Qe) Qe) (xIf (Qf (dOp (gIn false) (dC .non) (Ql 3 QcJ [] (Qa (Qm vv0 kk0) (Qa (Qm vv0 kk1) (Qa (Qm vv0 kk2) Qb)))))) (QC Qp (QaS "NoNet" (Qa (dC (.str "a place has no way to the pit")) Qb)) xNo) xNo) xNo))
def QzL{dl:Den}:ApF (Qr 1 (QcD dl)) (Q6 1 (Qe5 dl)):=Qec (by unfold QcD Qe5;ac_rfl)
structure QkK (m:Nat) (R L:Lpp):Prop where
 few:R.length+L.length<=40
 lead:∀p,p<m->QcV (QN R L) (Qc7 m) m p≠none
def Qi6(d:Den):Prop:=∀(m:Nat) (R L:Lpp),0<m->m<=8->R.length+L.length<=1000->(∀s∈R,Good m s)->(∀s∈L,Good m s)->QkK m R L->d [Qy m R L]=some (.non,true)
def Qnt(xd:List D->Option Str):Prop:=∀(m:Nat) (R L:Lpp),0<m->m<=8->R.length+L.length<=1000->(∀s∈R,Good m s)->(∀s∈L,Good m s)->¬QkK m R L->xd [Qy m R L]=some "NoNet"
def QlU{m:Nat}{R L:Lpp}:Qf (dOp gGt (QL (dBf Qaa (Qa (Qm (Qc 0) (dC (.int 1))) Qb)) (dBf Qaa (Qa (Qm (Qc 0) (dC (.int 2))) Qb))) (dC (.int 40))) [slF (Qy m R L)]=some (decide ((40:Int)<R.length+L.length)):=by
 obtain⟨_,e1,e2⟩:=QeO (fa:=Qc 0) (ρ:=[slF (Qy m R L)]) (m:=m) (R:=R) (L:=L) (r:=reF (Qy m R L)) rfl rfl;refine Qo (QO (d:= .bl (decide ((40:Int)<R.length+L.length))) (rb:=reI 40) (Qdc (a:=R.length) (b:=L.length) ((QnZ (xs:=R.map pairD) e1 rfl).trans (by rw[Zo])) rfl ((QnZ (xs:=L.map pairD) e2 rfl).trans (by rw[Zo])) rfl) rfl rfl) rfl
def Qkw{dl:Den}(hl:Qg0 dl){m:Nat}{R L:Lpp}(m0:0<m)(m8:m<=8)(h:R.length+L.length<=1000)(hR:∀s∈R,Good m s)(hL:∀s∈L,Good m s):Qf (dOp (gIn false) (dC .non) (Ql 3 dl [] (Qa (Qm (Qc 0) (dC (.int 0))) (Qa (Qm (Qc 0) (dC (.int 1))) (Qa (Qm (Qc 0) (dC (.int 2))) Qb))))) [slF (Qy m R L)]=some ((List.range m).any λi=>(QcV (QN R L) (Qc7 m) m i).isNone):=
 Qo (QrY (neg:=false) (m:=m) (F:=QcV (QN R L) (Qc7 m) m) (Qq (r:=⟨[.int m,Qg R,Qg L],false,[]⟩) rfl (hl m R L m0 ⋯ ⋯ hR hL) rfl) rfl) rfl
def Qtb{dl:Den}(hl:Qg0 dl):Qi6 (Qr 1 (QcD dl)):=λm R L m0 m8 h hR hL W=>by
 have key:Run (QcD dl) [slF (Qy m R L)] (Nx λ_=>True):=by
  refine run_seq (Qs (b:=false) (QlU.trans (by rw[decide_eq_false (by have:=W.few;omega)])) (λh=>by cases h) (λ_=>Qn ?_));refine run_seq (Qs (b:=false) ((Qkw hl m0 m8 h hR hL).trans ?_) (λh=>by cases h) (λ_=>Qn (Qn trivial)));congr 1;refine ZaD.mpr λi hi=>?_;have:=W.lead i (ZaP.mp hi);cases e:QcV (QN R L) (Qc7 m) m i with
  | none=>exact absurd e this
  | some t=>exact ZK
 obtain⟨o,h1,h2⟩:=key;show Option.bind (QcD dl [slF (Qy m R L)]) outD=_;rw[h1];cases o with
 | nx ρ=>rfl
 | _=>exact h2.elim
def QqL{dl:Den}(hl:Qg0 dl):Qnt (Q6 1 (Qe5 dl)):=λm R L m0 m8 h hR hL hW=>by
 by_cases c:R.length+L.length<=40
 .refine Qc1 (QT (Qs (b:=false) (QlU.trans (by rw[decide_eq_false ⋯])) (λh=>by cases h) (λ_=>Qn ?_)));refine QG (by ac_rfl) (Qca (b:=true) ((Qkw hl m0 m8 h hR hL).trans ?_) (λ_=>QG QA (QaN rfl (Ze _))) (λh=>by cases h));congr 1;refine Zbm λhn=>hW ⟨c,λp hp e=>hn ?_⟩;exact List.any_eq_true.mpr ⟨p,ZaP.mpr hp,by rw[e];rfl⟩
 .exact Qc1 (QG (by ac_rfl) (Qca (b:=true) (QlU.trans (by rw[decide_eq_true ⋯])) (λ_=>QG QA (QaN rfl (Ze _))) (λh=>by cases h)))
noncomputable def spr(f:Mt1):Nat->Int
 | 0=>1
 | k+1=>spr f k*f k
noncomputable def QaQ(Qbg:Den)(QaX:Den):DS:=(Qd (sIf (Qf (Ql 1 Qbg [] (Qa vv0 Qb))) (Qd Qjt Qe) Qe) (Qd (Qu 1 kk1) (Qd (Qbd (Q3 (Ql 1 QaX [] (Qa vv0 Qb))) (.nm 2) (Qd (Qu 1 (QaD vv1 vv2)) Qe)) (Qd (sIf (Qf (dOp gGt vv1 QpU)) (Qd Qp Qe) Qe) Qe))))
noncomputable def Qb0(QaX:Den)(Qbg:Den):DX:=(QC (sIf (Qf (Ql 1 Qbg [] (Qa vv0 Qb))) (Qd Qjt Qe) Qe) (xIf (Qf (Ql 1 Qbg [] (Qa vv0 Qb))) (QC Qjt xNo xNo) xNo) (QC (Qu 1 kk1) xNo (QC (Qbd (Q3 (Ql 1 QaX [] (Qa vv0 Qb))) (.nm 2) (Qd (Qu 1 (QaD vv1 vv2)) Qe)) (Qf6 (Q3 (Ql 1 QaX [] (Qa vv0 Qb))) (.nm 2) (Qd (Qu 1 (QaD vv1 vv2)) Qe) (QC (Qu 1 (QaD vv1 vv2)) xNo xNo)) (QC (sIf (Qf (dOp gGt vv1 QpU)) (Qd Qp Qe) Qe) (xIf (Qf (dOp gGt vv1 QpU)) (QC Qp (QaS "NoNet" (Qa (dC (.str "in a net with lanes the spans, multiplied, are at most 300")) Qb)) xNo) xNo) xNo))))
def QAq{dp ds:Den}:ApF (Qr 3 (QaQ dp ds)) (Q6 3 (Qb0 ds dp)):=Qec (by unfold QaQ Qb0;ac_rfl)
def QhA(m:Nat)(R L:Lpp):Prop:=L=[]∨spr (QaV R L) m<=300
def QjS(d:Den):Prop:=∀(m:Nat) (R L:Lpp),m<=8->R.length+L.length<=1000->(∀s∈R,Good m s)->(∀s∈L,Good m s)->QhA m R L->d [Qy m R L]=some (.non,true)
def Ql0(xd:List D->Option Str):Prop:=∀(m:Nat) (R L:Lpp),m<=8->R.length+L.length<=1000->(∀s∈R,Good m s)->(∀s∈L,Good m s)->¬QhA m R L->xd [Qy m R L]=some "NoNet"
def QpO{ds:Den}(hs:Qiw ds){m:Nat}{R L:Lpp}(m8:m<=8)(h:R.length+L.length<=1000)(hR:∀s∈R,Good m s)(hL:∀s∈L,Good m s){Q:Out->Prop}(q:∀j2,Q (.nx [slF (Qy m R L),slI (spr (QaV R L) m),j2])):
  Run (Qbd (Q3 (Ql 1 ds [] (Qa (Qc 0) Qb))) (.nm 2) (Qd (Qu 1 (QaD (Qc 1) (Qc 2))) Qe)) [slF (Qy m R L),slI 1,none] Q:=by
 refine Qbq (toD:=λ(k:Nat)=> .int (QaV R L k)) (List.range m) (λk ρ=>∃j2,ρ=[slF (Qy m R L),slI (spr (QaV R L) k),j2]) (Qaz (Qq (r:=⟨[Qy m R L],false,[]⟩) rfl (hs m R L ⋯ ⋯ hR hL) rfl) rfl) rfl ⟨none,rfl⟩ ?_ ?_
 .rintro k k' ρ hk ⟨j2,rfl⟩;obtain⟨hkm,rfl⟩:=Quc hk;have b:=QsW R L k;refine⟨_,rfl,?_⟩;refine run_seq (Qz (Qip (a:=spr (QaV R L) k) (b:=QaV R L k) (ra:=reI (spr (QaV R L) k)) rfl rfl (rb:=reI (QaV R L k)) rfl rfl (Qi5 ⋯)) (Qn ?_));rw[Qa5];exact⟨_,rfl⟩
 .rintro ρ ⟨j2,rfl⟩;rw[ZU];exact q _
def Qq7{dp ds:Den}(hp:Qjh dp)(hs:Qiw ds):QjS (Qr 3 (QaQ dp ds)):=λm R L m8 h hR hL hS=>by
 have key:Run (QaQ dp ds) [slF (Qy m R L),none,none] λo=>match o with | .nx _=>True | .rt d fr=>d= .non/\fr=true | _=>False:=by
  have ep:Qf (Ql 1 dp [] (Qa (Qc 0) Qb)) [slF (Qy m R L),none,none]=some (decide ((L.length:Int)=0)):=Qo (Qq (r:=⟨[Qy m R L],false,[]⟩) rfl (hp m R L) rfl) rfl;by_cases c:L=[]
  .refine Qj (Qs (b:=true) (ep.trans (by rw[c];rfl)) (λ_=>?_) (λh=>by cases h));exact Qj ⟨_,rfl,rfl,rfl⟩
  .refine Qj (Qs (b:=false) (ep.trans (by rw[decide_eq_false (by cases L with | nil=>exact absurd rfl c | cons a l=>simp;omega)])) (λh=>by cases h) (λ_=>Qn ?_));refine Qj (Qz (r:=reI 1) rfl ?_);rw[Qa5];refine Qj (QpO hs m8 h hR hL λj2=>?_);refine Qj (Qs (b:=false) (Qo (QO (d:= .bl (decide (300<spr (QaV R L) m))) (ra:=reI (spr (QaV R L) m)) (rb:=reI 300) rfl rfl rfl) ?_) (λh=>by cases h) (λ_=>Qn (Qn trivial)));show D.bl _=_;have hle:spr (QaV R L) m<=300:=hS.elim (λz=>absurd z c) id;rw[decide_eq_false ⋯]
 obtain⟨o,h1,h2⟩:=key;show Option.bind (QaQ dp ds [slF (Qy m R L),none,none]) outD=_;rw[h1];cases o with
 | nx ρ=>rfl
 | rt d fr=>obtain⟨rfl,rfl⟩:=h2;rfl
 | _=>exact h2.elim
def QpZ{dp ds:Den}(hp:Qjh dp)(hs:Qiw ds):Ql0 (Q6 3 (Qb0 ds dp)):=λm R L m8 h hR hL hS=>by
 have c:L≠[]:=λz=>hS (.inl z);have ep:Qf (Ql 1 dp [] (Qa (Qc 0) Qb)) [slF (Qy m R L),none,none]=some (decide ((L.length:Int)=0)):=Qo (Qq (r:=⟨[Qy m R L],false,[]⟩) rfl (hp m R L) rfl) rfl;refine Qc1 (QT (Qs (b:=false) (ep.trans (by rw[decide_eq_false (by cases L with | nil=>exact absurd rfl c | cons a l=>simp;omega)])) (λh=>by cases h) (λ_=>Qn ?_)));refine QT (Qz (r:=reI 1) rfl ?_);rw[Qa5];refine QT (QpO hs m8 h hR hL λj2=>?_);refine QG (by ac_rfl) (Qca (b:=true) (Qo (QO (d:= .bl (decide (300<spr (QaV R L) m))) (ra:=reI (spr (QaV R L) m)) (rb:=reI 300) rfl rfl rfl) ?_) (λ_=>QG QA (QaN rfl (Ze _))) (λh=>by cases h));show D.bl _=_;rw[decide_eq_true (by refine Zbm λz=>hS (.inr ⋯))]
noncomputable def nrm(p:Int×Int):Int×Int:=(if p.2<p.1 then p.2 else p.1,if p.2>p.1 then p.2 else p.1)
structure QfL (m:Int) (R L:Lpp):Prop where
 num:Qg7 m R L
 way:QkK m.toNat R L
 sml:QhA m.toNat R L
noncomputable def QfE(Qao:Den)(QaY:Den)(Q9:Den):DS:=(Qd (Qu 3 (Qau (Q3 vv1) (.tp [1,2]) [none,none,none] QaE (Qaj (Qa (dBf Qcb (Qa vv1 (Qa vv2 Qb))) (Qa (dBf Qb9 (Qa vv1 (Qa vv2 Qb))) Qb))))) (Qd (Qu 4 (Qau (Q3 (dOr vv2 (Q4 Qb))) (.tp [1,2]) [none,none,none] QaE (Qaj (Qa vv1 (Qa vv2 Qb))))) (Qd (Qu 5 (Qaj (Qa vv0 (Qa vv3 (Qa vv4 Qb))))) (Qd (Qdi (Ql 1 Qao [] (Qa vv5 Qb))) (Qd (Qdi (Ql 1 QaY [] (Qa vv5 Qb))) (Qd (Qdi (Ql 1 Q9 [] (Qa vv5 Qb))) (Qd (QB vv5) Qe)))))))
noncomputable def QfF(Q9:Den)(QaY:Den)(Qao:Den)(x_need_small_spans:List D->Option Str)(x_need_ways:List D->Option Str)(x_need_numbers:List D->Option Str):DX:=(QC (Qu 3 (Qau (Q3 vv1) (.tp [1,2]) [none,none,none] QaE (Qaj (Qa (dBf Qcb (Qa vv1 (Qa vv2 Qb))) (Qa (dBf Qb9 (Qa vv1 (Qa vv2 Qb))) Qb))))) xNo (QC (Qu 4 (Qau (Q3 (dOr vv2 (Q4 Qb))) (.tp [1,2]) [none,none,none] QaE (Qaj (Qa vv1 (Qa vv2 Qb))))) xNo (QC (Qu 5 (Qaj (Qa vv0 (Qa vv3 (Qa vv4 Qb))))) xNo (QC (Qdi (Ql 1 Qao [] (Qa vv5 Qb))) (QY 1 x_need_numbers (Qa vv5 Qb)) (QC (Qdi (Ql 1 QaY [] (Qa vv5 Qb))) (QY 1 x_need_ways (Qa vv5 Qb)) (QC (Qdi (Ql 1 Q9 [] (Qa vv5 Qb))) (QY 1 x_need_small_spans (Qa vv5 Qb)) (QC (QB vv5) xNo xNo)))))))
def Qwv{dn dw ds:Den}{xn xw xs:List D->Option Str}(h1:ApF dn xn)(h2:ApF dw xw)(h3:ApF ds xs):ApF (Qr 6 (QfE dn dw ds)) (Q6 6 (QfF ds dw dn xs xw xn)):=Qec (by unfold QfE QfF;ac_rfl)
def QyO(L:Lpp)(d:D):Prop:=d=Qg L∨(L=[]/\d= .non)
def Qld(d:Den):Prop:=∀(m:Int) (R L:Lpp) (l:D),QyO L l->R.length+L.length<=1000->QfL m (R.map nrm) L->d [.int m,Qg R,l]=some (Qy m (R.map nrm) L,true)
def MadeX(xd:List D->Option Str):Prop:=∀(m:Int) (R L:Lpp),R.length+L.length<=1000->¬QfL m (R.map nrm) L->xd [.int m,Qg R,Qg L]=some "NoNet"
def Qr3{ρ:En}{R:Lpp}(h:ρ[1]? =some (slF (Qg R))):Qau (Q3 (Qc 1)) (.tp [1,2]) [none,none,none] QaE (Qaj (Qa (dBf Qcb (Qa (Qc 1) (Qa (Qc 2) Qb))) (Qa (dBf Qb9 (Qa (Qc 1) (Qa (Qc 2) Qb))) Qb))) ρ=some (reT (Qg (R.map nrm))):=by
 refine(QbN (toD:=pairD) (out:=λs=>pairD (nrm s)) R (Qaz ((Qdw h).trans rfl) rfl) rfl λs _=>⟨[none,slI s.1,slI s.2],rfl,⟨pairD (nrm s),true,[]⟩,rfl,rfl,rfl⟩).trans ?_;unfold Qg;rw[ZF];rfl
def QpP{ρ:En}{L:Lpp}{l:D}(hl:QyO L l){b:Bool}(h:ρ[2]? =some (some (l,b)))(hb:b=l.flat):Qau (Q3 (dOr (Qc 2) (Q4 Qb))) (.tp [1,2]) [none,none,none] QaE (Qaj (Qa (Qc 1) (Qa (Qc 2) Qb))) ρ=some (reT (Qg L)):=by
 have e:∃M,Q3 (dOr (Qc 2) (Q4 Qb)) ρ=some ⟨L.map pairD,M⟩:=by
  rcases hl with rfl | ⟨rfl,rfl⟩
  .subst hb;cases L with
   | nil=>
    refine⟨_,Qaz (r:=reT (.lst [])) ?_ rfl⟩;unfold dOr;rw[show Qc 2 ρ=some (reF (.lst []))from(Qdw h).trans rfl];rfl
   | cons a l=>
    refine⟨_,Qaz (r:=reF (Qg (a::l))) ?_ rfl⟩;unfold dOr;rw[show Qc 2 ρ=some (reF (Qg (a::l)))from(Qdw h).trans rfl];rfl
  .refine⟨_,Qaz (r:=reT (.lst [])) ?_ rfl⟩;unfold dOr;rw[show Qc 2 ρ=some ⟨.non,true,[]⟩from(Qdw h).trans rfl];rfl
 obtain⟨M,e⟩:=e;exact QbN (toD:=pairD) (out:=pairD) L e rfl λs _=>⟨[none,slI s.1,slI s.2],rfl,⟨pairD s,true,[]⟩,rfl,rfl,rfl⟩
def Qg7.nat{m:Int}{R L:Lpp}(h:Qg7 m R L):∃k:Nat,m=k/\0<k/\k<=8/\(∀s∈R,Good k s)/\∀s∈L,Good k s:=by
 have h1:=h.lo;have h2:=h.hi;obtain⟨k,rfl⟩:∃k:Nat,m=k:=⟨m.toNat,⋯⟩;exact⟨k,rfl,⋯,⋯,λs hs=>QnA (h.ways s (Zk _ hs)),λs hs=>QnA (h.ways s (Zg _ hs))⟩
def Qvv{dn dw ds:Den}(hn:QgG dn)(hw:Qi6 dw)(hs:QjS ds):Qld (Qr 6 (QfE dn dw ds)):=λm R L l hL hl N=>by
 obtain⟨k,rfl,k0,k8,gR,gL⟩:=N.num.nat
 have lR:(R.map nrm).length=R.length:=Zo ..;refine Q8 ?_;refine rsa (Qr3 rfl) ?_;refine rsa (QpP hL rfl rfl) ?_;refine run_seq (Qz (r:=⟨Qy k (R.map nrm) L,true,[3,4]⟩) rfl ?_);change Run _ [slI k,slF (Qg R),some (l,l.flat),none,none,slT (Qy k (R.map nrm) L)] _;refine run_seq (Qf8 (Qq (r:=⟨[Qy k (R.map nrm) L],true,[5]⟩) rfl (hn k _ L ⋯ N.num) rfl) ?_);refine run_seq (Qf8 (Qq (r:=⟨[Qy k (R.map nrm) L],true,[5]⟩) rfl (hw k _ L k0 k8 ⋯ gR gL (by have:=N.way;rwa[ZS]at this)) rfl) ?_);refine run_seq (Qf8 (Qq (r:=⟨[Qy k (R.map nrm) L],true,[5]⟩) rfl (hs k _ L k8 ⋯ gR gL (by have:=N.sml;rwa[ZS]at this)) rfl) ?_);exact QR (r:=⟨Qy k (R.map nrm) L,true,[5]⟩) rfl ⟨rfl,rfl⟩
def QtC{dn dw ds:Den}{xn xw xs:List D->Option Str}(a1:ApF dn xn)(a2:ApF dw xw)(a3:ApF ds xs)(hn:QgG dn)(hw:Qi6 dw)(hxn:Qkb xn)(hxw:Qnt xw)(hxs:Ql0 xs):MadeX (Q6 6 (QfF ds dw dn xs xw xn)):=λm R L hl hN=>by
 have lR:(R.map nrm).length=R.length:=Zo ..;refine Qc1 (QT (Qz (Qr3 rfl) ?_));rw[Qa5];refine QT (Qz (QpP (L:=L) (.inl rfl) rfl rfl) ?_);rw[Qa5];refine QT (Qz (r:=⟨Qy m (R.map nrm) L,true,[3,4]⟩) rfl ?_);change QaC _ [slI m,slF (Qg R),slF (Qg L),none,none,slT (Qy m (R.map nrm) L)] _;by_cases c1:Qg7 m (R.map nrm) L
 .obtain⟨k,rfl,k0,k8,gR,gL⟩:=c1.nat
  refine QT (Qf8 (Qq (r:=⟨[Qy k (R.map nrm) L],true,[5]⟩) rfl (hn k _ L ⋯ c1) rfl) ?_);by_cases c2:QkK k (R.map nrm) L
  .refine QT (Qf8 (Qq (r:=⟨[Qy k (R.map nrm) L],true,[5]⟩) rfl (hw k _ L k0 k8 ⋯ gR gL c2) rfl) ?_);have c3:¬QhA k (R.map nrm) L:=λz=>hN ⟨c1,by rw[ZS];exact c2,by rw[ZS];exact z⟩;exact QG (Qay a3) (QbK (r:=⟨[Qy k (R.map nrm) L],true,[5]⟩) rfl rfl (hxs k _ L k8 ⋯ gR gL c3))
  .exact QG (Qay a2) (QbK (r:=⟨[Qy k (R.map nrm) L],true,[5]⟩) rfl rfl (hxw k _ L k0 k8 ⋯ gR gL c2))
 .exact QG (Qay a1) (QbK (r:=⟨[Qy m (R.map nrm) L],true,[5]⟩) rfl rfl (hxn m _ L ⋯ c1))
def QpA{fa fb:DE}{ρ:En}{r:R}{n:Nat}{s:Int×Int}(ha:fa ρ=some (reT (.lst [pairD s])))(h:fb ρ=some r)(e:r.d= .int n)(hn:n<=1000):QaD fa fb ρ=some (reT (Qg (List.replicate n s))):=by
 unfold QaD;rw[ha,Za,h,Za,e];dsimp only;rw[if_pos ⟨by simp[Qjv];omega,⋯,⋯,rfl⟩];simp only[ZS,Qja];unfold Qg;rw[List.map_replicate,List.map_const',ZU]
def QfR{fs:DA}{ρ:En}{r:RA}(h:fs ρ=some r)(hl:r.ds.length<=64):Qaj fs ρ=some ⟨.tup r.ds,r.fr,r.M⟩:=by
 unfold Qaj;rw[h,Za,if_pos hl]
end HS
namespace HS
open PySem PySem.Spec L2 PyProof.Rows PySem.NumText
def Qo9{c:Nat}{l:List Nat}(h:c∉l):Txt.partition (tx l) (tx [c])=(tx l,tx [],tx []):=by
 have f:=StrLaws.found_one (tx l) c;have hm:¬c∈(tx l).cps.toList:=h;rw[decide_eq_false hm]at f;unfold Txt.partition;have e:Builtin.Str.occurrences (tx l) (tx [c]) 0 (tx l).length 1=[]:=by
  have:Builtin.Str.occurrences (tx l) ⟨#[c]⟩ 0 (tx l).length 1=[]:=by
   simpa using f
  exact this
 rw[e];rfl
def Qpg{c:Nat}{a b:List Nat}(h:c∉a):Txt.partition (tx (a++c::b)) (tx [c])=(tx a,tx [c],tx b):=by
 have hat:∀i,StrLaws.At (tx (a++c::b)) (tx [c]) (tx (a++c::b)).length i↔(a++c::b)[i]? =some c:=λi=>StrLaws.subAt_one (tx (a++c::b)) c i;unfold Txt.partition;rcases StrLaws.occ_head (tx (a++c::b)) (tx [c]) 1 (Ze _)with⟨_,hn⟩ | ⟨i,r,e,hi,hk⟩
 .exact absurd ((hat a.length).mpr ⋯) (hn _)
 .have h1:i=a.length:=by
   rcases Nat.lt_trichotomy i a.length with hl | hl | hl
   .have:=(hat i).mp hi;rw[Zae hl]at this;exact absurd (Zy this) h
   .exact hl
   .exact absurd ((hat a.length).mpr ⋯) (hk _ hl)
  rw[e,h1];show(Builtin.Str.strSub _ _ _,_,Builtin.Str.strSub _ _ _)=_;have hl:(tx (a++c::b)).length=a.length+(b.length+1):=by rw[Qcm,Qak];simp
  refine Prod.ext (Qd8 ?_) (Prod.ext rfl (Qd8 ?_))
  .show(Builtin.Str.strSub _ _ _).cps.toList=_;rw[StrLaws.strSub_toList];show((a++c::b).drop 0).take (a.length-0)=a;simp
  .show(Builtin.Str.strSub _ _ _).cps.toList=_;rw[StrLaws.strSub_toList,hl];show((a++c::b).drop (a.length+1)).take _=b;have:(a++c::b).drop (a.length+1)=b:=by rw[List.drop_append];simp
   rw[this,Zak];have e1:(tx [c]).length=1:=rfl;omega
def Qks:Str.ofString "*" =tx [42]:= ∅
def Qir:Str.ofString ">" =tx [62]:= ∅
def Qj6(n:Nat):QW (n:Int)=tx (dig n):=Qd8 (by rw[Qdq,if_neg ⋯];rfl)
def Qgb{n:Nat}(h:n<10):QW (n:Int)=tx [48+n]:=by rw[Qj6,Qhc h]
noncomputable def QdJ(QI:Den):DS:=(Qd (sIf (Qf (dOp gNe (dBf Qaa (Qa vv0 Qb)) kk1)) (Qd Qp Qe) Qe) (Qd (QB (Ql 1 QI [] (Qa vv0 Qb))) Qe))
def Qje(d:Den):Prop:=∀n:Nat,n<10->d [.str (tx [48+n])]=some (.int n,true)
def Qyv{dn:Den}(hn:QhM dn):Qje (Qr 1 (QdJ dn)):=λn h=>by
 refine Q8 (Qj (Qs (b:=false) ?_ (λh=>by cases h) (λ_=>Qn ?_)))
 .exact Qo (b:=false) (r:=reT (.bl false)) ((QiO (a:=1) (b:=1) (ra:=reI 1) (Qc8 (x:=tx [48+n]) rfl rfl (show 1<=16000000 by decide)) rfl rfl rfl).trans ⋯) rfl
 .have:=hn n ⋯;rw[Qgb h]at this;exact QR (Qq (r:=⟨[.str (tx [48+n])],true,[]⟩) rfl this rfl) ⟨rfl,rfl⟩
noncomputable def Qd5(QI:Den):DS:=(Qd (Qu 1 (Ql 1 QI [] (Qa vv0 Qb))) (Qd (sIf (bOr (Qf (dOp gLt vv1 kk2)) (Qf (dOp gGt vv1 Qj7))) (Qd Qp Qe) Qe) (Qd (QB vv1) Qe)))
def QhO(d:Den):Prop:=∀k:Nat,2<=k->k<=40->d [.str (tx (dig k))]=some (.int k,true)
def Qru{dn:Den}(hn:QhM dn):QhO (Qr 2 (Qd5 dn)):=λk h2 h40=>by
 have e:=hn k ⋯;rw[Qj6]at e;refine Q8 (run_seq (Qz (Qq (r:=⟨[.str (tx (dig k))],true,[]⟩) rfl e rfl) ?_));change Nx _ (.nx [slT (.str (tx (dig k))),slI k]);refine Qj (Qs (b:=false) ?_ (λh=>by cases h) (λ_=>Qn ?_))
 .have:=Qab (a:=decide ((k:Int)<2)) (b:=decide ((40:Int)<k)) (g1:=Qf (dOp gLt (Qc 1) (dC (.int 2)))) (g2:=Qf (dOp gGt (Qc 1) (dC (.int 40)))) (ρ:=[slT (.str (tx (dig k))),slI k]) (Qo (QO rfl rfl rfl) rfl) (Qo (QO rfl rfl rfl) rfl);rw[this,decide_eq_false ⋯,decide_eq_false ⋯];rfl
 .exact QR rfl ⟨rfl,rfl⟩
structure Wd where
 a:Nat
 b:Nat
 lane:Bool
 k:Nat
 star:Bool
noncomputable def Wd.sign(x:Wd):Nat:=if x.lane=true then 62 else 45
noncomputable def Wd.l(x:Wd):List Nat:=[48+x.a,x.sign,48+x.b]++if x.star=true then 42::dig x.k else []
noncomputable def Wd.t(x:Wd):Str:=tx x.l
structure Wd.Ok (x:Wd):Prop where
 a:x.a<10
 b:x.b<10
 k:if x.star=true then 2<=x.k/\x.k<=40 else x.k=1
noncomputable def Wd.p(x:Wd):Int×Int:=(x.a,x.b)
def Wd.low{x:Wd}(h:x.Ok):∀c∈x.l,c<200/\c≠32:=λc hc=>by
 have ha:=h.a;have hb:=h.b;unfold Wd.l at hc;rcases ZG.mp hc with hc | hc
 .simp only[Zn,ZaI,or_false]at hc;unfold Wd.sign at hc;split at hc<;>omega
 .split at hc
  .rcases Zn.mp hc with hc | hc
   .omega
   .have:=QdW _ _ hc;omega
  .simp at hc
def Wd.len{x:Wd}(h:x.Ok):x.t.length<=100:=by
 have hk:=h.k;rw[Qcm];show x.l.length<=100;unfold Wd.l;rw[Zd];split
 .rename_i hs;rw[if_pos hs]at hk;have:=Qjq (n:=x.k) (k:=2) ∅ ⋯;simp;omega
 .simp
def Wd.part{x:Wd}(h:x.Ok):Txt.partition x.t (tx [42])=(tx [48+x.a,x.sign,48+x.b],if x.star=true then(tx [42],tx (dig x.k))else(tx [],tx [])):=by
 have ha:=h.a;have hb:=h.b;have h0:42∉[48+x.a,x.sign,48+x.b]:=λhc=>by
  simp only[Zn,ZaI,or_false]at hc;unfold Wd.sign at hc;split at hc<;>omega
 unfold Wd.t Wd.l;split
 .exact Qpg h0
 .rw[ZJ];exact Qo9 h0
def Qx5{c:Nat}(h:c=45∨c=62):gIn true (.str (tx [c])) (.tup [.str (tx [45]),.str (tx [62])])=some (.bl false):=by
 have s:∀c n,c<200->(D.str (tx [c])).sim n=true:=λc n h=>Qd3 λd hd=>by rw[Qak,Zi]at hd;omega
 have st:(D.tup [.str (tx [45]),.str (tx [62])]).sim 8=true:=by
  show [D.str (tx [45]),.str (tx [62])].all (D.sim 7)=true;simp only[Zbc,Zbj,s 45 7 ∅,s 62 7 ∅,ZaK]
 show(if(D.str (tx [c])).sim 8 && (D.tup [.str (tx [45]),.str (tx [62])]).sim 8 then some (D.bl (!([D.str (tx [45]),.str (tx [62])].any λy=>deq y (.str (tx [c])))))else none)=_;rw[s c 8 ⋯,st];rcases h with rfl | rfl<;>rfl
noncomputable def Qe4(QaI:Den)(QM:Den):DS:=(Qd (Qu 1 (dM1 Qk9 vv0 (Qa (dC (.str "*")) Qb))) (Qd (Qu 2 (Qef (Qm vv1 kk0))) (Qd (sIf (bOr (Qf (dOp gNe (dBf Qaa (Qa vv2 Qb)) kk3)) (Qf (dOp (gIn true) (Qm vv2 kk1) (Qaj (Qa (dC (.str "-")) (Qa (dC (.str ">")) Qb)))))) (Qd Qp Qe) Qe) (Qd (Qu 3 (dIf (Qf (Qm vv1 kk1)) (Ql 1 QaI [] (Qa (Qm vv1 kk2) Qb)) kk1)) (Qd (QB (QaD (Q4 (Qa (Qaj (Qa (Ql 1 QM [] (Qa (Qm vv2 kk0) Qb)) (Qa (Ql 1 QM [] (Qa (Qm vv2 kk2) Qb)) Qb))) Qb)) vv3)) Qe)))))
def Qg2(d:Den):Prop:=∀x:Wd,x.Ok->d [.str x.t]=some (Qg (List.replicate x.k x.p),true)
def QbX{fa fb:DE}{ρ:En}{ra rb:R}{l:List Nat}{i:Nat}{c:Nat}(ha:fa ρ=some ra)(ea:ra.d= .str (tx l))(hb:fb ρ=some rb)(eb:rb.d= .int i)(hi:l[i]? =some c)(hl:i<=1000):Qm fa fb ρ=some (reT (.str (tx [c]))):=by
 unfold Qm;rw[ha,Za,hb,Za,ea,eb];show(if 0<=(i:Int)/\(i:Int)<2^63/\(i:Int)<(tx l).length then((tx l).cps[(i:Int).toNat]?).map λc=>HS.R.mk (.str ⟨#[c]⟩) true []else none)=_;have hlen:=(Zj.mp hi).1;rw[if_pos ⟨⋯,⋯,by rw[Qcm,Qak];omega⟩];have:(tx l).cps[(i:Int).toNat]? =some c:=by
  show l.toArray[(i:Int).toNat]? =some c;rw[ZS];simpa using hi
 rw[this];rfl
def Qtn{da df:Den}(ha:QhO da)(hf:Qje df):Qg2 (Qr 4 (Qe4 da df)):=λx h=>by
 have hlen:=Wd.len h;have hk:=h.k;have hsg:x.sign=45∨x.sign=62:=by unfold Wd.sign;split<;>simp
 refine Q8 ?_;refine run_seq (Qz (r:=reT (.tup [.str (tx [48+x.a,x.sign,48+x.b]),.str (if x.star=true then tx [42]else tx []),.str (if x.star=true then tx (dig x.k)else tx [])])) (Qgv (ra:=reT (.str x.t)) (rb:=reT (.str "*")) rfl rfl ?_) ?_)
 .show(if((Str.ofString "*").length == 0)=false/\x.t.length<=sizeLine then some (D.tup [.str (Txt.partition x.t (Str.ofString "*")).1,.str (Txt.partition x.t (Str.ofString "*")).2.1,.str (Txt.partition x.t (Str.ofString "*")).2.2])else none)=_;rw[Qks,if_pos ⟨rfl,by rw[QaA];omega⟩,Wd.part h];split<;>rfl
 change Nx _ (.nx [slT (.str x.t),slT (.tup [.str (tx [48+x.a,x.sign,48+x.b]),.str (if x.star=true then tx [42]else tx []),.str (if x.star=true then tx (dig x.k)else tx [])]),none,none]);refine run_seq (Qz (r:=reF (.str (tx [48+x.a,x.sign,48+x.b]))) rfl ?_);change Nx _ (.nx [slT (.str x.t),slT (.tup [.str (tx [48+x.a,x.sign,48+x.b]),.str (if x.star=true then tx [42]else tx []),.str (if x.star=true then tx (dig x.k)else tx [])]),slT (.str (tx [48+x.a,x.sign,48+x.b])),none]);refine Qj (Qs (b:=false) ?_ (λh=>by cases h) (λ_=>Qn ?_))
 .refine Qab (a:=false) (b:=false) (Qo (b:=false) (r:=reT (.bl false)) ((QiO (a:=3) (b:=3) (ra:=reI 3) (Qc8 (x:=tx [48+x.a,x.sign,48+x.b]) rfl rfl (show 3<=16000000 by decide)) rfl rfl rfl).trans ⋯) rfl) ?_;refine Qo (b:=false) (QO (ra:=reT (.str (tx [x.sign]))) (rb:=reT (.tup [.str (tx [45]),.str (tx [62])])) (d:= .bl false) (QbX (l:=[48+x.a,x.sign,48+x.b]) (i:=1) (ra:=reT (.str (tx [48+x.a,x.sign,48+x.b]))) (rb:=reI 1) rfl rfl rfl rfl rfl ∅) ?_ ?_) rfl
  .show some (HS.R.mk (.tup [.str (Str.ofString "-"),.str (Str.ofString ">")]) true [])=_;rw[QkS,Qir]
  .exact Qx5 hsg
 have e3:dIf (Qf (Qm (Qc 1) (dC (.int 1)))) (Ql 1 da [] (Qa (Qm (Qc 1) (dC (.int 2))) Qb)) (dC (.int 1)) [slT (.str x.t),slT (.tup [.str (tx [48+x.a,x.sign,48+x.b]),.str (if x.star=true then tx [42]else tx []),.str (if x.star=true then tx (dig x.k)else tx [])]),slT (.str (tx [48+x.a,x.sign,48+x.b])),none]=some (reI x.k):=by
  cases hs:x.star with
  | true=>
   rw[hs,if_pos rfl]at hk;show(some true).bind (λb:Bool=>if b=true then Ql 1 da [] (Qa (Qm (Qc 1) (dC (.int 2))) Qb) [slT (.str x.t),slT (.tup [.str (tx [48+x.a,x.sign,48+x.b]),.str (tx [42]),.str (tx (dig x.k))]),slT (.str (tx [48+x.a,x.sign,48+x.b])),none]else _)=_;rw[Za,if_pos rfl];exact Qq (r:=⟨[.str (tx (dig x.k))],true,[]⟩) rfl (ha x.k hk.1 hk.2) rfl
  | false=>
   rw[hs]at hk;have hk:x.k=1:=hk;rw[hk];rfl
 refine run_seq (Qz e3 ?_);change Nx _ (.nx [slT (.str x.t),slT (.tup [.str (tx [48+x.a,x.sign,48+x.b]),.str (if x.star=true then tx [42]else tx []),.str (if x.star=true then tx (dig x.k)else tx [])]),slT (.str (tx [48+x.a,x.sign,48+x.b])),slI x.k]);have hk40:x.k<=1000:=by split at hk<;>omega
 refine QR (QpA (n:=x.k) (s:=x.p) (r:=reI x.k) ?_ rfl rfl hk40) ⟨rfl,rfl⟩;refine(QkD (Qx (r:=⟨pairD x.p,true,[]⟩) (QfR (Qx (Qq (r:=⟨[.str (tx [48+x.a])],true,[]⟩) (Qx (QbX (l:=[48+x.a,x.sign,48+x.b]) (i:=0) (ra:=reT (.str (tx [48+x.a,x.sign,48+x.b]))) (rb:=reI 0) rfl rfl rfl rfl rfl ∅) (QZ _)) (hf x.a h.a) rfl) (Qx (Qq (r:=⟨[.str (tx [48+x.b])],true,[]⟩) (Qx (QbX (l:=[48+x.a,x.sign,48+x.b]) (i:=2) (ra:=reT (.str (tx [48+x.a,x.sign,48+x.b]))) (rb:=reI 2) rfl rfl rfl rfl rfl ∅) (QZ _)) (hf x.b h.b) rfl) (QZ _))) (show 2<=64 by decide)) (QZ _)) (show 1<=64 by decide)).trans rfl
noncomputable def Qv(ws:List Wd):List (Int×Int):=(ws.filter λx=> !x.lane).flatMap λx=>List.replicate x.k x.p
noncomputable def Qw(ws:List Wd):List (Int×Int):=(ws.filter λx=>x.lane).flatMap λx=>List.replicate x.k x.p
noncomputable def Qal(m:Nat)(ws:List Wd):List Str:=QW m::ws.map Wd.t
noncomputable def QcU(m:Nat)(ws:List Wd):Str:=Str.join (tx [32]) (Qal m ws)
def QcG(ws:List Wd)(x:Wd):Qv (ws++[x])=Qv ws++if x.lane=true then []else List.replicate x.k x.p:=by
 unfold Qv;rw[ZaO,List.flatMap_append];cases h:x.lane<;>simp[Zbt,h]
def QcH(ws:List Wd)(x:Wd):Qw (ws++[x])=Qw ws++if x.lane=true then List.replicate x.k x.p else []:=by
 unfold Qw;rw[ZaO,List.flatMap_append];cases h:x.lane<;>simp[Zbt,h]
def Qo2{m:Nat}{ws:List Wd}(h:∀x∈ws,x.Ok):∀t∈Qal m ws,32∉cp t:=λt ht=>by
 rcases Zn.mp ht with rfl | ht
 .exact Qmp _
 .obtain⟨x,hx,rfl⟩:=Zz.mp ht;exact λhc=>(Wd.low (h x hx) 32 hc).2 rfl
def Qr9{m:Nat}{ws:List Wd}:∀t∈Qal m ws,cp t≠[]:=λt ht=>by
 rcases Zn.mp ht with rfl | ht
 .exact QlB _
 .obtain⟨x,hx,rfl⟩:=Zz.mp ht;show x.l≠[];unfold Wd.l;simp
def Qv2{m:Nat}{ws:List Wd}:QcU m ws≠tx []:=λe=>by
 have:=congrArg cp e;unfold QcU at this;rw[QeG,Qak]at this;refine QuA (by simp[Qal]) (λx hx=>?_) this;obtain⟨t,ht,rfl⟩:=Zz.mp hx;exact Qr9 t ht
def Qqf{m:Nat}{ws:List Wd}(h:∀x∈ws,x.Ok):Txt.split (QcU m ws) (tx [32])=Qal m ws:=
 Qkx (Qo2 h) (by simp[Qal]) λe=>Qv2 (Qnv _ _ (λ_=>trivial) e)
def Qp7{m:Nat}{ws:List Wd}(hm:m<10)(h:∀x∈ws,x.Ok):∀y∈Qal m ws,y.length<=100:=λt ht=>by
 rcases Zn.mp ht with rfl | ht
 .rw[Qgb hm];exact(show 1<=100 by decide)
 .obtain⟨x,hx,rfl⟩:=Zz.mp ht;exact Wd.len (h x hx)
def QsV{m:Nat}{ws:List Wd}(hm:m<10)(h:∀x∈ws,x.Ok)(hl:ws.length<=1000):(QcU m ws).length<=1000000:=by
 have h1:=StrLaws.join_length_le (tx [32]) (Qal m ws);have h2:=StrLaws.sumLen_le (B:=100) (Qal m ws) (Qp7 hm h);have e:(tx [32]).length=1:=rfl;have e2:(Qal m ws).length=ws.length+1:=by simp[Qal]
 rw[e,Nat.mul_one,e2]at h1;rw[e2]at h2;show(Str.join (tx [32]) (Qal m ws)).length<=_;omega
def QpW:∀ts:List Str,Qah (ts.map .str)=true:=Qk2
def QlG{fa fb:DE}{ρ:En}{ra rb:R}{ts:List Str}{n:Nat}(ha:fa ρ=some ra)(ea:ra.d= .lst (ts.map .str))(hb:fb ρ=some rb)(eb:rb.d= .int n):QU fa (QD fb) QX ρ=some (reT (.lst ((ts.drop n).map .str))):=by
 unfold QU QD QX;simp only[ha,hb,Za,ea,eb,cutD,Zo,HT.Qn9,HT.Qpi,← List.map_drop,← List.map_take,Qbx,QpW,if_true];congr 4;rw[Zak (by rw[ZaG];omega)];by_cases h:n<=ts.length
 .rw[ZaN h]
 .rw[Zbb ⋯,Zbw (Ze _),Zbw ⋯]
def QfN{fa fb:DE}{ρ:En}{ra rb:R}{ts:List Str}{i:Nat}{t:Str}(ha:fa ρ=some ra)(ea:ra.d= .lst (ts.map .str))(hb:fb ρ=some rb)(eb:rb.d= .int i)(h:ts[i]? =some t):Qm fa fb ρ=some (reT (.str t)):=by
 have hl:i<ts.length:=(Zj.mp h).1;unfold Qm;rw[ha,Za,hb,Za,ea,eb];simp only[D.items,Za];rw[QgX ⋯ (by simp;omega),Zv,ZS,h];rfl
def Qjm{w a b:Nat}{gc:DT}{fe:DE}{ρ:En}{Q:Out->Prop}{c:Bool}{x:Nat}{A B:Lpp}{M:List Nat}{f:Bool}(hg:gc ρ=some c)(ex:(if c=true then a else b)=x)(hw:w<ρ.length)(hx:w≠x)(hs:(ρ.set w none)[x]? =some (slT (Qg A)))(he:fe (ρ.set w none)=some ⟨Qg B,f,M⟩)(hl:A.length+B.length<=16000000)(q:Q (.nx ((ρ.set w none).set x (slT (Qg (A++B)))))):Run (QcS w a b gc fe) ρ Q:=by
 refine⟨_,?_,q⟩;unfold QcS;rw[hg,Za,ex,if_pos ⟨hw,hx⟩];unfold Qit;rw[hs];simp only[Qbe,Za,he,Qcq,Qg,QbB,Zo,QaA,Qb3 (f:=pairD) (λ_=>rfl) B];rw[if_pos (by simp;omega)];simp
def Qwe{a b c:Nat}{l:List Nat}:Txt.slice (tx (a::b::c::l)) (some 1) (some 2)=tx [b]:=by
 have e:Txt.slice (tx (a::b::c::l)) (some 1) (some 2)=StrLaws.sliceText (tx (a::b::c::l)) (some ((1:Nat):Int)) (some ((2:Nat):Int)):=rfl;rw[e,StrLaws.sliceText_nat _ ⋯ (by rw[Qcm,Qak];simp)];rfl
noncomputable def QfM(Q7:Den)(QM:Den)(Qav:Den)(Qap:Den):DS:=(Qd (Qu 1 (Ql 1 Q7 [] (Qa vv0 Qb))) (Qd (Qu 2 (Ql 1 QM [] (Qa (Qm vv1 kk0) Qb))) (Qd (Qu 3 (Q4 Qb)) (Qd (Qu 4 (Q4 Qb)) (Qd (Qbd (Q3 (QU vv1 (QD kk1) QX)) (.nm 5) (Qd (QcS 6 4 3 (Qf (dOp gEq (QU vv5 (QD kk1) (QD kk2)) (dC (.str ">")))) (Ql 1 Qav [] (Qa vv5 Qb))) Qe)) (Qd (QB (Ql 3 Qap [] (Qa vv2 (Qa vv3 (Qa vv4 Qb))))) Qe))))))
def QiX(d:Den):Prop:=∀(m:Nat) (ws:List Wd),m<10->ws.length<=1000->(∀x∈ws,x.Ok)->(Qv ws).length+(Qw ws).length<=1000->QfL m ((Qv ws).map nrm) (Qw ws)->d [.str (QcU m ws)]=some (Qy m ((Qv ws).map nrm) (Qw ws),true)
def Qj3{ws:List Wd}{i:Nat}:(Qv (ws.take i)).length<=(Qv ws).length/\(Qw (ws.take i)).length<=(Qw ws).length:=by
 have e:ws=ws.take i++ws.drop i:=(Zan i ws).symm;constructor
 .conv=>rhs;rw[e]
  unfold Qv;rw[ZaO,List.flatMap_append,Zd];omega
 .conv=>rhs;rw[e]
  unfold Qw;rw[ZaO,List.flatMap_append,Zd];omega
def Qqz{dw df dy dm:Den}(hw:QeW dw)(hf:Qje df)(hy:Qg2 dy)(hm:Qld dm):QiX (Qr 7 (QfM dw df dy dm)):=λm ws m10 hl hx hn N=>by
 have hT:=QsV m10 hx hl;have es:=Qqf (m:=m) hx;have hd:=hw (QcU m ws) ⋯ (by rw[es];simp[Qal];omega);rw[es]at hd;refine Q8 ?_;refine run_seq (Qz (Qq (r:=⟨[.str (QcU m ws)],true,[]⟩) rfl hd rfl) ?_);change Nx _ (.nx [slT (.str (QcU m ws)),slT (.lst ((Qal m ws).map .str)),none,none,none,none,none]);refine run_seq (Qz (Qq (d:= .int m) (r:=⟨[.str (QW m)],true,[]⟩) (Qx (QfN (ts:=Qal m ws) (i:=0) (ra:=⟨.lst ((Qal m ws).map .str),true,[1]⟩) (rb:=reI 0) rfl rfl rfl rfl rfl) (QZ _)) (by rw[Qgb m10];exact hf m m10) rfl) ?_);change Nx _ (.nx [slT (.str (QcU m ws)),slT (.lst ((Qal m ws).map .str)),slI m,none,none,none,none]);refine run_seq (Qz (r:=reT (Qg [])) rfl ?_);refine run_seq (Qz (r:=reT (Qg [])) rfl ?_);change Nx _ (.nx [slT (.str (QcU m ws)),slT (.lst ((Qal m ws).map .str)),slI m,slT (Qg []),slT (Qg []),none,none]);refine Qco (P:=λρ=>∃j5 j6,ρ=[slT (.str (QcU m ws)),slT (.lst ((Qal m ws).map .str)),slI m,slT (Qg (Qv ws)),slT (Qg (Qw ws)),j5,j6]) ?_ ?_
 .refine Qbq (toD:=λx=> .str x.t) ws (λi ρ=>∃j5 j6,ρ=[slT (.str (QcU m ws)),slT (.lst ((Qal m ws).map .str)),slI m,slT (Qg (Qv (ws.take i))),slT (Qg (Qw (ws.take i))),j5,j6]) (Qaz (xs:=(ws.map Wd.t).map .str) (QlG (ts:=Qal m ws) (n:=1) (ra:=⟨.lst ((Qal m ws).map .str),true,[1]⟩) (rb:=reI 1) rfl rfl rfl rfl) rfl) (by rw[ZF];rfl) ⟨none,none,rfl⟩ ?_ ?_
  .rintro i x ρ hi ⟨j5,j6,rfl⟩;have hxo:=hx x (Zy hi);have et:ws.take (i+1)=ws.take i++[x]:=by rw[ZaV,hi];rfl
   have hlt:=Qj3 (ws:=ws) (i:=i);have hk:x.k<=40:=by have:=hxo.k;split at this<;>omega
   refine⟨[slT (.str (QcU m ws)),slT (.lst ((Qal m ws).map .str)),slI m,slT (Qg (Qv (ws.take i))),slT (Qg (Qw (ws.take i))),slT (.str x.t),j6],rfl,?_⟩;have eg:Qf (dOp gEq (QU (Qc 5) (QD (dC (.int 1))) (QD (dC (.int 2)))) (dC (.str ">"))) [slT (.str (QcU m ws)),slT (.lst ((Qal m ws).map .str)),slI m,slT (Qg (Qv (ws.take i))),slT (Qg (Qw (ws.take i))),slT (.str x.t),j6]=some x.lane:=by
    have e1:QU (Qc 5) (QD (dC (.int 1))) (QD (dC (.int 2))) [slT (.str (QcU m ws)),slT (.lst ((Qal m ws).map .str)),slI m,slT (Qg (Qv (ws.take i))),slT (Qg (Qw (ws.take i))),slT (.str x.t),j6]=some (reT (.str (tx [x.sign]))):=by
     show(if x.t.length<=sizeLine then some (HS.R.mk (.str (Txt.slice x.t (some 1) (some 2))) true [])else none)=_;rw[if_pos (by have:=Wd.len hxo;rw[QaA];omega)];have:Txt.slice x.t (some 1) (some 2)=tx [x.sign]:=Qwe;rw[this]
    have hs:x.sign<200:=by unfold Wd.sign;split<;>decide
    refine(Qo (QiH (x:=tx [x.sign]) (y:=tx [62]) (rb:=reT (.str ">")) e1 rfl rfl (congrArg D.str Qir) (λc hc=>by rw[Qak,Zi]at hc;omega) (λc hc=>by rw[Qak,Zi]at hc;omega)) rfl).trans ?_;unfold Wd.sign;cases x.lane<;>rfl
   have ef:∀j6',Ql 1 dy [] (Qa (Qc 5) Qb) [slT (.str (QcU m ws)),slT (.lst ((Qal m ws).map .str)),slI m,slT (Qg (Qv (ws.take i))),slT (Qg (Qw (ws.take i))),slT (.str x.t),j6']=some (reT (Qg (List.replicate x.k x.p))):=λj6'=>Qq (r:=⟨[.str x.t],true,[]⟩) rfl (hy x hxo) rfl;cases hxl:x.lane with
   | true=>
    rw[hxl]at eg;refine run_seq (Qjm (x:=4) (A:=Qw (ws.take i)) (B:=List.replicate x.k x.p) eg rfl (show 6<7 by decide) ∅ rfl (ef none) (by rw[ZY];omega) (Qn ⟨slT (.str x.t),none,?_⟩));rw[et,QcG,QcH,hxl,if_pos rfl,if_pos rfl,ZJ];rfl
   | false=>
    rw[hxl]at eg;refine run_seq (Qjm (x:=3) (A:=Qv (ws.take i)) (B:=List.replicate x.k x.p) eg rfl (show 6<7 by decide) ∅ rfl (ef none) (by rw[ZY];omega) (Qn ⟨slT (.str x.t),none,?_⟩));rw[et,QcG,QcH,hxl,if_neg ∅,if_neg ∅,ZJ];rfl
  .rintro ρ ⟨j5,j6,rfl⟩;rw[Zal];exact⟨j5,j6,rfl⟩
 .rintro ρ ⟨j5,j6,rfl⟩;exact QR (Qq (r:=⟨[.int m,Qg (Qv ws),Qg (Qw ws)],true,[3,4]⟩) rfl (hm m _ _ _ (.inl rfl) hn N) rfl) ⟨rfl,rfl⟩
noncomputable def QF(c:Nat):Bool:=decide (48<=c/\c<=57)
noncomputable def Qbl:List Nat->List Nat
 | []=>[]
 | c::r=>if c=45 then r else c::r
def QdS(r:List Nat):Qbl (45::r)=r:=by simp[Qbl]
def Qc3{c:Nat}{r:List Nat}(h:c≠45):Qbl (c::r)=c::r:=by simp[Qbl,h]
noncomputable def Qbc(l:List Nat):Bool:=(Qbl l).any (λc=> !QF c) || (decide ((Qbl l).length<1) || decide (18<(Qbl l).length)) || ((Qbl l).head? == some 48 && l != [48])
noncomputable def Qat(l:List Nat):Int:=if l.head? =some 45 then-((digitsVal (Qbl l):Nat):Int)else((digitsVal (Qbl l):Nat):Int)
def Low(l:List Nat):Prop:=∀c∈l,c<200
def snoc_ind{P:List Nat->Prop}(h0:P [])(h1:∀l c,P l->P (l++[c]))(l:List Nat):P l:=by
 have:∀n (l:List Nat),l.length=n->P l:=by
  intro n
  induction n with
  | zero=>intro l h;rw[Zax h];exact h0
  | succ n ih=>
   intro l h;have hne:l≠[]:=by intro z;rw[z]at h;simp at h
   rw[← List.dropLast_concat_getLast hne];exact h1 _ _ (ih _ (by simp;omega))
 exact this _ l rfl
def QiQ:∀(l:List Nat),l.all QF=true->l≠[]->(l.head? ≠some 48∨l=[48])->dig (digitsVal l)=l/\(l.head? ≠some 48->0<digitsVal l)/\digitsVal l<10^l.length:=by
 refine snoc_ind (λ_ h=>absurd rfl h) λl c ih ha _ hh=>?_;rw[List.all_append,Zf]at ha;have hc:48<=c/\c<=57:=by
  have:=ha.2;simpa[QF]using this
 rw[digitsVal_snoc];by_cases hl:l=[]
 .subst hl;refine⟨?_,λz=>?_,?_⟩
  .show dig (0*10+(c-48))=[c];rw[Qhc ⋯];congr 1;omega
  .have:c≠48:=λe=>z (by rw[e];rfl);show 0<0*10+(c-48);omega
  .show 0*10+(c-48)<10^1;omega
 .have hh':l.head? ≠some 48:=by
   rcases hh with z | z
   .intro e;refine z ?_;cases l with
    | nil=>exact absurd rfl hl
    | cons a r=>exact e
   .exfalso;have:=congrArg List.length z;rw[Zd]at this;exact hl (Zax (by simpa using this))
  obtain⟨i1,i2,i3⟩:=ih ha.1 hl (.inl hh');have i2:=i2 hh';refine⟨?_,λ_=> ⋯,?_⟩
  .rw[Qg6 ⋯,show(digitsVal l*10+(c-48)) / 10=digitsVal l by omega,i1];congr 2;omega
  .rw[Zd,ZI,Nat.pow_succ];omega
def Qtm{l:List Nat}(h:l.any (λc=> !QF c)=false):l.all QF=true:=by
 rw[ZC];intro c hc;have:=ZaD.mp h c hc;simpa using this
def canon{l:List Nat}(h:Qbc l=false):tx l=QW (Qat l)/\(Qat l).natAbs<10^18:=by
 unfold Qbc at h;simp only[Zat,decide_eq_false_iff_not]at h;obtain⟨⟨h1,h2,h3⟩,h4⟩:=h;have ha:=Qtm h1;have hne:Qbl l≠[]:=λz=>by rw[z]at h2;simp at h2
 cases l with
 | nil=>exact absurd rfl hne
 | cons c r=>
  by_cases hc:c=45
  .subst hc;have hb:Qbl (45::r)=r:=QdS r;rw[hb]at h1 h2 h3 h4 ha hne;have hh:r.head? ≠some 48:=λz=>by rw[z]at h4;simp at h4
   obtain⟨d1,d2,d3⟩:=QiQ r ha hne (.inl hh);have d2:=d2 hh;have hv:Qat (45::r)= -((digitsVal r:Nat):Int):=by unfold Qat;rw[if_pos (show(45::r).head? =some 45 from rfl),hb]
   have hn:(Qat (45::r)).natAbs=digitsVal r:=by rw[hv];omega
   refine⟨Qd8 ?_,by rw[hn];exact Zm d3 (Zau ∅ ⋯)⟩;rw[Qdq,hn,if_pos (by rw[hv];omega),d1,Qak]
  .have hb:Qbl (c::r)=c::r:=Qc3 hc;rw[hb]at h1 h2 h3 h4 ha hne;have hh:(c::r).head? ≠some 48∨c::r=[48]:=by
    by_cases z:(c::r).head? =some 48
    .rw[z]at h4;simp at h4;exact .inr (by rw[h4.1,h4.2])
    .exact .inl z
   obtain⟨d1,d2,d3⟩:=QiQ (c::r) ha hne hh;have hv:Qat (c::r)=((digitsVal (c::r):Nat):Int):=by
    unfold Qat
    rw[if_neg (show ¬(c::r).head? =some 45 from λz=>hc (Option.some.inj z)),hb]
   have hn:(Qat (c::r)).natAbs=digitsVal (c::r):=by rw[hv];omega
   refine⟨Qd8 ?_,by rw[hn];exact Zm d3 (Zau ∅ ⋯)⟩;rw[Qdq,hn,if_neg (by rw[hv];omega),d1,Qak]
section
variable {fa fb:DE}{ρ:En}{ra rb r:R}
def Qf0(c:Nat)(n:Bool):gIn n (.str (tx [c])) (.str "0123456789")=some (.bl (n != QF c)):=by
 have f:=StrLaws.found_one (Str.ofString "0123456789") c;have e:decide (c∈(tx [48,49,50,51,52,53,54,55,56,57]).cps.toList)=QF c:=by
  show decide (c∈[48,49,50,51,52,53,54,55,56,57])=QF c;unfold QF;rw[decide_eq_decide];simp only[Zn,ZaI,or_false];omega
 have g:(!(Builtin.Str.occurrences (Str.ofString "0123456789") ⟨#[c]⟩ 0 (Str.ofString "0123456789").length 1).isEmpty)=QF c:=by
  rw[f,Qrf,e]
 cases n with
 | true=>
  show some (D.bl (!(!(Builtin.Str.occurrences (Str.ofString "0123456789") ⟨#[c]⟩ 0 (Str.ofString "0123456789").length 1).isEmpty)))=_;rw[g];cases QF c<;>rfl
 | false=>
  show some (D.bl (!(Builtin.Str.occurrences (Str.ofString "0123456789") ⟨#[c]⟩ 0 (Str.ofString "0123456789").length 1).isEmpty))=_;rw[g];cases QF c<;>rfl
def Qr8{α:Type}(p:α->Bool):∀ks:List α,QiB (ks.map λk=>D.bl (p k))=some (ks.map p)
 | []=>rfl
 | k::ks=>by
  show(QiB (ks.map λk=>D.bl (p k))).map _=_;rw[Qr8 p ks];rfl
def Qu3{α:Type}{ks:List α}(p:α->Bool)(h:fa ρ=some r)(e:r.d= .lst (ks.map λk=> .bl (p k))):dBf Qea (Qa fa Qb) ρ=some (reT (.bl (ks.any p))):=by
 refine Qf7 h ?_;rw[e];simp only[Qea,Qr8,ZO];congr 2;rw[ZaS];rfl
def QyS(l:List Nat):Txt.startswith (tx l) "-" =(l.head? == some 45):=by
 cases l with
 | nil=>decide
 | cons c r=>rw[Qlx (Qak _)];rfl
def Qiq{l:List Nat}(h:Low l):∀c∈cp (tx l),c<200:=h
def Qfm(a b:List Nat):(tx a == tx b)=(a == b):=by
 by_cases h:a=b
 .subst h;simp
 .rw[beq_eq_false_iff_ne.mpr h,beq_eq_false_iff_ne.mpr λe=>h (by have:=congrArg cp e;rwa[Qak,Qak]at this)]
def Qam(l:List Nat):(tx l).length=l.length:=by rw[Qcm,Qak]
end
noncomputable def QdE:DX:=(QC (Qu 1 (dIf (Qf (dM1 gSw vv0 (Qa (dC (.str "-")) Qb))) (QU vv0 (QD kk1) QX) vv0)) (xIf (Qf (dM1 gSw vv0 (Qa (dC (.str "-")) Qb))) xNo xNo) (QC (sIf (Qf (dBf Qea (Qa (Qau (Q3 vv1) (.nm 1) [none,none] QaE (dOp (gIn true) vv1 (dC (.str "0123456789")))) Qb))) (Qd Qp Qe) Qe) (xIf (Qf (dBf Qea (Qa (Qau (Q3 vv1) (.nm 1) [none,none] QaE (dOp (gIn true) vv1 (dC (.str "0123456789")))) Qb))) (QC Qp (QaS "NoText" (Qa (dC (.str "a number has figures from 0 to 9 alone, or - ahead of them")) Qb)) xNo) xNo) (QC (sIf (bOr (Qf (dOp gLt (dBf Qaa (Qa vv1 Qb)) kk1)) (Qf (dOp gGt (dBf Qaa (Qa vv1 Qb)) Qh2))) (Qd Qp Qe) Qe) (xIf (bOr (Qf (dOp gLt (dBf Qaa (Qa vv1 Qb)) kk1)) (Qf (dOp gGt (dBf Qaa (Qa vv1 Qb)) Qh2))) (QC Qp (QaS "NoText" (Qa (dC (.str "a number has from one to eighteen figures")) Qb)) xNo) xNo) (QC (sIf (QeY (Qf (dOp gEq (Qm vv1 kk0) (dC (.str "0")))) (Qf (dOp gNe vv0 (dC (.str "0"))))) (Qd Qp Qe) Qe) (xIf (QeY (Qf (dOp gEq (Qm vv1 kk0) (dC (.str "0")))) (Qf (dOp gNe vv0 (dC (.str "0"))))) (QC Qp (QaS "NoText" (Qa (dC (.str "a number has no nought ahead, and 0 no -")) Qb)) xNo) xNo) (QC (QB (dBf Qde (Qa vv0 Qb))) xNo xNo)))))
def QxI:ApF (Qr 2 QdH) (Q6 2 QdE):=Qec (by unfold QdH QdE;repeat (first | exact Qad | exact QA | assumption | apply Q0 | apply Qar | apply QaO | apply Qay | apply Qai | apply QaF | exact λρ h=>absurd (by unfold xIf;cases Qf (dM1 gSw (Qc 0) (Qa (dC (.str "-")) Qb)) ρ with | none=>rfl | some b=>cases b<;>rfl) h))
def Qox(xd:List D->Option Str):Prop:=∀l,Low l->l.length<=1000->Qbc l=true->xd [.str (tx l)]=some "NoText"
def Qty(l:List Nat):(Qbl l).length<=l.length:=by
 cases l with
 | nil=>exact Ze _
 | cons c r=>
  by_cases h:c=45
  .rw[h,QdS];simp
  .rw[Qc3 h];exact Ze _
def Qs3{l:List Nat}(h:Low l):Low (Qbl l):=by
 cases l with
 | nil=>exact h
 | cons c r=>
  by_cases hc:c=45
  .rw[hc,QdS];exact λd hd=>h d (Zc _ hd)
  .rw[Qc3 hc];exact h
def Qwk{l:List Nat}(h:l.head? =some 45):Txt.slice (tx l) (some 1) none=tx (Qbl l):=by
 cases l with
 | nil=>cases h
 | cons c r=>
  cases h;rw[Qoc (Qak _),QdS]
def Qwm:Qox (Q6 2 QdE):=λl hw hl hb=>by
 have hbl:=Qty l;have hbw:=Qs3 hw;refine Qc1 ?_;have e1:dIf (Qf (dM1 gSw (Qc 0) (Qa (dC (.str "-")) Qb))) (QU (Qc 0) (QD (dC (.int 1))) QX) (Qc 0) (QP 2 [.str (tx l)])=some (reT (.str (tx (Qbl l)))):=by
  have h0:Qf (dM1 gSw (Qc 0) (Qa (dC (.str "-")) Qb)) (QP 2 [.str (tx l)])=some (l.head? == some 45):=
   Qo (r:=reT (.bl (Txt.startswith (tx l) "-"))) (Qgv (ra:=reT (.str (tx l))) (rb:=reT (.str "-")) rfl rfl rfl) (by rw[QyS])
  unfold dIf;rw[h0,Za];by_cases hi:l.head? =some 45
  .rw[if_pos (by rw[hi];rfl)];show(if(tx l).length<=sizeLine then some (HS.R.mk (.str (Txt.slice (tx l) (some 1) none)) true [])else none)=_;rw[if_pos (by rw[QaA,Qam];omega),Qwk hi]
  .rw[if_neg (by simpa using hi)];show some (HS.R.mk (.str (tx l)) true [])=_;cases l with
   | nil=>rfl
   | cons c r=>
    rw[Qc3 λz=>hi (by rw[z];rfl)]
 refine QT (Qz e1 ?_);change QaC _ [slT (.str (tx l)),slT (.str (tx (Qbl l)))] _;generalize hb0:Qbl l=b at hbl hbw hb
 have ea:Qf (dBf Qea (Qa (Qau (Q3 (Qc 1)) (.nm 1) [none,none] QaE (dOp (gIn true) (Qc 1) (dC (.str "0123456789")))) Qb)) [slT (.str (tx l)),slT (.str (tx b))]=some (b.any λc=> !QF c):=
  Qo (Qu3 (ks:=b) (λc=> !QF c) (QbN (toD:=λc=> .str (tx [c])) (out:=λc=> .bl (!QF c)) b (Qlu (x:=tx b) rfl rfl (by rw[Qam];omega)) rfl (λc hc=>⟨[none,slT (.str (tx [c]))],rfl,reT (.bl (!QF c)),QO (ra:=reT (.str (tx [c]))) (rb:=reT (.str "0123456789")) rfl rfl (by rw[Qf0];cases QF c<;>rfl),rfl,rfl⟩)) rfl) rfl
 cases h1:b.any (λc=> !QF c)with
 | true=>
  rw[h1]at ea;exact QG (by repeat (first | exact Qad | exact QA | apply Q0 | apply Qar)) (Qca (b:=true) ea (λ_=>QG QA (QaN rfl (Ze _))) (λh=>by cases h))
 | false=>
  rw[h1]at ea;refine QT (Qs (b:=false) ea (λh=>by cases h) (λ_=>Qn ?_));have eb:bOr (Qf (dOp gLt (dBf Qaa (Qa (Qc 1) Qb)) (dC (.int 1)))) (Qf (dOp gGt (dBf Qaa (Qa (Qc 1) Qb)) (dC (.int 18)))) [slT (.str (tx l)),slT (.str (tx b))]=some (decide (b.length<1) || decide (18<b.length)):=by
   have:=Qab (a:=decide (((tx b).length:Int)<1)) (b:=decide ((18:Int)<(tx b).length)) (g1:=Qf (dOp gLt (dBf Qaa (Qa (Qc 1) Qb)) (dC (.int 1)))) (g2:=Qf (dOp gGt (dBf Qaa (Qa (Qc 1) Qb)) (dC (.int 18)))) (ρ:=[slT (.str (tx l)),slT (.str (tx b))])
    (Qo (QO (ra:=reT (.int (tx b).length)) (rb:=reI 1) (Qc8 rfl rfl (by rw[Qam];omega)) rfl rfl) rfl) (Qo (QO (ra:=reT (.int (tx b).length)) (rb:=reI 18) (Qc8 rfl rfl (by rw[Qam];omega)) rfl rfl) rfl)
   rw[this,Qam];congr 2
   .rw[decide_eq_decide];omega
   .rw[decide_eq_decide];omega
  cases h2:(decide (b.length<1) || decide (18<b.length))with
  | true=>
   rw[h2]at eb;exact QG (by repeat (first | exact Qad | exact QA | apply Q0 | apply Qar)) (Qca (b:=true) eb (λ_=>QG QA (QaN rfl (Ze _))) (λh=>by cases h))
  | false=>
   rw[h2]at eb;refine QT (Qs (b:=false) eb (λh=>by cases h) (λ_=>Qn ?_));have h3:(b.head? == some 48 && l != [48])=true:=by
    unfold Qbc at hb;rw[hb0,h1,h2]at hb;simpa using hb
   cases b with
   | nil=>simp at h3
   | cons c r=>
    have ei:Qm (Qc 1) (dC (.int 0)) [slT (.str (tx l)),slT (.str (tx (c::r)))]=some (reT (.str (tx [c]))):=QbX (i:=0) (ra:=reT (.str (tx (c::r)))) (rb:=reI 0) rfl rfl rfl rfl rfl ∅;have hcl:c<200:=hbw c ⋯
    have:=Qjk (a:=tx [c] == tx [48]) (b:= !(tx l == tx [48])) (g1:=Qf (dOp gEq (Qm (Qc 1) (dC (.int 0))) (dC (.str "0")))) (g2:=Qf (dOp gNe (Qc 0) (dC (.str "0")))) (ρ:=[slT (.str (tx l)),slT (.str (tx (c::r)))])
     (Qo (QiH (rb:=reT (.str "0")) ei rfl rfl (congrArg D.str Qhf) (λc' h'=>by rw[Qak,Zi]at h';omega) (λc' h'=>by rw[Qak,Zi]at h';omega)) rfl)
     (Qo (Qn1 (ra:=reT (.str (tx l))) (rb:=reT (.str "0")) rfl rfl rfl (congrArg D.str Qhf) (Qiq hw) (λc' h'=>by rw[Qak,Zi]at h';omega)) rfl)
    rw[Qfm,Qfm]at this;have h4:([c] == [48] && !(l == [48]))=true:=by
     simp only[List.head?_cons,Zf,beq_iff_eq,Option.some.injEq,bne_iff_ne,ne_eq]at h3;rw[h3.1,beq_eq_false_iff_ne.mpr h3.2];rfl
    rw[h4]at this;exact QG (by repeat (first | exact Qad | exact QA | apply Q0 | apply Qar)) (Qca (b:=true) this (λ_=>QG QA (QaN rfl (Ze _))) (λh=>by cases h))
def QeN{g1 g2:DT}{ρ:En}(h:g1 ρ=some true):bOr g1 g2 ρ=some true:=by unfold bOr;rw[h];rfl
def Qqm{c:Nat}(hc:c<200):∀d∈cp (tx [c]),d<200:=λd hd=>by
 rw[Qak,Zi]at hd;rw[hd];exact hc
section
variable {fa fb:DE}{ρ:En}{ra rb r:R}
def QkT{l k:List Nat}(ha:fa ρ=some ra)(ea:ra.d= .str (tx l))(hb:fb ρ=some rb)(eb:rb.d= .str (tx k))(hl:Low l)(hk:Low k):Qf (dOp gEq fa fb) ρ=some (l == k):=by
 rw[Qo (QiH ha ea hb eb (Qiq hl) (Qiq hk)) rfl,Qfm]
def Qom{l k:List Nat}(ha:fa ρ=some ra)(ea:ra.d= .str (tx l))(hb:fb ρ=some rb)(eb:rb.d= .str (tx k))(hl:Low l)(hk:Low k):Qf (dOp gNe fa fb) ρ=some (!(l == k)):=by
 rw[Qo (Qn1 ha ea hb eb (Qiq hl) (Qiq hk)) rfl,Qfm]
def QeS{l:List Nat}(h:fa ρ=some r)(e:r.d= .str (tx l))(hl:l.length<=1000):dBf Qaa (Qa fa Qb) ρ=some (reI l.length):=by
 rw[Qc8 h e (by rw[Qam];omega),Qam]
def Qju{l:List Nat}(h:fa ρ=some r)(e:r.d= .str (tx l))(ha:l.all QF=true)(hn:l≠[])(hl:l.length<=600):dBf Qde (Qa fa Qb) ρ=some (reI (digitsVal l:Nat)):=by
 refine Qf7 h ?_;rw[e];show(if(tx l).length<=640 then(intText? (tx l)).map D.int else none)=_;rw[if_pos (by rw[Qam];omega),intText_digits (x:=tx l) (λc hc=>by
  have:=ZC.mp ha c hc;simpa[QF]using this) hn (by rw[Qam];omega)];rfl
end
def Qeh{c:Nat}(h:c<200):Low [c]:=λd hd=>by rw[Zi]at hd;omega
def QtT:Low []:=λd hd=>by simp at hd
noncomputable def Qcu(l:List Nat)(k:Int):Bool:=(l.isEmpty || (decide (k<l.length) || (l.head? == some 48 && l != [48]))) || l.any (λc=> !QF c)
noncomputable def QfC:DS:=(Qd (sIf (bOr (Qf (dOp gEq vv0 (dC (.str "")))) (bOr (Qf (dOp gGt (dBf Qaa (Qa vv0 Qb)) vv1)) (QeY (Qf (dOp gEq (Qm vv0 kk0) (dC (.str "0")))) (Qf (dOp gNe vv0 (dC (.str "0"))))))) (Qd (QB (dC .non)) Qe) Qe) (Qd (Qbd (Q3 vv0) (.nm 2) (Qd (sIf (Qf (dOp (gIn true) vv2 (dC (.str "0123456789")))) (Qd (QB (dC .non)) Qe) Qe) Qe)) (Qd (QB (dBf Qde (Qa vv0 Qb))) Qe)))
def QkP(d:Den):Prop:=∀l k,Low l->l.length<=600->d [.str (tx l),.int k]=some (if Qcu l k=true then .non else .int (digitsVal l:Nat),true)
def QwJ:QkP (Qr 3 QfC):=λl k hw hl=>by
 refine Q8 ?_;have t1:Qf (dOp gEq (Qc 0) (dC (.str ""))) (QP 3 [.str (tx l),.int k])=some (l == []):=QkT (ra:=reT (.str (tx l))) (rb:=reT (.str "")) rfl rfl rfl (congrArg D.str Qlm) hw QtT;cases l with
 | nil=>
  exact Qj (Qs (b:=true) (QeN t1) (λ_=>Qj (Q5 (r:=⟨.non,true,[]⟩) rfl ⟨rfl,rfl⟩)) (λh=>by cases h))
 | cons c r=>
  have hc:c<200:=hw c ⋯
  have t2:Qf (dOp gGt (dBf Qaa (Qa (Qc 0) Qb)) (Qc 1)) (QP 3 [.str (tx (c::r)),.int k])=some (decide (k<(c::r).length)):=
   Qo (QO (ra:=reT (.int (c::r).length)) (rb:=reI k) (QeS (l:=c::r) rfl rfl ⋯) rfl rfl) rfl
  have t3:Qf (dOp gEq (Qm (Qc 0) (dC (.int 0))) (dC (.str "0"))) (QP 3 [.str (tx (c::r)),.int k])=some ([c] == [48]):=
   QkT (l:=[c]) (k:=[48]) (rb:=reT (.str "0")) (QbX (i:=0) (ra:=reT (.str (tx (c::r)))) (rb:=reI 0) rfl rfl rfl rfl rfl ∅) rfl rfl (congrArg D.str Qhf) (Qeh hc) (Qeh ∅)
  have t4:Qf (dOp gNe (Qc 0) (dC (.str "0"))) (QP 3 [.str (tx (c::r)),.int k])=some (!(c::r == [48])):=
   Qom (l:=c::r) (k:=[48]) (ra:=reT (.str (tx (c::r)))) (rb:=reT (.str "0")) rfl rfl rfl (congrArg D.str Qhf) hw (Qeh ∅)
  have t:=Qab t1 (Qab t2 (Qjk t3 t4));have tv:((c::r == []) || (decide (k<(c::r).length) || ([c] == [48] && !(c::r == [48]))))=((c::r).isEmpty || (decide (k<(c::r).length) || ((c::r).head? == some 48 && c::r != [48]))):=by
   have e1:([c] == [48])=((c::r).head? == some 48):=by rw[Zas];simp
   rw[e1];rfl
  rw[tv]at t;cases hb:((c::r).isEmpty || (decide (k<(c::r).length) || ((c::r).head? == some 48 && c::r != [48])))with
  | true=>
   rw[hb]at t;have lb:Qcu (c::r) k=true:=by unfold Qcu;rw[hb];rfl
   rw[lb,if_pos rfl];exact Qj (Qs (b:=true) t (λ_=>Qj (Q5 (r:=⟨.non,true,[]⟩) rfl ⟨rfl,rfl⟩)) (λh=>by cases h))
  | false=>
   rw[hb]at t;have lb:Qcu (c::r) k=(c::r).any (λc=> !QF c):=by unfold Qcu;rw[hb];rfl
   rw[lb];refine Qj (Qs (b:=false) t (λh=>by cases h) (λ_=>Qn ?_));generalize hlr:c::r=l at *;refine Qj (Qbq (toD:=λc=> .str (tx [c])) l (λi ρ=>(l.take i).all QF=true/\∃j2,ρ=[slT (.str (tx l)),slI k,j2]) (Qlu (x:=tx l) (r:=reT (.str (tx l))) rfl rfl (by rw[Qam];omega)) rfl ⟨rfl,none,rfl⟩ ?_ ?_)
   .rintro i e ρ hi ⟨hall,j2,rfl⟩;refine⟨[slT (.str (tx l)),slI k,slT (.str (tx [e]))],rfl,?_⟩
    have te:Qf (dOp (gIn true) (Qc 2) (dC (.str "0123456789"))) [slT (.str (tx l)),slI k,slT (.str (tx [e]))]=some (!QF e):=
     Qo (QO (ra:=reT (.str (tx [e]))) (rb:=reT (.str "0123456789")) (d:= .bl (!QF e)) rfl rfl (by rw[Qf0];cases QF e<;>rfl)) rfl
    cases hf:QF e with
    | true=>
     rw[hf]at te;refine Qj (Qs (b:=false) te (λh=>by cases h) (λ_=>Qn (Qn ⟨?_,_,rfl⟩)));rw[ZaV,hi,List.all_append,hall];simp[hf]
    | false=>
     rw[hf]at te;have ha:l.any (λc=> !QF c)=true:=List.any_eq_true.mpr ⟨e,Zy hi,by rw[hf];rfl⟩;rw[ha,if_pos rfl];exact Qj (Qs (b:=true) te (λ_=>Qj (Q5 (r:=⟨.non,true,[]⟩) rfl ⟨rfl,rfl⟩)) (λh=>by cases h))
   .rintro ρ ⟨hall,j2,rfl⟩;rw[Zal]at hall;have ha:l.any (λc=> !QF c)=false:=by
     rw[ZaD];intro d hd;rw[ZC.mp hall d hd];decide
    rw[ha];refine Qj ?_;exact Q5 (Qju (l:=l) (r:=reT (.str (tx l))) rfl rfl hall (by rw[← hlr];simp) hl) ⟨rfl,rfl⟩
noncomputable def QaT(l:List Nat):Option Int:=if Qbc l=true then none else some (Qat l)
noncomputable def Qev:Option Int->D
 | none=> .non
 | some i=> .int i
def Qps{l:List Nat}(h:l.head? ≠some 45):Qcu l 18=Qbc l:=by
 have hb:Qbl l=l:=by
  cases l with
  | nil=>rfl
  | cons c r=>exact Qc3 λz=>h (by rw[z];rfl)
 unfold Qcu Qbc;rw[hb];cases l with
 | nil=>simp
 | cons c r=>
  have e1:decide ((18:Int)<((c::r).length:Nat))=decide (18<(c::r).length):=by rw[decide_eq_decide];omega
  have e2:decide ((c::r).length<1)=false:=decide_eq_false ⋯;rw[e1,e2];cases(c::r).any (λc=> !QF c)<;>cases decide (18<(c::r).length)<;>cases((c::r).head? == some 48 && c::r != [48])<;>rfl
def Qkl{l:List Nat}(h:l.head? ≠some 45):Qat l=((digitsVal l:Nat):Int):=by
 have hb:Qbl l=l:=by
  cases l with
  | nil=>rfl
  | cons c r=>exact Qc3 λz=>h (by rw[z];rfl)
 unfold Qat
 rw[if_neg h,hb]
def Qz3{l:List Nat}(h:l.head? =some 48):∃r,l=48::r:=by
 cases l with
 | nil=>cases h
 | cons c r=>cases h;exact⟨r,rfl⟩
def Qua(r:List Nat):Qbc (45::r)=(Qcu r 18 || digitsVal r == 0):=by
 unfold Qbc Qcu;rw[QdS,Zas];by_cases h0:r.head? =some 48
 .obtain⟨q,rfl⟩:=Qz3 h0;have hz:digitsVal [48]=0:=rfl;constructor
  .intro _;by_cases hq:q=[]
   .subst hq;simp[hz]
   .simp[hq]
  .intro _;simp
 .by_cases hn:r=[]
  .subst hn;simp
  .by_cases ha:r.any (λc=> !QF c)=true
   .simp[ha]
   .have ha':r.any (λc=> !QF c)=false:=by simpa using ha
    obtain⟨_,d2,_⟩:=QiQ r (Qtm ha') hn (.inl h0);have d2:=d2 h0;have hl:1<=r.length:=List.length_pos_iff.mpr hn;have he:r.isEmpty=false:=by simpa using hn
    have hh:(r.head? == some 48)=false:=by simpa using h0
    have hv:(digitsVal r == 0)=false:=by simp;omega
    rw[ha',he,hh,hv];simp only[ZaA,ZbA,Zam,ZaM,decide_eq_true_eq];omega
noncomputable def Qf9(Qaw:Den):DS:=(Qd (sIf (Qf (dOp gNe (QU vv0 QX (QD kk1)) (dC (.str "-")))) (Qd (QB (Ql 2 Qaw [] (Qa vv0 (Qa Qh2 Qb)))) Qe) Qe) (Qd (Qu 1 (Ql 2 Qaw [] (Qa (QU vv0 (QD kk1) QX) (Qa Qh2 Qb)))) (Qd (sIf (bOr (Qf (dOp (Qcp false) vv1 (dC .non))) (Qf (dOp gEq vv1 kk0))) (Qd (QB (dC .non)) Qe) Qe) (Qd (QB (dOp Qge kk0 vv1)) Qe))))
def Qj8(d:Den):Prop:=∀l,Low l->l.length<=600->d [.str (tx l)]=some (Qev (QaT l),true)
def Qob(a b:Int)(n:Nat)(ha:0<=a)(hb:0<=b):Builtin.Str.strSliceIndices (some a) (some b) 1 n=Builtin.Str.strSliceIndices (some (min a n)) (some (min b n)) 1 n:=by
 have h1:¬a<0:= ⋯
 have h2:¬b<0:= ⋯
 have h3:¬min a (n:Int)<0:= ⋯
 have h4:¬min b (n:Int)<0:= ⋯
 simp[Builtin.Str.strSliceIndices,h1,h2,h3,h4]
def QnR(l:List Nat)(a b:Nat)(h:a<=b):Txt.slice (tx l) (some a) (some b)=tx ((l.drop a).take (b-a)):=by
 have e:Txt.slice (tx l) (some (a:Int)) (some (b:Int))=StrLaws.sliceText (tx l) (some ((min a l.length:Nat):Int)) (some ((min b l.length:Nat):Int)):=by
  show StrLaws.sliceText (tx l) (some (a:Int)) (some (b:Int))=_;unfold StrLaws.sliceText;rw[Qam,Qob _ _ _ ⋯ ⋯];have h1:min (a:Int) (l.length:Int)=((min a l.length:Nat):Int):= ⋯
  have h2:min (b:Int) (l.length:Int)=((min b l.length:Nat):Int):= ⋯
  rw[h1,h2]
 rw[e,StrLaws.sliceText_nat _ ⋯ (by rw[Qam];omega)];show tx ((l.drop (min a l.length)).take (min b l.length-min a l.length))=_;congr 1;by_cases ha:a<=l.length
 .rw[ZaN ha];by_cases hb:b<=l.length
  .rw[ZaN hb]
  .rw[Zbb ⋯,Zak ⋯,Zak (by simp;omega)]
 .rw[Zbb ⋯,Zbb ⋯,Zba,Zbv ⋯];simp
def Qpk(l:List Nat)(a:Nat):Txt.slice (tx l) (some a) none=tx (l.drop a):=by
 have e:Txt.slice (tx l) (some (a:Int)) none=Txt.slice (tx l) (some (a:Int)) (some ((l.length+a:Nat):Int)):=by
  show StrLaws.sliceText (tx l) (some (a:Int)) none=StrLaws.sliceText (tx l) (some (a:Int)) (some ((l.length+a:Nat):Int));unfold StrLaws.sliceText;rw[Qam,StrLaws.sliceIdx_none_hi,Qob _ _ _ ⋯ ⋯,Qob (a:Int) ((l.length+a:Nat):Int) _ ⋯ ⋯,show min ((l.length:Nat):Int) (l.length:Int)=min ((l.length+a:Nat):Int) (l.length:Int) by omega]
 rw[e,QnR l a _ ⋯,Zak ⋯]
def Quq(l:List Nat)(b:Nat):Txt.slice (tx l) none (some b)=tx (l.take b):=by
 have e:Txt.slice (tx l) none (some (b:Int))=Txt.slice (tx l) (some ((0:Nat):Int)) (some (b:Int)):=by
  show StrLaws.sliceText (tx l) none (some (b:Int))=StrLaws.sliceText (tx l) (some 0) (some (b:Int));unfold StrLaws.sliceText;rw[StrLaws.sliceIdx_none_lo]
 rw[e,QnR l 0 b ⋯,List.drop_zero,Nat.sub_zero]
def take1(l:List Nat):Txt.slice (tx l) none (some 1)=tx (l.take 1):=Quq l 1
def QrP{dn:Den}(hn:QkP dn):Qj8 (Qr 2 (Qf9 dn)):=λl hw hl=>by
 refine Q8 ?_;have ht:Low (l.take 1):=λc hc=>hw c (ZaF hc);have t1:Qf (dOp gNe (QU (Qc 0) QX (QD (dC (.int 1)))) (dC (.str "-"))) (QP 2 [.str (tx l)])=some (!(l.take 1 == [45])):=by
  refine Qom (l:=l.take 1) (k:=[45]) (ra:=reT (.str (tx (l.take 1)))) (rb:=reT (.str "-")) ?_ rfl rfl (congrArg D.str QkS) ht (Qeh ∅);show(if(tx l).length<=sizeLine then some (HS.R.mk (.str (Txt.slice (tx l) none (some 1))) true [])else none)=_;rw[if_pos (by rw[QaA,Qam];omega),take1]
 by_cases h:l.head? =some 45
 .cases l with
  | nil=>cases h
  | cons c r=>
   cases h;have hwr:Low r:=λc hc=>hw c (Zc _ hc);refine Qj (Qs (b:=false) t1 (λh=>by cases h) (λ_=>Qn ?_));have hd:=hn r 18 hwr (by simp at hl;omega);refine run_seq (Qz (r:=⟨if Qcu r 18=true then .non else .int (digitsVal r:Nat),true,[]⟩) (Qq (r:=⟨[.str (tx r),.int 18],true,[]⟩) ?_ hd rfl) ?_)
   .have e:QU (Qc 0) (QD (dC (.int 1))) QX (QP 2 [.str (tx (45::r))])=some (reT (.str (tx r))):=?_
    .unfold Qa;rw[e];rfl
    show(if(tx (45::r)).length<=sizeLine then some (HS.R.mk (.str (Txt.slice (tx (45::r)) (some 1) none)) true [])else none)=_;rw[if_pos (by rw[QaA,Qam];simp at hl ⊢;omega),Qoc (Qak _)]
   rw[Qa5];unfold QaT;rw[Qua];have hv:Qat (45::r)= -((digitsVal r:Nat):Int):=by unfold Qat;rw[if_pos (show(45::r).head? =some 45 from rfl),QdS]
   cases hb:Qcu r 18 with
   | true=>
    change Nx _ (.nx [slT (.str (tx (45::r))),some (.non,true)]);rw[Bool.true_or,if_pos rfl];exact Qj (Qs (b:=true) (QeN (Qo (b:=true) rfl rfl)) (λ_=>Qj (Q5 (r:=⟨.non,true,[]⟩) rfl ⟨rfl,rfl⟩)) (λh=>by cases h))
   | false=>
    change Nx _ (.nx [slT (.str (tx (45::r))),slI (digitsVal r:Nat)]);rw[ZaA];have t2:bOr (Qf (dOp (Qcp false) (Qc 1) (dC .non))) (Qf (dOp gEq (Qc 1) (dC (.int 0)))) [slT (.str (tx (45::r))),slI (digitsVal r:Nat)]=some (digitsVal r == 0):=by
     rw[Qab (a:=false) (b:=decide (((digitsVal r:Nat):Int)=0)) (Qo (b:=false) rfl rfl) (Qo (Qcn rfl rfl rfl rfl) rfl),ZaA];congr 1;rw[Zas];simp
    cases hz:digitsVal r == 0 with
    | true=>
     rw[hz]at t2;rw[if_pos rfl];exact Qj (Qs (b:=true) t2 (λ_=>Qj (Q5 (r:=⟨.non,true,[]⟩) rfl ⟨rfl,rfl⟩)) (λh=>by cases h))
    | false=>
     rw[hz]at t2;rw[if_neg ∅,hv];refine Qj (Qs (b:=false) t2 (λh=>by cases h) (λ_=>Qn ?_));exact QR (QO (ra:=reI 0) (rb:=reI (digitsVal r:Nat)) (d:= .int (-((digitsVal r:Nat):Int))) rfl rfl (by show some (D.int (0-((digitsVal r:Nat):Int)))=_;rw[Int.zero_sub])) ⟨rfl,rfl⟩
 .have ht1:(!(l.take 1 == [45]))=true:=by
   cases l with
   | nil=>rfl
   | cons c r=>
    have:c≠45:=λz=>h (by rw[z];rfl);simpa using this
  rw[ht1]at t1;have hd:=hn l 18 hw hl;rw[Qps h]at hd;unfold QaT;rw[Qkl h];cases hb:Qbc l with
  | true=>
   rw[hb,if_pos rfl]at hd;exact Qj (Qs (b:=true) t1 (λ_=>Qj (Q5 (Qq (r:=⟨[.str (tx l),.int 18],true,[]⟩) rfl hd rfl) ⟨rfl,rfl⟩)) (λh=>by cases h))
  | false=>
   rw[hb,if_neg ∅]at hd;exact Qj (Qs (b:=true) t1 (λ_=>Qj (Q5 (Qq (r:=⟨[.str (tx l),.int 18],true,[]⟩) rfl hd rfl) ⟨rfl,rfl⟩)) (λh=>by cases h))
noncomputable def wds(l:List Nat):List (List Nat):=(Txt.split (tx l) (tx [32])).map cp
def Qhu(l:List Nat):Txt.split (tx l) (tx [32])=(wds l).map tx:=by
 unfold wds;rw[ZF]
 conv=>lhs;rw[← List.map_id (Txt.split (tx l) (tx [32]))]
 exact ZaJ λt _=>(Qgw t).symm
def QkV(l:List Nat):jn 32 (wds l)=l:=by
 unfold wds;rw[← QeG,StrLaws.join_split,Qak]
def Qog(l:List Nat):wds l≠[]:=λh=>by
 have e:=QkV l;rw[h]at e;rw[← e]at h;cases h
def QwL{l:List Nat}:wds l=[[]]↔l=[]:=⟨λh=>by rw[← QkV l,h];rfl,λh=>by rw[h];rfl⟩
def Qrm{c d:Nat}{w:List Nat}:∀{L:List (List Nat)},w∈L->d∈w->d∈jn c L
 | [],h,_=>by simp at h
 | [x],h,hd=>by rw[Zi]at h;rw[← h];exact hd
 | x::y::r,h,hd=>by
  show d∈x++c::jn c (y::r);rcases Zn.mp h with e | h
  .rw[← e];exact Zk _ hd
  .exact Zg _ (Zc _ (Qrm h hd))
def Qrl{c:Nat}:∀{L:List (List Nat)},L≠[]->(jn c L).length+1=(L.map λw=>w.length+1).sum
 | [],h=>absurd rfl h
 | [x],_=>by simp[jn]
 | x::y::r,_=>by
  have ih:=Qrl (c:=c) (L:=y::r) ⋯;show(x++c::jn c (y::r)).length+1=(x.length+1)+((y::r).map λw=>w.length+1).sum;rw[← ih,Zd,ZM];omega
def Qrr{w:List Nat}:∀{L:List (List Nat)},w∈L->w.length+1<=(L.map λw=>w.length+1).sum
 | [],h=>by simp at h
 | x::r,h=>by
  rw[Zs,Zab];rcases Zn.mp h with e | h
  .rw[e];omega
  .have:=Qrr h;omega
def Qhh{k:Nat}:∀{L:List (List Nat)},(∀w∈L,k<=w.length)->(k+1)*L.length<=(L.map λw=>w.length+1).sum
 | [],_=>by simp
 | x::r,h=>by
  rw[Zs,Zab,ZM];have:=Qhh (L:=r) λw hw=>h w (Zc _ hw);have:=h x ⋯;rw[Nat.mul_add];omega
def Qhs(l:List Nat):((wds l).map λw=>w.length+1).sum=l.length+1:=by rw[← Qrl (c:=32) (Qog l),QkV]
def QdX{l w:List Nat}(h:Low l)(hw:w∈wds l):Low w:=λc hc=>h c (by rw[← QkV l];exact Qrm hw hc)
def QdN{l w:List Nat}(hw:w∈wds l):w.length<=l.length:=by have:=Qrr hw;rw[Qhs]at this;omega
def Qlw(l:List Nat):(wds l).length<=l.length+1:=by have:=Qhh (k:=0) (L:=wds l) λ_ _=>ZQ _;rw[Qhs]at this;omega
def QpB{dw:Den}(h:QeW dw){l:List Nat}(hl:l.length<=600):dw [.str (tx l)]=slT (.lst ((wds l).map λw=> .str (tx w))):=by
 have hc:=Qlw l;have:=h (tx l) (by rw[Qam];omega) (by rw[Qhu,Zo];omega);rw[this,Qhu,ZF];rfl
def Quu{l:List Nat}(hl:l.length<=600):QiD (.str (tx l)) (.str " ")=some (.lst ((wds l).map λw=> .str (tx w))):=by
 have hc:=Qlw l;show(if(((Str.ofString " ").length == 0)=false/\(tx l).length<=16000000)/\(Txt.split (tx l) (Str.ofString " ")).length<=16000000 then some (D.lst ((Txt.split (tx l) (Str.ofString " ")).map .str))else none)=_;rw[QlW,if_pos ⟨⟨rfl,by rw[Qam];omega⟩,by rw[Qhu,Zo];omega⟩,Qhu,ZF];rfl
noncomputable def QhP(l:List Nat):Option (List Int):=if l=[]then some []else if(wds l).any Qbc=true then none else some ((wds l).map Qat)
def Qtr{w:List Nat}(h:Qbc w=false):1<=w.length:=by
 cases w with
 | nil=>cases h
 | cons c r=>simp
def QqX{l:List Nat}{ns:List Int}(h:QhP l=some ns)(hl:l.length<=125):tx l=Qd7 ns/\Small 18 ns:=by
 unfold QhP at h;split at h
 .rename_i e;cases h;subst e;exact⟨rfl,∅,λn hn=>by simp at hn⟩
 .split at h
  .cases h
  .rename_i hb;cases h;have hg:∀w∈wds l,Qbc w=false:=λw hw=>by
    have:=ZaD.mp (by simpa using hb) w hw;simpa using this
   refine⟨?_,?_,λn hn=>?_⟩
   .have e:=StrLaws.join_split (tx l) (tx [32]);rw[Qhu]at e;rw[← e];unfold Qd7;congr 1;rw[ZF];exact ZaJ λw hw=>(canon (hg w hw)).1
   .rw[Zo];have:=Qhh (k:=1) (L:=wds l) λw hw=>Qtr (hg w hw);rw[Qhs]at this;omega
   .obtain⟨w,hw,rfl⟩:=Zz.mp hn;exact(canon (hg w hw)).2
def Qpt{fi:DI}{t:Tg}{cap:List (Option Nat)}{ft:DT}{fe:DE}{fx:DX}:Ap (QB (Qau fi t cap ft fe)) (QhU fi t cap ft fe fx):=λρ h=>by
 unfold QhU at h;unfold QB Qau;cases e:fi ρ with
 | none=>rfl
 | some ir=>
  rw[e,Za]at h;rw[Za];have key:∀(ds:List D) (acc:List D×Bool),Qe7 t ft fe fx (QaU cap ρ) ds≠none->ds.foldlM (Qe3 t ft fe (QaU cap ρ)) acc=none:=by
   intro ds
   induction ds with
   | nil=>exact λacc h=>absurd rfl h
   | cons d ds ih=>
    intro acc h;rw[ZaZ];unfold Qe7 at h;unfold Qe3;cases e1:Qa1 t d (QaU cap ρ)with
    | none=>rfl
    | some ρ1=>
     rw[e1,Za]at h;rw[Za];cases e2:ft ρ1 with
     | none=>rfl
     | some c=>
      rw[e2,Za]at h;rw[Za];cases c with
      | false=>rw[if_neg ZK]at h ⊢;exact ih _ h
      | true=>
       rw[if_pos rfl]at h ⊢;cases e3:fe ρ1 with
       | none=>rfl
       | some r=>rw[e3]at h;exact ih _ h
  rw[key ir.items _ λz=>h (by rw[z];rfl)];rfl
def Qu2{α:Type}{fi:DI}{t:Tg}{cap:List (Option Nat)}{fe:DE}{fx:DX}{toD:α->D}{ρ:En}{ir:IR}{c:Str}(p:α->Bool)(xs:List α)(h:fi ρ=some ir)(hx:ir.items=xs.map toD)
  (go:∀x∈xs,p x=false->∃ρ1,Qa1 t (toD x) (QaU cap ρ)=some ρ1/\∃r,fe ρ1=some r) (at':∀x∈xs,p x=true->∃ρ1,Qa1 t (toD x) (QaU cap ρ)=some ρ1/\fe ρ1=none/\QaC fx ρ1 c) (ex:xs.any p=true):QaC (QhU fi t cap QaE fe fx) ρ c:=by
 unfold QaC QhU;rw[h,Za,hx];clear h hx;have key:Qe7 t QaE fe fx (QaU cap ρ) (xs.map toD)=some c:=by
  induction xs with
  | nil=>cases ex
  | cons x xs ih=>
   rw[Zs];unfold Qe7;cases hp:p x with
   | true=>
    obtain⟨ρ1,e1,e2,ρ2,e3⟩:=at' x ⋯ hp;rw[e1,Za]
    show(match fe ρ1 with
     | some _=>_
     | none=>(fx ρ1).map λq:Str×En=>q.1)=_
    rw[e2];show(fx ρ1).map (λq:Str×En=>q.1)=_;rw[e3];rfl
   | false=>
    obtain⟨ρ1,e1,r,e2⟩:=go x ⋯ hp;rw[e1,Za]
    show(match fe ρ1 with
     | some _=>Qe7 t QaE fe fx (QaU cap ρ) (xs.map toD)
     | none=>(fx ρ1).map λq:Str×En=>q.1)=_
    rw[e2];exact ih (λy hy=>go y (Zc _ hy)) (λy hy=>at' y (Zc _ hy)) (by rw[List.any_cons,hp,ZaA]at ex;exact ex)
 rw[key];exact⟨ρ,rfl⟩
noncomputable def Qen:DX:=(QC (sIf (Qcs (Qf (QcM "str" vv0))) (Qd Qp Qe) Qe) (xIf (Qcs (Qf (QcM "str" vv0))) (QC Qp (QaS "NoText" (Qa (dC (.str "this is no text")) Qb)) xNo) xNo) (QC (QB (dM1 QiD vv0 (Qa (dC (.str " ")) Qb))) xNo xNo))
def QsC:ApF (Qr 1 Qeg) (Q6 1 Qen):=Qec (by unfold Qeg Qen;repeat (first | exact Qad | exact QA | assumption | apply Q0 | apply Qar))
def QmX(xd:List D->Option Str):Prop:=∀d,(QcM "str" (Qc 0) [some (d,d.flat)])=some ⟨.bl false,true,[]⟩->xd [d]=some "NoText"
def QtQ:QmX (Q6 1 Qen):=λd hd=>by
 refine Qc1 ?_;exact QG (by repeat (first | exact Qad | exact QA | assumption | apply Q0 | apply Qar)) (Qca (b:=true) (Qdf (b:=false) (Qo (r:=reT (.bl false)) hd rfl)) (λ_=>QG QA (QaN rfl (Ze _))) (λh=>by cases h))
noncomputable def QfI(QI:Den)(Q7:Den)(x_read_number:List D->Option Str)(x_text_words:List D->Option Str):DX:=(QC (Qu 1 (Ql 1 Q7 [] (Qa vv0 Qb))) (QY 1 x_text_words (Qa vv0 Qb)) (QC (sIf (Qf (dOp gEq vv1 (Q4 (Qa (dC (.str "")) Qb)))) (Qd (QB (Q4 Qb)) Qe) Qe) (xIf (Qf (dOp gEq vv1 (Q4 (Qa (dC (.str "")) Qb)))) (QC (QB (Q4 Qb)) xNo xNo) xNo) (QC (QB (Qau (Q3 vv1) (.nm 1) [none,none] QaE (Ql 1 QI [] (Qa vv1 Qb)))) (QhU (Q3 vv1) (.nm 1) [none,none] QaE (Ql 1 QI [] (Qa vv1 Qb)) (QY 1 x_read_number (Qa vv1 Qb))) xNo)))
def QyA{dw dn:Den}{xw xn:List D->Option Str}(h1:ApF dw xw)(h2:ApF dn xn):ApF (Qr 2 (QfK dw dn)) (Q6 2 (QfI dn dw xn xw)):=Qec (by unfold QfK QfI;repeat (first | exact Qad | exact QA | exact Qpt | assumption | apply Q0 | apply Qar | apply Qai))
def QtD(xd:List D->Option Str):Prop:=(∀l,Low l->l.length<=600->QhP l=none->xd [.str (tx l)]=some "NoText")/\∀d,(QcM "str" (Qc 0) [some (d,d.flat)])=some ⟨.bl false,true,[]⟩->xd [d]=some "NoText"
def Qns:∀A B:List (List Nat),deq (.lst (A.map λw=> .str (tx w))) (.lst (B.map λw=> .str (tx w)))=(A == B)
 | [],[]=>rfl
 | [],_::_=>rfl
 | _::_,[]=>rfl
 | a::A,b::B=>by
  show((tx a == tx b) && deq (.lst (A.map λw=> .str (tx w))) (.lst (B.map λw=> .str (tx w))))=_;rw[Qns A B,Qfm];rfl
def Qpy{L:List (List Nat)}(h:∀w∈L,Low w):(D.lst (L.map λw=> .str (tx w))).sim 8=true:=by
 have:=QhE (ts:=L.map tx) λt ht c hc=>by
  obtain⟨w,hw,rfl⟩:=Zz.mp ht;exact h w hw c hc
 rw[ZF]at this;exact this
def Qjr(k:Nat)(d:D):∃r:RA,Qa (Qc 0) Qb (QP (k+1) [d])=some r/\r.ds=[d]:=by
 have e:∃r:R,Qc 0 (QP (k+1) [d])=some r/\r.d=d:=by
  show ∃r:R,(if d.flat=true then some ⟨d,true,[]⟩else if d.flat=true then some ⟨d,true,[0]⟩else some ⟨d,false,[]⟩)=some r/\r.d=d;split
  .exact⟨_,rfl,rfl⟩
  .exact⟨_,rfl,rfl⟩
 obtain⟨r,e1,e2⟩:=e;exact⟨_,Qx e1 (QZ _),by rw[← e2]⟩
def Qvl{dw dn:Den}{xw xn:List D->Option Str}(hw:QeW dw)(hn:QhM dn)(aw:ApF dw xw)(an:ApF dn xn)(hxw:QmX xw)(hxn:Qox xn):QtD (Q6 2 (QfI dn dw xn xw)):=by
 refine⟨λl hl hn6 hb=>?_,λd hd=>?_⟩
 case refine_2=>
  obtain⟨r,e1,e2⟩:=Qjr 1 d;exact Qc1 (QG (Qai aw) (QbK e1 (by rw[e2];rfl) (by rw[e2];exact hxw d hd)))
 have hne:l≠[]:=λz=>by subst z;cases hb
 have hany:(wds l).any Qbc=true:=by
  unfold QhP at hb;rw[if_neg hne]at hb;split at hb
  .assumption
  .cases hb
 refine Qc1 ?_;refine QT (Qz (Qq (r:=⟨[.str (tx l)],true,[]⟩) rfl (QpB hw hn6) rfl) ?_);change QaC _ [slT (.str (tx l)),slT (.lst ((wds l).map λw=> .str (tx w)))] _;have t1:Qf (dOp gEq (Qc 1) (Q4 (Qa (dC (.str "")) Qb))) [slT (.str (tx l)),slT (.lst ((wds l).map λw=> .str (tx w)))]=some false:=by
  refine Qo (QO (ra:=⟨.lst ((wds l).map λw=> .str (tx w)),true,[1]⟩) (rb:=reT (.lst ([[]].map λw=> .str (tx w)))) (d:= .bl false) rfl ?_ ?_) rfl
  .show some (HS.R.mk (.lst [.str (Str.ofString "")]) true [])=_;rw[Qlm];rfl
  .show(if(D.lst ((wds l).map λw=> .str (tx w))).sim 8 && (D.lst ([[]].map λw=> .str (tx w))).sim 8 then some (D.bl (deq (.lst ((wds l).map λw=> .str (tx w))) (.lst ([[]].map λw=> .str (tx w)))))else none)=_;rw[Qpy λw hw=>QdX hl hw,Qpy (L:=[[]]) λw hw=>by rw[Zi]at hw;rw[hw];exact QtT,Qns];rw[beq_eq_false_iff_ne.mpr λz=>hne (QwL.mp z)];rfl
 refine QT (Qs (b:=false) t1 (λh=>by cases h) (λ_=>Qn ?_));refine QG Qpt (Qu2 (toD:=λw=> .str (tx w)) Qbc (wds l) (Qaz (xs:=(wds l).map λw=> .str (tx w)) (r:=⟨.lst ((wds l).map λw=> .str (tx w)),true,[1]⟩) rfl rfl) rfl (λw hw hb=>?_) (λw hw hb=>?_) hany)
 .obtain⟨c1,c2⟩:=canon hb;refine⟨[none,slT (.str (tx w))],rfl,reI (Qat w),Qq (r:=⟨[.str (tx w)],true,[]⟩) rfl ?_ rfl⟩;rw[c1];exact hn _ c2
 .have hx:=hxn w (QdX hl hw) (by have:=QdN hw;omega) hb;have hx':QaC (QY 1 xn (Qa (Qc 1) Qb)) [none,slT (.str (tx w))] "NoText" :=QbK (r:=⟨[.str (tx w)],true,[]⟩) rfl rfl hx;refine⟨[none,slT (.str (tx w))],rfl,Qdr an ?_,hx'⟩;obtain⟨o,ho⟩:=hx';rw[ho];exact λz=>by cases z
noncomputable def QfA(Qci:Den):DS:=(Qd (sIf (Qf (dOp gEq vv0 (dC (.str "")))) (Qd (QB (Q4 Qb)) Qe) Qe) (Qd (Qu 1 (Qau (Q3 (dM1 QiD vv0 (Qa (dC (.str " ")) Qb))) (.nm 1) [none,none] QaE (Ql 1 Qci [] (Qa vv1 Qb)))) (Qd (sIf (Qf (dOp (gIn false) (dC .non) vv1)) (Qd (QB (dC .non)) Qe) Qe) (Qd (QB vv1) Qe))))
noncomputable def QAb:Option (List Int)->D
 | none=> .non
 | some ns=>QE ns
def Qn2(d:Den):Prop:=∀l,Low l->l.length<=600->d [.str (tx l)]=some (QAb (QhP l),true)
def QyR(L:List (List Nat)):gIn false .non (.lst (L.map λw=>Qev (QaT w)))=some (.bl (L.any Qbc)):=by
 have hs:(D.lst (L.map λw=>Qev (QaT w))).sim 8=true:=by
  show(L.map λw=>Qev (QaT w)).all (D.sim 7)=true;rw[ZC];intro d hd;obtain⟨w,_,rfl⟩:=Zz.mp hd;unfold QaT;split<;>rfl
 show(if D.non.sim 8 && (D.lst (L.map λw=>Qev (QaT w))).sim 8 then some (D.bl (((L.map λw=>Qev (QaT w))).any λy=>deq y .non))else none)=_;rw[hs,ZaS];show some (D.bl (L.any λw=>deq (Qev (QaT w)) .non))=_;congr 3;funext w;unfold QaT;cases Qbc w<;>rfl
def QvR{dn:Den}(hn:Qj8 dn):Qn2 (Qr 2 (QfA dn)):=λl hw hl=>by
 refine Q8 ?_;have t1:Qf (dOp gEq (Qc 0) (dC (.str ""))) (QP 2 [.str (tx l)])=some (l == []):=QkT (ra:=reT (.str (tx l))) (rb:=reT (.str "")) rfl rfl rfl (congrArg D.str Qlm) hw QtT;by_cases h0:l=[]
 .subst h0;exact Qj (Qs (b:=true) t1 (λ_=>Qj (Q5 (r:=reT (.lst [])) rfl ⟨rfl,rfl⟩)) (λh=>by cases h))
 .rw[beq_eq_false_iff_ne.mpr h0]at t1;refine Qj (Qs (b:=false) t1 (λh=>by cases h) (λ_=>Qn ?_));refine run_seq (Qz (QbN (toD:=λw=> .str (tx w)) (out:=λw=>Qev (QaT w)) (wds l) (Qaz (xs:=(wds l).map λw=> .str (tx w)) (r:=reT (.lst ((wds l).map λw=> .str (tx w)))) (Qgv (ra:=reT (.str (tx l))) (rb:=reT (.str " ")) rfl rfl (Quu hl)) rfl) rfl λw hw'=>⟨[none,slT (.str (tx w))],rfl,⟨Qev (QaT w),true,[]⟩,Qq (r:=⟨[.str (tx w)],true,[]⟩) rfl (hn w (QdX hw hw') (by have:=QdN hw';omega)) rfl,rfl,?_⟩) ?_)
  .unfold QaT;split<;>rfl
  rw[Qa5];change Nx _ (.nx [slT (.str (tx l)),slT (.lst ((wds l).map λw=>Qev (QaT w)))]);have t2:Qf (dOp (gIn false) (dC .non) (Qc 1)) [slT (.str (tx l)),slT (.lst ((wds l).map λw=>Qev (QaT w)))]=some ((wds l).any Qbc):=Qo (QO (ra:=⟨.non,true,[]⟩) (rb:=⟨.lst ((wds l).map λw=>Qev (QaT w)),true,[1]⟩) rfl rfl (QyR _)) rfl;unfold QhP;rw[if_neg h0];cases hb:(wds l).any Qbc with
  | true=>
   rw[hb]at t2;exact Qj (Qs (b:=true) t2 (λ_=>Qj (Q5 (r:=⟨.non,true,[]⟩) rfl ⟨rfl,rfl⟩)) (λh=>by cases h))
  | false=>
   rw[hb]at t2;have e:(wds l).map (λw=>Qev (QaT w))=((wds l).map Qat).map D.int:=by
    rw[ZF];refine ZaJ λw hw=>?_;have:=ZaD.mp hb w hw;show Qev (QaT w)=_;unfold QaT;rw[if_neg this];rfl
   rw[e]at t2 ⊢;refine Qj (Qs (b:=false) t2 (λh=>by cases h) (λ_=>Qn ?_));exact QR (r:=⟨QE ((wds l).map Qat),true,[1]⟩) rfl ⟨rfl,rfl⟩
def QvG{c:Nat}(h:QF c=false):Qbc [c]=true:=by
 by_cases hc:c=45
 .subst hc;rfl
 .unfold Qbc;rw[Qc3 hc];simp[h]
noncomputable def QdL(QI:Den)(x_read_number:List D->Option Str):DX:=(QC (sIf (Qf (dOp gNe (dBf Qaa (Qa vv0 Qb)) kk1)) (Qd Qp Qe) Qe) (xIf (Qf (dOp gNe (dBf Qaa (Qa vv0 Qb)) kk1)) (QC Qp (QaS "NoText" (Qa (dC (.str "a number in a net's text has one figure")) Qb)) xNo) xNo) (QC (QB (Ql 1 QI [] (Qa vv0 Qb))) (QY 1 x_read_number (Qa vv0 Qb)) xNo))
def Qx1{dn:Den}{xn:List D->Option Str}(h:ApF dn xn):ApF (Qr 1 (QdJ dn)) (Q6 1 (QdL dn xn)):=Qec (by unfold QdJ QdL;repeat (first | exact Qad | exact QA | assumption | apply Q0 | apply Qar | apply QaF))
def Qqt(xd:List D->Option Str):Prop:=∀l,Low l->l.length<=600->(∀c,l=[c]->QF c=false)->xd [.str (tx l)]=some "NoText"
def QwO{dn:Den}{xn:List D->Option Str}(an:ApF dn xn)(hx:Qox xn):Qqt (Q6 1 (QdL dn xn)):=λl hw hl hb=>by
 refine Qc1 ?_
 have t1:Qf (dOp gNe (dBf Qaa (Qa (Qc 0) Qb)) (dC (.int 1))) (QP 1 [.str (tx l)])=some (!decide ((l.length:Int)=1)):=
  Qo (QiO (a:=l.length) (b:=1) (QeS (l:=l) (r:=reT (.str (tx l))) rfl rfl ⋯) rfl rfl rfl) rfl
 by_cases h1:l.length=1
 .obtain⟨c,rfl⟩:∃c,l=[c]:=by
   match l,h1 with
   | [c],_=>exact⟨c,rfl⟩
  refine QT (Qs (b:=false) t1 (λh=>by cases h) (λ_=>Qn ?_));exact QG (QaF an) (QbK (r:=⟨[.str (tx [c])],true,[]⟩) rfl rfl (hx [c] hw ⋯ (QvG (hb c rfl))))
 .rw[decide_eq_false ⋯]at t1;exact QG (by repeat (first | exact Qad | exact QA | apply Q0 | apply Qar)) (Qca (b:=true) t1 (λ_=>QG QA (QaN rfl (Ze _))) (λh=>by cases h))
noncomputable def Qd1(QI:Den)(x_read_number:List D->Option Str):DX:=(QC (Qu 1 (Ql 1 QI [] (Qa vv0 Qb))) (QY 1 x_read_number (Qa vv0 Qb)) (QC (sIf (bOr (Qf (dOp gLt vv1 kk2)) (Qf (dOp gGt vv1 Qj7))) (Qd Qp Qe) Qe) (xIf (bOr (Qf (dOp gLt vv1 kk2)) (Qf (dOp gGt vv1 Qj7))) (QC Qp (QaS "NoText" (Qa (dC (.str "from 2 to 40 alike ways are told by one word")) Qb)) xNo) xNo) (QC (QB vv1) xNo xNo)))
def Qtp{dn:Den}{xn:List D->Option Str}(h:ApF dn xn):ApF (Qr 2 (Qd5 dn)) (Q6 2 (Qd1 dn xn)):=Qec (by unfold Qd5 Qd1;repeat (first | exact Qad | exact QA | assumption | apply Q0 | apply Qar | apply QaF | apply Qai))
def AlX(xd:List D->Option Str):Prop:=∀l,Low l->l.length<=600->(Qbc l=true∨Qat l<2∨40<Qat l)->xd [.str (tx l)]=some "NoText"
def Qxn{dn:Den}{xn:List D->Option Str}(hn:QhM dn)(an:ApF dn xn)(hx:Qox xn):AlX (Q6 2 (Qd1 dn xn)):=λl hw hl hb=>by
 refine Qc1 ?_;cases hg:Qbc l with
 | true=>exact QG (Qai an) (QbK (r:=⟨[.str (tx l)],true,[]⟩) rfl rfl (hx l hw ⋯ hg))
 | false=>
  obtain⟨c1,c2⟩:=canon hg;have hd:dn [.str (tx l)]=slI (Qat l):=by rw[c1];exact hn _ c2
  refine QT (Qz (Qq (r:=⟨[.str (tx l)],true,[]⟩) rfl hd rfl) ?_);change QaC _ [slT (.str (tx l)),slI (Qat l)] _;have t1:=Qab (a:=decide (Qat l<2)) (b:=decide ((40:Int)<Qat l)) (g1:=Qf (dOp gLt (Qc 1) (dC (.int 2)))) (g2:=Qf (dOp gGt (Qc 1) (dC (.int 40)))) (ρ:=[slT (.str (tx l)),slI (Qat l)]) (Qo (QO rfl rfl rfl) rfl) (Qo (QO rfl rfl rfl) rfl);have hv:(decide (Qat l<2) || decide ((40:Int)<Qat l))=true:=by
   rcases hb with z | z | z
   .rw[hg]at z;cases z
   .rw[decide_eq_true z];rfl
   .rw[decide_eq_true z,Bool.or_true]
  rw[hv]at t1;exact QG (by repeat (first | exact Qad | exact QA | apply Q0 | apply Qar)) (Qca (b:=true) t1 (λ_=>QG QA (QaN rfl (Ze _))) (λh=>by cases h))
noncomputable def QaB:List Nat->Option Wd
 | a::s::b::rest=>if(QF a && QF b && (s == 45 || s == 62))=true then(match rest with
  | []=>some ⟨a-48,b-48,s == 62,1,false⟩
  | c::r=>if(c == 42 && !Qcu r 2 && decide (2<=digitsVal r) && decide (digitsVal r<=40))=true then some ⟨a-48,b-48,s == 62,digitsVal r,true⟩else none)else none
 | _=>none
def Qgf{c:Nat}:QF c=true↔48<=c/\c<=57:=by simp[QF]
def Qpo{r:List Nat}{k:Int}(h:Qcu r k=false):r.all QF=true/\r≠[]/\(r.head? ≠some 48∨r=[48])/\(r.length:Int)<=k:=by
 unfold Qcu at h;simp only[Zat,decide_eq_false_iff_not]at h;obtain⟨⟨h1,h2,h3⟩,h4⟩:=h;refine⟨Qtm h4,by simpa using h1,?_,⋯⟩;by_cases z:r.head? =some 48
 .rw[z]at h3;exact .inr (by simpa using h3)
 .exact .inl z
def Qmq{w:List Nat}{x:Wd}(h:QaB w=some x):x.Ok/\w=x.l:=by
 unfold QaB at h;split at h
 case h_2=>cases h
 rename_i a s b rest;split at h
 case isFalse=>cases h
 rename_i hc;simp only[Zf,ZaM,beq_iff_eq,Qgf]at hc;obtain⟨⟨ha,hb⟩,hs⟩:=hc;have e1:48+(a-48)=a:= ⋯
 have e2:48+(b-48)=b:= ⋯
 have e3:(if(s == 62)=true then 62 else 45)=s:=by rcases hs with rfl | rfl<;>rfl
 split at h
 .cases h;exact⟨⟨by show a-48<10;omega,by show b-48<10;omega,rfl⟩,by
   show [a,s,b]=[48+(a-48),(if(s == 62)=true then 62 else 45),48+(b-48)]++[];rw[e1,e2,e3];rfl⟩
 .rename_i c r;split at h
  .rename_i hr;simp only[Zf,decide_eq_true_eq,beq_iff_eq,ZT]at hr;obtain⟨⟨⟨rfl,hr1⟩,hr2⟩,hr3⟩:=hr;cases h;obtain⟨l1,l2,l3,_⟩:=Qpo hr1;obtain⟨d1,_,_⟩:=QiQ r l1 l2 l3;exact⟨⟨by show a-48<10;omega,by show b-48<10;omega,⟨hr2,hr3⟩⟩,by
    show a::s::b::42::r=[48+(a-48),(if(s == 62)=true then 62 else 45),48+(b-48)]++42::dig (digitsVal r);rw[e1,e2,e3,d1];rfl⟩
  .cases h
def Qvs{b:List Nat}(h:Qbc b=false)(h2:2<=Qat b)(h40:Qat b<=40):Qcu b 2=false/\((digitsVal b:Nat):Int)=Qat b:=by
 have hh:b.head? ≠some 45:=λz=>by
  unfold Qat at h2;rw[if_pos z]at h2;omega
 have hv:=Qkl hh;have h18:=Qps hh;rw[h]at h18;obtain⟨l1,l2,l3,_⟩:=Qpo h18;obtain⟨d1,_,_⟩:=QiQ b l1 l2 l3;have hl:b.length<=2:=by
  rw[← d1];exact Qjq ∅ ⋯
 refine⟨?_,hv.symm⟩;unfold Qcu at h18 ⊢;simp only[Zat,decide_eq_false_iff_not]at h18 ⊢;exact⟨⟨h18.1.1,⋯,h18.1.2.2⟩,h18.2⟩
def Qne{c:Nat}:∀{w:List Nat},c∈w->∃p b,w=p++c::b/\c∉p
 | [],h=>by simp at h
 | d::r,h=>by
  by_cases hc:d=c
  .exact⟨[],r,by rw[hc];rfl,⋯⟩
  .obtain⟨p,b,e,hp⟩:=Qne (w:=r) (by
    rcases Zn.mp h with z | z
    .exact absurd z.symm hc
    .exact z)
   exact⟨d::p,b,by rw[e];rfl,λz=>(by
    rcases Zn.mp z with z | z
    .exact hc z.symm
    .exact hp z)⟩
def QtI(w:List Nat):∃(p b:List Nat) (star:Bool),Txt.partition (tx w) (tx [42])=(tx p,(if star=true then tx [42]else tx []),tx b)/\w=p++(if star=true then 42::b else [])/\42∉p:=by
 by_cases h:42∈w
 .obtain⟨p,b,e,hp⟩:=Qne h;refine⟨p,b,true,?_,by rw[e];rfl,hp⟩;rw[e];exact Qpg hp
 .exact⟨w,[],false,Qo9 h,⋯,h⟩
def QwP{c:Nat}(h:c<200):gIn true (.str (tx [c])) (.tup [.str (tx [45]),.str (tx [62])])=some (.bl (!(c == 45 || c == 62))):=by
 have s:∀c n,c<200->(D.str (tx [c])).sim n=true:=λc n h=>Qd3 (Qqm h);have st:(D.tup [.str (tx [45]),.str (tx [62])]).sim 8=true:=by
  show [D.str (tx [45]),.str (tx [62])].all (D.sim 7)=true;simp only[Zbc,Zbj,s 45 7 ∅,s 62 7 ∅,ZaK]
 show(if(D.str (tx [c])).sim 8 && (D.tup [.str (tx [45]),.str (tx [62])]).sim 8 then some (D.bl (!([D.str (tx [45]),.str (tx [62])].any λy=>deq y (.str (tx [c])))))else none)=_;rw[s c 8 h,st];show some (D.bl (!((tx [45] == tx [c]) || ((tx [62] == tx [c]) || false))))=_;rw[Qfm,Qfm,ZbA];congr 3;rw[Zas];simp;constructor<;>rintro(z | z)<;>simp[z]
def QqR{i:Nat}{g:DT}{n:Nat}{d:Den}{xd:List D->Option Str}{fs:DA}{fb:DE}(a:ApF d xd):Ap (Qu i (dIf g (Ql n d [] fs) fb)) (xIf g (QY n xd fs) xNo):=λρ h=>by
 unfold xIf at h;unfold Qu dIf;cases e:g ρ with
 | none=>rfl
 | some v=>
  rw[e,Za]at h;rw[Za];cases v with
  | true=>rw[if_pos rfl]at h ⊢;rw[Qdr a h];rfl
  | false=>rw[if_neg ZK]at h;exact absurd rfl h
def Qsc{n m:Nat}{d:Den}{xd:List D->Option Str}{fs gs:DA}{fb:DE}(a:ApF d xd):Ap (QB (QaD (Q4 (Qa (Qaj (Qa (Ql n d [] fs) (Qa (Ql m d [] gs) Qb))) Qb)) fb)) (xOr (QY n xd fs) (QeU (Ql n d [] fs) (xOr (QY m xd gs) (QeU (Ql m d [] gs) xNo)))):=λρ h=>by
 have key:Qa (Ql n d [] fs) (Qa (Ql m d [] gs) Qb) ρ=none:=by
  unfold Qa;cases e1:QY n xd fs ρ with
  | some q=>rw[Qdr a (by rw[e1];exact λz=>by cases z)];rfl
  | none=>
   cases e2:Ql n d [] fs ρ with
   | none=>rfl
   | some r=>
    have h2:QY m xd gs ρ≠none:=λz=>h (by
     unfold xOr;rw[e1];show QeU (Ql n d [] fs) (xOr (QY m xd gs) (QeU (Ql m d [] gs) xNo)) ρ=none;unfold QeU xOr;rw[e2,Za,z];show(Ql m d [] gs ρ).bind (λ_=>xNo ρ)=none;cases Ql m d [] gs ρ<;>rfl)
    rw[Qdr a h2];rfl
 unfold QB QaD Q4;have:Qa (Qaj (Qa (Ql n d [] fs) (Qa (Ql m d [] gs) Qb))) Qb ρ=none:=by
  show((Qa (Ql n d [] fs) (Qa (Ql m d [] gs) Qb) ρ).bind _).bind _=none;rw[key];rfl
 rw[this];rfl
def Qr2{f g:DX}{ρ:En}{x:Str}(h:QaC f ρ x):QaC (xOr f g) ρ x:=by
 obtain⟨o,e⟩:=h;exact⟨o,by unfold xOr;rw[e]⟩
def QyH{f g:DX}{ρ:En}{x:Str}(h0:f ρ=none)(h:QaC g ρ x):QaC (xOr f g) ρ x:=by
 obtain⟨o,e⟩:=h;exact⟨o,by unfold xOr;rw[h0];exact e⟩
def Qxa{f:DE}{g:DX}{ρ:En}{x:Str}{r:R}(h0:f ρ=some r)(h:QaC g ρ x):QaC (QeU f g) ρ x:=by
 obtain⟨o,e⟩:=h;exact⟨o,by unfold QeU;rw[h0];exact e⟩
noncomputable def Qe9(QM:Den)(QaI:Den)(x_read_figure:List D->Option Str)(x_read_alike:List D->Option Str):DX:=(QC (Qu 1 (dM1 Qk9 vv0 (Qa (dC (.str "*")) Qb))) xNo (QC (Qu 2 (Qef (Qm vv1 kk0))) xNo (QC (sIf (bOr (Qf (dOp gNe (dBf Qaa (Qa vv2 Qb)) kk3)) (Qf (dOp (gIn true) (Qm vv2 kk1) (Qaj (Qa (dC (.str "-")) (Qa (dC (.str ">")) Qb)))))) (Qd Qp Qe) Qe) (xIf (bOr (Qf (dOp gNe (dBf Qaa (Qa vv2 Qb)) kk3)) (Qf (dOp (gIn true) (Qm vv2 kk1) (Qaj (Qa (dC (.str "-")) (Qa (dC (.str ">")) Qb)))))) (QC Qp (QaS "NoText" (Qa (dC (.str "a way is told by a figure, - or > and another figure")) Qb)) xNo) xNo) (QC (Qu 3 (dIf (Qf (Qm vv1 kk1)) (Ql 1 QaI [] (Qa (Qm vv1 kk2) Qb)) kk1)) (xIf (Qf (Qm vv1 kk1)) (QY 1 x_read_alike (Qa (Qm vv1 kk2) Qb)) xNo) (QC (QB (QaD (Q4 (Qa (Qaj (Qa (Ql 1 QM [] (Qa (Qm vv2 kk0) Qb)) (Qa (Ql 1 QM [] (Qa (Qm vv2 kk2) Qb)) Qb))) Qb)) vv3)) (xOr (QY 1 x_read_figure (Qa (Qm vv2 kk0) Qb)) (QeU (Ql 1 QM [] (Qa (Qm vv2 kk0) Qb)) (xOr (QY 1 x_read_figure (Qa (Qm vv2 kk2) Qb)) (QeU (Ql 1 QM [] (Qa (Qm vv2 kk2) Qb)) xNo)))) xNo)))))
def QuT{da df:Den}{xa xf:List D->Option Str}(h1:ApF da xa)(h2:ApF df xf):ApF (Qr 4 (Qe4 da df)) (Q6 4 (Qe9 df da xf xa)):=Qec (by unfold Qe4 Qe9;repeat (first | exact Qad | exact QA | assumption | exact QqR h1 | exact Qsc h2 | apply Q0 | apply Qar))
def Quj(xd:List D->Option Str):Prop:=∀w,Low w->w.length<=600->QaB w=none->xd [.str (tx w)]=some "NoText"
def QwS{da df:Den}{xa xf:List D->Option Str}(ha:QhO da)(hf:Qje df)(aa:ApF da xa)(af:ApF df xf)(hxa:AlX xa)(hxf:Qqt xf):Quj (Q6 4 (Qe9 df da xf xa)):=λw hw hl hN=>by
 obtain⟨p,b,star,ep,ew,hp⟩:=QtI w;have hwp:Low p:=λc hc=>hw c (by rw[ew];exact Zk _ hc);have hlp:p.length<=600:=by have:=congrArg List.length ew;rw[Zd]at this;omega
 refine Qc1 ?_;generalize hq:(if star=true then tx [42]else tx [])=q at ep;refine QT (Qz (r:=reT (.tup [.str (tx p),.str q,.str (tx b)])) (Qgv (ra:=reT (.str (tx w))) (rb:=reT (.str "*")) rfl rfl ?_) ?_)
 .show(if((Str.ofString "*").length == 0)=false/\(tx w).length<=sizeLine then some (D.tup [.str (Txt.partition (tx w) (Str.ofString "*")).1,.str (Txt.partition (tx w) (Str.ofString "*")).2.1,.str (Txt.partition (tx w) (Str.ofString "*")).2.2])else none)=_;rw[Qks,if_pos ⟨rfl,by rw[QaA,Qam];omega⟩,ep]
 change QaC _ [slT (.str (tx w)),slT (.tup [.str (tx p),.str q,.str (tx b)]),none,none] _;refine QT (Qz (r:=reF (.str (tx p))) rfl ?_);change QaC _ [slT (.str (tx w)),slT (.tup [.str (tx p),.str q,.str (tx b)]),slT (.str (tx p)),none] _
 have t1:Qf (dOp gNe (dBf Qaa (Qa (Qc 2) Qb)) (dC (.int 3))) [slT (.str (tx w)),slT (.tup [.str (tx p),.str q,.str (tx b)]),slT (.str (tx p)),none]=some (!decide ((p.length:Int)=3)):=
  Qo (QiO (a:=p.length) (b:=3) (QeS (l:=p) (r:=reT (.str (tx p))) rfl rfl ⋯) rfl rfl rfl) rfl
 by_cases h3:p.length=3
 case neg=>
  rw[decide_eq_false ⋯]at t1;exact QG (by repeat (first | exact Qad | exact QA | apply Q0 | apply Qar)) (Qca (b:=true) (QeN t1) (λ_=>QG QA (QaN rfl (Ze _))) (λh=>by cases h))
 obtain⟨x,y,z,rfl⟩:∃x y z,p=[x,y,z]:=by
  match p,h3 with
  | [x,y,z],_=>exact⟨x,y,z,rfl⟩
 have hx:x<200:=hwp x ⋯;have hy:y<200:=hwp y ⋯;have hz:z<200:=hwp z ⋯;have t2:Qf (dOp (gIn true) (Qm (Qc 2) (dC (.int 1))) (Qaj (Qa (dC (.str "-")) (Qa (dC (.str ">")) Qb)))) [slT (.str (tx w)),slT (.tup [.str (tx [x,y,z]),.str q,.str (tx b)]),slT (.str (tx [x,y,z])),none]=some (!(y == 45 || y == 62)):=by
  refine Qo (QO (ra:=reT (.str (tx [y]))) (rb:=reT (.tup [.str (tx [45]),.str (tx [62])])) (QbX (l:=[x,y,z]) (i:=1) (ra:=reT (.str (tx [x,y,z]))) (rb:=reI 1) rfl rfl rfl rfl rfl ∅) ?_ (QwP hy)) rfl;show some (HS.R.mk (.tup [.str (Str.ofString "-"),.str (Str.ofString ">")]) true [])=_;rw[QkS,Qir]
 have t:=Qab t1 t2;rw[show(!decide ((([x,y,z]:List Nat).length:Int)=3))=false from rfl,ZaA]at t;cases hyy:(y == 45 || y == 62)with
 | false=>
  rw[hyy]at t;exact QG (by repeat (first | exact Qad | exact QA | apply Q0 | apply Qar)) (Qca (b:=true) t (λ_=>QG QA (QaN rfl (Ze _))) (λh=>by cases h))
 | true=>
  rw[hyy]at t;refine QT (Qs (b:=false) t (λh=>by cases h) (λ_=>Qn ?_));have last:∀k:Int,(QF x && QF z)=false->QaC (QC (QB (QaD (Q4 (Qa (Qaj (Qa (Ql 1 df [] (Qa (Qm (Qc 2) (dC (.int 0))) Qb)) (Qa (Ql 1 df [] (Qa (Qm (Qc 2) (dC (.int 2))) Qb)) Qb))) Qb)) (Qc 3))) (xOr (QY 1 xf (Qa (Qm (Qc 2) (dC (.int 0))) Qb)) (QeU (Ql 1 df [] (Qa (Qm (Qc 2) (dC (.int 0))) Qb)) (xOr (QY 1 xf (Qa (Qm (Qc 2) (dC (.int 2))) Qb)) (QeU (Ql 1 df [] (Qa (Qm (Qc 2) (dC (.int 2))) Qb)) xNo)))) xNo) [slT (.str (tx w)),slT (.tup [.str (tx [x,y,z]),.str q,.str (tx b)]),slT (.str (tx [x,y,z])),slI k] "NoText" :=λk hk=>by
   have a0:Qa (Qm (Qc 2) (dC (.int 0))) Qb [slT (.str (tx w)),slT (.tup [.str (tx [x,y,z]),.str q,.str (tx b)]),slT (.str (tx [x,y,z])),slI k]=some ⟨[.str (tx [x])],true,[]⟩:=Qx (QbX (l:=[x,y,z]) (i:=0) (ra:=reT (.str (tx [x,y,z]))) (rb:=reI 0) rfl rfl rfl rfl rfl ∅) (QZ _);have a2:Qa (Qm (Qc 2) (dC (.int 2))) Qb [slT (.str (tx w)),slT (.tup [.str (tx [x,y,z]),.str q,.str (tx b)]),slT (.str (tx [x,y,z])),slI k]=some ⟨[.str (tx [z])],true,[]⟩:=Qx (QbX (l:=[x,y,z]) (i:=2) (ra:=reT (.str (tx [x,y,z]))) (rb:=reI 2) rfl rfl rfl rfl rfl ∅) (QZ _);refine QG (Qsc af) ?_;cases hfx:QF x with
   | false=>exact Qr2 (QbK a0 rfl (hxf [x] (Qeh hx) ⋯ λc e=>by cases e;exact hfx))
   | true=>
    have hx':=Qgf.mp hfx;have ed:df [.str (tx [x])]=slI (x-48:Nat):=by
     have:=hf (x-48) ⋯;rwa[show 48+(x-48)=x by omega]at this
    have e0:Ql 1 df [] (Qa (Qm (Qc 2) (dC (.int 0))) Qb) [slT (.str (tx w)),slT (.tup [.str (tx [x,y,z]),.str q,.str (tx b)]),slT (.str (tx [x,y,z])),slI k]=some (reI (x-48:Nat)):=Qq a0 ed rfl;refine QyH ?_ (Qxa e0 (Qr2 (QbK a2 rfl (hxf [z] (Qeh hz) ⋯ λc e=>by cases e;rw[hfx,Zbq]at hk;exact hk))));cases ex:QY 1 xf (Qa (Qm (Qc 2) (dC (.int 0))) Qb) [slT (.str (tx w)),slT (.tup [.str (tx [x,y,z]),.str q,.str (tx b)]),slT (.str (tx [x,y,z])),slI k]with
    | none=>rfl
    | some v=>
     have:=Qdr af (n:=1) (fs:=Qa (Qm (Qc 2) (dC (.int 0))) Qb) (ρ:=[slT (.str (tx w)),slT (.tup [.str (tx [x,y,z]),.str q,.str (tx b)]),slT (.str (tx [x,y,z])),slI k]) (by rw[ex];exact λz=>by cases z);rw[this]at e0;cases e0
  cases star with
  | false=>
   have ew':w=[x,y,z]:=by rw[ew];rfl
   have hq':q=tx []:=hq.symm;subst hq';refine QT (Qz (r:=reI 1) rfl ?_);refine last 1 ?_;rw[ew']at hN;change(if(QF x && QF z && (y == 45 || y == 62))=true then some (Wd.mk (x-48) (z-48) (y == 62) 1 false)else none)=none at hN;rw[hyy,Zbp]at hN;cases hfg:(QF x && QF z)with
   | false=>rfl
   | true=>rw[hfg,if_pos rfl]at hN;cases hN
  | true=>
   have ew':w=x::y::z::42::b:=ew;have hq':q=tx [42]:=hq.symm;subst hq';have hwb:Low b:=λc hc=>hw c (by rw[ew'];simp[hc]);have hlb:b.length<=600:=by rw[ew']at hl;simp at hl;omega
   have tt:Qf (Qm (Qc 1) (dC (.int 1))) [slT (.str (tx w)),slT (.tup [.str (tx [x,y,z]),.str (tx [42]),.str (tx b)]),slT (.str (tx [x,y,z])),none]=some true:=rfl;by_cases hb:Qbc b=true∨Qat b<2∨40<Qat b
   .exact QG (QqR aa) (Qca (b:=true) tt (λ_=>QbK (r:=⟨[.str (tx b)],true,[]⟩) rfl rfl (hxa b hwb hlb hb)) (λh=>by cases h))
   .have hb1:Qbc b=false:=by
     cases z:Qbc b with
     | false=>rfl
     | true=>exact absurd (.inl z) hb
    have hb2:2<=Qat b:=by
     rcases Int.lt_or_le (Qat b) 2 with z | z
     .exact absurd (.inr (.inl z)) hb
     .exact z
    have hb3:Qat b<=40:=by
     rcases Int.lt_or_le 40 (Qat b)with z | z
     .exact absurd (.inr (.inr z)) hb
     .exact z
    obtain⟨g1,g2⟩:=Qvs hb1 hb2 hb3;have ed:da [.str (tx b)]=slI (digitsVal b:Nat):=by
     obtain⟨c1,_⟩:=canon hb1;rw[c1,← g2,Qj6];exact ha _ ⋯ ⋯
    have e3:dIf (Qf (Qm (Qc 1) (dC (.int 1)))) (Ql 1 da [] (Qa (Qm (Qc 1) (dC (.int 2))) Qb)) (dC (.int 1)) [slT (.str (tx w)),slT (.tup [.str (tx [x,y,z]),.str (tx [42]),.str (tx b)]),slT (.str (tx [x,y,z])),none]=some (reI (digitsVal b:Nat)):=by
     unfold dIf;rw[tt,Za,if_pos rfl];exact Qq (r:=⟨[.str (tx b)],true,[]⟩) rfl ed rfl
    refine QT (Qz e3 ?_);refine last (digitsVal b:Nat) ?_;rw[ew']at hN;change(if(QF x && QF z && (y == 45 || y == 62))=true then(if(42 == 42 && !Qcu b 2 && decide (2<=digitsVal b) && decide (digitsVal b<=40))=true then some (Wd.mk (x-48) (z-48) (y == 62) (digitsVal b) true)else none)else none)=none at hN;rw[hyy,Zbp,g1,decide_eq_true (show 2<=digitsVal b by omega),decide_eq_true (show digitsVal b<=40 by omega)]at hN;cases hfg:(QF x && QF z)with
    | false=>rfl
    | true=>rw[hfg,if_pos rfl]at hN;cases hN
noncomputable def QbR:Option Wd->D
 | none=> .non
 | some x=> .tup [.int x.a,.int x.b,.bl x.lane,.int x.k]
def QpI:Str.ofString "->" =tx [45,62]:= ∅
def Qub(c:Nat):gIn true (.str (tx [c])) (.str "->")=some (.bl (!(c == 45 || c == 62))):=by
 have f:=StrLaws.found_one (Str.ofString "->") c;have e:decide (c∈(tx [45,62]).cps.toList)=(c == 45 || c == 62):=by
  show decide (c∈[45,62])=_;rw[Zas];simp
 have g:(!(Builtin.Str.occurrences (Str.ofString "->") ⟨#[c]⟩ 0 (Str.ofString "->").length 1).isEmpty)=(c == 45 || c == 62):=by
  rw[f,QpI,e]
 show some (D.bl (!(!(Builtin.Str.occurrences (Str.ofString "->") ⟨#[c]⟩ 0 (Str.ofString "->").length 1).isEmpty)))=_;rw[g]
noncomputable def Qfz(Qaw:Den):DS:=(Qd (sIf (bOr (Qf (dOp gLt (dBf Qaa (Qa vv0 Qb)) kk3)) (bOr (Qf (dOp (gIn true) (Qm vv0 kk0) (dC (.str "0123456789")))) (Qf (dOp (gIn true) (Qm vv0 kk2) (dC (.str "0123456789")))))) (Qd (QB (dC .non)) Qe) Qe) (Qd (sIf (Qf (dOp (gIn true) (Qm vv0 kk1) (dC (.str "->")))) (Qd (QB (dC .non)) Qe) Qe) (Qd (Qu 1 kk1) (Qd (sIf (Qf (dOp gGt (dBf Qaa (Qa vv0 Qb)) kk3)) (Qd (Qu 1 (Ql 2 Qaw [] (Qa (QU vv0 (QD kk4) QX) (Qa kk2 Qb)))) (Qd (sIf (bOr (Qf (dOp gNe (Qm vv0 kk3) (dC (.str "*")))) (bOr (Qf (dOp (Qcp false) vv1 (dC .non))) (bOr (Qf (dOp gLt vv1 kk2)) (Qf (dOp gGt vv1 Qj7))))) (Qd (QB (dC .non)) Qe) Qe) Qe)) Qe) (Qd (QB (Qaj (Qa (dBf Qde (Qa (Qm vv0 kk0) Qb)) (Qa (dBf Qde (Qa (Qm vv0 kk2) Qb)) (Qa (dOp gEq (Qm vv0 kk1) (dC (.str ">"))) (Qa vv1 Qb)))))) Qe)))))
def QoH(d:Den):Prop:=∀w,Low w->w.length<=600->d [.str (tx w)]=some (QbR (QaB w),true)
def dv1(a:Nat):digitsVal [a]=a-48:=by show 0*10+(a-48)=_;omega
def Qwx{dn:Den}(hn:QkP dn):QoH (Qr 2 (Qfz dn)):=λw hw hl=>by
 refine Q8 ?_
 have t1:Qf (dOp gLt (dBf Qaa (Qa (Qc 0) Qb)) (dC (.int 3))) (QP 2 [.str (tx w)])=some (decide ((w.length:Int)<3)):=
  Qo (QO (ra:=reI w.length) (rb:=reI 3) (QeS (l:=w) (r:=reT (.str (tx w))) rfl rfl ⋯) rfl rfl) rfl
 by_cases h3:w.length<3
 .rw[decide_eq_true ⋯]at t1;have hN:QaB w=none:=by
   match w,h3 with
   | [],_=>rfl
   | [_],_=>rfl
   | [_,_],_=>rfl
  rw[hN];exact Qj (Qs (b:=true) (QeN t1) (λ_=>Qj (Q5 (r:=⟨.non,true,[]⟩) rfl ⟨rfl,rfl⟩)) (λh=>by cases h))
 obtain⟨a,s,b,rest,rfl⟩:∃a s b rest,w=a::s::b::rest:=by
  match w,h3 with
  | [],h=>exact absurd ∅ h
  | [_],h=>exact absurd ⋯ h
  | [_,_],h=>exact absurd ⋯ h
  | a::s::b::rest,_=>exact⟨a,s,b,rest,rfl⟩
 rw[decide_eq_false ⋯]at t1;have ha:a<200:=hw a ⋯;have hs:s<200:=hw s ⋯;have hb:b<200:=hw b ⋯;have sg:∀(ρ:En) (i:Nat) (c:Nat),ρ[0]? =some (slT (.str (tx (a::s::b::rest))))->(a::s::b::rest)[i]? =some c->i<=1000->Qm (Qc 0) (dC (.int i)) ρ=some (reT (.str (tx [c]))):=λρ i c h0 h h2=>
  QbX (l:=a::s::b::rest) (i:=i) (ra:=reT (.str (tx (a::s::b::rest)))) (rb:=reI i) (by unfold Qc;rw[h0];rfl) rfl rfl rfl h h2
 have t2:∀i c:Nat,(a::s::b::rest)[i]? =some c->i<=1000->Qf (dOp (gIn true) (Qm (Qc 0) (dC (.int i))) (dC (.str "0123456789"))) (QP 2 [.str (tx (a::s::b::rest))])=some (!QF c):=λi c h h2=>
  Qo (QO (ra:=reT (.str (tx [c]))) (rb:=reT (.str "0123456789")) (d:= .bl (!QF c)) (sg _ i c rfl h h2) rfl (by rw[Qf0];cases QF c<;>rfl)) rfl
 have t:=Qab t1 (Qab (t2 0 a rfl ∅) (t2 2 b rfl ∅));rw[ZaA]at t;have ret:∀k:Nat,QF a=true->QF b=true->Qaj (Qa (dBf Qde (Qa (Qm (Qc 0) (dC (.int 0))) Qb)) (Qa (dBf Qde (Qa (Qm (Qc 0) (dC (.int 2))) Qb)) (Qa (dOp gEq (Qm (Qc 0) (dC (.int 1))) (dC (.str ">"))) (Qa (Qc 1) Qb)))) [slT (.str (tx (a::s::b::rest))),slI k]=some (reT (.tup [.int (a-48:Nat),.int (b-48:Nat),.bl (s == 62),.int k])):=λk fa fb=>by
  have i1:=Qju (l:=[a]) (sg [slT (.str (tx (a::s::b::rest))),slI k] 0 a rfl rfl ∅) rfl (by simp[fa]) ⋯ ⋯;have i2:=Qju (l:=[b]) (sg [slT (.str (tx (a::s::b::rest))),slI k] 2 b rfl rfl ∅) rfl (by simp[fb]) ⋯ ⋯;have i3:dOp gEq (Qm (Qc 0) (dC (.int 1))) (dC (.str ">")) [slT (.str (tx (a::s::b::rest))),slI k]=some (reT (.bl (s == 62))):=by
   have:=QiH (fb:=dC (.str ">")) (x:=tx [s]) (y:=tx [62]) (rb:=reT (.str ">")) (sg [slT (.str (tx (a::s::b::rest))),slI k] 1 s rfl rfl ∅) rfl rfl (congrArg D.str Qir) (Qqm hs) (Qqm ∅);have e1:dOp gEq (Qm (Qc 0) (dC (.int 1))) (dC (.str ">")) [slT (.str (tx (a::s::b::rest))),slI k]=some (reT (.bl (tx [s] == tx [62]))):=this;rw[e1,Qfm];congr 3;rw[Zas];simp
  rw[dv1]at i1 i2;exact QfR (Qx i1 (Qx i2 (Qx i3 (Qx (r:=reI k) rfl (QZ _))))) (show 4<=64 by decide)
 cases hf:(QF a && QF b)with
 | false=>
  have hv:(!QF a || !QF b)=true:=by rw[← Bool.not_and,hf];rfl
  rw[hv]at t;have hN:QaB (a::s::b::rest)=none:=by
   show(if(QF a && QF b && (s == 45 || s == 62))=true then _ else none)=none;rw[hf,Zam,if_neg ∅]
  rw[hN];exact Qj (Qs (b:=true) t (λ_=>Qj (Q5 (r:=⟨.non,true,[]⟩) rfl ⟨rfl,rfl⟩)) (λh=>by cases h))
 | true=>
  have hv:(!QF a || !QF b)=false:=by rw[← Bool.not_and,hf];rfl
  rw[hv]at t;have hf':=hf;rw[Zf]at hf';refine Qj (Qs (b:=false) t (λh=>by cases h) (λ_=>Qn ?_))
  have t4:Qf (dOp (gIn true) (Qm (Qc 0) (dC (.int 1))) (dC (.str "->"))) (QP 2 [.str (tx (a::s::b::rest))])=some (!(s == 45 || s == 62)):=
   Qo (QO (ra:=reT (.str (tx [s]))) (rb:=reT (.str "->")) (sg _ 1 s rfl rfl ∅) rfl (Qub s)) rfl
  cases hss:(s == 45 || s == 62)with
  | false=>
   rw[hss]at t4;have hN:QaB (a::s::b::rest)=none:=by
    show(if(QF a && QF b && (s == 45 || s == 62))=true then _ else none)=none;rw[hss,ZaU,if_neg ∅]
   rw[hN];exact Qj (Qs (b:=true) t4 (λ_=>Qj (Q5 (r:=⟨.non,true,[]⟩) rfl ⟨rfl,rfl⟩)) (λh=>by cases h))
  | true=>
   rw[hss]at t4;refine Qj (Qs (b:=false) t4 (λh=>by cases h) (λ_=>Qn ?_));refine run_seq (Qz (r:=reI 1) rfl ?_);change Nx _ (.nx [slT (.str (tx (a::s::b::rest))),slI 1])
   have t5:Qf (dOp gGt (dBf Qaa (Qa (Qc 0) Qb)) (dC (.int 3))) [slT (.str (tx (a::s::b::rest))),slI 1]=some (decide ((3:Int)<((a::s::b::rest).length:Nat))):=
    Qo (QO (ra:=reT (.int (a::s::b::rest).length)) (rb:=reI 3) (QeS (l:=a::s::b::rest) (r:=reT (.str (tx (a::s::b::rest)))) rfl rfl ⋯) rfl rfl) rfl
   cases rest with
   | nil=>
    have hN:QaB [a,s,b]=some ⟨a-48,b-48,s == 62,1,false⟩:=by
     show(if(QF a && QF b && (s == 45 || s == 62))=true then _ else none)=_;rw[hf,hss,ZaK,if_pos rfl]
    rw[hN];refine run_seq (Qs (b:=false) t5 (λh=>by cases h) (λ_=>Qn ?_));exact QR (ret 1 hf'.1 hf'.2) ⟨rfl,rfl⟩
   | cons c r=>
    have hc:c<200:=hw c ⋯;have hwr:Low r:=λd hd=>hw d (by simp[hd]);have hlr:r.length<=600:=by simp at hl;omega
    have hN:QaB (a::s::b::c::r)=if(c == 42 && !Qcu r 2 && decide (2<=digitsVal r) && decide (digitsVal r<=40))=true then some ⟨a-48,b-48,s == 62,digitsVal r,true⟩else none:=by
     show(if(QF a && QF b && (s == 45 || s == 62))=true then _ else none)=_;rw[hf,hss,ZaK,if_pos rfl]
    rw[hN];rw[decide_eq_true (show(3:Int)<((a::s::b::c::r).length:Nat) by simp;omega)]at t5;refine Qj (Qs (b:=true) t5 (λ_=>?_) (λh=>by cases h));have hd:=hn r 2 hwr hlr;have e4:QU (Qc 0) (QD (dC (.int 4))) QX [slT (.str (tx (a::s::b::c::r))),slI 1]=some (reT (.str (tx r))):=by
     show(if(tx (a::s::b::c::r)).length<=sizeLine then some (HS.R.mk (.str (Txt.slice (tx (a::s::b::c::r)) (some 4) none)) true [])else none)=_;rw[if_pos (by rw[QaA,Qam];omega)];have:=Qpk (a::s::b::c::r) 4;rw[show Txt.slice (tx (a::s::b::c::r)) (some 4) none=tx r from this]
    have ec:Qa (QU (Qc 0) (QD (dC (.int 4))) QX) (Qa (dC (.int 2)) Qb) [slT (.str (tx (a::s::b::c::r))),slI 1]=some ⟨[.str (tx r),.int 2],true,[]⟩:=by
     unfold Qa;rw[e4];rfl
    have t6:∀v:D,Qf (dOp gNe (Qm (Qc 0) (dC (.int 3))) (dC (.str "*"))) [slT (.str (tx (a::s::b::c::r))),some (v,true)]=some (!([c] == [42])):=λv=>
     Qom (l:=[c]) (k:=[42]) (rb:=reT (.str "*")) (sg _ 3 c rfl rfl ∅) rfl rfl (congrArg D.str Qks) (Qeh hc) (Qeh ∅)
    have hcc:([c] == [42])=(c == 42):=by rw[Zas];simp
    cases hlb:Qcu r 2 with
    | true=>
     rw[hlb,if_pos rfl]at hd;rw[Zbz,ZaU,Zam,Zam,if_neg (show ¬false=true by decide)];refine Qj (Qz (Qq ec hd rfl) ?_);rw[Qa5];change Run _ [slT (.str (tx (a::s::b::c::r))),some (.non,true)] _;have h1:=t6 .non;have h2:bOr (Qf (dOp gNe (Qm (Qc 0) (dC (.int 3))) (dC (.str "*")))) (bOr (Qf (dOp (Qcp false) (Qc 1) (dC .non))) (bOr (Qf (dOp gLt (Qc 1) (dC (.int 2)))) (Qf (dOp gGt (Qc 1) (dC (.int 40)))))) [slT (.str (tx (a::s::b::c::r))),some (.non,true)]=some true:=by
      have:=Qab h1 (QeN (g2:=bOr (Qf (dOp gLt (Qc 1) (dC (.int 2)))) (Qf (dOp gGt (Qc 1) (dC (.int 40))))) (Qo (fa:=dOp (Qcp false) (Qc 1) (dC .non)) (ρ:=[slT (.str (tx (a::s::b::c::r))),some (.non,true)]) (r:=reT (.bl true)) (b:=true) rfl rfl));rw[this,Bool.or_true]
     exact Qj (Qs (b:=true) h2 (λ_=>Qj (Q5 (r:=⟨.non,true,[]⟩) rfl ⟨rfl,rfl⟩)) (λh=>by cases h))
    | false=>
     rw[hlb,if_neg ∅]at hd;refine Qj (Qz (Qq ec hd rfl) ?_);rw[Qa5];change Run _ [slT (.str (tx (a::s::b::c::r))),slI (digitsVal r:Nat)] _;have h1:=t6 (.int (digitsVal r:Nat));rw[hcc]at h1;have h2:=Qab h1 (Qab (a:=false) (Qo (fa:=dOp (Qcp false) (Qc 1) (dC .non)) (ρ:=[slT (.str (tx (a::s::b::c::r))),slI (digitsVal r:Nat)]) (r:=reT (.bl false)) (b:=false) rfl rfl) (Qab (a:=decide (((digitsVal r:Nat):Int)<2)) (b:=decide ((40:Int)<((digitsVal r:Nat):Int))) (g1:=Qf (dOp gLt (Qc 1) (dC (.int 2)))) (g2:=Qf (dOp gGt (Qc 1) (dC (.int 40)))) (Qo (QO rfl rfl rfl) rfl) (Qo (QO rfl rfl rfl) rfl)));rw[ZaA]at h2;have hv:(!(c == 42) || (decide (((digitsVal r:Nat):Int)<2) || decide ((40:Int)<((digitsVal r:Nat):Int))))= !(c == 42 && !false && decide (2<=digitsVal r) && decide (digitsVal r<=40)):=by
      rw[show decide (((digitsVal r:Nat):Int)<2)= !decide (2<=digitsVal r) by rw[← decide_not,decide_eq_decide];omega,show decide ((40:Int)<((digitsVal r:Nat):Int))= !decide (digitsVal r<=40) by rw[← decide_not,decide_eq_decide];omega];cases c == 42<;>cases decide (2<=digitsVal r)<;>cases decide (digitsVal r<=40)<;>rfl
     rw[hv]at h2;cases hz:(c == 42 && !false && decide (2<=digitsVal r) && decide (digitsVal r<=40))with
     | true=>
      rw[hz]at h2;rw[if_pos rfl];refine Qj (Qs (b:=false) h2 (λh=>by cases h) (λ_=>Qn (Qn ?_)));exact QR (ret (digitsVal r) hf'.1 hf'.2) ⟨rfl,rfl⟩
     | false=>
      rw[hz]at h2;rw[if_neg (show ¬false=true by decide)];exact Qj (Qs (b:=true) h2 (λ_=>Qj (Q5 (r:=⟨.non,true,[]⟩) rfl ⟨rfl,rfl⟩)) (λh=>by cases h))
noncomputable def QbS:List (List Nat)->Option (List Wd)
 | []=>some []
 | w::r=>(QaB w).bind λx=>(QbS r).map λxs=>x::xs
noncomputable def Qd9(l:List Nat):Option (Nat×List Wd):=match wds l with
 | [c]::ws=>if QF c=true then(QbS ws).map λxs=>(c-48,xs)else none
 | _=>none
def QhW:∀{L:List (List Nat)}{xs:List Wd},QbS L=some xs->L=xs.map Wd.l/\∀x∈xs,x.Ok
 | [],xs,h=>by cases h;exact⟨rfl,λx hx=>by simp at hx⟩
 | w::r,xs,h=>by
  refine Qi (show(QaB w).bind _=some xs from h) λx h1 h=>?_;obtain⟨ys,h2,rfl⟩:=Zb.mp h;obtain⟨o,e⟩:=Qmq h1;obtain⟨i1,i2⟩:=QhW h2;exact⟨by rw[Zs,← e,← i1],λy hy=>by
   rcases Zn.mp hy with rfl | hy
   .exact o
   .exact i2 y hy⟩
def QkW:∀{L:List (List Nat)},QbS L=none->∃(pre:List Wd) (w:List Nat) (post:List (List Nat)),L=pre.map Wd.l++w::post/\(∀x∈pre,x.Ok)/\QaB w=none
 | [],h=>by cases h
 | w::r,h=>by
  cases hw:QaB w with
  | none=>exact⟨[],w,r,rfl,λx hx=>by simp at hx,hw⟩
  | some x=>
   have h:((QaB w).bind λx=>(QbS r).map λxs=>x::xs)=none:=h;rw[hw,Za,Option.map_eq_none_iff]at h;obtain⟨pre,w',post,e,o,n⟩:=QkW h;obtain⟨ox,ex⟩:=Qmq hw;exact⟨x::pre,w',post,by rw[Zs,ZaH,← e,← ex],λy hy=>(by
    rcases Zn.mp hy with rfl | hy
    .exact ox
    .exact o y hy),n⟩
def Qq1(L:List (List Nat)):(L.any λw=>(QaB w).isNone)=(QbS L).isNone:=by
 induction L with
 | nil=>rfl
 | cons w r ih=>
  rw[List.any_cons,ih];show _=((QaB w).bind λx=>(QbS r).map λxs=>x::xs).isNone;cases QaB w with
  | none=>rfl
  | some x=>
   rw[Za];cases QbS r<;>rfl
def QfT:∀{ws:List Wd},(∀x∈ws,x.Ok)->(Qv ws).length+(Qw ws).length<=40*ws.length
 | [],_=>by simp[Qv,Qw]
 | x::r,h=>by
  have ih:=QfT (ws:=r) λy hy=>h y (Zc _ hy);have hk:x.k<=40:=by have:=(h x ⋯).k;split at this<;>omega
  unfold Qv Qw at *;cases hl:x.lane<;>simp[Zbt,hl]at ih ⊢ <;>omega
def Wd.Qyk(x:Wd):3<=x.l.length:=by
 unfold Wd.l;simp
def Qgn{l:List Nat}{m:Nat}{ws:List Wd}(h:Qd9 l=some (m,ws))(hl:l.length<=100):m<10/\(∀x∈ws,x.Ok)/\tx l=QcU m ws/\ws.length<=24/\wds l=[48+m]::ws.map Wd.l:=by
 unfold Qd9 at h;split at h
 case h_2=>cases h
 rename_i c ws' hw;split at h
 case isFalse=>cases h
 rename_i hc;obtain⟨xs,h1,h2⟩:=Zb.mp h;cases h2;have hc:=Qgf.mp hc;obtain⟨e,o⟩:=QhW h1;have ec:48+(c-48)=c:= ⋯
 have ew:wds l=[48+(c-48)]::ws.map Wd.l:=by rw[hw,e,ec]
 refine⟨⋯,o,?_,?_,ew⟩
 .have ej:=StrLaws.join_split (tx l) (tx [32]);rw[Qhu,ew]at ej;rw[← ej];unfold QcU Qal;rw[Qgb ⋯,Zs,ZF];rfl
 .have hs:=Qhs l;rw[ew,Zs,Zab]at hs;have:=Qhh (k:=3) (L:=ws.map Wd.l) λw hw=>by
   obtain⟨x,_,rfl⟩:=Zz.mp hw;exact Wd.Qyk x
  rw[Zo]at this;have e1:[48+(c-48)].length=1:=rfl;rw[e1]at hs;omega
def Qlj{w a b:Nat}{gc:DT}{n:Nat}{d:Den}{xd:List D->Option Str}{fs:DA}(h:ApF d xd):Ap (QcS w a b gc (Ql n d [] fs)) (QiZ w a b gc (QY n xd fs)):=λρ hx=>by
 unfold QiZ at hx;unfold QcS;cases e:gc ρ with
 | none=>rfl
 | some c=>
  rw[e,Za]at hx;rw[Za];generalize (if c=true then a else b)=k at hx ⊢;split at hx
  .split at hx
   .rename_i hw;rw[if_pos hw];unfold Qit;rw[Qdr h hx];split
    .cases Qbe (ρ.set w none)<;>rfl
    .rfl
   .exact absurd rfl hx
  .exact absurd rfl hx
noncomputable def Qep(Qap:Den)(Qav:Den)(QM:Den)(Q7:Den)(x_made_net:List D->Option Str)(x_read_ways:List D->Option Str)(x_read_figure:List D->Option Str)(x_text_words:List D->Option Str):DX:=(QC (Qu 1 (Ql 1 Q7 [] (Qa vv0 Qb))) (QY 1 x_text_words (Qa vv0 Qb)) (QC (Qu 2 (Ql 1 QM [] (Qa (Qm vv1 kk0) Qb))) (QY 1 x_read_figure (Qa (Qm vv1 kk0) Qb)) (QC (Qu 3 (Q4 Qb)) xNo (QC (Qu 4 (Q4 Qb)) xNo (QC (Qbd (Q3 (QU vv1 (QD kk1) QX)) (.nm 5) (Qd (QcS 6 4 3 (Qf (dOp gEq (QU vv5 (QD kk1) (QD kk2)) (dC (.str ">")))) (Ql 1 Qav [] (Qa vv5 Qb))) Qe)) (Qf6 (Q3 (QU vv1 (QD kk1) QX)) (.nm 5) (Qd (QcS 6 4 3 (Qf (dOp gEq (QU vv5 (QD kk1) (QD kk2)) (dC (.str ">")))) (Ql 1 Qav [] (Qa vv5 Qb))) Qe) (QC (QcS 6 4 3 (Qf (dOp gEq (QU vv5 (QD kk1) (QD kk2)) (dC (.str ">")))) (Ql 1 Qav [] (Qa vv5 Qb))) (QiZ 6 4 3 (Qf (dOp gEq (QU vv5 (QD kk1) (QD kk2)) (dC (.str ">")))) (QY 1 x_read_ways (Qa vv5 Qb))) xNo)) (QC (QB (Ql 3 Qap [] (Qa vv2 (Qa vv3 (Qa vv4 Qb))))) (QY 3 x_made_net (Qa vv2 (Qa vv3 (Qa vv4 Qb)))) xNo))))))
def QyV{dw df dy dm:Den}{xw xf xy xm:List D->Option Str}(h1:ApF dw xw)(h2:ApF df xf)(h3:ApF dy xy)(h4:ApF dm xm):ApF (Qr 7 (QfM dw df dy dm)) (Q6 7 (Qep dm dy df dw xm xy xf xw)):=Qec (by unfold QfM Qep;repeat (first | exact Qad | exact QA | assumption | exact Qlj h3 | apply Q0 | apply QaO | apply Qai | apply QaF))
structure Qtz (xd:List D->Option Str):Prop where
 txt:∀l,Low l->l.length<=100->Qd9 l=none->xd [.str (tx l)]=some "NoText"
 net:∀l m ws,Low l->l.length<=100->Qd9 l=some (m,ws)->¬QfL m ((Qv ws).map nrm) (Qw ws)->xd [.str (tx l)]=some "NoNet"
 thing:∀d,(QcM "str" (Qc 0) [some (d,d.flat)])=some ⟨.bl false,true,[]⟩->xd [d]=some "NoText"
section
variable {dy:Den}{t W:D}{m:Int}{A B:Lpp}{j6:Option (D×Bool)}
def Qpq{w:List Nat}(hw:Low w)(hl:w.length<=600):Qf (dOp gEq (QU (Qc 5) (QD (dC (.int 1))) (QD (dC (.int 2)))) (dC (.str ">"))) [some (t,true),some (W,true),slI m,slT (Qg A),slT (Qg B),slT (.str (tx w)),j6]=some ((w.drop 1).take 1 == [62]):=by
 refine QkT (l:=(w.drop 1).take 1) (k:=[62]) (ra:=reT (.str (tx ((w.drop 1).take 1)))) (rb:=reT (.str ">")) ?_ rfl rfl (congrArg D.str Qir) (λc hc=>hw c (Zbe (ZaF hc))) (Qeh ∅);show(if(tx w).length<=sizeLine then some (HS.R.mk (.str (Txt.slice (tx w) (some 1) (some 2))) true [])else none)=_;rw[if_pos (by rw[QaA,Qam];omega)];have:=QnR w 1 2 ∅;rw[show Txt.slice (tx w) (some 1) (some 2)=tx ((w.drop 1).take 1)from this]
def QxN(x:Wd):((x.l.drop 1).take 1 == [62])=x.lane:=by
 show([x.sign] == [62])=_;unfold Wd.sign;cases x.lane<;>rfl
def Qon(hy:Qg2 dy){x:Wd}(hx:x.Ok)(hn:A.length+B.length+x.k<=2000):Run (Qd (QcS 6 4 3 (Qf (dOp gEq (QU (Qc 5) (QD (dC (.int 1))) (QD (dC (.int 2)))) (dC (.str ">")))) (Ql 1 dy [] (Qa (Qc 5) Qb))) Qe) [some (t,true),some (W,true),slI m,slT (Qg A),slT (Qg B),slT (.str (tx x.l)),j6]
  (Nx λρ=>ρ=[some (t,true),some (W,true),slI m,slT (Qg (A++if x.lane=true then []else List.replicate x.k x.p)),slT (Qg (B++if x.lane=true then List.replicate x.k x.p else [])),slT (.str (tx x.l)),none]):=by
 have hlen:=Wd.len hx;have hl6:x.l.length<=600:=by
  have:x.l.length=x.t.length:=by rw[Qcm];rfl
  omega
 have eg:=Qpq (t:=t) (W:=W) (m:=m) (A:=A) (B:=B) (j6:=j6) (w:=x.l) (λc hc=>(Wd.low hx c hc).1) hl6;rw[QxN]at eg;have ef:∀j,Ql 1 dy [] (Qa (Qc 5) Qb) [some (t,true),some (W,true),slI m,slT (Qg A),slT (Qg B),slT (.str (tx x.l)),j]=some (reT (Qg (List.replicate x.k x.p))):=λj=>Qq (r:=⟨[.str (tx x.l)],true,[]⟩) rfl (hy x hx) rfl;cases hxl:x.lane with
 | true=>
  rw[hxl]at eg;refine run_seq (Qjm (x:=4) (A:=B) (B:=List.replicate x.k x.p) eg rfl (show 6<7 by decide) ∅ rfl (ef none) (by rw[ZY];omega) (Qn ?_));rw[if_pos rfl,if_pos rfl,ZJ];rfl
 | false=>
  rw[hxl]at eg;refine run_seq (Qjm (x:=3) (A:=A) (B:=List.replicate x.k x.p) eg rfl (show 6<7 by decide) ∅ rfl (ef none) (by rw[ZY];omega) (Qn ?_));rw[if_neg ∅,if_neg ∅,ZJ];rfl
end
def Qvx{dw df dy dm:Den}{xw xf xy xm:List D->Option Str}(hw:QeW dw)(hf:Qje df)(hy:Qg2 dy)(aw:ApF dw xw)(af:ApF df xf)(ay:ApF dy xy)(am:ApF dm xm)(hxw:QmX xw)(hxf:Qqt xf)(hxy:Quj xy)(hxm:MadeX xm):Qtz (Q6 7 (Qep dm dy df dw xm xy xf xw)):=by
 have start:∀(l:List Nat) (x:Str),l.length<=100->QaC (QC (Qu 2 (Ql 1 df [] (Qa (Qm (Qc 1) (dC (.int 0))) Qb))) (QY 1 xf (Qa (Qm (Qc 1) (dC (.int 0))) Qb)) (QC (Qu 3 (Q4 Qb)) xNo (QC (Qu 4 (Q4 Qb)) xNo (QC (Qbd (Q3 (QU (Qc 1) (QD (dC (.int 1))) QX)) (.nm 5) (Qd (QcS 6 4 3 (Qf (dOp gEq (QU (Qc 5) (QD (dC (.int 1))) (QD (dC (.int 2)))) (dC (.str ">")))) (Ql 1 dy [] (Qa (Qc 5) Qb))) Qe)) (Qf6 (Q3 (QU (Qc 1) (QD (dC (.int 1))) QX)) (.nm 5) (Qd (QcS 6 4 3 (Qf (dOp gEq (QU (Qc 5) (QD (dC (.int 1))) (QD (dC (.int 2)))) (dC (.str ">")))) (Ql 1 dy [] (Qa (Qc 5) Qb))) Qe) (QC (QcS 6 4 3 (Qf (dOp gEq (QU (Qc 5) (QD (dC (.int 1))) (QD (dC (.int 2)))) (dC (.str ">")))) (Ql 1 dy [] (Qa (Qc 5) Qb))) (QiZ 6 4 3 (Qf (dOp gEq (QU (Qc 5) (QD (dC (.int 1))) (QD (dC (.int 2)))) (dC (.str ">")))) (QY 1 xy (Qa (Qc 5) Qb))) xNo)) (QC (QB (Ql 3 dm [] (Qa (Qc 2) (Qa (Qc 3) (Qa (Qc 4) Qb))))) (QY 3 xm (Qa (Qc 2) (Qa (Qc 3) (Qa (Qc 4) Qb)))) xNo))))) [slT (.str (tx l)),slT (.lst ((wds l).map λw=> .str (tx w))),none,none,none,none,none] x->Q6 7 (Qep dm dy df dw xm xy xf xw) [.str (tx l)]=some x:=λl x hl h=>by
  refine Qc1 ?_;refine QT (Qz (Qq (r:=⟨[.str (tx l)],true,[]⟩) rfl (QpB hw ⋯) rfl) ?_);exact h
 have idx0:∀(l w:List Nat) (r:List (List Nat)),wds l=w::r->Qa (Qm (Qc 1) (dC (.int 0))) Qb [slT (.str (tx l)),slT (.lst ((wds l).map λw=> .str (tx w))),none,none,none,none,none]=some ⟨[.str (tx w)],true,[]⟩:=λl w r e=>by
  have:=QfN (fa:=Qc 1) (fb:=dC (.int 0)) (ρ:=[slT (.str (tx l)),slT (.lst ((wds l).map λw=> .str (tx w))),none,none,none,none,none]) (ts:=(wds l).map tx) (i:=0) (t:=tx w) (ra:=⟨.lst ((wds l).map λw=> .str (tx w)),true,[1]⟩) (rb:=reI 0) rfl (by rw[ZF];rfl) rfl rfl (by rw[e];rfl);exact Qx this (QZ _)
 have fi:∀(l w:List Nat) (r:List (List Nat)) (m:Int) (a b:D),wds l=w::r->Q3 (QU (Qc 1) (QD (dC (.int 1))) QX) [slT (.str (tx l)),slT (.lst ((wds l).map λw=> .str (tx w))),slI m,some (a,true),some (b,true),none,none]=some ⟨r.map λw=> .str (tx w),[]⟩:=λl w r m a b e=>by
  have:=QlG (fa:=Qc 1) (fb:=dC (.int 1)) (ρ:=[slT (.str (tx l)),slT (.lst ((wds l).map λw=> .str (tx w))),slI m,some (a,true),some (b,true),none,none]) (ts:=(wds l).map tx) (n:=1) (ra:=⟨.lst ((wds l).map λw=> .str (tx w)),true,[1]⟩) (rb:=reI 1) rfl (by rw[ZF];rfl) rfl rfl;have e2:((wds l).map tx).drop 1=r.map tx:=by rw[e];rfl
  rw[e2,ZF]at this;exact Qaz (xs:=r.map λw=> .str (tx w)) this rfl
 refine⟨λl hlw hl hN=>start l _ hl ?_,λl m ws hlw hl hN hO=>start l _ hl ?_,λd hd=>?_⟩
 .obtain⟨w0,r,e⟩:∃w r,wds l=w::r:=by
   cases h:wds l with
   | nil=>exact absurd h (Qog l)
   | cons w r=>exact⟨w,r,rfl⟩
  have hw0:w0∈wds l:=by rw[e];simp
  by_cases hc:∃c,w0=[c]/\QF c=true
  case neg=>
   exact QG (Qai af) (QbK (idx0 l w0 r e) rfl (hxf w0 (QdX hlw hw0) (by have:=QdN hw0;omega) λc ec=>by
    cases hz:QF c with
    | false=>rfl
    | true=>exact absurd ⟨c,ec,hz⟩ hc))
  obtain⟨c,rfl,hc⟩:=hc;have hc':=Qgf.mp hc;have hnone:QbS r=none:=by
   unfold Qd9 at hN;rw[e]at hN;simp only[hc,if_pos,Option.map_eq_none_iff]at hN;exact hN
  obtain⟨pre,w,post,er,hpre,hwn⟩:=QkW hnone;have ed:df [.str (tx [c])]=slI (c-48:Nat):=by
   have:=hf (c-48) ⋯;rwa[show 48+(c-48)=c by omega]at this
  refine QT (Qz (Qq (idx0 l [c] r e) ed rfl) ?_);refine QT (Qz (r:=reT (Qg [])) rfl ?_);refine QT (Qz (r:=reT (Qg [])) rfl ?_);change QaC _ [slT (.str (tx l)),slT (.lst ((wds l).map λw=> .str (tx w))),slI (c-48:Nat),slT (Qg []),slT (Qg []),none,none] _;have hwm:w∈wds l:=by rw[e,er];simp
  have hcnt:pre.length<=100:=by
   have:=Qlw l;rw[e,er]at this;simp at this;omega
  refine QG (QaO (Q0 (Qlj ay) Qad)) (Qor (Q0 (Qlj ay) Qad) (toD:=λw=> .str (tx w)) r (λi ρ=>∃j5,ρ=[slT (.str (tx l)),slT (.lst ((wds l).map λw=> .str (tx w))),slI (c-48:Nat),slT (Qg (Qv (pre.take i))),slT (Qg (Qw (pre.take i))),j5,none]) pre.length (by rw[er];simp) (fi l [c] r _ _ _ e) rfl ⟨none,rfl⟩ ?_ ?_)
  .rintro i y ρ hi hy' ⟨j5,rfl⟩;obtain⟨x,hx⟩:∃x,pre[i]? =some x:=⟨pre[i],by simp[hi]⟩;have hyx:y=x.l:=by
    rw[er,Zae (by simpa using hi),Zv,hx]at hy';exact(Option.some.inj hy').symm
   subst hyx;have hxo:=hpre x (Zy hx);have et:pre.take (i+1)=pre.take i++[x]:=by rw[ZaV,hx];rfl
   have hm:=QfT (ws:=pre.take i) λz hz=>hpre z (ZaF hz);have hpl:(pre.take i).length<=40:=by
    have hs:=Qhs l;rw[e,er,Zs,Zab,ZV,List.sum_append]at hs;have:=Qhh (k:=3) (L:=pre.map Wd.l) λw hw=>by
     obtain⟨x,_,rfl⟩:=Zz.mp hw;exact Wd.Qyk x
    rw[Zo]at this;have hle:(pre.take i).length<=pre.length:=by simp;omega
    omega
   have hk:x.k<=40:=by have:=hxo.k;split at this<;>omega
   refine⟨[slT (.str (tx l)),slT (.lst ((wds l).map λw=> .str (tx w))),slI (c-48:Nat),slT (Qg (Qv (pre.take i))),slT (Qg (Qw (pre.take i))),slT (.str (tx x.l)),none],rfl,?_⟩;refine(Qon hy hxo ⋯).mono λo ho=>?_;cases o with
   | nx ρ=>
    refine⟨slT (.str (tx x.l)),?_⟩;rw[et,QcG,QcH];exact ho
   | _=>exact ho.elim
  .rintro y ρ hy' ⟨j5,rfl⟩;have hyw:y=w:=by
    rw[er,ZaE ⋯,Zo,Nat.sub_self]at hy';exact(Option.some.inj hy').symm
   subst hyw;refine⟨[slT (.str (tx l)),slT (.lst ((wds l).map λw=> .str (tx w))),slI (c-48:Nat),slT (Qg (Qv (pre.take pre.length))),slT (Qg (Qw (pre.take pre.length))),slT (.str (tx y)),none],rfl,?_⟩;refine QG (Qlj ay) ?_;have eg:=Qpq (t:= .str (tx l)) (W:= .lst ((wds l).map λw=> .str (tx w))) (m:=(c-48:Nat)) (A:=Qv (pre.take pre.length)) (B:=Qw (pre.take pre.length)) (j6:=none) (QdX hlw hwm) (by have:=QdN hwm;omega);have hx:=hxy y (QdX hlw hwm) (by have:=QdN hwm;omega) hwn;refine⟨[slT (.str (tx l)),slT (.lst ((wds l).map λw=> .str (tx w))),slI (c-48:Nat),slT (Qg (Qv (pre.take pre.length))),slT (Qg (Qw (pre.take pre.length))),slT (.str (tx y)),none],?_⟩;unfold QiZ;rw[eg,Za];have hcall:QY 1 xy (Qa (Qc 5) Qb) [slT (.str (tx l)),slT (.lst ((wds l).map λw=> .str (tx w))),slI (c-48:Nat),slT (Qg (Qv (pre.take pre.length))),slT (Qg (Qw (pre.take pre.length))),slT (.str (tx y)),none]=some (Str.ofString "NoText",[slT (.str (tx l)),slT (.lst ((wds l).map λw=> .str (tx w))),slI (c-48:Nat),slT (Qg (Qv (pre.take pre.length))),slT (Qg (Qw (pre.take pre.length))),slT (.str (tx y)),none]):=by
    show((some (RA.mk [.str (tx y)] true [])).bind λr:RA=>if r.ds.length=1 then(xy r.ds).map λc=>(c,_)else none)=_;rw[Za];show(xy [.str (tx y)]).map _=_;rw[hx];rfl
   cases((y.drop 1).take 1 == [62])with
   | true=>exact hcall
   | false=>exact hcall
 .obtain⟨m10,hok,et,h24,ew⟩:=Qgn hN hl;have hm:=QfT hok;have ed:=hf m m10;refine QT (Qz (Qq (idx0 l [48+m] _ ew) ed rfl) ?_);refine QT (Qz (r:=reT (Qg [])) rfl ?_);refine QT (Qz (r:=reT (Qg [])) rfl ?_);change QaC _ [slT (.str (tx l)),slT (.lst ((wds l).map λw=> .str (tx w))),slI m,slT (Qg []),slT (Qg []),none,none] _;refine QT ?_;refine Qbq (toD:=λx=> .str (tx x.l)) ws (λi ρ=>∃j5,ρ=[slT (.str (tx l)),slT (.lst ((wds l).map λw=> .str (tx w))),slI m,slT (Qg (Qv (ws.take i))),slT (Qg (Qw (ws.take i))),j5,none]) (fi l [48+m] _ _ _ _ ew) (by rw[ZF];rfl) ⟨none,rfl⟩ ?_ ?_
  .rintro i x ρ hi ⟨j5,rfl⟩;have hxo:=hok x (Zy hi);have et:ws.take (i+1)=ws.take i++[x]:=by rw[ZaV,hi];rfl
   have hlt:=Qj3 (ws:=ws) (i:=i);have hk:x.k<=40:=by have:=hxo.k;split at this<;>omega
   refine⟨[slT (.str (tx l)),slT (.lst ((wds l).map λw=> .str (tx w))),slI m,slT (Qg (Qv (ws.take i))),slT (Qg (Qw (ws.take i))),slT (.str (tx x.l)),none],rfl,?_⟩;refine(Qon hy hxo ⋯).mono λo ho=>?_;cases o with
   | nx ρ=>
    refine⟨slT (.str (tx x.l)),?_⟩;rw[et,QcG,QcH];exact ho
   | _=>exact ho.elim
  .rintro ρ ⟨j5,rfl⟩;rw[Zal];exact QG (QaF am) (QbK (r:=⟨[.int m,Qg (Qv ws),Qg (Qw ws)],true,[3,4]⟩) rfl rfl (hxm m _ _ ⋯ hO))
 .obtain⟨r,e1,e2⟩:=Qjr 6 d;exact Qc1 (QG (Qai aw) (QbK e1 (by rw[e2];rfl) (by rw[e2];exact hxw d hd)))
noncomputable def QzN:Option (Nat×List Wd)->D
 | none=> .non
 | some q=>Qy q.1 (Qv q.2) (Qw q.2)
def QvH(L:List (List Nat)):gIn false .non (.lst (L.map λw=>QbR (QaB w)))=some (.bl (QbS L).isNone):=by
 have hs:(D.lst (L.map λw=>QbR (QaB w))).sim 8=true:=by
  show(L.map λw=>QbR (QaB w)).all (D.sim 7)=true;rw[ZC];intro d hd;obtain⟨w,_,rfl⟩:=Zz.mp hd;cases QaB w<;>rfl
 show(if D.non.sim 8 && (D.lst (L.map λw=>QbR (QaB w))).sim 8 then some (D.bl (((L.map λw=>QbR (QaB w))).any λy=>deq y .non))else none)=_;rw[hs,ZaS,← Qq1];show some (D.bl (L.any λw=>deq (QbR (QaB w)) .non))=_;congr 3;funext w;cases QaB w<;>rfl
def QnD:∀{r:List (List Nat)}{ws:List Wd},QbS r=some ws->r.map (λw=>QbR (QaB w))=ws.map λx=>QbR (some x)
 | [],ws,h=>by cases h;rfl
 | w::r,ws,h=>by
  refine Qi (show(QaB w).bind _=some ws from h) λx h1 h=>?_;obtain⟨ys,h2,rfl⟩:=Zb.mp h;rw[Zs,Zs,h1,QnD h2]
noncomputable def QfB(QbU:Den):DS:=(Qd (Qu 1 (dM1 QiD vv0 (Qa (dC (.str " ")) Qb))) (Qd (Qu 2 (Qau (Q3 (QU vv1 (QD kk1) QX)) (.nm 1) [none,none] QaE (Ql 1 QbU [] (Qa vv1 Qb)))) (Qd (sIf (bOr (Qf (dOp (gIn false) (dC .non) vv2)) (bOr (Qf (dOp gNe (dBf Qaa (Qa (Qm vv1 kk0) Qb)) kk1)) (Qf (dOp (gIn true) (Qm vv1 kk0) (dC (.str "0123456789")))))) (Qd (QB (dC .non)) Qe) Qe) (Qd (Qu 3 (Q4 Qb)) (Qd (Qu 4 (Q4 Qb)) (Qd (Qbd (Q3 vv2) (.tp [5,6,7,8]) (Qd (sIf (Qf vv7) (Qd (Qu 4 (QL vv4 (QaD (Q4 (Qa (Qaj (Qa vv5 (Qa vv6 Qb))) Qb)) vv8))) Qe) (Qd (Qu 3 (QL vv3 (QaD (Q4 (Qa (Qaj (Qa vv5 (Qa vv6 Qb))) Qb)) vv8))) Qe)) Qe)) (Qd (QB (Qaj (Qa (dBf Qde (Qa (Qm vv1 kk0) Qb)) (Qa vv3 (Qa vv4 Qb))))) Qe)))))))
def QnL(d:Den):Prop:=∀l,Low l->l.length<=100->d [.str (tx l)]=some (QzN (Qd9 l),true)
def Qvn{dy:Den}(hy:QoH dy):QnL (Qr 9 (QfB dy)):=λl hw hl=>by
 obtain⟨w0,r,e⟩:∃w r,wds l=w::r:=by
  cases h:wds l with
  | nil=>exact absurd h (Qog l)
  | cons w r=>exact⟨w,r,rfl⟩
 have hw0:w0∈wds l:=by rw[e];simp
 have hl0:=QdN hw0;have hlow0:=QdX hw hw0;refine Q8 ?_;refine rsa (Qgv (ra:=reT (.str (tx l))) (rb:=reT (.str " ")) rfl rfl (Quu ⋯)) ?_;change Run _ [slT (.str (tx l)),slT (.lst ((wds l).map λw=> .str (tx w))),none,none,none,none,none,none,none] _;have es:QU (Qc 1) (QD (dC (.int 1))) QX [slT (.str (tx l)),slT (.lst ((wds l).map λw=> .str (tx w))),none,none,none,none,none,none,none]=some (reT (.lst (r.map λw=> .str (tx w)))):=by
  have:=QlG (fa:=Qc 1) (fb:=dC (.int 1)) (ρ:=[slT (.str (tx l)),slT (.lst ((wds l).map λw=> .str (tx w))),none,none,none,none,none,none,none]) (ts:=(wds l).map tx) (n:=1) (ra:=⟨.lst ((wds l).map λw=> .str (tx w)),true,[1]⟩) (rb:=reI 1) rfl (by rw[ZF];rfl) rfl rfl;have e2:((wds l).map tx).drop 1=r.map tx:=by rw[e];rfl
  rw[e2,ZF]at this;exact this
 refine run_seq (Qz (QbN (toD:=λw=> .str (tx w)) (out:=λw=>QbR (QaB w)) r (Qaz (xs:=r.map λw=> .str (tx w)) es rfl) rfl λw hw'=>⟨[none,slT (.str (tx w))],rfl,⟨QbR (QaB w),true,[]⟩,Qq (r:=⟨[.str (tx w)],true,[]⟩) rfl (hy w (QdX hw (by rw[e];exact Zc _ hw')) (by have:=QdN (l:=l) (w:=w) (by rw[e];exact Zc _ hw');omega)) rfl,rfl,?_⟩) ?_)
 .cases QaB w<;>rfl
 rw[Qa5];change Run _ [slT (.str (tx l)),slT (.lst ((wds l).map λw=> .str (tx w))),slT (.lst (r.map λw=>QbR (QaB w))),none,none,none,none,none,none] _;have hW:∀(ρ:En),ρ[1]? =some (slT (.lst ((wds l).map λw=> .str (tx w))))->Qm (Qc 1) (dC (.int 0)) ρ=some (reT (.str (tx w0))):=λρ h0=>
  QfN (fa:=Qc 1) (fb:=dC (.int 0)) (ρ:=ρ) (ts:=(wds l).map tx) (i:=0) (t:=tx w0) (ra:=⟨.lst ((wds l).map λw=> .str (tx w)),true,[1]⟩) (rb:=reI 0) (by unfold Qc;rw[h0];rfl) (by rw[ZF];rfl) rfl rfl (by rw[e];rfl)
 generalize hρ:([slT (.str (tx l)),slT (.lst ((wds l).map λw=> .str (tx w))),slT (.lst (r.map λw=>QbR (QaB w))),none,none,none,none,none,none]:En)=ρ0;have h01:ρ0[1]? =some (slT (.lst ((wds l).map λw=> .str (tx w)))):=by rw[← hρ];rfl
 have h02:∃rr:R,Qc 2 ρ0=some rr/\rr.d= .lst (r.map λw=>QbR (QaB w)):=by
  rw[← hρ];exact⟨_,rfl,rfl⟩
 obtain⟨rr,h02,h02d⟩:=h02;have t1:Qf (dOp (gIn false) (dC .non) (Qc 2)) ρ0=some (QbS r).isNone:=Qo (QO (ra:=⟨.non,true,[]⟩) (rb:=rr) rfl h02 (by rw[h02d];exact QvH r)) rfl;have t2:Qf (dOp gNe (dBf Qaa (Qa (Qm (Qc 1) (dC (.int 0))) Qb)) (dC (.int 1))) ρ0=some (!decide ((w0.length:Int)=1)):=Qo (QiO (a:=w0.length) (b:=1) (QeS (l:=w0) (hW ρ0 h01) rfl ⋯) rfl rfl rfl) rfl;have hN0:(∀c,w0=[c]->QF c=true->QbS r=none)->Qd9 l=none:=λh=>by
  unfold Qd9;rw[e];split
  .rename_i c ws ec;obtain⟨h1,h2⟩:=List.cons.inj ec;subst h2;split
   .rename_i hc;rw[h c h1 hc];rfl
   .rfl
  .rfl
 by_cases hg:∃c,w0=[c]/\QF c=true/\(QbS r).isNone=false
 case neg=>
  have hT:bOr (Qf (dOp (gIn false) (dC .non) (Qc 2))) (bOr (Qf (dOp gNe (dBf Qaa (Qa (Qm (Qc 1) (dC (.int 0))) Qb)) (dC (.int 1)))) (Qf (dOp (gIn true) (Qm (Qc 1) (dC (.int 0))) (dC (.str "0123456789"))))) ρ0=some true:=by
   cases hn:(QbS r).isNone with
   | true=>rw[hn]at t1;exact QeN t1
   | false=>
    rw[hn]at t1;by_cases h1:w0.length=1
    .obtain⟨c,rfl⟩:∃c,w0=[c]:=by
      match w0,h1 with
      | [c],_=>exact⟨c,rfl⟩
     have hc:QF c=false:=by
      cases z:QF c with
      | false=>rfl
      | true=>exact absurd ⟨c,rfl,z,hn⟩ hg
     have t3:Qf (dOp (gIn true) (Qm (Qc 1) (dC (.int 0))) (dC (.str "0123456789"))) ρ0=some (!QF c):=Qo (QO (ra:=reT (.str (tx [c]))) (rb:=reT (.str "0123456789")) (d:= .bl (!QF c)) (hW ρ0 h01) rfl (by rw[Qf0];cases QF c<;>rfl)) rfl;rw[hc]at t3;have:=Qab t1 (Qab t2 t3);rw[this];rfl
    .rw[decide_eq_false ⋯]at t2;rw[Qab t1 (QeN t2)];rfl
  rw[hN0 λc hc hf=>(by
   cases hz:QbS r with
   | none=>rfl
   | some ws=>exact absurd ⟨c,hc,hf,by rw[hz];rfl⟩ hg)]
  exact Qj (Qs (b:=true) hT (λ_=>Qj (Q5 (r:=⟨.non,true,[]⟩) rfl ⟨rfl,rfl⟩)) (λh=>by cases h))
 obtain⟨c,rfl,hc,hn⟩:=hg;obtain⟨ws,hws⟩:∃ws,QbS r=some ws:=by
  cases hz:QbS r with
  | none=>rw[hz]at hn;cases hn
  | some ws=>exact⟨ws,rfl⟩
 have hc':=Qgf.mp hc;have hN:Qd9 l=some (c-48,ws):=by
  unfold Qd9;rw[e];simp only[hc,if_pos,hws,ZO]
 obtain⟨er,hok⟩:=QhW hws;obtain⟨_,_,_,h24,_⟩:=Qgn hN hl;have hm:=QfT hok;have t3:Qf (dOp (gIn true) (Qm (Qc 1) (dC (.int 0))) (dC (.str "0123456789"))) ρ0=some (!QF c):=Qo (QO (ra:=reT (.str (tx [c]))) (rb:=reT (.str "0123456789")) (d:= .bl (!QF c)) (hW ρ0 h01) rfl (by rw[Qf0];cases QF c<;>rfl)) rfl;have hT:=Qab t1 (Qab t2 t3);rw[hn,hc]at hT;rw[hN];refine Qj (Qs (b:=false) hT (λh=>by cases h) (λ_=>Qn ?_));subst hρ;refine run_seq (Qz (r:=reT (Qg [])) rfl ?_);refine run_seq (Qz (r:=reT (Qg [])) rfl ?_);have eW:=QnD hws;rw[eW];change Run _ [slT (.str (tx l)),slT (.lst ((wds l).map λw=> .str (tx w))),slT (.lst (ws.map λx=>QbR (some x))),slT (Qg []),slT (Qg []),none,none,none,none] _;refine Qco (P:=λρ=>∃j2 j5 j6 j7 j8,ρ=[slT (.str (tx l)),slT (.lst ((wds l).map λw=> .str (tx w))),j2,slT (Qg (Qv ws)),slT (Qg (Qw ws)),j5,j6,j7,j8]) ?_ ?_
 .refine Qbq (toD:=λx=>QbR (some x)) ws (λi ρ=>∃j2 j5 j6 j7 j8,ρ=[slT (.str (tx l)),slT (.lst ((wds l).map λw=> .str (tx w))),j2,slT (Qg (Qv (ws.take i))),slT (Qg (Qw (ws.take i))),j5,j6,j7,j8]) (Qaz (xs:=ws.map λx=>QbR (some x)) (r:=⟨.lst (ws.map λx=>QbR (some x)),true,[2]⟩) rfl rfl) rfl ⟨_,none,none,none,none,rfl⟩ ?_ ?_
  .rintro i x ρ hi ⟨j2,j5,j6,j7,j8,rfl⟩;have hxo:=hok x (Zy hi);have et:ws.take (i+1)=ws.take i++[x]:=by rw[ZaV,hi];rfl
   have hlt:=Qj3 (ws:=ws) (i:=i);have hk:x.k<=40:=by have:=hxo.k;split at this<;>omega
   refine⟨[slT (.str (tx l)),slT (.lst ((wds l).map λw=> .str (tx w))),j2,slT (Qg (Qv (ws.take i))),slT (Qg (Qw (ws.take i))),slI x.a,slI x.b,slT (.bl x.lane),slI x.k],rfl,?_⟩;have em:QaD (Q4 (Qa (Qaj (Qa (Qc 5) (Qa (Qc 6) Qb))) Qb)) (Qc 8) [slT (.str (tx l)),slT (.lst ((wds l).map λw=> .str (tx w))),j2,slT (Qg (Qv (ws.take i))),slT (Qg (Qw (ws.take i))),slI x.a,slI x.b,slT (.bl x.lane),slI x.k]=some (reT (Qg (List.replicate x.k x.p))):=QpA (s:=x.p) (n:=x.k) (r:=reI x.k) rfl rfl rfl ⋯;refine run_seq (Qs (b:=x.lane) (Qo (r:=reT (.bl x.lane)) rfl rfl) (λh=>?_) (λh=>?_))
   .refine rsa (Qjd (A:=Qw (ws.take i)) (B:=List.replicate x.k x.p) (ra:=⟨Qg (Qw (ws.take i)),true,[4]⟩) rfl rfl em rfl (by rw[ZY];omega)) ?_;refine Qn (Qn ⟨j2,slI x.a,slI x.b,slT (.bl x.lane),slI x.k,?_⟩);rw[et,QcG,QcH,if_pos h,if_pos h,ZJ];rfl
   .refine rsa (Qjd (A:=Qv (ws.take i)) (B:=List.replicate x.k x.p) (ra:=⟨Qg (Qv (ws.take i)),true,[3]⟩) rfl rfl em rfl (by rw[ZY];omega)) ?_;refine Qn (Qn ⟨j2,slI x.a,slI x.b,slT (.bl x.lane),slI x.k,?_⟩);rw[et,QcG,QcH,if_neg (by rw[h];decide),if_neg (by rw[h];decide),ZJ];rfl
  .rintro ρ ⟨j2,j5,j6,j7,j8,rfl⟩;rw[Zal];exact⟨j2,j5,j6,j7,j8,rfl⟩
 .rintro ρ ⟨j2,j5,j6,j7,j8,rfl⟩;have i0:=Qju (l:=[c]) (hW [slT (.str (tx l)),slT (.lst ((wds l).map λw=> .str (tx w))),j2,slT (Qg (Qv ws)),slT (Qg (Qw ws)),j5,j6,j7,j8] rfl) rfl (by simp[hc]) ⋯ ⋯;rw[dv1]at i0;exact QR (QfR (Qx i0 (Qx (r:=⟨Qg (Qv ws),true,[3]⟩) rfl (Qx (r:=⟨Qg (Qw ws),true,[4]⟩) rfl (QZ _)))) (show 3<=64 by decide)) ⟨rfl,rfl⟩
def QmQ{i n:Nat}{d:Den}{xd:List D->Option Str}{fs:DA}{ρ:En}{r:RA}{x:Str}(a:ApF d xd)(h:fs ρ=some r)(hl:r.ds.length=n)(hx:xd r.ds=some x):QC (Qu i (Ql n d [] fs)) (QY n xd fs) xNo ρ=some (x,ρ):=by
 have e:QY n xd fs ρ=some (x,ρ):=by unfold QY;rw[h,Za,if_pos hl,hx];rfl
 unfold QC;rw[Qai a ρ (by rw[e];exact λz=>by cases z)];exact e
def QjV{f:DS}{fx:DX}{sub:Str->Str->Option Bool}{hl:List Hd}{ρ:En}{Q:Out->Prop}(h:Run f ρ Q):Run (Qfq f fx sub hl) ρ Q:=by
 obtain⟨o,h1,h2⟩:=h;exact⟨o,by unfold Qfq;rw[h1],h2⟩
noncomputable def Qgs(Qap:Den)(x_made_net:List D->Option Str)(sub:Str->Str->Option Bool):DS:=(Qd (Qfq (Qd (Qu 1 (Ql 3 Qap [] (Qa (Qm vv0 kk0) (Qa (Qm vv0 kk1) (Qa (Qm vv0 kk2) Qb))))) Qe) (QC (Qu 1 (Ql 3 Qap [] (Qa (Qm vv0 kk0) (Qa (Qm vv0 kk1) (Qa (Qm vv0 kk2) Qb))))) (QY 3 x_made_net (Qa (Qm vv0 kk0) (Qa (Qm vv0 kk1) (Qa (Qm vv0 kk2) Qb)))) xNo) sub [("NoNet",none,(Qd (QB (dC .non)) Qe))]) (Qd (QB vv1) Qe))
structure QlA (d:Den):Prop where
 ok:∀(m:Int) (R L:Lpp),R.length+L.length<=1000->QfL m (R.map nrm) L->d [Qy m R L]=some (Qy m (R.map nrm) L,true)
 no:∀(m:Int) (R L:Lpp),R.length+L.length<=1000->¬QfL m (R.map nrm) L->d [Qy m R L]=some (.non,true)
def Qtu{dm:Den}{xm:List D->Option Str}{sub:Str->Str->Option Bool}(am:ApF dm xm)(hm:Qld dm)(hx:MadeX xm)(h2:sub "NoNet" "NoNet" =some true):QlA (Qr 2 (Qgs dm xm sub)):=by
 have args:∀(m:Int) (R L:Lpp),Qa (Qm (Qc 0) (dC (.int 0))) (Qa (Qm (Qc 0) (dC (.int 1))) (Qa (Qm (Qc 0) (dC (.int 2))) Qb)) (QP 2 [Qy m R L])=some ⟨[.int m,Qg R,Qg L],false,[]⟩:=λm R L=>by
  obtain⟨i0,i1,i2⟩:=QeO (fa:=Qc 0) (ρ:=QP 2 [Qy m R L]) (m:=m) (R:=R) (L:=L) (r:=reF (Qy m R L)) rfl rfl;exact Qx i0 (Qx i1 (Qx i2 (QZ _)))
 refine⟨λm R L hl hN=>Q8 ?_,λm R L hl hN=>Q8 ?_⟩
 .refine run_seq (QjV (run_seq (Qz (Qq (args m R L) (hm m R L _ (.inl rfl) hl hN) rfl) ?_)));rw[Qa5];refine Qn ?_;exact QR (r:=⟨Qy m (R.map nrm) L,true,[1]⟩) rfl ⟨rfl,rfl⟩
 .exact Qj (Qtj (x:= "NoNet") (Q0 (Qai am) Qad) (QmQ am (args m R L) rfl (hx m R L hl hN)) h2 (Qj (Q5 (r:=⟨.non,true,[]⟩) rfl ⟨rfl,rfl⟩)))
noncomputable def QbO(k:Int):D:= .tup [.str "refused",.int k]
noncomputable def Qfy(d:D):D:= .tup [.str "told",d]
noncomputable def Qd0(sub:Str->Str->Option Bool):DS:=(Qd (sIf (bOr (Qcs (Qf (QeV sub ["ValueError"] vv0))) (bOr (Qf (QeV sub ["NoRow"] vv0)) (Qf (QeV sub ["NoDeed"] vv0)))) (Qd (QB (Qaj (Qa (dC (.str "refused")) (Qa kk0 Qb)))) Qe) Qe) (Qd (QB (Qaj (Qa (dC (.str "refused")) (Qa (QL (dBf Qde (Qa (QeV sub ["NoText"] vv0) Qb)) (QaD kk2 (dBf Qde (Qa (QeV sub ["NoNet"] vv0) Qb)))) Qb)))) Qe))
structure Qi2 (d:Den):Prop where
 txt:d [.exc "NoText"]=some (QbO 1,true)
 net:d [.exc "NoNet"]=some (QbO 2,true)
def QsH{sub:Str->Str->Option Bool}(a1:sub "NoText" "ValueError" =some true)(a2:sub "NoText" "NoRow" =some false)(a3:sub "NoText" "NoDeed" =some false)(a4:sub "NoText" "NoText" =some true)(a5:sub "NoText" "NoNet" =some false)
  (b1:sub "NoNet" "ValueError" =some true) (b2:sub "NoNet" "NoRow" =some false) (b3:sub "NoNet" "NoDeed" =some false) (b4:sub "NoNet" "NoText" =some false) (b5:sub "NoNet" "NoNet" =some true):Qi2 (Qr 1 (Qd0 sub)):=by
 have key:∀(x:Str) (p q:Bool),sub x "ValueError" =some true->sub x "NoRow" =some false->sub x "NoDeed" =some false->sub x "NoText" =some p->sub x "NoNet" =some q->Qr 1 (Qd0 sub) [.exc x]=some (QbO ((if p=true then 1 else 0)+2*(if q=true then 1 else 0)),true):=λx p q h1 h2 h3 h4 h5=>by
  refine Q8 ?_;have i:∀y b,sub x y=some b->QeV sub [y] (Qc 0) (QP 1 [.exc x])=some (reT (.bl b)):=λy b h=>by
   have:=QyE (sub:=sub) (fa:=Qc 0) (ρ:=QP 1 [.exc x]) (x:=x) (ys:=[y]) rfl (any_cons h (ys:=[]) (c:=false) rfl);rw[this,ZbA]
  refine Qj (Qs (b:=false) (Qab (a:=false) (b:=false) (Qdf (b:=true) (Qo (i _ _ h1) rfl)) (Qab (a:=false) (b:=false) (Qo (i _ _ h2) rfl) (Qo (i _ _ h3) rfl))) (λh=>by cases h) (λ_=>Qn ?_));have j:∀y b,sub x y=some b->dBf Qde (Qa (QeV sub [y] (Qc 0)) Qb) (QP 1 [.exc x])=some (reI (if b=true then 1 else 0)):=λy b h=>Qf7 (i y b h) (by cases b<;>rfl);have m:QaD (dC (.int 2)) (dBf Qde (Qa (QeV sub ["NoNet"] (Qc 0)) Qb)) (QP 1 [.exc x])=some (reI (2*(if q=true then 1 else 0))):=Qip (a:=2) rfl rfl (j _ _ h5) rfl (by cases q<;>decide);exact QR (QfR (Qx (r:=reT (.str "refused")) rfl (Qx (Qdc (j _ _ h4) rfl m rfl) (QZ _))) (show 2<=64 by decide)) ⟨rfl,rfl⟩
 exact⟨key "NoText" true false a1 a2 a3 a4 a5,key "NoNet" false true b1 b2 b3 b4 b5⟩
noncomputable def QcN(Qb1:Den)(Qbn:Den)(x_read_row:List D->Option Str)(sub:Str->Str->Option Bool):DS:=(Qd (Qfq (Qd (Qu 1 (Ql 1 Qb1 [] (Qa vv0 Qb))) Qe) (QC (Qu 1 (Ql 1 Qb1 [] (Qa vv0 Qb))) (QY 1 x_read_row (Qa vv0 Qb)) xNo) sub [("HeapError",some 2,(Qd (QB (Ql 1 Qbn [] (Qa vv2 Qb))) Qe))]) (Qd (QB (Qaj (Qa (dC (.str "told")) (Qa vv1 Qb)))) Qe))
def Qni(d:D):Prop:=(QcM "str" (Qc 0) [some (d,d.flat)])=some ⟨.bl false,true,[]⟩
structure Qjf (d:Den):Prop where
 ok:∀l ns,Low l->l.length<=125->QhP l=some ns->d [.str (tx l)]=some (Qfy (QE ns),true)
 no:∀l,Low l->l.length<=125->QhP l=none->d [.str (tx l)]=some (QbO 1,true)
 thing:∀t,Qni t->d [t]=some (QbO 1,true)
def Qtx{dr dw:Den}{xr:List D->Option Str}{sub:Str->Str->Option Bool}(ar:ApF dr xr)(hr:Qoe dr)(hx:QtD xr)(hw:Qi2 dw)(h1:sub "NoText" "HeapError" =some true):Qjf (Qr 3 (QcN dr dw xr sub)):=by
 have bad:∀t,xr [t]=some "NoText" ->Qr 3 (QcN dr dw xr sub) [t]=some (QbO 1,true):=λt ht=>by
  obtain⟨r,e1,e2⟩:=Qjr 2 t;refine Q8 ?_;refine Qj (Qj0 (x:= "NoText") (Q0 (Qai ar) Qad) (QmQ ar e1 (by rw[e2];rfl) (by rw[e2];exact ht)) h1 ?_);exact Qj (Q5 (Qq (r:=⟨[.exc "NoText"],true,[]⟩) rfl hw.txt rfl) ⟨rfl,rfl⟩)
 refine⟨λl ns hl h6 hp=>Q8 ?_,λl hl h6 hp=>bad _ (hx.1 l hl ⋯ hp),λt ht=>bad t (hx.2 t ht)⟩;obtain⟨c1,c2⟩:=QqX hp h6;have hd:dr [.str (tx l)]=slT (QE ns):=by rw[c1];exact hr ns c2
 refine run_seq (QjV (run_seq (Qz (Qq (r:=⟨[.str (tx l)],true,[]⟩) rfl hd rfl) ?_)));rw[Qa5];refine Qn ?_;exact QR (QfR (Qx (r:=reT (.str "told")) rfl (Qx (r:=⟨QE ns,true,[1]⟩) rfl (QZ _))) (show 2<=64 by decide)) ⟨rfl,rfl⟩
noncomputable def QcP(Qb5:Den)(Qbn:Den)(x_read_net:List D->Option Str)(sub:Str->Str->Option Bool):DS:=(Qd (Qfq (Qd (Qu 1 (Ql 1 Qb5 [] (Qa vv0 Qb))) Qe) (QC (Qu 1 (Ql 1 Qb5 [] (Qa vv0 Qb))) (QY 1 x_read_net (Qa vv0 Qb)) xNo) sub [("HeapError",some 2,(Qd (QB (Ql 1 Qbn [] (Qa vv2 Qb))) Qe))]) (Qd (QB (Qaj (Qa (dC (.str "told")) (Qa vv1 Qb)))) Qe))
structure Qi7 (d:Den):Prop where
 ok:∀l m ws,Low l->l.length<=100->Qd9 l=some (m,ws)->QfL m ((Qv ws).map nrm) (Qw ws)->d [.str (tx l)]=some (Qfy (Qy m ((Qv ws).map nrm) (Qw ws)),true)
 net:∀l m ws,Low l->l.length<=100->Qd9 l=some (m,ws)->¬QfL m ((Qv ws).map nrm) (Qw ws)->d [.str (tx l)]=some (QbO 2,true)
 no:∀l,Low l->l.length<=100->Qd9 l=none->d [.str (tx l)]=some (QbO 1,true)
 thing:∀t,Qni t->d [t]=some (QbO 1,true)
def QsK{dr dw:Den}{xr:List D->Option Str}{sub:Str->Str->Option Bool}(ar:ApF dr xr)(hr:QiX dr)(hx:Qtz xr)(hw:Qi2 dw)(h1:sub "NoText" "HeapError" =some true)(h2:sub "NoNet" "HeapError" =some true):Qi7 (Qr 3 (QcP dr dw xr sub)):=by
 have bad:∀t,xr [t]=some "NoText" ->Qr 3 (QcP dr dw xr sub) [t]=some (QbO 1,true):=λt ht=>by
  obtain⟨r,e1,e2⟩:=Qjr 2 t;refine Q8 ?_;refine Qj (Qj0 (x:= "NoText") (Q0 (Qai ar) Qad) (QmQ ar e1 (by rw[e2];rfl) (by rw[e2];exact ht)) h1 ?_);exact Qj (Q5 (Qq (r:=⟨[.exc "NoText"],true,[]⟩) rfl hw.txt rfl) ⟨rfl,rfl⟩)
 refine⟨λl m ws hl h6 hp hO=>Q8 ?_,λl m ws hl h6 hp hO=>Q8 ?_,λl hl h6 hp=>bad _ (hx.txt l hl h6 hp),λt ht=>bad t (hx.thing t ht)⟩
 .obtain⟨m10,hok,et,h24,_⟩:=Qgn hp h6;have hm:=QfT hok;have hd:dr [.str (tx l)]=slT (Qy m ((Qv ws).map nrm) (Qw ws)):=by rw[et];exact hr m ws m10 ⋯ hok ⋯ hO
  refine run_seq (QjV (run_seq (Qz (Qq (r:=⟨[.str (tx l)],true,[]⟩) rfl hd rfl) ?_)));rw[Qa5];refine Qn ?_;exact QR (QfR (Qx (r:=reT (.str "told")) rfl (Qx (r:=⟨Qy m ((Qv ws).map nrm) (Qw ws),true,[1]⟩) rfl (QZ _))) (show 2<=64 by decide)) ⟨rfl,rfl⟩
 .refine Qj (Qj0 (x:= "NoNet") (Q0 (Qai ar) Qad) (QmQ ar (r:=⟨[.str (tx l)],true,[]⟩) rfl rfl (hx.net l m ws hl h6 hp hO)) h2 ?_);exact Qj (Q5 (Qq (r:=⟨[.exc "NoNet"],true,[]⟩) rfl hw.net rfl) ⟨rfl,rfl⟩)
def QyY:Str.ofString "told" =tx [116,111,108,100]:= ∅
def Qrq:Str.ofString "refused" =tx [114,101,102,117,115,101,100]:= ∅
def Qpr(n:Nat):(D.str (Str.ofString "told")).sim n=true:=by
 rw[QyY];exact Qd3 ∅
def Ql1(k:Int):(QbO k).sim 8=true:=by
 show([D.str (Str.ofString "refused"),.int k].all (D.sim 7))=true;have:(D.str (Str.ofString "refused")).sim 7=true:=by
  rw[Qrq];exact Qd3 ∅
 simp only[Zbc,Zbj,this,Zbp,Zbq];rfl
noncomputable def Qez(QbV:Den)(Qas:Den):DS:=(Qd (Qu 1 (Ql 1 QbV [] (Qa vv0 Qb))) (Qd (Qu 2 (Ql 1 Qas [] (Qa vv0 Qb))) (Qd (sIf (Qf (dOp (Qcp false) vv1 (dC .non))) (Qd (QB (dOp gEq vv2 (Qaj (Qa (dC (.str "refused")) (Qa kk1 Qb))))) Qe) Qe) (Qd (sIf (bOr (Qf (dOp gNe (Qm vv2 kk0) (dC (.str "told")))) (bOr (Qcs (Qf (QcM "list" (Qm vv2 kk1)))) (Qf (dOp gNe (Qm vv2 kk1) vv1)))) (Qd (QB (dC (.bl false))) Qe) Qe) (Qd (Qbd (Q3 (Qm vv2 kk1)) (.nm 3) (Qd (sIf (bOr (Qcs (Qf (QcM "int" vv3))) (Qf (QcM "bool" vv3))) (Qd (QB (dC (.bl false))) Qe) Qe) Qe)) (Qd (QB (dC (.bl true))) Qe))))))
def Qod(d:Den):Prop:=∀l,Low l->l.length<=125->d [.str (tx l)]=some (.bl true,true)
def QjW{fa:DE}{ρ:En}{r:R}(k:Int)(h:fa ρ=some r)(e:r.d=QbO k):dOp gEq fa (Qaj (Qa (dC (.str "refused")) (Qa (dC (.int k)) Qb))) ρ=some (reT (.bl true)):=
 Qsq (d:=QbO k) (rb:=⟨QbO k,true,[]⟩) h e rfl rfl (Ql1 k)
def Qsp{fa:DE}{ρ:En}{r:R}{a b:D}(h:fa ρ=some r)(e:r.d= .tup [a,b]):Qm fa (dC (.int 0)) ρ=some (HS.R.norm ⟨a,r.fr,r.M⟩)/\Qm fa (dC (.int 1)) ρ=some (HS.R.norm ⟨b,r.fr,r.M⟩):=by
 unfold Qm;rw[h];simp only[Za,e,QxW];exact⟨rfl,rfl⟩
def Qu5{dr df:Den}(hr:Qn2 dr)(hf:Qjf df):Qod (Qr 4 (Qez dr df)):=λl hw hl=>by
 refine Q8 ?_;have e1:=hr l hw ⋯;cases hp:QhP l with
 | none=>
  rw[hp]at e1;have e2:=hf.no l hw hl hp;refine rsa (Qq (r:=⟨[.str (tx l)],true,[]⟩) rfl e1 rfl) ?_;refine rsa (Qq (r:=⟨[.str (tx l)],true,[]⟩) rfl e2 rfl) ?_;exact Qj (Qs (b:=true) (Qo (r:=reT (.bl true)) rfl rfl) (λ_=>Qj (Q5 (QjW 1 (r:=⟨QbO 1,true,[]⟩) rfl rfl) ⟨rfl,rfl⟩)) (λh=>by cases h))
 | some ns=>
  rw[hp]at e1;have e2:=hf.ok l ns hw hl hp;refine rsa (Qq (r:=⟨[.str (tx l)],true,[]⟩) rfl e1 rfl) ?_;refine rsa (Qq (r:=⟨[.str (tx l)],true,[]⟩) rfl e2 rfl) ?_;change Run _ [slT (.str (tx l)),slT (QE ns),some (Qfy (QE ns),true),none] _;refine Qj (Qs (b:=false) (Qo (r:=reT (.bl false)) rfl rfl) (λh=>by cases h) (λ_=>Qn ?_));obtain⟨i0,i1⟩:=Qsp (fa:=Qc 2) (ρ:=[slT (.str (tx l)),slT (QE ns),some (Qfy (QE ns),true),none]) (r:=⟨Qfy (QE ns),true,[2]⟩) rfl rfl;have s1:=Qpr 8;refine Qj (Qs (b:=false) (Qab (a:=false) (b:=false) (Qo (Qk1 (d:= .str "told") (rb:=reT (.str "told")) i0 rfl rfl rfl s1) rfl) (Qab (a:=false) (b:=false) (Qdf (b:=true) (Qo (r:=reT (.bl true)) ?_ rfl)) (Qo (Qk1 (d:=QE ns) (rb:=⟨QE ns,true,[1]⟩) i1 rfl rfl rfl (QrR ns)) rfl))) (λh=>by cases h) (λ_=>Qn ?_))
  .unfold QcM;rw[i1];rfl
  refine Qco (P:=λρ=>True) ?_ ?_
  .refine Qbq (toD:=D.int) ns (λi ρ=>∃j2 j3,ρ=[slT (.str (tx l)),slT (QE ns),j2,j3]) (Qaz (xs:=ns.map D.int) i1 rfl) rfl ⟨_,none,rfl⟩ ?_ (λ_ _=>trivial);rintro i n ρ hi ⟨j2,j3,rfl⟩;refine⟨[slT (.str (tx l)),slT (QE ns),j2,slI n],rfl,?_⟩;exact Qj (Qs (b:=false) (Qab (a:=false) (b:=false) (Qdf (b:=true) (Qo (r:=reT (.bl true)) rfl rfl)) (Qo (r:=reT (.bl false)) rfl rfl)) (λh=>by cases h) (λ_=>Qn (Qn ⟨_,_,rfl⟩)))
  .intro ρ _;exact QR (r:=reT (.bl true)) rfl ⟨rfl,rfl⟩
noncomputable def QeA(QbZ:Den)(Qaq:Den)(QcB:Den):DS:=(Qd (Qu 1 (Ql 1 QbZ [] (Qa vv0 Qb))) (Qd (Qu 2 (Ql 1 Qaq [] (Qa vv0 Qb))) (Qd (sIf (Qf (dOp (Qcp false) vv1 (dC .non))) (Qd (QB (dOp gEq vv2 (Qaj (Qa (dC (.str "refused")) (Qa kk1 Qb))))) Qe) Qe) (Qd (Qu 3 (Ql 1 QcB [] (Qa vv1 Qb))) (Qd (sIf (Qf (dOp (Qcp false) vv3 (dC .non))) (Qd (QB (dOp gEq vv2 (Qaj (Qa (dC (.str "refused")) (Qa kk2 Qb))))) Qe) Qe) (Qd (sIf (bOr (Qcs (Qf (QcM "tuple" (Qm vv2 kk1)))) (Qcs (Qf (QcM "list" (Qm (Qm vv2 kk1) kk1))))) (Qd (QB (dC (.bl false))) Qe) Qe) (Qd (QB (dOp gEq vv2 (Qaj (Qa (dC (.str "told")) (Qa vv3 Qb))))) Qe)))))))
def Qos(d:Den):Prop:=∀l,Low l->l.length<=100->d [.str (tx l)]=some (.bl true,true)
def Qtq(m:Int)(R L:Lpp):(Qy m R L).sim 7=true:=by
 have hp:∀(A:Lpp),(Qg A).sim 6=true:=λA=>by
  show(A.map pairD).all (D.sim 5)=true;rw[ZC];intro d hd;obtain⟨t,ht,rfl⟩:=Zz.mp hd;rfl
 show([D.int m,Qg R,Qg L].all (D.sim 6))=true;simp only[Zbc,Zbj,hp R,hp L,ZaK];rfl
def QuO{dn df dm:Den}(hn:QnL dn)(hf:Qi7 df)(hm:QlA dm):Qos (Qr 4 (QeA dn df dm)):=λl hw hl=>by
 refine Q8 ?_;have e1:=hn l hw hl;cases hp:Qd9 l with
 | none=>
  rw[hp]at e1;have e2:=hf.no l hw hl hp;refine rsa (Qq (r:=⟨[.str (tx l)],true,[]⟩) rfl e1 rfl) ?_;refine rsa (Qq (r:=⟨[.str (tx l)],true,[]⟩) rfl e2 rfl) ?_;exact Qj (Qs (b:=true) (Qo (r:=reT (.bl true)) rfl rfl) (λ_=>Qj (Q5 (QjW 1 (r:=⟨QbO 1,true,[]⟩) rfl rfl) ⟨rfl,rfl⟩)) (λh=>by cases h))
 | some q=>
  obtain⟨m,ws⟩:=q;rw[hp]at e1;obtain⟨m10,hok,et,h24,_⟩:=Qgn hp hl;have hmany:=QfT hok;by_cases hO:QfL m ((Qv ws).map nrm) (Qw ws)
  .have e2:=hf.ok l m ws hw hl hp hO;have e3:=hm.ok m (Qv ws) (Qw ws) ⋯ hO;refine rsa (Qq (r:=⟨[.str (tx l)],true,[]⟩) rfl e1 rfl) ?_;refine rsa (Qq (r:=⟨[.str (tx l)],true,[]⟩) rfl e2 rfl) ?_;change Run _ [slT (.str (tx l)),slT (Qy m (Qv ws) (Qw ws)),some (Qfy (Qy m ((Qv ws).map nrm) (Qw ws)),true),none] _;refine Qj (Qs (b:=false) (Qo (r:=reT (.bl false)) rfl rfl) (λh=>by cases h) (λ_=>Qn ?_));refine rsa (Qq (r:=⟨[Qy m (Qv ws) (Qw ws)],true,[1]⟩) rfl e3 rfl) ?_;change Run _ [slT (.str (tx l)),slT (Qy m (Qv ws) (Qw ws)),some (Qfy (Qy m ((Qv ws).map nrm) (Qw ws)),true),slT (Qy m ((Qv ws).map nrm) (Qw ws))] _;refine Qj (Qs (b:=false) (Qo (r:=reT (.bl false)) rfl rfl) (λh=>by cases h) (λ_=>Qn ?_));obtain⟨i0,i1⟩:=Qsp (fa:=Qc 2) (ρ:=[slT (.str (tx l)),slT (Qy m (Qv ws) (Qw ws)),some (Qfy (Qy m ((Qv ws).map nrm) (Qw ws)),true),slT (Qy m ((Qv ws).map nrm) (Qw ws))]) (r:=⟨Qfy (Qy m ((Qv ws).map nrm) (Qw ws)),true,[2]⟩) rfl rfl;obtain⟨_,j1,_⟩:=QeO (m:=m) (R:=(Qv ws).map nrm) (L:=Qw ws) i1 rfl;refine Qj (Qs (b:=false) (Qab (a:=false) (b:=false) (Qdf (b:=true) (Qo (r:=reT (.bl true)) ?_ rfl)) (Qdf (b:=true) (Qo (r:=reT (.bl true)) ?_ rfl))) (λh=>by cases h) (λ_=>Qn ?_))
   .unfold QcM;rw[i1];rfl
   .unfold QcM;rw[j1];rfl
   refine QR (Qsq (d:=Qfy (Qy m ((Qv ws).map nrm) (Qw ws))) (ra:=⟨Qfy (Qy m ((Qv ws).map nrm) (Qw ws)),true,[2]⟩) (rb:=⟨Qfy (Qy m ((Qv ws).map nrm) (Qw ws)),true,[3]⟩) rfl rfl rfl rfl ?_) ⟨rfl,rfl⟩;show([D.str (Str.ofString "told"),Qy m ((Qv ws).map nrm) (Qw ws)].all (D.sim 7))=true;simp only[Zbc,Zbj,Qtq,Qpr,ZaK]
  .have e2:=hf.net l m ws hw hl hp hO;have e3:=hm.no m (Qv ws) (Qw ws) ⋯ hO;refine rsa (Qq (r:=⟨[.str (tx l)],true,[]⟩) rfl e1 rfl) ?_;refine rsa (Qq (r:=⟨[.str (tx l)],true,[]⟩) rfl e2 rfl) ?_;change Run _ [slT (.str (tx l)),slT (Qy m (Qv ws) (Qw ws)),some (QbO 2,true),none] _;refine Qj (Qs (b:=false) (Qo (r:=reT (.bl false)) rfl rfl) (λh=>by cases h) (λ_=>Qn ?_));refine rsa (Qq (r:=⟨[Qy m (Qv ws) (Qw ws)],true,[1]⟩) rfl e3 rfl) ?_;change Run _ [slT (.str (tx l)),slT (Qy m (Qv ws) (Qw ws)),some (QbO 2,true),some (.non,true)] _;exact Qj (Qs (b:=true) (Qo (r:=reT (.bl true)) rfl rfl) (λ_=>Qj (Q5 (QjW 2 (r:=⟨QbO 2,true,[]⟩) rfl rfl) ⟨rfl,rfl⟩)) (λh=>by cases h))
section
variable {fa fb fc:DE}{ρ:En}{ra rb r:R}
def Qpn{i:Int}(h:fa ρ=some r)(e:r.d= .int i)(hi:i.natAbs<10^60):dBf Qfv (Qa fa Qb) ρ=some (reT (.str (QW i))):=Qf7 h (by rw[e];exact Qr7 hi)
def Qo7{A B:List Str}(ha:fa ρ=some ra)(ea:ra.d= .lst (A.map .str))(hb:fb ρ=some rb)(eb:rb.d= .lst (B.map .str))(hl:A.length+B.length<=16000000):QL fa fb ρ=some (reT (.lst ((A++B).map .str))):=by
 unfold QL;rw[ha,Za,hb,Za,ea,eb];show(if _ then some (Qbx (A.map D.str++B.map D.str) (ra.M++rb.M))else none)=_;rw[if_pos (by rw[Zo,Zo,QaA];omega),← ZV];unfold Qbx;rw[if_pos (Qk2 _)]
def QtG{ts:List Str}(ha:fa ρ=some ra)(ea:ra.d= .lst (ts.map .str))(hl:ts.length<=1000)(hb:∀y∈ts,y.length<=100):dM1 QhX (dC (.str " ")) (Qa fa Qb) ρ=some (reT (.str (Str.join (tx [32]) ts))):=by
 refine Qgv (ra:=reT (.str " ")) rfl ha ?_;rw[ea];show(Qei (ts.map .str)).bind (λts=>if JoinOk (Str.ofString " ") ts=true then some (D.str (Txt.join (Str.ofString " ") ts))else none)=_;rw[Qm8,Za,QlW];have hj:JoinOk (tx [32]) ts=true:=by
  unfold JoinOk;rw[StrLaws.joinFits hb ?_]
  .rfl
  .have e:(tx [32]).length=1:=rfl;rw[e];omega
 rw[if_pos hj];show some (D.str (Builtin.Str.glued (tx [32]) ts))=_;rw[StrLaws.glued_eq_join]
end
def Qw0{i:Int}(h0:0<=i)(h:i<10):QW i=tx [48+i.toNat]:=by
 have:=Qgb (n:=i.toNat) ⋯;rwa[Int.toNat_of_nonneg h0]at this
def Qm3(n:Nat)(o:Option (D×Bool)):Prop:=∃l,Low l/\l.length<=n/\o=some (.str (tx l),true)
def Qw9(a b:List Nat):tx a++tx b=tx (a++b):=Qd8 (by rw[Qow,Qak,Qak,Qak])
def Qdo{a b:List Nat}(ha:Low a)(hb:Low b):Low (a++b):=λc hc=>by
 rcases ZG.mp hc with h | h
 .exact ha c h
 .exact hb c h
section
variable {fa fb:DE}{ρ:En}{ra rb r:R}
def Qdh{a b:List Nat}(ha:fa ρ=some ra)(ea:ra.d= .str (tx a))(hb:fb ρ=some rb)(eb:rb.d= .str (tx b))(hl:a.length+b.length<=10000):QL fa fb ρ=some (reT (.str (tx (a++b)))):=by
 rw[Qwb ha ea hb eb (by rw[Qam,Qam];omega),Qw9]
def Qvj{l:List Nat}{k:Nat}(ha:fa ρ=some ra)(ea:ra.d= .str (tx l))(hb:fb ρ=some rb)(eb:rb.d= .int k)(hl:l.length<=10000):QU fa QX (QD fb) ρ=some (reT (.str (tx (l.take k)))):=by
 unfold QU QX QD;simp only[ha,hb,Za,ea,eb];show(if(tx l).length<=sizeLine then some (HS.R.mk (.str (Txt.slice (tx l) none (some (k:Int)))) true [])else none)=_;rw[if_pos (by rw[QaA,Qam];omega),Quq]
def Qpx{l:List Nat}{k:Nat}(ha:fa ρ=some ra)(ea:ra.d= .str (tx l))(hb:fb ρ=some rb)(eb:rb.d= .int k)(hl:l.length<=10000):QU fa (QD fb) QX ρ=some (reT (.str (tx (l.drop k)))):=by
 unfold QU QX QD;simp only[ha,hb,Za,ea,eb];show(if(tx l).length<=sizeLine then some (HS.R.mk (.str (Txt.slice (tx l) (some (k:Int)) none)) true [])else none)=_;rw[if_pos (by rw[QaA,Qam];omega),Qpk]
end
noncomputable def Qm7:List Nat:=[48,49,50,51,52,53,54,55,56,57,45,62,42,32]
def Qza:Str.ofString "0123456789->* " =tx Qm7:= ∅
noncomputable def sgA:List Nat:=cp (Str.ofString " !\"#$&'()*+,-./0123456789:;<=>?@ABCDEFGHIJKLMNOPQRSTUVWXYZ[\\]^_`")
noncomputable def sgB:List Nat:=cp (Str.ofString "abcdefghijklmnopqrstuvwxyz{|}~")
def QAn:Str.ofString " !\"#$&'()*+,-./0123456789:;<=>?@ABCDEFGHIJKLMNOPQRSTUVWXYZ[\\]^_`" =tx sgA:=(Qgw _).symm
def QzA:Str.ofString "abcdefghijklmnopqrstuvwxyz{|}~" =tx sgB:=(Qgw _).symm
def QrX:(sgA++sgB).length=94:= nofun
def Que{l:List Nat}(h:l.all (λc=>decide (c<200))=true):Low l:=λc hc=>by
 have:=ZC.mp h c hc;simpa using this
def Qxq:Low (sgA++sgB):=Que nofun
def Qtf:Low Qm7:=Que ∅
noncomputable def Qgm:DS:=(Qd (Qu 1 (dC (.str " !\"#$&'()*+,-./0123456789:;<=>?@ABCDEFGHIJKLMNOPQRSTUVWXYZ[\\]^_`"))) (Qd (Qu 1 (QL vv1 (dC (.str "abcdefghijklmnopqrstuvwxyz{|}~")))) (Qd (sIf (Qf (dOp gEq (dOp Qan vv0 kk3) kk0)) (Qd (QB (Qm (dC (.str "0123456789->* ")) (dOp Qan (dOp Qdv vv0 kk3) QAS))) Qe) Qe) (Qd (QB (Qm vv1 (dOp Qan (dOp Qdv vv0 kk3) QA0))) Qe))))
def Qnd(d:Den):Prop:=∀n:Int,0<=n->∃c,c<200/\d [.int n]=some (.str (tx [c]),true)
def Qv9:Qnd (Qr 2 Qgm):=λn h0=>by
 obtain⟨c1,hc1⟩:∃c,Qm7[(n / 3 % 14).toNat]? =some c:=⟨_,Zag (by show(n / 3 % 14).toNat<14;omega)⟩;obtain⟨c2,hc2⟩:∃c,(sgA++sgB)[(n / 3 % 94).toNat]? =some c:=⟨_,Zag (by rw[QrX];omega)⟩;refine⟨if n % 3=0 then c1 else c2,?_,Q8 ?_⟩
 .split
  .exact Qtf c1 (Zy hc1)
  .exact Qxq c2 (Zy hc2)
 refine rsa (d:= .str (tx sgA)) (congrArg (λx=>some (HS.R.mk (.str x) true [])) QAn) ?_;change Run _ [slI n,slT (.str (tx sgA))] _;have hz:sgA.length+sgB.length=94:=by rw[← Zd];exact QrX
 refine rsa (Qdh (a:=sgA) (b:=sgB) (ra:=reT (.str (tx sgA))) (rb:=reT (.str (tx sgB))) rfl rfl (congrArg (λx=>some (HS.R.mk (.str x) true [])) QzA) rfl ⋯) ?_;change Run _ [slI n,slT (.str (tx (sgA++sgB)))] _;refine Qj (Qs (b:=decide (n % 3=0)) (Qo (Qcn (QaH rfl rfl rfl rfl ∅) rfl rfl rfl) rfl) (λh=>?_) (λh=>Qn ?_))
 .have h:=of_decide_eq_true h;rw[if_pos h];refine Qj (Q5 (QbX (l:=Qm7) (i:=(n / 3 % 14).toNat) (ra:=reT (.str (tx Qm7))) (congrArg (λx=>some (HS.R.mk (.str x) true [])) Qza) rfl (QaH (Qes rfl rfl rfl rfl ∅ ∅) rfl rfl rfl ∅) (by show D.int (n / 3 % 14)=_;congr 1;omega) hc1 ⋯) ⟨rfl,rfl⟩)
 .have h:=of_decide_eq_false h;rw[if_neg h];exact QR (QbX (l:=sgA++sgB) (i:=(n / 3 % 94).toNat) (ra:=reT (.str (tx (sgA++sgB)))) rfl rfl (QaH (Qes rfl rfl rfl rfl ∅ ∅) rfl rfl rfl ∅) (by show D.int (n / 3 % 94)=_;congr 1;omega) hc2 ⋯) ⟨rfl,rfl⟩
noncomputable def Qfh(QcC:Den):DS:=(Qd (Qu 2 (dOp Qan (QaD vv1 Qvq) Qoj)) (Qd (Qu 3 (Ql 1 QcC [] (Qa (dOp Qdv vv2 QyI) Qb))) (Qd (Qu 4 (dOp Qan (dOp Qdv vv2 kk3) (QL (dBf Qaa (Qa vv0 Qb)) kk1))) (Qd (sIf (Qf (dOp gEq (dOp Qan vv2 kk3) kk0)) (Qd (QB (QL (QL (QU vv0 QX (QD vv4)) vv3) (QU vv0 (QD vv4) QX))) Qe) Qe) (Qd (sIf (Qf (dOp gEq (dOp Qan vv2 kk3) kk1)) (Qd (QB (QL (QU vv0 QX (QD vv4)) (QU vv0 (QD (QL vv4 kk1)) QX))) Qe) Qe) (Qd (QB (QL (QL (QU vv0 QX (QD vv4)) vv3) (QU vv0 (QD (QL vv4 kk1)) QX))) Qe))))))
def QlL(d:Den):Prop:=∀l c,Low l->l.length<=400->Qm3 (l.length+1) (d [.str (tx l),.int c])
noncomputable def QyK:DS:=(Qd (sIf (Qf (dOp gEq (dOp Qan (Qc 2) (dC (.int 3))) (dC (.int 0)))) (Qd (QB (QL (QL (QU (Qc 0) QX (QD (Qc 4))) (Qc 3)) (QU (Qc 0) (QD (Qc 4)) QX))) Qe) Qe) (Qd (sIf (Qf (dOp gEq (dOp Qan (Qc 2) (dC (.int 3))) (dC (.int 1)))) (Qd (QB (QL (QU (Qc 0) QX (QD (Qc 4))) (QU (Qc 0) (QD (QL (Qc 4) (dC (.int 1)))) QX))) Qe) Qe) (Qd (QB (QL (QL (QU (Qc 0) QX (QD (Qc 4))) (Qc 3)) (QU (Qc 0) (QD (QL (Qc 4) (dC (.int 1)))) QX))) Qe)))
def QvQ{l:List Nat}{c n:Int}{s a:Nat}{ρ:En}(hρ:ρ=[slT (.str (tx l)),slI c,slI n,slT (.str (tx [s])),slI a])(hw:Low l)(hl:l.length<=400)(hs:s<200):
  ∃l',Low l'/\l'.length<=l.length+1/\Run QyK ρ (Rt λd fr=>d= .str (tx l')/\fr=true):=by
 have ht:Low (l.take a):=λd hd=>hw d (ZaF hd);have hd0:Low (l.drop a):=λd hd=>hw d (Zbe hd);have hd1:Low (l.drop (a+1)):=λd hd=>hw d (Zbe hd);have hl1:(l.take a).length+(l.drop a).length=l.length:=by rw[← Zd,Zan]
 have hl2:(l.drop (a+1)).length<=(l.drop a).length:=by rw[ZaG,ZaG];omega
 have tk:QU (Qc 0) QX (QD (Qc 4)) ρ=some (reT (.str (tx (l.take a)))):=by
  rw[hρ];exact Qvj (ra:=reT (.str (tx l))) (rb:=reI a) rfl rfl rfl rfl ⋯
 have dr0:QU (Qc 0) (QD (Qc 4)) QX ρ=some (reT (.str (tx (l.drop a)))):=by
  rw[hρ];exact Qpx (ra:=reT (.str (tx l))) (rb:=reI a) rfl rfl rfl rfl ⋯
 have dr1:QU (Qc 0) (QD (QL (Qc 4) (dC (.int 1)))) QX ρ=some (reT (.str (tx (l.drop (a+1))))):=by
  rw[hρ];exact Qpx (k:=a+1) (ra:=reT (.str (tx l))) (rb:=reI ((a:Int)+1)) rfl rfl (Qdc rfl rfl rfl rfl) rfl ⋯
 have v3:Qc 3 ρ=some (reT (.str (tx [s]))):=by rw[hρ];rfl
 have ts:=Qdh (a:=l.take a) (b:=[s]) tk rfl v3 rfl (by rw[ZI];omega);have t0:Qf (dOp gEq (dOp Qan (Qc 2) (dC (.int 3))) (dC (.int 0))) ρ=some (decide (n % 3=0)):=by
  rw[hρ];exact Qo (Qcn (QaH (a:=n) rfl rfl rfl rfl ∅) rfl rfl rfl) rfl
 have t1:Qf (dOp gEq (dOp Qan (Qc 2) (dC (.int 3))) (dC (.int 1))) ρ=some (decide (n % 3=1)):=by
  rw[hρ];exact Qo (Qcn (QaH (a:=n) rfl rfl rfl rfl ∅) rfl rfl rfl) rfl
 have l1:(l.take a++[s]).length=(l.take a).length+1:=by rw[Zd];rfl
 clear hρ v3;cases hz0:decide (n % 3=0)with
 | true=>
  rw[hz0]at t0;refine⟨l.take a++[s]++l.drop a,Qdo (Qdo ht (Qeh hs)) hd0,by rw[Zd,l1];omega,?_⟩;exact Qj (Qs (b:=true) t0 (λ_=>Qj (Q5 (Qdh (b:=l.drop a) ts rfl dr0 rfl (by rw[l1];omega)) ⟨rfl,rfl⟩)) (λh=>by cases h))
 | false=>
  rw[hz0]at t0;cases hz1:decide (n % 3=1)with
  | true=>
   rw[hz1]at t1;refine⟨l.take a++l.drop (a+1),Qdo ht hd1,by rw[Zd];omega,?_⟩;refine Qj (Qs (b:=false) t0 (λh=>by cases h) (λ_=>Qn ?_));exact Qj (Qs (b:=true) t1 (λ_=>Qj (Q5 (Qdh (b:=l.drop (a+1)) tk rfl dr1 rfl ⋯) ⟨rfl,rfl⟩)) (λh=>by cases h))
  | false=>
   rw[hz1]at t1;refine⟨l.take a++[s]++l.drop (a+1),Qdo (Qdo ht (Qeh hs)) hd1,by rw[Zd,l1];omega,?_⟩;refine Qj (Qs (b:=false) t0 (λh=>by cases h) (λ_=>Qn ?_));refine Qj (Qs (b:=false) t1 (λh=>by cases h) (λ_=>Qn ?_));exact QR (Qdh (b:=l.drop (a+1)) ts rfl dr1 rfl (by rw[l1];omega)) ⟨rfl,rfl⟩
def Qp8{ds:Den}(hs:Qnd ds):QlL (Qr 5 (Qfh ds)):=λl c hw hl=>by
 have hn0:0<=c*69621 % 2147483629:=Zbx _ ∅;have e1:dOp Qan (QaD (Qc 1) (dC (.int 69621))) (dC (.int 2147483629)) (QP 5 [.str (tx l),.int c])=some (reI (c*69621 % 2147483629)):=QaH (Qip rfl rfl rfl rfl (Qi5 ∅)) rfl rfl rfl ∅;generalize c*69621 % 2147483629=n at hn0 e1;obtain⟨s,hs1,hs2⟩:=hs (n / 4096) ⋯;obtain⟨a,ha⟩:∃a:Nat,(a:Int)=n / 3 % ((l.length:Int)+1):=⟨(n / 3 % ((l.length:Int)+1)).toNat,Int.toNat_of_nonneg (Zbx _ ⋯)⟩;obtain⟨l',h1,h2,h3⟩:=QvQ (l:=l) (c:=c) (n:=n) (s:=s) (a:=a) rfl hw hl hs1;refine⟨l',h1,h2,Q8 ?_⟩;refine rsa e1 ?_;refine rsa (Qq (r:=⟨[.int (n / 4096)],true,[]⟩) (Qx (Qes (a:=n) (b:=4096) rfl rfl rfl rfl ∅ ∅) (QZ _)) hs2 rfl) ?_;refine run_seq (Qz (r:=reI a) ?_ ?_)
 .rw[ha];exact QaH (a:=n / 3) (b:=(l.length:Int)+1) (Qes (a:=n) rfl rfl rfl rfl ∅ ∅) rfl (Qdc (a:=l.length) (b:=1) (QeS (l:=l) (r:=reT (.str (tx l))) rfl rfl ⋯) rfl rfl rfl) rfl ⋯
 rw[Qa5];exact h3
noncomputable def Qfb:DS:=(Qd (Qu 1 (Q4 (Qa (dC (.str "")) (Qa (dC (.str " ")) (Qa (dC (.str "-")) (Qa (dC (.str "-0")) (Qa (dC (.str "00")) (Qa (dC (.str "0 ")) (Qa (dC (.str " 0")) (Qa (dC (.str "+1")) (Qa (dC (.str "1  2")) (Qa (dC (.str "1_0")) (Qa (dC (.str "999999999999999999")) (Qa (dC (.str "1000000000000000000")) Qb)))))))))))))) (Qd (Qu 1 (QL vv1 (Q4 (Qa (dC (.str "-999999999999999999")) (Qa (dC (.str "-1000000000000000000")) (Qa (dC (.str "--1")) (Qa (dC (.str "- 1")) (Qa (dC (.str "1\n")) (Qa (dC (.str "\t1")) (Qa (dC (.str "1.0")) (Qa (dC (.str "0x1")) (Qa (dC (.str "-01")) Qb)))))))))))) (Qd (QB (Qm (QL vv1 (Q4 (Qa (dC (.str "1 -")) (Qa (dC (.str "1,2")) (Qa (dC (.str "012")) Qb))))) (dOp Qan vv0 Qyb))) Qe)))
noncomputable def Qfe:DS:=(Qd (Qu 1 (Q4 (Qa (dC (.str "")) (Qa (dC (.str "1")) (Qa (dC (.str "1 ")) (Qa (dC (.str "0 0-1")) (Qa (dC (.str "9 0-9")) (Qa (dC (.str "1 0-1*1")) (Qa (dC (.str "1 0-1*02")) (Qa (dC (.str "1 0-1*41")) (Qa (dC (.str "1 0-1*40")) (Qa (dC (.str "1 0-1*")) (Qa (dC (.str "1 0-1**2")) Qb))))))))))))) (Qd (Qu 1 (QL vv1 (Q4 (Qa (dC (.str "1 0>1")) (Qa (dC (.str "1 1>0")) (Qa (dC (.str "1 0-0")) (Qa (dC (.str "10 0-1")) (Qa (dC (.str "1  0-1")) (Qa (dC (.str "1 0-1 ")) (Qa (dC (.str " 1 0-1")) (Qa (dC (.str "1 0-1*2*2")) (Qa (dC (.str "1 0-1*40 0>1")) Qb)))))))))))) (Qd (QB (Qm (QL vv1 (Q4 (Qa (dC (.str "2 0-1*20 1-2*20")) (Qa (dC (.str "1 0-1*+2")) (Qa (dC (.str "1 2-0 0-1*1")) (Qa (dC (.str "3 0-3 1-0*3 2>1*5")) Qb)))))) (dOp Qan vv0 Qyb))) Qe)))
def QhV(d:Den):Prop:=∀c:Int,Qm3 25 (d [.int c])
def QrS{A B C:List Str}{fA fB fC:DE}(hA:∀ρ,fA ρ=some (reT (.lst (A.map .str))))(hB:∀ρ,fB ρ=some (reT (.lst (B.map .str))))(hC:∀ρ,fC ρ=some (reT (.lst (C.map .str))))(hl:(A++B++C).length=24)(hz:(A++B++C).all (λt=>(cp t).all (λc=>decide (c<200)) && decide ((cp t).length<=25))=true):
  QhV (Qr 2 (Qd (Qu 1 fA) (Qd (Qu 1 (QL (Qc 1) fB)) (Qd (QB (Qm (QL (Qc 1) fC) (dOp Qan (Qc 0) (dC (.int 24))))) Qe)))):=λc=>by
 have hlen:(A++B).length+C.length=24:=by rw[← Zd];exact hl
 have hlen2:A.length+B.length<=24:=by rw[Zd]at hlen;omega
 obtain⟨t,ht⟩:∃t,(A++B++C)[(c % 24).toNat]? =some t:=⟨_,Zag (by rw[hl];omega)⟩;have hm:=ZC.mp hz t (Zy ht);rw[Zf]at hm;refine⟨cp t,Que hm.1,of_decide_eq_true hm.2,Q8 ?_⟩;refine rsa (hA _) ?_;change Run _ [slI c,slT (.lst (A.map .str))] _;refine rsa (Qo7 (A:=A) (B:=B) (ra:=⟨.lst (A.map .str),true,[1]⟩) rfl rfl (hB _) rfl ⋯) ?_;change Run _ [slI c,slT (.lst ((A++B).map .str))] _;rw[Qgw];exact QR (QfN (ts:=A++B++C) (i:=(c % 24).toNat) (t:=t) (Qo7 (A:=A++B) (B:=C) (ra:=⟨.lst ((A++B).map .str),true,[1]⟩) rfl rfl (hC _) rfl ⋯) rfl (QaH rfl rfl rfl rfl ∅) (by show D.int (c % 24)=_;congr 1;omega) ht) ⟨rfl,rfl⟩
def Qu1:QhV (Qr 2 Qfb):=QrS (A:=[""," ","-","-0","00","0 "," 0","+1","1  2","1_0","999999999999999999","1000000000000000000"]) (B:=["-999999999999999999","-1000000000000000000","--1","- 1","1\n","\t1","1.0","0x1","-01"]) (C:=["1 -","1,2","012"]) (λ_=>rfl) (λ_=>rfl) (λ_=>rfl) nofun nofun
def QwU:QhV (Qr 2 Qfe):=QrS (A:=["","1","1 ","0 0-1","9 0-9","1 0-1*1","1 0-1*02","1 0-1*41","1 0-1*40","1 0-1*","1 0-1**2"]) (B:=["1 0>1","1 1>0","1 0-0","10 0-1","1  0-1","1 0-1 "," 1 0-1","1 0-1*2*2","1 0-1*40 0>1"]) (C:=["2 0-1*20 1-2*20","1 0-1*+2","1 2-0 0-1*1","3 0-3 1-0*3 2>1*5"]) (λ_=>rfl) (λ_=>rfl) (λ_=>rfl) nofun nofun
def Qeb(n b:Nat)(L:List (List Nat)):Prop:=L.length<=n/\∀w∈L,Low w/\w.length<=b
def Qnu{fa:DE}{ρ:En}{ra:R}{L:List (List Nat)}{n b:Nat}(h:Qeb n b L)(hn:n<=100)(hb:b<=100)(ha:fa ρ=some ra)(ea:ra.d= .lst (L.map λw=> .str (tx w))):∃l,Low l/\l.length<=n*b+n/\dM1 QhX (dC (.str " ")) (Qa fa Qb) ρ=some (reT (.str (tx l))):=by
 have hh:=h.1;refine⟨cp (Str.join (tx [32]) (L.map tx)),?_,?_,?_⟩
 .rw[QeG,ZF];refine Qrg ∅ λx hx d hd=>?_;obtain⟨w,hw,rfl⟩:=Zz.mp hx;exact(h.2 w hw).1 d hd
 .rw[← Qcm];have h1:=StrLaws.join_length_le (tx [32]) (L.map tx);have h2:=StrLaws.sumLen_le (B:=b) (L.map tx) λy hy=>by
   obtain⟨w,hw,rfl⟩:=Zz.mp hy;rw[Qam];exact(h.2 w hw).2
  rw[Zo]at h1 h2;have e:(tx [32]).length=1:=rfl;rw[e,Nat.mul_one]at h1;have h3:L.length*b<=n*b:=Nat.mul_le_mul_right _ h.1;omega
 .rw[Qgw];exact QtG (ts:=L.map tx) ha (by rw[ea,ZF];rfl) (by rw[Zo];omega) (λy hy=>by
   obtain⟨w,hw,rfl⟩:=Zz.mp hy;rw[Qam];have:=(h.2 w hw).2;omega)
def Qn7{n b:Nat}{L:List (List Nat)}{w:List Nat}(h:Qeb n b L)(hw:Low w)(hl:w.length<=b):Qeb (n+1) b (L++[w]):=⟨by rw[Zd,ZI];have:=h.1;omega,λx hx=>by
 rcases ZG.mp hx with z | z
 .exact h.2 x z
 .rw[Zi]at z;rw[z];exact⟨hw,hl⟩⟩
def Qnl{x:Nat}{fa:DE}{ρ:En}{r:R}{L:List (List Nat)}{w:List Nat}{Q:Out->Prop}(hx:ρ[x]? =some (slT (.lst (L.map λw=> .str (tx w)))))(ha:fa ρ=some r)(e:r.d= .str (tx w))(hl:L.length<=1000)(q:Q (.nx (ρ.set x (slT (.lst ((L++[w]).map λw=> .str (tx w))))))):Run (Qf1 x Qbe fa) ρ Q:=by
 refine QpC hx ha (by rw[e];rfl) (by rw[Zo];omega) ?_;rw[e];rw[ZV]at q;exact q
def Qpf{fa:DE}{ρ:En}{r:R}{i:Int}{k:Nat}(h:fa ρ=some r)(e:r.d= .int i)(hk:0<k)(hk2:k<=60)(hi:i.natAbs<10^k):∃w,Low w/\w.length<=k+1/\dBf Qfv (Qa fa Qb) ρ=some (reT (.str (tx w))):=
 ⟨cp (QW i),λc hc=>Qke hc,by rw[← Qcm];exact QhG hk hi,by
  rw[Qgw];exact Qpn h e (Zm hi (Zau ∅ hk2))⟩
def QlE{fa:DE}{ρ:En}{r:R}{i:Int}(h:fa ρ=some r)(e:r.d= .int i)(h0:0<=i)(h9:i<10):∃w,Low w/\w.length<=1/\dBf Qfv (Qa fa Qb) ρ=some (reT (.str (tx w))):=
 ⟨[48+i.toNat],Qeh ⋯,Ze _,by
  rw[← Qw0 h0 h9];exact Qpn h e ⋯⟩
noncomputable def QcR(QK:Den):DS:=(Qd (Qu 1 (Q4 Qb)) (Qd (Qbd (QdR (QL kk1 (dOp Qan (Ql 2 QK [] (Qa vv0 (Qa kk0 Qb))) kk6))) (.nm 2) (Qd (Qu 3 (QL (dOp Qge (dOp Qan (QaD (Ql 2 QK [] (Qa vv0 (Qa (QL kk1 vv2) Qb))) Qye) (dOp Qge (QaD kk2 (dOp Qqy QsP Qh2)) kk1)) (dOp Qqy QsP Qh2)) kk1)) (Qd (Qf1 1 Qbe (dBf Qfv (Qa (Qm (Q4 (Qa vv3 (Qa (dOp Qan vv3 QzC) Qb))) (dOp Qan (Ql 2 QK [] (Qa vv0 (Qa (QL kk1 vv2) Qb))) kk2)) Qb))) Qe))) (Qd (QB (dM1 QhX (dC (.str " ")) (Qa vv1 Qb))) Qe)))
def QlF(d:Den):Prop:=∀ns:List Int,ns.length<=63->Qm3 120 (d [QE ns])
def Qto{dc:Den}(hc:QiU dc):QlF (Qr 4 (QcR dc)):=λns hl=>by
 obtain⟨n,hn,hn6⟩:∃n:Nat,(n:Int)=1+ns.getD 0 0 % 6/\n<=6:=⟨(1+ns.getD 0 0 % 6).toNat,⋯,⋯⟩;have key:Run (QcR dc) (QP 4 [QE ns]) (Rt λd fr=>∃l,Low l/\l.length<=120/\d= .str (tx l)/\fr=true):=by
  refine rsa (d:= .lst []) rfl ?_;change Run _ [slF (QE ns),slT (.lst (([]:List (List Nat)).map λw=> .str (tx w))),none,none] _;refine Qco (P:=λρ=>∃L j2 j3,Qeb 6 19 L/\ρ=[slF (QE ns),slT (.lst (L.map λw=> .str (tx w))),j2,j3]) ?_ ?_
  .refine Qbq (toD:=λ(k:Nat)=> .int (k:Int)) (List.range n) (λi ρ=>∃L j2 j3,Qeb i 19 L/\ρ=[slF (QE ns),slT (.lst (L.map λw=> .str (tx w))),j2,j3]) (QhJ (n:=n) (r:=reI n) ?_ rfl ⋯) rfl ⟨[],none,none,⟨Ze _,λw hw=>by simp at hw⟩,rfl⟩ ?_ ?_
   .rw[hn];exact Qdc (a:=1) (b:=ns.getD 0 0 % 6) rfl rfl (QaH (Qq (r:=⟨[QE ns,.int (0:Nat)],false,[]⟩) rfl (hc ns 0) rfl) rfl rfl rfl ∅) rfl
   .rintro i k ρ hi ⟨L,j2,j3,hL,rfl⟩;have hik:i=k:=by
     have:=(Zj.mp hi).2;simpa using this
    subst hik;have hin:i<n:=by
     have:=(Zj.mp hi).1;simpa using this
    refine⟨[slF (QE ns),slT (.lst (L.map λw=> .str (tx w))),slI i,j3],rfl,?_⟩;have ec:∀ρ:En,ρ[0]? =some (slF (QE ns))->ρ[2]? =some (slI i)->Ql 2 dc [] (Qa (Qc 0) (Qa (QL (dC (.int 1)) (Qc 2)) Qb)) ρ=some (reI (ns.getD (1+i) 0)):=λρ h0 h2=>by
     have v0:Qc 0 ρ=some (reF (QE ns)):=by unfold Qc;rw[h0];rfl
     have v2:Qc 2 ρ=some (reI i):=by unfold Qc;rw[h2];rfl
     have a1:QL (dC (.int 1)) (Qc 2) ρ=some (reI ((1+i:Nat):Int)):=Qdc (a:=1) (b:=i) rfl rfl v2 rfl;exact Qq (Qx v0 (Qx a1 (QZ _))) (hc ns (1+i)) rfl
    generalize hcell:ns.getD (1+i) 0=c at ec;refine rsa (Qdc (a:=c*7919 % (2*10^18-1)-10^18) (b:=1) (QO (ra:=reI (c*7919 % (2*10^18-1))) (rb:=reI (10^18)) (d:= .int (c*7919 % (2*10^18-1)-10^18)) (QaH (b:=2*10^18-1) (Qip (ec _ rfl rfl) rfl rfl rfl (Qi5 ∅)) rfl rfl rfl ∅) rfl rfl) rfl rfl rfl) ?_;generalize hv:c*7919 % (2*10^18-1)-10^18+1=v;have hva:v.natAbs<10^18:= ⋯
    change Run _ [slF (QE ns),slT (.lst (L.map λw=> .str (tx w))),slI i,slI v] _;obtain⟨u,hu,hua⟩:∃u:Int,[v,v % 100][(c % 2).toNat]? =some u/\u.natAbs<10^18:=by
     have:(c % 2).toNat=0∨(c % 2).toNat=1:= ⋯
     rcases this with e | e<;>rw[e]
     .exact⟨v,rfl,hva⟩
     .exact⟨v % 100,rfl,⋯⟩
    have ei:Qm (Q4 (Qa (Qc 3) (Qa (dOp Qan (Qc 3) (dC (.int 100))) Qb))) (dOp Qan (Ql 2 dc [] (Qa (Qc 0) (Qa (QL (dC (.int 1)) (Qc 2)) Qb))) (dC (.int 2))) [slF (QE ns),slT (.lst (L.map λw=> .str (tx w))),slI i,slI v]=some (reI u):=
     Qpv (ra:=reT (.lst ([v,v % 100].map .int))) (ns:=[v,v % 100]) (QkD (Qx (r:=reI v) rfl (Qx (QaH (a:=v) rfl rfl rfl rfl ∅) (QZ _))) (show 2<=64 by decide)) rfl (QaH (ec _ rfl rfl) rfl rfl rfl ∅) rfl ⋯ hu
    obtain⟨w,w1,w2,w3⟩:=Qpf (k:=18) ei rfl ∅ ∅ hua;have hL1:=hL.1;exact run_seq (Qnl (L:=L) (w:=w) rfl w3 rfl ⋯ (Qn ⟨L++[w],_,_,Qn7 hL w1 w2,rfl⟩))
   .rintro ρ ⟨L,j2,j3,hL,rfl⟩;rw[ZU]at hL;exact⟨L,j2,j3,⟨Zx hL.1 hn6,hL.2⟩,rfl⟩
  .rintro ρ ⟨L,j2,j3,hL,rfl⟩;obtain⟨l,l1,l2,l3⟩:=Qnu (ρ:=[slF (QE ns),slT (.lst (L.map λw=> .str (tx w))),j2,j3]) (fa:=Qc 1) (ra:=⟨.lst (L.map λw=> .str (tx w)),true,[1]⟩) hL ∅ ∅ rfl rfl;exact QR l3 ⟨l,l1,l2,rfl,rfl⟩
 obtain⟨o,h1,h2⟩:=key;cases o with
 | rt d fr=>
  obtain⟨l,l1,l2,rfl,rfl⟩:=h2;exact⟨l,l1,l2,by unfold Qr;rw[h1];rfl⟩
 | _=>exact False.elim h2
noncomputable def QcT(QK:Den):DS:=(Qd (Qu 1 (Q4 (Qa (dBf Qfv (Qa (QL kk1 (dOp Qan (Ql 2 QK [] (Qa vv0 (Qa kk7 Qb))) kk8)) Qb)) Qb))) (Qd (Qbd (QdR (QL kk1 (dOp Qan (Ql 2 QK [] (Qa vv0 (Qa kk8 Qb))) kk6))) (.nm 2) (Qd (Qu 3 (dOp Qan (QaD (Ql 2 QK [] (Qa vv0 (Qa (QL kk9 vv2) Qb))) QuX) Qop)) (Qd (Qu 4 (QL (dBf Qfv (Qa (dOp Qdv (dOp Qan vv3 QsP) kk3) Qb)) (Qm (dC (.str "->")) (dOp Qan (dOp Qdv vv3 QBo) kk2)))) (Qd (Qu 4 (QL vv4 (dBf Qfv (Qa (dOp Qan (dOp Qdv vv3 Qzi) kk9) Qb)))) (Qd (sIf (Qf (dOp gEq (dOp Qan (dOp Qdv vv3 QAe) kk2) kk1)) (Qd (Qu 4 (QL (QL vv4 (dC (.str "*"))) (dBf Qfv (Qa (dOp Qan (dOp Qdv vv3 Qz8) QBd) Qb)))) Qe) Qe) (Qd (Qf1 1 Qbe vv4) Qe)))))) (Qd (QB (dM1 QhX (dC (.str " ")) (Qa vv1 Qb))) Qe)))
def QlO(d:Den):Prop:=∀ns:List Int,ns.length<=63->Qm3 90 (d [QE ns])
def Qsx{dc:Den}(hc:QiU dc):QlO (Qr 5 (QcT dc)):=λns hl=>by
 obtain⟨n,hn,hn6⟩:∃n:Nat,(n:Int)=1+ns.getD 8 0 % 6/\n<=6:=⟨(1+ns.getD 8 0 % 6).toNat,⋯,⋯⟩;have key:Run (QcT dc) (QP 5 [QE ns]) (Rt λd fr=>∃l,Low l/\l.length<=90/\d= .str (tx l)/\fr=true):=by
  obtain⟨w0,a1,a2,a3⟩:=QlE (fa:=QL (dC (.int 1)) (dOp Qan (Ql 2 dc [] (Qa (Qc 0) (Qa (dC (.int 7)) Qb))) (dC (.int 8)))) (ρ:=QP 5 [QE ns]) (i:=1+ns.getD 7 0 % 8) (Qdc (a:=1) (b:=ns.getD 7 0 % 8) rfl rfl (QaH (Qq (r:=⟨[QE ns,.int (7:Nat)],false,[]⟩) rfl (hc ns 7) rfl) rfl rfl rfl ∅) rfl) rfl ⋯ ⋯;refine rsa (d:= .lst [.str (tx w0)]) (QkD (Qx a3 (QZ _)) (show 1<=64 by decide)) ?_;change Run _ [slF (QE ns),slT (.lst (([w0]:List (List Nat)).map λw=> .str (tx w))),none,none,none] _;refine Qco (P:=λρ=>∃L j2 j3 j4,Qeb 7 10 L/\ρ=[slF (QE ns),slT (.lst (L.map λw=> .str (tx w))),j2,j3,j4]) ?_ ?_
  .refine Qbq (toD:=λ(k:Nat)=> .int (k:Int)) (List.range n) (λi ρ=>∃L j2 j3 j4,Qeb (1+i) 10 L/\ρ=[slF (QE ns),slT (.lst (L.map λw=> .str (tx w))),j2,j3,j4]) (QhJ (n:=n) (r:=reI n) ?_ rfl ⋯) rfl ⟨[w0],none,none,none,⟨Ze _,λw hw=>by rw[Zi]at hw;rw[hw];exact⟨a1,⋯⟩⟩,rfl⟩ ?_ ?_
   .rw[hn];exact Qdc (a:=1) (b:=ns.getD 8 0 % 6) rfl rfl (QaH (Qq (r:=⟨[QE ns,.int (8:Nat)],false,[]⟩) rfl (hc ns 8) rfl) rfl rfl rfl ∅) rfl
   .rintro i k ρ hi ⟨L,j2,j3,j4,hL,rfl⟩;have hik:i=k:=by
     have:=(Zj.mp hi).2;simpa using this
    subst hik;have hin:i<n:=by
     have:=(Zj.mp hi).1;simpa using this
    refine⟨[slF (QE ns),slT (.lst (L.map λw=> .str (tx w))),slI i,j3,j4],rfl,?_⟩;have ec:Ql 2 dc [] (Qa (Qc 0) (Qa (QL (dC (.int 9)) (Qc 2)) Qb)) [slF (QE ns),slT (.lst (L.map λw=> .str (tx w))),slI i,j3,j4]=some (reI (ns.getD (9+i) 0)):=by
     have a1:QL (dC (.int 9)) (Qc 2) [slF (QE ns),slT (.lst (L.map λw=> .str (tx w))),slI i,j3,j4]=some (reI ((9+i:Nat):Int)):=Qdc (a:=9) (b:=i) rfl rfl rfl rfl;exact Qq (Qx (r:=reF (QE ns)) rfl (Qx a1 (QZ _))) (hc ns (9+i)) rfl
    refine rsa (QaH (Qip ec rfl rfl rfl (Qi5 ∅)) rfl rfl rfl ∅) ?_;have hv0:0<=ns.getD (9+i) 0*48271 % 2147483647:=Zbx _ ∅;generalize ns.getD (9+i) 0*48271 % 2147483647=v at hv0;change Run _ [slF (QE ns),slT (.lst (L.map λw=> .str (tx w))),slI i,slI v,j4] _;obtain⟨x,x1,x2,x3⟩:=QlE (fa:=dOp Qdv (dOp Qan (Qc 3) (dC (.int 10))) (dC (.int 3))) (ρ:=[slF (QE ns),slT (.lst (L.map λw=> .str (tx w))),slI i,slI v,j4]) (i:=v % 10 / 3) (Qes (QaH (a:=v) rfl rfl rfl rfl ∅) rfl rfl rfl ∅ ∅) rfl ⋯ ⋯;obtain⟨y,hy,hy2⟩:∃y,([45,62]:List Nat)[(v / 64 % 2).toNat]? =some y/\y<200:=by
     have:(v / 64 % 2).toNat=0∨(v / 64 % 2).toNat=1:= ⋯
     rcases this with e | e<;>rw[e]
     .exact⟨45,rfl,∅⟩
     .exact⟨62,rfl,∅⟩
    have e2:Qm (dC (.str "->")) (dOp Qan (dOp Qdv (Qc 3) (dC (.int 64))) (dC (.int 2))) [slF (QE ns),slT (.lst (L.map λw=> .str (tx w))),slI i,slI v,j4]=some (reT (.str (tx [y]))):=
     QbX (l:=[45,62]) (i:=(v / 64 % 2).toNat) (ra:=reT (.str (tx [45,62]))) (congrArg (λx=>some (HS.R.mk (.str x) true [])) QpI) rfl (QaH (Qes (a:=v) rfl rfl rfl rfl ∅ ∅) rfl rfl rfl ∅) (by show D.int (v / 64 % 2)=_;congr 1;omega) hy ⋯
    refine rsa (Qdh (a:=x) (b:=[y]) x3 rfl e2 rfl (by rw[ZI];omega)) ?_;change Run _ [slF (QE ns),slT (.lst (L.map λw=> .str (tx w))),slI i,slI v,slT (.str (tx (x++[y])))] _;obtain⟨z,z1,z2,z3⟩:=QlE (fa:=dOp Qan (dOp Qdv (Qc 3) (dC (.int 16))) (dC (.int 9))) (ρ:=[slF (QE ns),slT (.lst (L.map λw=> .str (tx w))),slI i,slI v,slT (.str (tx (x++[y])))]) (i:=v / 16 % 9) (QaH (Qes (a:=v) rfl rfl rfl rfl ∅ ∅) rfl rfl rfl ∅) rfl ⋯ ⋯;have lxy:(x++[y]).length<=2:=by rw[Zd,ZI];omega
    refine rsa (Qdh (a:=x++[y]) (b:=z) (ra:=reT (.str (tx (x++[y])))) rfl rfl z3 rfl ⋯) ?_;have wl:Low (x++[y]++z):=Qdo (Qdo x1 (Qeh hy2)) z1;have wn:(x++[y]++z).length<=3:=by rw[Zd];omega
    generalize x++[y]++z=w at wl wn;change Run _ [slF (QE ns),slT (.lst (L.map λw=> .str (tx w))),slI i,slI v,slT (.str (tx w))] _;have hL1:=hL.1;have fin:∀w':List Nat,Low w'->w'.length<=10->Run (Qd (Qf1 1 Qbe (Qc 4)) Qe) [slF (QE ns),slT (.lst (L.map λw=> .str (tx w))),slI i,slI v,slT (.str (tx w'))] (λo=>match o with | .nx ρ2=>∃L j2 j3 j4,Qeb (1+(i+1)) 10 L/\ρ2=[slF (QE ns),slT (.lst (L.map λw=> .str (tx w))),j2,j3,j4] | .ct ρ2=>∃L j2 j3 j4,Qeb (1+(i+1)) 10 L/\ρ2=[slF (QE ns),slT (.lst (L.map λw=> .str (tx w))),j2,j3,j4] | .bk ρ2=>Nx (λρ=>∃L j2 j3 j4,Qeb 7 10 L/\ρ=[slF (QE ns),slT (.lst (L.map λw=> .str (tx w))),j2,j3,j4]) (.nx ρ2) | .rt d fr=>Nx (λρ=>∃L j2 j3 j4,Qeb 7 10 L/\ρ=[slF (QE ns),slT (.lst (L.map λw=> .str (tx w))),j2,j3,j4]) (.rt d fr)):=λw' h1 h2=>
     run_seq (Qnl (L:=L) (w:=w') rfl rfl rfl ⋯ (Qn ⟨L++[w'],_,_,_,Qn7 hL h1 h2,rfl⟩))
    refine run_seq (Qs (b:=decide (v / 128 % 2=1)) (Qo (Qcn (QaH (Qes (a:=v) rfl rfl rfl rfl ∅ ∅) rfl rfl rfl ∅) rfl rfl rfl) rfl) (λ_=>?_) (λ_=>Qn (fin w wl ⋯)));obtain⟨q,q1,q2,q3⟩:=Qpf (k:=2) (fa:=dOp Qan (dOp Qdv (Qc 3) (dC (.int 256))) (dC (.int 46))) (ρ:=[slF (QE ns),slT (.lst (L.map λw=> .str (tx w))),slI i,slI v,slT (.str (tx w))]) (i:=v / 256 % 46) (QaH (Qes (a:=v) rfl rfl rfl rfl ∅ ∅) rfl rfl rfl ∅) rfl ∅ ∅ ⋯;have es:=Qdh (fa:=Qc 4) (fb:=dC (.str "*")) (ρ:=[slF (QE ns),slT (.lst (L.map λw=> .str (tx w))),slI i,slI v,slT (.str (tx w))]) (a:=w) (b:=[42]) (ra:=reT (.str (tx w))) (rb:=reT (.str (tx [42]))) rfl rfl (congrArg (λx=>some (HS.R.mk (.str x) true [])) Qks) rfl (by rw[ZI];omega);have lw:(w++[42]).length<=4:=by rw[Zd,ZI];omega
    refine rsa (Qdh (a:=w++[42]) (b:=q) es rfl q3 rfl ⋯) ?_;exact Qn (fin (w++[42]++q) (Qdo (Qdo wl (Qeh ∅)) q1) (by rw[Zd];omega))
   .rintro ρ ⟨L,j2,j3,j4,hL,rfl⟩;rw[ZU]at hL;exact⟨L,j2,j3,j4,⟨by have:=hL.1;omega,hL.2⟩,rfl⟩
  .rintro ρ ⟨L,j2,j3,j4,hL,rfl⟩;obtain⟨l,l1,l2,l3⟩:=Qnu (ρ:=[slF (QE ns),slT (.lst (L.map λw=> .str (tx w))),j2,j3,j4]) (fa:=Qc 1) (ra:=⟨.lst (L.map λw=> .str (tx w)),true,[1]⟩) hL ∅ ∅ rfl rfl;exact QR l3 ⟨l,l1,⋯,rfl,rfl⟩
 obtain⟨o,h1,h2⟩:=key;cases o with
 | rt d fr=>
  obtain⟨l,l1,l2,rfl,rfl⟩:=h2;exact⟨l,l1,l2,by unfold Qr;rw[h1];rfl⟩
 | _=>exact False.elim h2
def atx(x y:D):ixN [x,y].length (0:Int)=some 0/\ixN [x,y].length (1:Int)=some 1:=⟨by rw[QfP (show(0:Int)<=0 by decide) ⋯];rfl,by rw[QfP (show(0:Int)<=1 by decide) ⋯];rfl⟩
def Qmj{x:Nat}{a b:D}{k:Int}{fa:DE}{ρ:En}{t:Str}{Q:Out->Prop}(hx:ρ[x]? =some (slT (.lst [a,b])))(ha:fa ρ=some (reT (.str t)))(hk:k=0∨k=1)(q:Q (.nx (ρ.set x (slT (.lst (if k=0 then [.str t,b]else [a,.str t])))))):Run (QgS x Qbe (dC (.int k)) fa) ρ Q:=by
 refine⟨_,?_,q⟩;unfold QgS;rw[ha,Za,hx];have hp:Qbe ρ=some []:=rfl;have hi:dC (.int k) ρ=some (reI k):=rfl;have hd:Qcq (.lst [a,b]) []=some (.lst [a,b]):=rfl;have hn:(HS.R.mk (.str t) true []).norm=(reT (.str t)):=rfl;obtain⟨h0,h1⟩:=atx a b;simp only[hp,Za,hi,hd,hn,QbB];rcases hk with rfl | rfl
 .rw[h0,Za];simp[kill]
 .rw[h1,Za];simp[kill]
def QvT{ρ:En}{i:Nat}{d:D}{b:Bool}(h:ρ[i]? =some (some (d,b))):∃r:RA,Qa (Qc i) Qb ρ=some r/\r.ds=[d]:=by
 have e:∃r:R,Qc i ρ=some r/\r.d=d:=by
  unfold Qc;rw[h];show ∃r:R,(if d.flat=true then some ⟨d,true,[]⟩else if b=true then some ⟨d,true,[i]⟩else some ⟨d,false,[]⟩)=some r/\r.d=d;split
  .exact⟨_,rfl,rfl⟩
  .split
   .exact⟨_,rfl,rfl⟩
   .exact⟨_,rfl,rfl⟩
 obtain⟨r,e1,e2⟩:=e;exact⟨_,Qx e1 (QZ _),by rw[← e2]⟩
noncomputable def Qhm:List D:=[.non,.int 5,.bl true,.lst [.str "1"],.tup [.str "1",.str "0-1"]]
def QqM:∀d∈Qhm,Qni d:=λd hd=>by
 unfold Qhm at hd;simp only[Zn,ZaI,or_false]at hd;rcases hd with rfl | rfl | rfl | rfl | rfl<;>rfl
noncomputable def Qms(Qbu:Den)(Qbv:Den)(QK:Den)(Qbb:Den)(QbL:Den)(QbJ:Den)(QaZ:Den)(Qa2:Den)(Qas:Den)(Qaq:Den):DS:=(Qd (Qu 1 (Ql 1 Qbu [] (Qa vv0 Qb))) (Qd (Qu 2 (Ql 1 Qbv [] (Qa vv0 Qb))) (Qd (Qu 3 (Q4 (Qa (Ql 2 Qbb [] (Qa vv1 (Qa (Ql 2 QK [] (Qa vv0 (Qa QAG Qb))) Qb))) Qb))) (Qd (Qf1 3 Qbe (Ql 2 Qbb [] (Qa vv2 (Qa (Ql 2 QK [] (Qa vv0 (Qa Qzi Qb))) Qb)))) (Qd (Qu 4 (dOp Qan (Ql 2 QK [] (Qa vv0 (Qa QBb Qb))) kk8)) (Qd (sIf (Qf (dOp gEq vv4 kk1)) (Qd (QgS 3 Qbe kk0 (Ql 1 QbL [] (Qa (Ql 2 QK [] (Qa vv0 (Qa Qh2 Qb))) Qb))) Qe) Qe) (Qd (sIf (Qf (dOp gEq vv4 kk2)) (Qd (QgS 3 Qbe kk1 (Ql 1 QbJ [] (Qa (Ql 2 QK [] (Qa vv0 (Qa Qh2 Qb))) Qb))) Qe) Qe) (Qd (sIf (bOr (Qcs (Qf (Ql 1 QaZ [] (Qa (Qm vv3 kk0) Qb)))) (Qcs (Qf (Ql 1 QaZ [] (Qa vv1 Qb))))) (Qd (QB (dC (.bl false))) Qe) Qe) (Qd (sIf (bOr (Qcs (Qf (Ql 1 Qa2 [] (Qa (Qm vv3 kk1) Qb)))) (Qcs (Qf (Ql 1 Qa2 [] (Qa vv2 Qb))))) (Qd (QB (dC (.bl false))) Qe) Qe) (Qd (Qbd (Q3 (Q4 (Qa (dC .non) (Qa kk5 (Qa (dC (.bl true)) (Qa (Q4 (Qa (dC (.str "1")) Qb)) (Qa (Qaj (Qa (dC (.str "1")) (Qa (dC (.str "0-1")) Qb))) Qb))))))) (.nm 5) (Qd (sIf (Qf (dOp gNe (Ql 1 Qas [] (Qa vv5 Qb)) (Qaj (Qa (dC (.str "refused")) (Qa kk1 Qb))))) (Qd (QB (dC (.bl false))) Qe) Qe) (Qd (sIf (Qf (dOp gNe (Ql 1 Qaq [] (Qa vv5 Qb)) (Qaj (Qa (dC (.str "refused")) (Qa kk1 Qb))))) (Qd (QB (dC (.bl false))) Qe) Qe) Qe))) (Qd (QB (dC (.bl true))) Qe)))))))))))
def QyQ{dr dn dc ds dor don dgr dgn drr drn:Den}(hr:QlF dr)(hn:QlO dn)(hc:QiU dc)(hs:QlL ds)(hor:QhV dor)(hon:QhV don)(hgr:Qod dgr)(hgn:Qos dgn)(hrr:Qjf drr)(hrn:Qi7 drn)(ns:List Int)(hl:ns.length<=63):Qr 6 (Qms dr dn dc ds dor don dgr dgn drr drn) [.lst (ns.map .int)]=slT (.bl true):=by
 obtain⟨R,R1,R2,R3⟩:=hr ns hl;obtain⟨N,N1,N2,N3⟩:=hn ns hl;obtain⟨R',R1',R2',R3'⟩:=hs R (ns.getD 15 0) R1 ⋯;obtain⟨N',N1',N2',N3'⟩:=hs N (ns.getD 16 0) N1 ⋯;obtain⟨A,A1,A2,A3⟩:=hor (ns.getD 18 0);obtain⟨B,B1,B2,B3⟩:=hon (ns.getD 18 0);refine Q8 ?_;refine rsa (Qq (r:=⟨[QE ns],false,[]⟩) rfl R3 rfl) ?_;refine rsa (Qq (r:=⟨[QE ns],false,[]⟩) rfl N3 rfl) ?_;change Run _ [slF (QE ns),slT (.str (tx R)),slT (.str (tx N)),none,none,none] _;have cell:∀(k:Nat) (ρ:En),ρ[0]? =some (slF (QE ns))->Ql 2 dc [] (Qa (Qc 0) (Qa (dC (.int k)) Qb)) ρ=some (reI (ns.getD k 0)):=λk ρ h0=>by
  have v0:Qc 0 ρ=some (reF (QE ns)):=by unfold Qc;rw[h0];rfl
  exact Qq (Qx v0 (Qx (r:=reI k) rfl (QZ _))) (hc ns k) rfl
 refine rsa (d:= .lst [.str (tx R')]) (QkD (Qx (Qq (Qx (r:=reT (.str (tx R))) rfl (Qx (cell 15 _ rfl) (QZ _))) R3' rfl) (QZ _)) (show 1<=64 by decide)) ?_;change Run _ [slF (QE ns),slT (.str (tx R)),slT (.str (tx N)),slT (.lst [.str (tx R')]),none,none] _;refine run_seq (QpC (xs:=[.str (tx R')]) (r:=reT (.str (tx N'))) rfl (Qq (Qx (r:=reT (.str (tx N))) rfl (Qx (cell 16 _ rfl) (QZ _))) N3' rfl) rfl ⋯ ?_);change Run _ [slF (QE ns),slT (.str (tx R)),slT (.str (tx N)),slT (.lst [.str (tx R'),.str (tx N')]),none,none] _;refine rsa (QaH (cell 17 _ rfl) rfl rfl rfl ∅) ?_;generalize ns.getD 17 0 % 8=w;change Run _ [slF (QE ns),slT (.str (tx R)),slT (.str (tx N)),slT (.lst [.str (tx R'),.str (tx N')]),slI w,none] _;refine Qco (P:=λρ=>∃P,Low P/\P.length<=125/\ρ=[slF (QE ns),slT (.str (tx R)),slT (.str (tx N)),slT (.lst [.str (tx P),.str (tx N')]),slI w,none]) ?_ ?_
 .refine Qs (b:=decide (w=1)) (Qo (Qcn rfl rfl rfl rfl) rfl) (λ_=>?_) (λ_=>Qn ⟨R',R1',⋯,rfl⟩);exact run_seq (Qmj (k:=0) (t:=tx A) rfl (Qq (Qx (cell 18 _ rfl) (QZ _)) A3 rfl) (.inl rfl) (Qn ⟨A,A1,⋯,rfl⟩))
 rintro ρ ⟨P,P1,P2,rfl⟩;refine Qco (P:=λρ=>∃Q,Low Q/\Q.length<=100/\ρ=[slF (QE ns),slT (.str (tx R)),slT (.str (tx N)),slT (.lst [.str (tx P),.str (tx Q)]),slI w,none]) ?_ ?_
 .refine Qs (b:=decide (w=2)) (Qo (Qcn rfl rfl rfl rfl) rfl) (λ_=>?_) (λ_=>Qn ⟨N',N1',⋯,rfl⟩);exact run_seq (Qmj (k:=1) (t:=tx B) rfl (Qq (Qx (cell 18 _ rfl) (QZ _)) B3 rfl) (.inr rfl) (Qn ⟨B,B1,⋯,rfl⟩))
 rintro ρ ⟨Q,Q1,Q2,rfl⟩;have i0:Qm (Qc 3) (dC (.int 0)) [slF (QE ns),slT (.str (tx R)),slT (.str (tx N)),slT (.lst [.str (tx P),.str (tx Q)]),slI w,none]=some (reT (.str (tx P))):=QfN (ts:=[tx P,tx Q]) (i:=0) (ra:=⟨.lst [.str (tx P),.str (tx Q)],true,[3]⟩) (rb:=reI 0) rfl rfl rfl rfl rfl;have i1:Qm (Qc 3) (dC (.int 1)) [slF (QE ns),slT (.str (tx R)),slT (.str (tx N)),slT (.lst [.str (tx P),.str (tx Q)]),slI w,none]=some (reT (.str (tx Q))):=QfN (ts:=[tx P,tx Q]) (i:=1) (ra:=⟨.lst [.str (tx P),.str (tx Q)],true,[3]⟩) (rb:=reI 1) rfl rfl rfl rfl rfl;refine Qj (Qs (b:=false) (Qab (a:=false) (b:=false) (Qdf (b:=true) (Qo (Qq (Qx i0 (QZ _)) (hgr P P1 P2) rfl) rfl)) (Qdf (b:=true) (Qo (Qq (Qx (r:=reT (.str (tx R))) rfl (QZ _)) (hgr R R1 ⋯) rfl) rfl))) (λh=>by cases h) (λ_=>Qn ?_));refine Qj (Qs (b:=false) (Qab (a:=false) (b:=false) (Qdf (b:=true) (Qo (Qq (Qx i1 (QZ _)) (hgn Q Q1 Q2) rfl) rfl)) (Qdf (b:=true) (Qo (Qq (Qx (r:=reT (.str (tx N))) rfl (QZ _)) (hgn N N1 ⋯) rfl) rfl))) (λh=>by cases h) (λ_=>Qn ?_));refine Qco (P:=λρ=>True) ?_ ?_
 .refine Qbq (toD:=λd=>d) Qhm (λi ρ=>∃j5,ρ=[slF (QE ns),slT (.str (tx R)),slT (.str (tx N)),slT (.lst [.str (tx P),.str (tx Q)]),slI w,j5]) (Qaz (xs:=Qhm) (r:=reT (.lst Qhm)) rfl rfl) (by rw[List.map_id']) ⟨none,rfl⟩ ?_ (λ_ _=>trivial);rintro i d ρ hi ⟨j5,rfl⟩;have hd:=QqM d (Zy hi);refine⟨[slF (QE ns),slT (.str (tx R)),slT (.str (tx N)),slT (.lst [.str (tx P),.str (tx Q)]),slI w,some (d,d.flat)],rfl,?_⟩;obtain⟨r,e1,e2⟩:=QvT (ρ:=[slF (QE ns),slT (.str (tx R)),slT (.str (tx N)),slT (.lst [.str (tx P),.str (tx Q)]),slI w,some (d,d.flat)]) (i:=5) rfl;refine Qj (Qs (b:=false) (Qo (Qk1 (d:=QbO 1) (rb:=⟨QbO 1,true,[]⟩) (Qq e1 (by rw[e2];exact hrr.thing d hd) (by rw[e2];rfl)) rfl rfl rfl (Ql1 1)) rfl) (λh=>by cases h) (λ_=>Qn ?_));exact Qj (Qs (b:=false) (Qo (Qk1 (d:=QbO 1) (rb:=⟨QbO 1,true,[]⟩) (Qq e1 (by rw[e2];exact hrn.thing d hd) (by rw[e2];rfl)) rfl rfl rfl (Ql1 1)) rfl) (λh=>by cases h) (λ_=>Qn (Qn ⟨_,rfl⟩)))
 .intro ρ _;exact QR (r:=reT (.bl true)) rfl ⟨rfl,rfl⟩
end HS
def HS.some_of{α:Type}{x:Option α}{d:α}(h:x.isSome=true):x=some (x.getD d):=by cases x with | none=>cases h | some a=>rfl
namespace Law
open PySem L2 HS
noncomputable section
def top(i:Nat):Stmt:=PySem.Challenge.pw_heapstill_k73_texts_refused.main.body.getD i (.Pass ⟨0,0,0,0⟩)
abbrev cst:List (Str×Cn):=[("MOST_PLACES",.inl 8),("MOST_WAYS",.inl 40),("MOST_SPANS",.inl 300),("FIGURES",.inr "0123456789"),("MOST_FIGURES",.inl 18),("MOST_ALIKE",.inl 40),("ROAD",.inr "-"),("LANE",.inr ">")]
abbrev Sc(s:Stmt)(P:List Str):Prop:=Qba (namesOf (Qh s)) P (Qh s)
def scM{s:Stmt}{P:List Str}(h1:(Qh s).kind= .function)(h2:(Qh s).isCoroutine=false)(h3:(Qh s).isGenerator=false)(h4:(namesOf (Qh s)).Nodup/\(namesOf (Qh s)).take P.length=P/\(∀x∈P,(Qh s).names.lookup x=some .local ∨(Qh s).names.lookup x=some .cell)/\∀y∈(Qh s).names,y.2≠ .free):Sc s P:=⟨h1,h2,h3,h4.1,h4.2.1,h4.2.2.1,h4.2.2.2⟩
noncomputable abbrev Cp(s:Stmt)(Γ:List (Str×FnR)):Option DS:=QaR 60 (Qc6 s Γ cst) (Qac s)
noncomputable abbrev Dn(s:Stmt)(g:DS):Den:=Qr (namesOf (Qh s)).length g
noncomputable abbrev Gc(x:Str)(n:Nat)(d:Den)(Γ:List (Str×FnR)):List (Str×FnR):=(x,⟨n,[],d⟩)::Γ
structure Kn (x:Str) (s:Stmt) (P:List Str) (Γ:List (Str×FnR)) (g:DS):Prop where
 a:Sc s P
 b:Qag x s P
 c:Cp s Γ=some g
def kn{Pr:Program}{w:World}{K:Fgg}{mg:Str->Option Value}{base h:Heap}{x:Str}{s:Stmt}{P:List Str}{k:Nat}{Γ:List (Str×FnR)}{g:DS}(X:K.In h)(G:h.Ns mainGlobals mg)(F:Fact K x s)(q:Kn x s P Γ g)(M:Qdu mg cst)(t:Qbr Pr w K mg base k Γ):Known Pr w K mg base (k+1) x ⟨P.length,[],Dn s g⟩:=QbM X G F q.a q.b M t q.c
noncomputable abbrev cls:List Str:=["NoNet","NoText"]
noncomputable abbrev QBl:List (Str×List (Str×Bool)):=[("NoNet",[("NoNet",true),("NoRow",false),("NoDeed",false),("ValueError",true),("NoText",false),("HeapError",true)]),("NoText",[("NoNet",false),("NoRow",false),("NoDeed",false),("ValueError",true),("NoText",true),("HeapError",true)])]
noncomputable abbrev sub:=QuJ QBl
noncomputable abbrev CpT(s:Stmt)(Γ:List (Str×FnR))(Γx:List (Str×(Nat×(List D->Option Str))))(hΓ:List (Str×FnR)):Option DS:=QaR 60 (thT 60 s Γ cst ⟨Γx,cls⟩ sub hΓ) (Qac s)
noncomputable abbrev CpH(s:Stmt)(hΓ:List (Str×FnR)):Option DS:=QiJ (Qc6 s [] cst) sub hΓ (Qac s)
noncomputable abbrev CpX(s:Stmt)(Γ:List (Str×FnR))(Γx:List (Str×(Nat×(List D->Option Str)))):Option DX:=Qeo 60 (Qc6 s Γ cst) ⟨Γx,cls⟩ (Qac s)
abbrev Qi8:=top 7
def Qpe:=(Cp Qi8 []).getD Qp
def Qve:Kn "steps" Qi8 ["roads","lanes"] [] Qpe:=⟨scM rfl rfl rfl nofun,λ_ _ _ _ _ _=>lc λ_=>lc λ_=>l0 rfl,some_of nofun⟩
abbrev Qcg:=Dn Qi8 Qpe
abbrev QlQ:=Gc "steps" 2 Qcg []
abbrev QdY:=top 8
def QiV:=(Cp QdY QlQ).getD Qp
def Qn6:Kn "toll_table" QdY ["net"] QlQ QiV:=⟨scM rfl rfl rfl nofun,λ_ _ _ _ _ _=>lc λ_=>l0 rfl,some_of nofun⟩
abbrev Qce:=Dn QdY QiV
abbrev Qga:=Gc "toll_table" 1 Qce QlQ
abbrev QeZ:=top 9
def Qjw:=(Cp QeZ Qga).getD Qp
def QoS:Kn "span_list" QeZ ["net"] Qga Qjw:=⟨scM rfl rfl rfl nofun,λ_ _ _ _ _ _=>lc λ_=>l0 rfl,some_of nofun⟩
abbrev QaX:=Dn QeZ Qjw
abbrev QdC:=Gc "span_list" 1 QaX Qga
abbrev Qax:=top 15
def Qgl:Sc Qax ["net"]:=scM rfl rfl rfl nofun
def Qhv:Qag "need_numbers" Qax ["net"]:=λ_ _ _ _ _ _=>lc λ_=>l0 rfl
noncomputable def QgE:=(CpX Qax QdC []).getD xNo
def Qk6:CpX Qax QdC []=some QgE:=some_of nofun
noncomputable abbrev Qb2:=Q6 (namesOf (Qh Qax)).length QgE
noncomputable abbrev Qeu:List (Str×(Nat×(List D->Option Str))):=("need_numbers",(1,Qb2))::[]
def Qg1:=(Cp Qax QdC).getD Qp
def Ql8:Cp Qax QdC=some Qg1:=some_of nofun
abbrev Qao:=Dn Qax Qg1
abbrev QeL:=Gc "need_numbers" 1 Qao QdC
abbrev Qi9:=top 18
def Qo6:=(Cp Qi9 QeL).getD Qp
def QvC:Kn "leads" Qi9 ["many","roads","lanes"] QeL Qo6:=⟨scM rfl rfl rfl nofun,λ_ _ _ _ _ _=>lc λ_=>lc λ_=>lc λ_=>l0 rfl,some_of nofun⟩
abbrev QcJ:=Dn Qi9 Qo6
abbrev Qhp:=Gc "leads" 3 QcJ QeL
abbrev Qbj:=top 16
def QiP:Sc Qbj ["net"]:=scM rfl rfl rfl nofun
def QjG:Qag "need_ways" Qbj ["net"]:=λ_ _ _ _ _ _=>lc λ_=>l0 rfl
noncomputable def QiY:=(CpX Qbj Qhp Qeu).getD xNo
def QnO:CpX Qbj Qhp Qeu=some QiY:=some_of nofun
noncomputable abbrev Qda:=Q6 (namesOf (Qh Qbj)).length QiY
noncomputable abbrev QfY:List (Str×(Nat×(List D->Option Str))):=("need_ways",(1,Qda))::Qeu
def Qjx:=(Cp Qbj Qhp).getD Qp
def QoY:Cp Qbj Qhp=some Qjx:=some_of nofun
abbrev QaY:=Dn Qbj Qjx
abbrev QgI:=Gc "need_ways" 1 QaY Qhp
abbrev QfD:=top 19
def Qll:=(Cp QfD QgI).getD Qp
def Qqc:Kn "is_plain" QfD ["net"] QgI Qll:=⟨scM rfl rfl rfl nofun,λ_ _ _ _ _ _=>lc λ_=>l0 rfl,some_of nofun⟩
abbrev Qbg:=Dn QfD Qll
abbrev Qet:=Gc "is_plain" 1 Qbg QgI
abbrev Qaf:=top 17
def QeD:Sc Qaf ["net"]:=scM rfl rfl rfl nofun
def Qfn:Qag "need_small_spans" Qaf ["net"]:=λ_ _ _ _ _ _=>lc λ_=>l0 rfl
noncomputable def QeC:=(CpX Qaf Qet QfY).getD xNo
def Qil:CpX Qaf Qet QfY=some QeC:=some_of nofun
noncomputable abbrev Qa8:=Q6 (namesOf (Qh Qaf)).length QeC
noncomputable abbrev QcQ:List (Str×(Nat×(List D->Option Str))):=("need_small_spans",(1,Qa8))::QfY
def Qff:=(Cp Qaf Qet).getD Qp
def QiR:Cp Qaf Qet=some Qff:=some_of nofun
abbrev Q9:=Dn Qaf Qff
abbrev Qbp:=Gc "need_small_spans" 1 Q9 Qet
abbrev Qbm:=top 14
def QjA:Sc Qbm ["many","roads","lanes"]:=scM rfl rfl rfl nofun
def QjJ:Qg4 "made_net" Qbm ["many","roads","lanes"] 3 []:=λK t od n sl h kV doc pm an cdv ct S us hl=>match us,hl with | [_,_,_],_=>Qmd h rfl
def QoK:Qg4 "made_net" Qbm ["many","roads","lanes"] 2 [.none]:=λK t od n sl h kV doc pm an cdv ct S us hl=>match us,hl with | [_,_],_=>Qmd h rfl
noncomputable def QjI:=(CpX Qbm Qbp QcQ).getD xNo
def QoR:CpX Qbm Qbp QcQ=some QjI:=some_of nofun
noncomputable abbrev QcK:=Q6 (namesOf (Qh Qbm)).length QjI
noncomputable abbrev QgK:List (Str×(Nat×(List D->Option Str))):=("made_net",(3,QcK))::QcQ
def Qlk:=(Cp Qbm Qbp).getD Qp
def Qp4:Cp Qbm Qbp=some Qlk:=some_of nofun
abbrev Qap:=Dn Qbm Qlk
abbrev Qer:List (Str×FnR):=("made_net",⟨3,[.non],Qap⟩)::Qbp
abbrev Qa3:=top 27
def Qii:Sc Qa3 ["text"]:=scM rfl rfl rfl nofun
def QiM:Qag "text_words" Qa3 ["text"]:=λ_ _ _ _ _ _=>lc λ_=>l0 rfl
noncomputable def Qh5:=(CpX Qa3 Qer QgK).getD xNo
def QmL:CpX Qa3 Qer QgK=some Qh5:=some_of nofun
noncomputable abbrev QbW:=Q6 (namesOf (Qh Qa3)).length Qh5
noncomputable abbrev Qfw:List (Str×(Nat×(List D->Option Str))):=("text_words",(1,QbW))::QgK
def QiT:=(Cp Qa3 Qer).getD Qp
def Qoz:Cp Qa3 Qer=some QiT:=some_of nofun
abbrev Q7:=Dn Qa3 QiT
abbrev Qdd:=Gc "text_words" 1 Q7 Qer
abbrev QaK:=top 31
def Qhn:Sc QaK ["word"]:=scM rfl rfl rfl nofun
def Qih:Qag "read_number" QaK ["word"]:=λ_ _ _ _ _ _=>lc λ_=>l0 rfl
noncomputable def QgU:=(CpX QaK Qdd Qfw).getD xNo
def Ql2:CpX QaK Qdd Qfw=some QgU:=some_of nofun
noncomputable abbrev Qbf:=Q6 (namesOf (Qh QaK)).length QgU
noncomputable abbrev QeX:List (Str×(Nat×(List D->Option Str))):=("read_number",(1,Qbf))::Qfw
def Qid:=(Cp QaK Qdd).getD Qp
def Qmz:Cp QaK Qdd=some Qid:=some_of nofun
abbrev QI:=Dn QaK Qid
abbrev Qcx:=Gc "read_number" 1 QI Qdd
abbrev QaL:=top 29
def Qha:Sc QaL ["sign"]:=scM rfl rfl rfl nofun
def Qie:Qag "read_figure" QaL ["sign"]:=λ_ _ _ _ _ _=>lc λ_=>l0 rfl
noncomputable def QgY:=(CpX QaL Qcx QeX).getD xNo
def Ql5:CpX QaL Qcx QeX=some QgY:=some_of nofun
noncomputable abbrev QbE:=Q6 (namesOf (Qh QaL)).length QgY
noncomputable abbrev QeH:List (Str×(Nat×(List D->Option Str))):=("read_figure",(1,QbE))::QeX
def Qh8:=(Cp QaL Qcx).getD Qp
def QmE:Cp QaL Qcx=some Qh8:=some_of nofun
abbrev QM:=Dn QaL Qh8
abbrev Qcw:=Gc "read_figure" 1 QM Qcx
abbrev Qa0:=top 30
def Qh7:Sc Qa0 ["word"]:=scM rfl rfl rfl nofun
def QiC:Qag "read_alike" Qa0 ["word"]:=λ_ _ _ _ _ _=>lc λ_=>l0 rfl
noncomputable def Qh6:=(CpX Qa0 Qcw QeH).getD xNo
def QmH:CpX Qa0 Qcw QeH=some Qh6:=some_of nofun
noncomputable abbrev Qcv:=Q6 (namesOf (Qh Qa0)).length Qh6
noncomputable abbrev Qfr:List (Str×(Nat×(List D->Option Str))):=("read_alike",(1,Qcv))::QeH
def Qi0:=(Cp Qa0 Qcw).getD Qp
def Qn0:Cp Qa0 Qcw=some Qi0:=some_of nofun
abbrev QaI:=Dn Qa0 Qi0
abbrev Qc9:=Gc "read_alike" 1 QaI Qcw
abbrev Qbk:=top 28
def Qiy:Sc Qbk ["word"]:=scM rfl rfl rfl nofun
def QjC:Qag "read_ways" Qbk ["word"]:=λ_ _ _ _ _ _=>lc λ_=>l0 rfl
noncomputable def Qio:=(CpX Qbk Qc9 Qfr).getD xNo
def Qnf:CpX Qbk Qc9 Qfr=some Qio:=some_of nofun
noncomputable abbrev Qdb:=Q6 (namesOf (Qh Qbk)).length Qio
noncomputable abbrev QfZ:List (Str×(Nat×(List D->Option Str))):=("read_ways",(1,Qdb))::Qfr
def QjD:=(Cp Qbk Qc9).getD Qp
def QoQ:Cp Qbk Qc9=some QjD:=some_of nofun
abbrev Qav:=Dn Qbk QjD
abbrev Qdx:=Gc "read_ways" 1 Qav Qc9
abbrev QbC:=top 26
def QjB:Sc QbC ["text"]:=scM rfl rfl rfl nofun
def Qkq:Qag "read_net" QbC ["text"]:=λ_ _ _ _ _ _=>lc λ_=>l0 rfl
noncomputable def QjM:=(CpX QbC Qdx QfZ).getD xNo
def QoN:CpX QbC Qdx QfZ=some QjM:=some_of nofun
noncomputable abbrev QdD:=Q6 (namesOf (Qh QbC)).length QjM
noncomputable abbrev QgJ:List (Str×(Nat×(List D->Option Str))):=("read_net",(1,QdD))::QfZ
def Qku:=(Cp QbC Qdx).getD Qp
def Qqv:Cp QbC Qdx=some Qku:=some_of nofun
abbrev Qb5:=Dn QbC Qku
abbrev Qeq:=Gc "read_net" 1 Qb5 Qdx
abbrev QbD:=top 32
def QjP:Sc QbD ["text"]:=scM rfl rfl rfl nofun
def Qlf:Qag "read_row" QbD ["text"]:=λ_ _ _ _ _ _=>lc λ_=>l0 rfl
noncomputable def QjL:=(CpX QbD Qeq QgJ).getD xNo
def QoV:CpX QbD Qeq QgJ=some QjL:=some_of nofun
noncomputable abbrev QdB:=Q6 (namesOf (Qh QbD)).length QjL
noncomputable abbrev QcF:List (Str×(Nat×(List D->Option Str))):=("read_row",(1,QdB))::QgJ
def QkB:=(Cp QbD Qeq).getD Qp
def Qp6:Cp QbD Qeq=some QkB:=some_of nofun
abbrev Qb1:=Dn QbD QkB
abbrev Qh3:=Gc "read_row" 1 Qb1 Qeq
abbrev Qdj:=top 34
def Qhk:=(Cp Qdj Qh3).getD Qp
def QlJ:Kn "_law_cell_at" Qdj ["_law_script","_law_k"] Qh3 Qhk:=⟨scM rfl rfl rfl nofun,λ_ _ _ _ _ _=>lc λ_=>lc λ_=>l0 rfl,some_of nofun⟩
abbrev QK:=Dn Qdj Qhk
abbrev QeR:=Gc "_law_cell_at" 2 QK Qh3
abbrev Qe2:=top 35
def Qjz:=(Cp Qe2 QeR).getD Qp
def QoJ:Kn "_law_sign" Qe2 ["_law_number_here"] QeR Qjz:=⟨scM rfl rfl rfl nofun,λ_ _ _ _ _ _=>lc λ_=>l0 rfl,some_of nofun⟩
abbrev QcC:=Dn Qe2 Qjz
abbrev QgT:=Gc "_law_sign" 1 QcC QeR
abbrev Qds:=top 36
def Qg3:=(Cp Qds QgT).getD Qp
def Ql9:Kn "_law_spoiled" Qds ["_law_text","_law_cell"] QgT Qg3:=⟨scM rfl rfl rfl nofun,λ_ _ _ _ _ _=>lc λ_=>lc λ_=>l0 rfl,some_of nofun⟩
abbrev Qbb:=Dn Qds Qg3
abbrev QeK:=Gc "_law_spoiled" 2 Qbb QgT
abbrev Qdm:=top 37
def Qhg:=(Cp Qdm QeK).getD Qp
def Ql6:Kn "_law_odd_row" Qdm ["_law_number_here"] QeK Qhg:=⟨scM rfl rfl rfl nofun,λ_ _ _ _ _ _=>lc λ_=>l0 rfl,some_of nofun⟩
abbrev QbL:=Dn Qdm Qhg
abbrev QeT:=Gc "_law_odd_row" 1 QbL QeK
abbrev Qdt:=top 38
def Qht:=(Cp Qdt QeT).getD Qp
def Qlz:Kn "_law_odd_net" Qdt ["_law_number_here"] QeT Qht:=⟨scM rfl rfl rfl nofun,λ_ _ _ _ _ _=>lc λ_=>l0 rfl,some_of nofun⟩
abbrev QbJ:=Dn Qdt Qht
abbrev QeF:=Gc "_law_odd_net" 1 QbJ QeT
abbrev QdM:=top 39
def Qij:=(Cp QdM QeF).getD Qp
def QmK:Kn "_law_number" QdM ["_law_word_here","_law_most"] QeF Qij:=⟨scM rfl rfl rfl nofun,λ_ _ _ _ _ _=>lc λ_=>lc λ_=>l0 rfl,some_of nofun⟩
abbrev Qaw:=Dn QdM Qij
abbrev Qfp:=Gc "_law_number" 2 Qaw QeF
abbrev Qed:=top 40
def Qiu:=(Cp Qed Qfp).getD Qp
def QoA:Kn "_law_whole" Qed ["_law_word_here"] Qfp Qiu:=⟨scM rfl rfl rfl nofun,λ_ _ _ _ _ _=>lc λ_=>l0 rfl,some_of nofun⟩
abbrev Qci:=Dn Qed Qiu
abbrev QfV:=Gc "_law_whole" 1 Qci Qfp
abbrev QdG:=top 41
def Qif:=(Cp QdG QfV).getD Qp
def QmG:Kn "_law_row_of" QdG ["_law_text"] QfV Qif:=⟨scM rfl rfl rfl nofun,λ_ _ _ _ _ _=>lc λ_=>l0 rfl,some_of nofun⟩
abbrev QbV:=Dn QdG Qif
abbrev Qfu:=Gc "_law_row_of" 1 QbV QfV
abbrev QdK:=top 42
def Qib:=(Cp QdK Qfu).getD Qp
def QmF:Kn "_law_way_of" QdK ["_law_word_here"] Qfu Qib:=⟨scM rfl rfl rfl nofun,λ_ _ _ _ _ _=>lc λ_=>l0 rfl,some_of nofun⟩
abbrev QbU:=Dn QdK Qib
abbrev Qfx:=Gc "_law_way_of" 1 QbU Qfu
abbrev QdI:=top 43
def Qia:=(Cp QdI Qfx).getD Qp
def QmA:Kn "_law_net_of" QdI ["_law_text"] Qfx Qia:=⟨scM rfl rfl rfl nofun,λ_ _ _ _ _ _=>lc λ_=>l0 rfl,some_of nofun⟩
abbrev QbZ:=Dn QdI Qia
abbrev Qfs:=Gc "_law_net_of" 1 QbZ Qfx
abbrev Qcy:=top 44
def QnH:Sc Qcy ["_law_net"]:=scM rfl rfl rfl nofun
def Qo4:Qag "_law_made" Qcy ["_law_net"]:=λ_ _ _ _ _ _=>lc λ_=>l0 rfl
def Qjy:=(CpT Qcy Qfs QcF []).getD Qp
def QoL:CpT Qcy Qfs QcF []=some Qjy:=some_of nofun
abbrev QcB:=Dn Qcy Qjy
abbrev QgP:=Gc "_law_made" 1 QcB Qfs
abbrev QcA:=top 45
def Qnk:Sc QcA ["_law_error"]:=scM rfl rfl rfl nofun
def QoO:Qag "_law_word" QcA ["_law_error"]:=λ_ _ _ _ _ _=>lc λ_=>l0 rfl
def QjQ:=(CpH QcA []).getD Qp
def QoI:CpH QcA []=some QjQ:=some_of nofun
abbrev Qbn:=Dn QcA QjQ
noncomputable abbrev Qd4:=Gc "_law_word" 1 Qbn []
abbrev Qbw:=top 46
def QjX:Sc Qbw ["_law_text"]:=scM rfl rfl rfl nofun
def Qk8:Qag "_law_read_row" Qbw ["_law_text"]:=λ_ _ _ _ _ _=>lc λ_=>l0 rfl
def QgD:=(CpT Qbw QgP QcF Qd4).getD Qp
def QkQ:CpT Qbw QgP QcF Qd4=some QgD:=some_of nofun
abbrev Qas:=Dn Qbw QgD
abbrev Qej:=Gc "_law_read_row" 1 Qas QgP
abbrev Qbs:=top 47
def QjT:Sc Qbs ["_law_text"]:=scM rfl rfl rfl nofun
def QkH:Qag "_law_read_net" Qbs ["_law_text"]:=λ_ _ _ _ _ _=>lc λ_=>l0 rfl
def Qgx:=(CpT Qbs Qej QcF Qd4).getD Qp
def Qky:CpT Qbs Qej QcF Qd4=some Qgx:=some_of nofun
abbrev Qaq:=Dn Qbs Qgx
abbrev QdZ:=Gc "_law_read_net" 1 Qaq Qej
abbrev QcX:=top 48
def QgB:=(Cp QcX QdZ).getD Qp
def QkN:Kn "_law_good_row" QcX ["_law_text"] QdZ QgB:=⟨scM rfl rfl rfl nofun,λ_ _ _ _ _ _=>lc λ_=>l0 rfl,some_of nofun⟩
abbrev QaZ:=Dn QcX QgB
abbrev Qee:=Gc "_law_good_row" 1 QaZ QdZ
abbrev QcZ:=top 49
def Qgj:=(Cp QcZ Qee).getD Qp
def QkY:Kn "_law_good_net" QcZ ["_law_text"] Qee Qgj:=⟨scM rfl rfl rfl nofun,λ_ _ _ _ _ _=>lc λ_=>l0 rfl,some_of nofun⟩
abbrev Qa2:=Dn QcZ Qgj
abbrev Qew:=Gc "_law_good_net" 1 Qa2 Qee
abbrev Qc0:=top 50
def Qgk:=(Cp Qc0 Qew).getD Qp
def Qkh:Kn "_law_row_text" Qc0 ["_law_script"] Qew Qgk:=⟨scM rfl rfl rfl nofun,λ_ _ _ _ _ _=>lc λ_=>l0 rfl,some_of nofun⟩
abbrev Qbu:=Dn Qc0 Qgk
abbrev Qd6:=Gc "_law_row_text" 1 Qbu Qew
abbrev QcW:=top 51
def Qgq:=(Cp QcW Qd6).getD Qp
def Qkj:Kn "_law_net_text" QcW ["_law_script"] Qd6 Qgq:=⟨scM rfl rfl rfl nofun,λ_ _ _ _ _ _=>lc λ_=>l0 rfl,some_of nofun⟩
abbrev Qbv:=Dn QcW Qgq
abbrev Qgt:=Gc "_law_net_text" 1 Qbv Qd6
abbrev Qjb:=top 52
def QxA:Sc Qjb ["_law_script"]:=scM rfl rfl rfl nofun
def QAx:Qag "law" Qjb ["_law_script"]:=λ_ _ _ _ _ _=>lc λ_=>l0 rfl
def QuD:=(Cp Qjb Qgt).getD Qp
def QzX:Cp Qjb Qgt=some QuD:=some_of nofun
abbrev Qp1:=Dn Qjb QuD
def QpH:Qcg=Qr 4 (HS.Ql7):=by kernel_rfl
def QnF:Qce=Qr 5 (HS.Qgg Qcg):=by kernel_rfl
def QoM:QaX=Qr 1 (HS.QgL Qce):=by kernel_rfl
def Qhq:Qao=Qr 4 (HS.QbI):=by kernel_rfl
def QwX:QcJ=Qr 8 (HS.Qo8 Qcg):=by kernel_rfl
def QjK:QaY=Qr 1 (HS.QcD QcJ):=by kernel_rfl
def Qqa:Qbg=Qr 1 (HS.Qk4):=by kernel_rfl
def Qfd:Q9=Qr 3 (HS.QaQ Qbg QaX):=by kernel_rfl
def QkJ:Qap=Qr 6 (HS.QfE Qao QaY Q9):=by kernel_rfl
def QiA:Q7=Qr 1 (HS.Qeg):=by kernel_rfl
def Qic:QI=Qr 2 (HS.QdH):=by kernel_rfl
def Qik:QM=Qr 1 (HS.QdJ QI):=by kernel_rfl
def QiI:QaI=Qr 2 (HS.Qd5 QI):=by kernel_rfl
def QjE:Qav=Qr 4 (HS.Qe4 QaI QM):=by kernel_rfl
def Qkp:Qb5=Qr 7 (HS.QfM Q7 QM Qav Qap):=by kernel_rfl
def Qkr:Qb1=Qr 2 (HS.QfK Q7 QI):=by kernel_rfl
def QlK:QK=Qr 2 (HS.Qg5):=by kernel_rfl
def Qo3:QcC=Qr 2 (HS.Qgm):=by kernel_rfl
def QlH:Qbb=Qr 5 (HS.Qfh QcC):=by kernel_rfl
def QlZ:QbL=Qr 2 (HS.Qfb):=by kernel_rfl
def QlI:QbJ=Qr 2 (HS.Qfe):=by kernel_rfl
def QmJ:Qaw=Qr 3 (HS.QfC):=by kernel_rfl
def QnM:Qci=Qr 2 (HS.Qf9 Qaw):=by kernel_rfl
def QmI:QbV=Qr 2 (HS.QfA Qci):=by kernel_rfl
def QmD:QbU=Qr 2 (HS.Qfz Qaw):=by kernel_rfl
def QmC:QbZ=Qr 9 (HS.QfB QbU):=by kernel_rfl
def QoP:QcB=Qr 2 (HS.Qgs Qap QcK sub):=by kernel_rfl
def QoT:Qbn=Qr 1 (HS.Qd0 sub):=by kernel_rfl
def Qkv:Qas=Qr 3 (HS.QcN Qb1 Qbn QdB sub):=by kernel_rfl
def QkC:Qaq=Qr 3 (HS.QcP Qb5 Qbn QdD sub):=by kernel_rfl
def Qle:QaZ=Qr 4 (HS.Qez QbV Qas):=by kernel_rfl
def QkL:Qa2=Qr 4 (HS.QeA QbZ Qaq QcB):=by kernel_rfl
def QkU:Qbu=Qr 4 (HS.QcR QK):=by kernel_rfl
def Qkz:Qbv=Qr 5 (HS.QcT QK):=by kernel_rfl
def QzO:Qp1=Qr 6 (HS.Qms Qbu Qbv QK Qbb QbL QbJ QaZ Qa2 Qas Qaq):=by kernel_rfl
def Qgz:Qb2=Q6 4 (HS.Qdl):=by kernel_rfl
def Qiv:Qda=Q6 1 (HS.Qe5 QcJ):=by kernel_rfl
def QeE:Qa8=Q6 3 (HS.Qb0 QaX Qbg):=by kernel_rfl
def QjH:QcK=Q6 6 (HS.QfF Q9 QaY Qao Qa8 Qda Qb2):=by kernel_rfl
def Qh9:QbW=Q6 1 (HS.Qen):=by kernel_rfl
def QgW:Qbf=Q6 2 (HS.QdE):=by kernel_rfl
def Qhw:QbE=Q6 1 (HS.QdL QI Qbf):=by kernel_rfl
def Qig:Qcv=Q6 2 (HS.Qd1 QI Qbf):=by kernel_rfl
def Qi1:Qdb=Q6 4 (HS.Qe9 QM QaI QbE Qcv):=by kernel_rfl
def QjF:QdD=Q6 7 (HS.Qep Qap Qav QM Q7 QcK Qdb QbE QbW):=by kernel_rfl
def QjO:QdB=Q6 2 (HS.QfI QI Q7 Qbf QbW):=by kernel_rfl
end
end Law
namespace HS
open PySem PySem.Spec L2
def Qss(mg:Str->Option Value):List Str->Prop
 | []=>True
 | x::r=>mg x=none/\Qss mg r
def Qn8{mg:Str->Option Value}:∀{l:List Str},Qss mg l->∀x∈l,mg x=none
 | [],_,x,h=>by simp at h
 | y::r,h,x,hx=>by
  rcases Zn.mp hx with rfl | hx
  .exact h.1
  .exact Qn8 h.2 x hx
def QtZ(mg:Str->Option Value):List (Str×Cn)->Prop
 | []=>True
 | (x,i)::r=>(∃t,mg x=some (cnV i t))/\QtZ mg r
def Qoa{mg:Str->Option Value}:∀{l:List (Str×Cn)},QtZ mg l->∀x i,look x l=some i->∃t,mg x=some (cnV i t)
 | [],_,x,i,h=>by cases h
 | (y,j)::r,h,x,i,hx=>by
  unfold look at hx;split at hx
  .rename_i e;cases hx;subst e;exact h.1
  .exact Qoa h.2 x i hx
def Qyw{mg:Str->Option Value}{cs:List (Str×Cn)}(b:Qss mg Qou)(c:QtZ mg cs):Qdu mg cs:=⟨Qn8 b,Qoa c⟩
end HS
def HS.Qlg{K:Fgg}{mg:PySem.Str->Option PySem.Value}{h:PySem.Heap}{x:PySem.Str}{i:Int}{t:PySem.Tok}(X:K.In h)(G:h.Ns PySem.mainGlobals mg)(a:PySem.W.nsIn K PySem.mainGlobals x=some (some (.int i t))):∃t,mg x=some (.int i t):=⟨t,Zac X G a⟩
def HS.Qnz{K:Fgg}{mg:PySem.Str->Option PySem.Value}{h:PySem.Heap}{x:PySem.Str}{i:PySem.Str}{t:PySem.Tok}(X:K.In h)(G:h.Ns PySem.mainGlobals mg)(a:PySem.W.nsIn K PySem.mainGlobals x=some (some (.str i t))):∃t,mg x=some (.str i t):=⟨t,Zac X G a⟩
namespace Law
open HS
def QqC:QiU QK:=by rw[QlK];exact Qwy
def QzB:QkZ Qce:=by rw[QnF,QpH];exact Qwi
def Qum:Qiw QaX:=by rw[QoM];exact Qv8 QzB
def Qry:Qjh Qbg:=by rw[Qqa];exact Qtw
def Qrk:Qg0 QcJ:=by rw[QwX];exact QsU λR L h=>by rw[QpH];exact Qmb ⋯
def QuE:QgG Qao:=by rw[Qhq];exact QoX
def QAp:Qkb Qb2:=by rw[Qgz];exact QnT
def Qrp:ApF Qao Qb2:=by rw[Qhq,Qgz];exact QzD
def hNW:Qi6 QaY:=by rw[QjK];exact Qtb Qrk
def xNW:Qnt Qda:=by rw[Qiv];exact QqL Qrk
def Qxs:ApF QaY Qda:=by rw[QjK,Qiv];exact QzL
def hNS:QjS Q9:=by rw[Qfd];exact Qq7 Qry Qum
def xNS:Ql0 Qa8:=by rw[QeE];exact QpZ Qry Qum
def Qxp:ApF Q9 Qa8:=by rw[Qfd,QeE];exact QAq
def QuK:Qld Qap:=by rw[QkJ];exact Qvv QuE hNW hNS
def Quz:MadeX QcK:=by rw[QjH];exact QtC Qrp Qxs Qxp QuE hNW QAp xNW xNS
def Qnh:ApF Qap QcK:=by rw[QkJ,QjH];exact Qwv Qrp Qxs Qxp
def QnW:QhM QI:=by rw[Qic];exact Qzf
def Qs4:Qox Qbf:=by rw[QgW];exact Qwm
def Qjj:ApF QI Qbf:=by rw[Qic,QgW];exact QxI
def QkR:QeW Q7:=by rw[QiA];exact QtH
def Qsj:QmX QbW:=by rw[Qh9];exact QtQ
def Qjs:ApF Q7 QbW:=by rw[QiA,Qh9];exact QsC
def Qp0:Qje QM:=by rw[Qik];exact Qyv QnW
def QxX:Qqt QbE:=by rw[Qhw];exact QwO Qjj Qs4
def QmU:ApF QM QbE:=by rw[Qik,Qhw];exact Qx1 Qjj
def Qyl:QhO QaI:=by rw[QiI];exact Qru QnW
def QA9:AlX Qcv:=by rw[Qig];exact Qxn QnW Qjj Qs4
def QuI:ApF QaI Qcv:=by rw[QiI,Qig];exact Qtp Qjj
def Qsh:Qg2 Qav:=by rw[QjE];exact Qtn Qyl Qp0
def QAv:Quj Qdb:=by rw[Qi1];exact QwS Qyl Qp0 QuI QmU QA9 QxX
def QqQ:ApF Qav Qdb:=by rw[QjE,Qi1];exact QuT QuI QmU
def QtJ:QiX Qb5:=by rw[Qkp];exact Qqz QkR Qp0 Qsh QuK
def QAZ:Qtz QdD:=by rw[QjF];exact Qvx QkR Qp0 Qsh Qjs QmU QqQ Qnh Qsj QxX QAv Quz
def QAr:ApF Qb5 QdD:=by rw[Qkp,QjF];exact QyV Qjs QmU QqQ Qnh
def QzM:Qoe Qb1:=by rw[Qkr];exact Qvb QkR QnW
def QAM:QtD QdB:=by rw[QjO];exact Qvl QkR QnW Qjs Qjj Qsj Qs4
def QzK:ApF Qb1 QdB:=by rw[Qkr,QjO];exact QyA Qjs Qjj
def Qus:QkP Qaw:=by rw[QmJ];exact QwJ
def QwR:Qj8 Qci:=by rw[QnM];exact QrP Qus
def QAg:Qn2 QbV:=by rw[QmI];exact QvR QwR
def QAs:QoH QbU:=by rw[QmD];exact Qwx Qus
def QzR:QnL QbZ:=by rw[QmC];exact Qvn QAs
def Qx0:QlA QcB:=by rw[QoP];exact Qtu Qnh QuK Quz nofun
def Qsg:Qi2 Qbn:=by rw[QoT];exact QsH nofun nofun nofun nofun nofun nofun nofun nofun nofun nofun
def Qzh:Qjf Qas:=by rw[Qkv];exact Qtx QzK QzM QAM Qsg nofun
def QxS:Qi7 Qaq:=by rw[QkC];exact QsK QAr QtJ QAZ Qsg nofun nofun
def hGR:Qod QaZ:=by rw[Qle];exact Qu5 QAg Qzh
def hGN:Qos Qa2:=by rw[QkL];exact QuO QzR QxS Qx0
def Qzq:Qnd QcC:=by rw[Qo3];exact Qv9
def Qyr:QlL Qbb:=by rw[QlH];exact Qp8 Qzq
def hOR:QhV QbL:=by rw[QlZ];exact Qu1
def hON:QhV QbJ:=by rw[QlI];exact QwU
def hRT:QlF Qbu:=by rw[QkU];exact Qto QqC
def hNT:QlO Qbv:=by rw[Qkz];exact Qsx QqC
def Qyh(ns:List Int)(h:ns.length<=63):∃fr,Qp1 [.lst (ns.map .int)]=some (.bl true,fr):=by
 rw[QzO];exact⟨true,QyQ hRT hNT QqC Qyr hOR hON hGR hGN Qzh QxS ns h⟩
end Law
namespace PySem.W.Fast
def tw15363603178404805160:=0
def tw15467862061187924712:=0
def tw4978224699953069229:=0
def tw10006748856779145187:=0
def tw3951501540878063136:=0
def tw11439995490552837913:=0
def tw9491036917687937246:=0
def tw12374717643133491839:=0
def tw13201260057388187424:=0
def tw1901693978987935835:=0
def tw10946135365562894195:=0
def tw431310523979513253:=0
def tw4169192241165657079:=0
def tw13378759152483994159:=0
def tw5489223450986450576:=0
def tw7993030875352946318:=0
def tw6243269202489231380:=0
def tw13275656081887356317:=0
def tw8790800674979825778:=0
def tw2726101324800028139:=0
def tw12348133811619873360:=0
def tw10903362639703486307:=0
def tw11790279547944096733:=0
def tw15299981505573733920:=0
def tw608725827842292674:=0
def tw4978209274389577502:=0
def tw11087463773667253179:=0
def tw16725526822127749487:=0
def tw8157095031944954188:=0
def tw9358635673232097453:=0
def tw824690596030790800:=0
def tw18098180495855939200:=0
def tw675213803094134927:=0
def tw11139782925367479377:=0
def tw3456989942561352049:=0
def tw15289211955423676520:=0
def tw15334200799183458987:=0
def tw14350815228705017972:=0
def tw4476599728910355336:=0
def tw9484768348394910932:=0
def tw12774756680279271630:=0
def tw12128711682433877407:=0
def tw16881802893169801841:=0
def tw4797024419656626962:=0
def tw6474316885992168246:=0
def tw2508566077745802238:=0
def tw450934966015754513:=0
def tw5614326795108000770:=0
def tw8960201889850173943:=0
def tw6867157945222493525:=0
def tw4251885562166360863:=0
def tw11485910471497334618:=0
def tw801689988594320894:=0
def tw13939361077807746128:=0
def tw7756251771108659082:=0
def tw16439301920672556700:=0
def tw770151525062145747:=0
def tw1573006339892443601:=0
def tw12955627805019768736:=0
def tw6322162848637165515:=0
def tw4068412420851890767:=0
def tw6742484980558459426:=0
def tw12799787435892115793:=0
def tw1371925094676302741:=0
def tw6316734375335375682:=0
def tw7078899329237992310:=0
def tw17632832522207458900:=0
def tw1619534777160929178:=0
def tw1114197960101635153:=0
def tw11335597887185492427:=0
def tw17059165145742772921:=0
def tw5958512766852489739:=0
def tw8981166342066491922:=0
def tw14892259062537829146:=0
def tw12303752145236286428:=0
def tw1343170852327789643:=0
def tw4928010952168374109:=0
def tw13928286424951112535:=0
def tw12857577265036432541:=0
def tw3605749273838894435:=0
def tw3917460429784623563:=0
def tw3193783498066765595:=0
def tw13618697913949451852:=0
def tw8317425799897380172:=0
def tw16198101833940900887:=0
def tw15603020396597385171:=0
def tw569201420348011252:=0
def tw4072719718147196614:=0
def tw4739973816505450135:=0
def tw14846663561315506156:=0
def tw15766296373853491623:=0
def tw15610645907820681719:=0
def tw1872577235467456318:=0
def tw7307851716557072085:=0
def tw13125541815105878780:=0
def tw9711831458747850328:=0
def tw1588511324977838912:=0
def tw1018243543726753388:=0
def tw6784844837199678606:=0
def tw7818271220511413914:=0
def tw4538988294616853332:=0
def tw3637308355459758740:=0
def tw16299232802367910155:=0
def tw15711778152561943243:=0
end PySem.W.Fast
open PySem PySem.W PyProof.Rows HS
set_option maxRecDepth 100000 in
set_option maxHeartbeats 0 in
theorem PySem.Challenge.cw_heapstill_k73_texts_refused_holds : PySem.Challenge.rw_heapstill_k73_texts_refused.Holds := by
 w_on;o_law;k_head;(case hw=>w_witness2)
 k_fill
 refine HS.Qs0 (l:=PySem.Challenge.rw_heapstill_k73_texts_refused) (k:=35) (x:= "_law_script") (den:=Law.Qp1) rfl rfl ⟨rfl,∅,∅⟩ (λw h Y=>PySem.W.kIn_of Y) Law.Qyh ?F
 case F=>
  intro w mg fa h KX G hmg;obtain⟨f_steps,f_toll_table,f_span_list,f_need_numbers,f_leads,f_need_ways,f_is_plain,f_need_small_spans,f_text_words,f_read_number,f_read_figure,f_read_alike,f_read_ways,f_read_net,f_read_row,f__law_cell_at,f__law_sign,f__law_spoiled,f__law_odd_row,f__law_odd_net,f__law_number,f__law_whole,f__law_row_of,f__law_way_of,f__law_net_of,f__law_made,f__law_word,f__law_read_row,f__law_read_net,f__law_good_row,f__law_good_net,f__law_row_text,f__law_net_text,f_law⟩:HS.Fact (L2.KOf KX) "steps" Law.Qi8/\HS.Fact (L2.KOf KX) "toll_table" Law.QdY/\HS.Fact (L2.KOf KX) "span_list" Law.QeZ/\HS.Fact (L2.KOf KX) "need_numbers" Law.Qax/\HS.Fact (L2.KOf KX) "leads" Law.Qi9/\HS.Fact (L2.KOf KX) "need_ways" Law.Qbj/\HS.Fact (L2.KOf KX) "is_plain" Law.QfD/\HS.Fact (L2.KOf KX) "need_small_spans" Law.Qaf/\HS.Fact (L2.KOf KX) "text_words" Law.Qa3/\HS.Fact (L2.KOf KX) "read_number" Law.QaK/\HS.Fact (L2.KOf KX) "read_figure" Law.QaL/\HS.Fact (L2.KOf KX) "read_alike" Law.Qa0/\HS.Fact (L2.KOf KX) "read_ways" Law.Qbk/\HS.Fact (L2.KOf KX) "read_net" Law.QbC/\HS.Fact (L2.KOf KX) "read_row" Law.QbD/\HS.Fact (L2.KOf KX) "_law_cell_at" Law.Qdj/\HS.Fact (L2.KOf KX) "_law_sign" Law.Qe2/\HS.Fact (L2.KOf KX) "_law_spoiled" Law.Qds/\HS.Fact (L2.KOf KX) "_law_odd_row" Law.Qdm/\HS.Fact (L2.KOf KX) "_law_odd_net" Law.Qdt/\HS.Fact (L2.KOf KX) "_law_number" Law.QdM/\HS.Fact (L2.KOf KX) "_law_whole" Law.Qed/\HS.Fact (L2.KOf KX) "_law_row_of" Law.QdG/\HS.Fact (L2.KOf KX) "_law_way_of" Law.QdK/\HS.Fact (L2.KOf KX) "_law_net_of" Law.QdI/\HS.Fact (L2.KOf KX) "_law_made" Law.Qcy/\HS.Fact (L2.KOf KX) "_law_word" Law.QcA/\HS.Fact (L2.KOf KX) "_law_read_row" Law.Qbw/\HS.Fact (L2.KOf KX) "_law_read_net" Law.Qbs/\HS.Fact (L2.KOf KX) "_law_good_row" Law.QcX/\HS.Fact (L2.KOf KX) "_law_good_net" Law.QcZ/\HS.Fact (L2.KOf KX) "_law_row_text" Law.Qc0/\HS.Fact (L2.KOf KX) "_law_net_text" Law.QcW/\HS.Fact (L2.KOf KX) "law" Law.Qjb:=by
   refine⟨?_,?_,?_,?_,?_,?_,?_,?_,?_,?_,?_,?_,?_,?_,?_,?_,?_,?_,?_,?_,?_,?_,?_,?_,?_,?_,?_,?_,?_,?_,?_,?_,?_,?_⟩<;>(dsimp only[L2.KOf];refine' HS.fact_mk ?a ?l ?c ?k;(case a=>k_is);(case l=>k_is);(case c=>k_is);(case k=>k_is))
  have f_made_net:HS.Qm2 (L2.KOf KX) "made_net" Law.Qbm ["many","roads","lanes"]:=by dsimp only[L2.KOf];refine' HS.QsY ?a ?l ?c ?k ?h;(case a=>k_is);(case l=>k_is);(case c=>k_is);(case k=>k_is);(case h=>k_is)
  have M:HS.Qdu mg Law.cst:=by
   obtain⟨n_range,n_enumerate,n_zip,n_len,n_list,n_min,n_max,n_sum,n_abs,n_isinstance,n_int,n_bool,n_tuple,n_str,n_divmod,n_sorted,n_any,n_all,n_set⟩:PySem.W.nsIn (L2.KOf KX) mainGlobals "range" =some none/\PySem.W.nsIn (L2.KOf KX) mainGlobals "enumerate" =some none/\PySem.W.nsIn (L2.KOf KX) mainGlobals "zip" =some none/\PySem.W.nsIn (L2.KOf KX) mainGlobals "len" =some none/\PySem.W.nsIn (L2.KOf KX) mainGlobals "list" =some none/\PySem.W.nsIn (L2.KOf KX) mainGlobals "min" =some none/\PySem.W.nsIn (L2.KOf KX) mainGlobals "max" =some none/\PySem.W.nsIn (L2.KOf KX) mainGlobals "sum" =some none/\PySem.W.nsIn (L2.KOf KX) mainGlobals "abs" =some none/\PySem.W.nsIn (L2.KOf KX) mainGlobals "isinstance" =some none/\PySem.W.nsIn (L2.KOf KX) mainGlobals "int" =some none/\PySem.W.nsIn (L2.KOf KX) mainGlobals "bool" =some none/\PySem.W.nsIn (L2.KOf KX) mainGlobals "tuple" =some none/\PySem.W.nsIn (L2.KOf KX) mainGlobals "str" =some none/\PySem.W.nsIn (L2.KOf KX) mainGlobals "divmod" =some none/\PySem.W.nsIn (L2.KOf KX) mainGlobals "sorted" =some none/\PySem.W.nsIn (L2.KOf KX) mainGlobals "any" =some none/\PySem.W.nsIn (L2.KOf KX) mainGlobals "all" =some none/\PySem.W.nsIn (L2.KOf KX) mainGlobals "set" =some none:=by refine⟨?_,?_,?_,?_,?_,?_,?_,?_,?_,?_,?_,?_,?_,?_,?_,?_,?_,?_,?_⟩<;>(dsimp only[L2.KOf];k_is)
   have n_MOST_PLACES:∃t,mg "MOST_PLACES" =some (.int 8 t):=by refine' HS.Qlg KX G ?a;(case a=>first | k_is | exact rfl | (dsimp only[L2.KOf];k_is))
   have n_MOST_WAYS:∃t,mg "MOST_WAYS" =some (.int 40 t):=by refine' HS.Qlg KX G ?a;(case a=>first | k_is | exact rfl | (dsimp only[L2.KOf];k_is))
   have n_MOST_SPANS:∃t,mg "MOST_SPANS" =some (.int 300 t):=by refine' HS.Qlg KX G ?a;(case a=>first | k_is | exact rfl | (dsimp only[L2.KOf];k_is))
   have n_FIGURES:∃t,mg "FIGURES" =some (.str "0123456789" t):=by refine' HS.Qnz KX G ?a;(case a=>first | k_is | exact rfl | (dsimp only[L2.KOf];k_is))
   have n_MOST_FIGURES:∃t,mg "MOST_FIGURES" =some (.int 18 t):=by refine' HS.Qlg KX G ?a;(case a=>first | k_is | exact rfl | (dsimp only[L2.KOf];k_is))
   have n_MOST_ALIKE:∃t,mg "MOST_ALIKE" =some (.int 40 t):=by refine' HS.Qlg KX G ?a;(case a=>first | k_is | exact rfl | (dsimp only[L2.KOf];k_is))
   have n_ROAD:∃t,mg "ROAD" =some (.str "-" t):=by refine' HS.Qnz KX G ?a;(case a=>first | k_is | exact rfl | (dsimp only[L2.KOf];k_is))
   have n_LANE:∃t,mg "LANE" =some (.str ">" t):=by refine' HS.Qnz KX G ?a;(case a=>first | k_is | exact rfl | (dsimp only[L2.KOf];k_is))
   exact HS.Qyw ⟨PySem.W.mg_none_of KX G n_range,PySem.W.mg_none_of KX G n_enumerate,PySem.W.mg_none_of KX G n_zip,PySem.W.mg_none_of KX G n_len,PySem.W.mg_none_of KX G n_list,PySem.W.mg_none_of KX G n_min,PySem.W.mg_none_of KX G n_max,PySem.W.mg_none_of KX G n_sum,PySem.W.mg_none_of KX G n_abs,PySem.W.mg_none_of KX G n_isinstance,PySem.W.mg_none_of KX G n_int,PySem.W.mg_none_of KX G n_bool,PySem.W.mg_none_of KX G n_tuple,PySem.W.mg_none_of KX G n_str,PySem.W.mg_none_of KX G n_divmod,PySem.W.mg_none_of KX G n_sorted,PySem.W.mg_none_of KX G n_any,PySem.W.mg_none_of KX G n_all,PySem.W.mg_none_of KX G n_set,True.intro⟩ ⟨n_MOST_PLACES,n_MOST_WAYS,n_MOST_SPANS,n_FIGURES,n_MOST_FIGURES,n_MOST_ALIKE,n_ROAD,n_LANE,True.intro⟩
  have t0:∀base:Heap,HS.Qbr (PySem.Challenge.rw_heapstill_k73_texts_refused).prog w (L2.KOf KX) mg base 0 []:=λ_=>HS.Qbr.nil;have hcl:∀x∈Law.cls,HS.Qh4 (L2.KOf KX) x:=HS.Qpa (by refine⟨?_,?_,trivial⟩<;>(dsimp only[L2.KOf];refine' HS.QuV ?a ?b;(case a=>k_is);(case b=>k_exc)));have hsub:HS.Qby (L2.KOf KX) Law.sub:=by
   refine HS.QvX ⟨⟨?x0,?y0_0,?y0_1,?y0_2,?y0_3,?y0_4,?y0_5,trivial⟩,⟨?x1,?y1_0,?y1_1,?y1_2,?y1_3,?y1_4,?y1_5,trivial⟩,trivial⟩
   case x0=>(dsimp only[L2.KOf];refine' HS.Qun ?a ?b ?c ?d ?e ?f ?g;(case a=>k_is);(case b=>k_is);(case c=>k_is);(case d=>k_is);(case e=>k_is);(case f=>k_is);(case g=>k_is))
   case y0_0=>(dsimp only[L2.KOf];refine' HS.Qb7 ?a ?b ?c ?d;(case a=>k_is);(case b=>k_is);(case c=>kts_exm);(case d=>kit_is))
   case y0_1=>(dsimp only[L2.KOf];refine' HS.Qb7 ?a ?b ?c ?d;(case a=>k_is);(case b=>k_is);(case c=>kts_exm);(case d=>kit_is))
   case y0_2=>(dsimp only[L2.KOf];refine' HS.Qb7 ?a ?b ?c ?d;(case a=>k_is);(case b=>k_is);(case c=>kts_exm);(case d=>kit_is))
   case y0_3=>(dsimp only[L2.KOf];refine' HS.QpS ?a ?b ?c ?d;(case a=>k_is);(case b=>k_is);(case c=>kts_exm);(case d=>kit_is))
   case y0_4=>(dsimp only[L2.KOf];refine' HS.Qb7 ?a ?b ?c ?d;(case a=>k_is);(case b=>k_is);(case c=>kts_exm);(case d=>kit_is))
   case y0_5=>(dsimp only[L2.KOf];refine' HS.Qb7 ?a ?b ?c ?d;(case a=>k_is);(case b=>k_is);(case c=>kts_exm);(case d=>kit_is))
   case x1=>(dsimp only[L2.KOf];refine' HS.Qun ?a ?b ?c ?d ?e ?f ?g;(case a=>k_is);(case b=>k_is);(case c=>k_is);(case d=>k_is);(case e=>k_is);(case f=>k_is);(case g=>k_is))
   case y1_0=>(dsimp only[L2.KOf];refine' HS.Qb7 ?a ?b ?c ?d;(case a=>k_is);(case b=>k_is);(case c=>kts_exm);(case d=>kit_is))
   case y1_1=>(dsimp only[L2.KOf];refine' HS.Qb7 ?a ?b ?c ?d;(case a=>k_is);(case b=>k_is);(case c=>kts_exm);(case d=>kit_is))
   case y1_2=>(dsimp only[L2.KOf];refine' HS.Qb7 ?a ?b ?c ?d;(case a=>k_is);(case b=>k_is);(case c=>kts_exm);(case d=>kit_is))
   case y1_3=>(dsimp only[L2.KOf];refine' HS.QpS ?a ?b ?c ?d;(case a=>k_is);(case b=>k_is);(case c=>kts_exm);(case d=>kit_is))
   case y1_4=>(dsimp only[L2.KOf];refine' HS.Qb7 ?a ?b ?c ?d;(case a=>k_is);(case b=>k_is);(case c=>kts_exm);(case d=>kit_is))
   case y1_5=>(dsimp only[L2.KOf];refine' HS.Qb7 ?a ?b ?c ?d;(case a=>k_is);(case b=>k_is);(case c=>kts_exm);(case d=>kit_is))
  have x0:∀base:Heap,HS.QeI (PySem.Challenge.rw_heapstill_k73_texts_refused).prog w (L2.KOf KX) mg base 0 []:=λ_=>HS.QeI.nil;have h0:∀base:Heap,HS.QeM (PySem.Challenge.rw_heapstill_k73_texts_refused).prog w (L2.KOf KX) mg base 0 []:=λ_=>HS.QeM.nil;have h_steps:=λb=>(h0 b).mono (Zh _);have x_steps:=λb=>(x0 b).mono (Zh _);have t_steps:=λb=>(t0 b).cons (Law.kn KX G f_steps Law.Qve M (t0 b));have h_toll_table:=λb=>(h_steps b).mono (Zh _);have x_toll_table:=λb=>(x_steps b).mono (Zh _);have t_toll_table:=λb=>(t_steps b).cons (Law.kn KX G f_toll_table Law.Qn6 M (t_steps b));have h_span_list:=λb=>(h_toll_table b).mono (Zh _);have x_span_list:=λb=>(x_toll_table b).mono (Zh _);have t_span_list:=λb=>(t_toll_table b).cons (Law.kn KX G f_span_list Law.QoS M (t_toll_table b));have h_need_numbers:=λb=>(h_span_list b).mono (Zh _);have x_need_numbers:=λb=>(x_span_list b).cons (HS.QcE KX G f_need_numbers Law.Qgl Law.Qhv M (t_span_list b) (x_span_list b) hcl Law.Qk6);have t_need_numbers:=λb=>(t_span_list b).cons (HS.QbM KX G f_need_numbers Law.Qgl Law.Qhv M (t_span_list b) Law.Ql8);have h_leads:=λb=>(h_need_numbers b).mono (Zh _);have x_leads:=λb=>(x_need_numbers b).mono (Zh _);have t_leads:=λb=>(t_need_numbers b).cons (Law.kn KX G f_leads Law.QvC M (t_need_numbers b));have h_need_ways:=λb=>(h_leads b).mono (Zh _);have x_need_ways:=λb=>(x_leads b).cons (HS.QcE KX G f_need_ways Law.QiP Law.QjG M (t_leads b) (x_leads b) hcl Law.QnO);have t_need_ways:=λb=>(t_leads b).cons (HS.QbM KX G f_need_ways Law.QiP Law.QjG M (t_leads b) Law.QoY);have h_is_plain:=λb=>(h_need_ways b).mono (Zh _);have x_is_plain:=λb=>(x_need_ways b).mono (Zh _);have t_is_plain:=λb=>(t_need_ways b).cons (Law.kn KX G f_is_plain Law.Qqc M (t_need_ways b));have h_need_small_spans:=λb=>(h_is_plain b).mono (Zh _);have x_need_small_spans:=λb=>(x_is_plain b).cons (HS.QcE KX G f_need_small_spans Law.QeD Law.Qfn M (t_is_plain b) (x_is_plain b) hcl Law.Qil);have t_need_small_spans:=λb=>(t_is_plain b).cons (HS.QbM KX G f_need_small_spans Law.QeD Law.Qfn M (t_is_plain b) Law.QiR);have h_made_net:=λb=>(h_need_small_spans b).mono (Zh _);have x_made_net:=λb=>(x_need_small_spans b).cons (HS.Qs1 KX G f_made_net Law.QjA Law.QjJ rfl M (t_need_small_spans b) (x_need_small_spans b) hcl Law.QoR);have t_made_net:=λb=>(t_need_small_spans b).cons (HS.Qwt KX G f_made_net Law.QjA Law.QjJ Law.QoK rfl M (t_need_small_spans b) Law.Qp4);have h_text_words:=λb=>(h_made_net b).mono (Zh _);have x_text_words:=λb=>(x_made_net b).cons (HS.QcE KX G f_text_words Law.Qii Law.QiM M (t_made_net b) (x_made_net b) hcl Law.QmL);have t_text_words:=λb=>(t_made_net b).cons (HS.QbM KX G f_text_words Law.Qii Law.QiM M (t_made_net b) Law.Qoz);have h_read_number:=λb=>(h_text_words b).mono (Zh _);have x_read_number:=λb=>(x_text_words b).cons (HS.QcE KX G f_read_number Law.Qhn Law.Qih M (t_text_words b) (x_text_words b) hcl Law.Ql2);have t_read_number:=λb=>(t_text_words b).cons (HS.QbM KX G f_read_number Law.Qhn Law.Qih M (t_text_words b) Law.Qmz);have h_read_figure:=λb=>(h_read_number b).mono (Zh _);have x_read_figure:=λb=>(x_read_number b).cons (HS.QcE KX G f_read_figure Law.Qha Law.Qie M (t_read_number b) (x_read_number b) hcl Law.Ql5);have t_read_figure:=λb=>(t_read_number b).cons (HS.QbM KX G f_read_figure Law.Qha Law.Qie M (t_read_number b) Law.QmE);have h_read_alike:=λb=>(h_read_figure b).mono (Zh _);have x_read_alike:=λb=>(x_read_figure b).cons (HS.QcE KX G f_read_alike Law.Qh7 Law.QiC M (t_read_figure b) (x_read_figure b) hcl Law.QmH);have t_read_alike:=λb=>(t_read_figure b).cons (HS.QbM KX G f_read_alike Law.Qh7 Law.QiC M (t_read_figure b) Law.Qn0);have h_read_ways:=λb=>(h_read_alike b).mono (Zh _);have x_read_ways:=λb=>(x_read_alike b).cons (HS.QcE KX G f_read_ways Law.Qiy Law.QjC M (t_read_alike b) (x_read_alike b) hcl Law.Qnf);have t_read_ways:=λb=>(t_read_alike b).cons (HS.QbM KX G f_read_ways Law.Qiy Law.QjC M (t_read_alike b) Law.QoQ);have h_read_net:=λb=>(h_read_ways b).mono (Zh _);have x_read_net:=λb=>(x_read_ways b).cons (HS.QcE KX G f_read_net Law.QjB Law.Qkq M (t_read_ways b) (x_read_ways b) hcl Law.QoN);have t_read_net:=λb=>(t_read_ways b).cons (HS.QbM KX G f_read_net Law.QjB Law.Qkq M (t_read_ways b) Law.Qqv);have h_read_row:=λb=>(h_read_net b).mono (Zh _);have x_read_row:=λb=>(x_read_net b).cons (HS.QcE KX G f_read_row Law.QjP Law.Qlf M (t_read_net b) (x_read_net b) hcl Law.QoV);have t_read_row:=λb=>(t_read_net b).cons (HS.QbM KX G f_read_row Law.QjP Law.Qlf M (t_read_net b) Law.Qp6);have h__law_cell_at:=λb=>(h_read_row b).mono (Zh _);have x__law_cell_at:=λb=>(x_read_row b).mono (Zh _);have t__law_cell_at:=λb=>(t_read_row b).cons (Law.kn KX G f__law_cell_at Law.QlJ M (t_read_row b));have h__law_sign:=λb=>(h__law_cell_at b).mono (Zh _);have x__law_sign:=λb=>(x__law_cell_at b).mono (Zh _);have t__law_sign:=λb=>(t__law_cell_at b).cons (Law.kn KX G f__law_sign Law.QoJ M (t__law_cell_at b));have h__law_spoiled:=λb=>(h__law_sign b).mono (Zh _);have x__law_spoiled:=λb=>(x__law_sign b).mono (Zh _);have t__law_spoiled:=λb=>(t__law_sign b).cons (Law.kn KX G f__law_spoiled Law.Ql9 M (t__law_sign b));have h__law_odd_row:=λb=>(h__law_spoiled b).mono (Zh _);have x__law_odd_row:=λb=>(x__law_spoiled b).mono (Zh _);have t__law_odd_row:=λb=>(t__law_spoiled b).cons (Law.kn KX G f__law_odd_row Law.Ql6 M (t__law_spoiled b));have h__law_odd_net:=λb=>(h__law_odd_row b).mono (Zh _);have x__law_odd_net:=λb=>(x__law_odd_row b).mono (Zh _);have t__law_odd_net:=λb=>(t__law_odd_row b).cons (Law.kn KX G f__law_odd_net Law.Qlz M (t__law_odd_row b));have h__law_number:=λb=>(h__law_odd_net b).mono (Zh _);have x__law_number:=λb=>(x__law_odd_net b).mono (Zh _);have t__law_number:=λb=>(t__law_odd_net b).cons (Law.kn KX G f__law_number Law.QmK M (t__law_odd_net b));have h__law_whole:=λb=>(h__law_number b).mono (Zh _);have x__law_whole:=λb=>(x__law_number b).mono (Zh _);have t__law_whole:=λb=>(t__law_number b).cons (Law.kn KX G f__law_whole Law.QoA M (t__law_number b));have h__law_row_of:=λb=>(h__law_whole b).mono (Zh _);have x__law_row_of:=λb=>(x__law_whole b).mono (Zh _);have t__law_row_of:=λb=>(t__law_whole b).cons (Law.kn KX G f__law_row_of Law.QmG M (t__law_whole b));have h__law_way_of:=λb=>(h__law_row_of b).mono (Zh _);have x__law_way_of:=λb=>(x__law_row_of b).mono (Zh _);have t__law_way_of:=λb=>(t__law_row_of b).cons (Law.kn KX G f__law_way_of Law.QmF M (t__law_row_of b));have h__law_net_of:=λb=>(h__law_way_of b).mono (Zh _);have x__law_net_of:=λb=>(x__law_way_of b).mono (Zh _);have t__law_net_of:=λb=>(t__law_way_of b).cons (Law.kn KX G f__law_net_of Law.QmA M (t__law_way_of b));have h__law_made:=λb=>(h__law_net_of b).mono (Zh _);have x__law_made:=λb=>(x__law_net_of b).mono (Zh _);have t__law_made:=λb=>(t__law_net_of b).cons (HS.Qlr KX G f__law_made Law.QnH Law.Qo4 M (t__law_net_of b) (x__law_net_of b) hcl hsub (h__law_net_of b) Law.QoL);have h__law_word:=λb=>(h__law_made b).cons (HS.Qw3 KX G f__law_word Law.Qnk Law.QoO M hsub (h__law_made b) Law.QoI);have x__law_word:=λb=>(x__law_made b).mono (Zh _);have t__law_word:=λb=>(t__law_made b).up (Zh _);have h__law_read_row:=λb=>(h__law_word b).mono (Zh _);have x__law_read_row:=λb=>(x__law_word b).mono (Zh _);have t__law_read_row:=λb=>(t__law_word b).cons (HS.Qlr KX G f__law_read_row Law.QjX Law.Qk8 M (t__law_word b) (x__law_word b) hcl hsub (h__law_word b) Law.QkQ);have h__law_read_net:=λb=>(h__law_read_row b).mono (Zh _);have x__law_read_net:=λb=>(x__law_read_row b).mono (Zh _);have t__law_read_net:=λb=>(t__law_read_row b).cons (HS.Qlr KX G f__law_read_net Law.QjT Law.QkH M (t__law_read_row b) (x__law_read_row b) hcl hsub (h__law_read_row b) Law.Qky);have h__law_good_row:=λb=>(h__law_read_net b).mono (Zh _);have x__law_good_row:=λb=>(x__law_read_net b).mono (Zh _);have t__law_good_row:=λb=>(t__law_read_net b).cons (Law.kn KX G f__law_good_row Law.QkN M (t__law_read_net b));have h__law_good_net:=λb=>(h__law_good_row b).mono (Zh _);have x__law_good_net:=λb=>(x__law_good_row b).mono (Zh _);have t__law_good_net:=λb=>(t__law_good_row b).cons (Law.kn KX G f__law_good_net Law.QkY M (t__law_good_row b));have h__law_row_text:=λb=>(h__law_good_net b).mono (Zh _);have x__law_row_text:=λb=>(x__law_good_net b).mono (Zh _);have t__law_row_text:=λb=>(t__law_good_net b).cons (Law.kn KX G f__law_row_text Law.Qkh M (t__law_good_net b));have h__law_net_text:=λb=>(h__law_row_text b).mono (Zh _);have x__law_net_text:=λb=>(x__law_row_text b).mono (Zh _);have t__law_net_text:=λb=>(t__law_row_text b).cons (Law.kn KX G f__law_net_text Law.Qkj M (t__law_row_text b));exact HS.Qzx KX G hmg f_law Law.QxA Law.QAx M (λbase=>t__law_net_text base) Law.QzX
