import PyProof.Rows.All
import Wide.All
import OpenK.AllK
import Wide.FinOn
import Lean
import PyProof.EqAt
import PyProof.EqKinds
import PyProof.TupleCall
import PyProof.Rows.TupTab
import PyProof.DictRoadsH
import PyProof.StrWalks
import PyProof.SliceStr2
import PyProof.StrBlockI
import PyProof.StrBlockG
import PyProof.StrCalls2
import KE.KIntText
import PyProof.Rows.StrSplitMax
import PyProof.ZipIter
import PyProof.EnumMake
import PyProof.Rows.FactsT2
import PyProof.Rows.EnumRows
import PyProof.P3In
import PyProof.NeData
import KE.KUnpack
import PyProof.Rows.TupDisplay
import PyProof.Rows.SumAny
import PyProof.Rows.MinMaxN
import PyProof.Rows.ListRangeD
import PyProof.Rows.Range3
import PyProof.Rows.RuleM_int
import PyProof.Rows.SortShell
import PyProof.Rows.SeqMore
import PyProof.DictWalks
import PyProof.ListRange
import PyProof.Rows.SetFrom
import PyProof.CollectIter
import PyProof.SetRoads
import KE.KTryOn
import PyProof.ExcBaseAll.ValueError
import PyProof.RulesAs
import PyProof.ExcAttrAll.ValueError
import PyProof.Rows.RegTopCatchBFacts
import KE.RegKTryMore
import KE.RegKIsAll
import PyProof.Rows.ReprOcc
import PyProof.StrLawsIdx
import PyProof.StrLawsIn
import PyProof.StrLawsJoin
import PyProof.StrLawsTight
import PyProof.StrLawsChain
import KE.IntTextText
import PyProof.StrLawsFirst
import PySem.Challenge.RW_heapstill_k18_still_refused
set_option Elab.async false
set_option linter.all false
set_option maxRecDepth 100000
local macro_rules | `(⋯)=> `(by first | with_reducible assumption | with_reducible exact Int.natCast_nonneg _ | with_reducible exact Int.ofNat_lt.2 (by assumption) | omega | simp)
local macro_rules | `(∅)=> `(by decide) | `(nofun)=> `(by decide+kernel)
def Za:= @Option.bind_some
def Zb:= @Option.map_eq_some_iff
def Zc:= @List.mem_cons_of_mem
def Zd:= @List.mem_append_right
def Ze:= @List.mem_append_left
def Zf:= @List.mem_cons_self
def Zg:= @List.getElem?_eq_some_iff
def Zh:= @List.getElem?_set_ne
def Zi:= @Bool.and_eq_true
def Zj:= @List.length_cons
def Zk:= @Nat.le_refl
def Zl:= @List.mem_singleton
def Zm:= @List.getElem?_set_self
def Zn:= @List.mem_cons
def Zo:= @List.length_append
def Zp:= @List.length_map
def Zq:= @PySem.Heap.get?_push_of_some
def Zr:= @List.mem_append
def Zs:= @List.append_nil
def Zt:= @PySem.Heap.lt_size
def Zu:= @List.lookup_cons
def Zv:= @List.size_toArray
def Zw:= @List.getElem?_eq_none
def Zx:= @Nat.lt_of_lt_of_le
def Zy:= @List.getElem?_map
def Zz:= @List.getElem?_eq_getElem
def ZA:= @List.map_cons
def ZC:= @List.mem_filter
def ZD:= @List.getD_eq_getElem?_getD
def ZE:= @Int.emod_nonneg
def ZF:= @List.nodup_append
def ZG:= @PySem.Heap.get?_push_size
def ZH:= @Int.emod_lt_of_pos
def ZI:= @List.contains_iff_mem
def ZJ:= @List.length_range
def ZK:= @Nat.ne_of_lt
def ZL:= @Nat.le_trans
def ZM:= @List.count_eq_zero
def ZN:= @Option.map_some
def ZO:= @Bool.false_ne_true
def ZP:= @List.map_append
def ZQ:= @List.map_congr_left
def ZR:= @List.mem_range
def ZS:= @Nat.zero_le
def ZT:= @List.drop_eq_getElem_cons
def ZU:= @Nat.lt_irrefl
def ZV:= @List.nodup_cons
def ZW:= @Bool.not_eq_true'
def ZX:= @Int.mul_le_mul_of_nonneg_left
def ZY:= @List.getElem?_range
def ZZ:= @List.nodup_iff_count
def Zaa:= @Array.length_toList
def Zab:= @PySem.mem_of_lookup
def Zac:= @List.mem_map
def Zad:= @List.nodup_nil
def Zae:= @Int.toNat_natCast
def Zaf:= @List.count_append
def Zag:= @List.sum_cons
def Zah:= @List.map_map
def Zai:= @PySem.W.mg_of
def Zaj:= @List.replicate_succ
def Zak:= @List.mem_of_getElem?
def Zal:= @Int.le_refl
def Zam:= @List.all_eq_true
def Zan:= @List.getElem?_append_left
def Zao:= @List.flatten_cons
def Zap:= @List.eq_nil_of_length_eq_zero
def Zaq:= @List.count_pos_iff
def Zar:= @Nat.lt_succ_self
def Zas:= @PyProof.Rows.callWith_type1
def Zat:= @List.getElem?_append_right
def Zau:= @List.append_assoc
def Zav:= @List.take_length
def Zaw:= @Int.mul_le_mul_of_nonneg_right
def Zax:= @PySem.Heap.size_push
def Zay:= @List.length_set
def Zaz:= @List.count_cons
def ZaA:= @List.sum_append_int
def ZaB:= @List.length_pos_iff
def ZaC:= @Int.zero_mul
def ZaD:= @Nat.le_succ
def ZaE:= @List.length_take
def ZaF:= @PySem.W.callWith_K
def ZaG:= @List.zip_cons_cons
def ZaH:= @Int.mul_nonneg
def ZaI:= @List.set_eq_take_append_cons_drop
def ZaJ:= @PySem.W.kia_one
def ZaK:= @Nat.lt_succ_of_lt
def ZaL:= @Int.add_mul
def ZaM:= @Int.one_mul
def ZaN:= @List.mem_filterMap
def ZaO:= @List.take_of_length_le
def ZaP:= @Int.mul_comm
def ZaQ:= @Int.mul_assoc
def ZaR:= @List.take_append_drop
def ZaS:= @List.length_filter_le
def ZaT:= @List.reverse_cons
def ZaU:= @Nat.pow_le_pow_right
def ZaV:= @PySem.W.hideAll_get
def ZaW:= @List.map_eq_nil_iff
def ZaX:= @Option.isSome_iff_exists
def ZaY:= @List.nil_append
def ZaZ:= @Nat.eq_zero_or_pos
def Zba:= @PySem.W.cellsFrom_some
def Zbb:= @List.ext_getElem?
def Zbc:= @List.take_zero
def Zbd:= @List.length_singleton
def Zbe:= @List.mem_flatten
def Zbf:= @Nat.min_le_right
def Zbg:= @List.isEmpty_iff
def Zbh:= @Nat.add_le_add_right
def Zbi:= @List.getElem?_zipIdx
def Zbj:= @List.of_mem_zip
def Zbk:= @PyProof.Rows.boot_isinstance
def Zbl:= @List.sum_append
def Zbm:= @List.filterMap_cons
def Zbn:= @PySem.W.plainGet_of
def Zbo:= @List.length_reverse
def Zbp:= @Int.le_trans
def Zbq:= @Int.fdiv_eq_ediv_of_nonneg
def Zbr:= @Bool.and_false
def Zbs:= @List.take_succ
def Zbt:= @Int.mul_one
def Zbu:= @Int.emod_eq_of_lt
def Zbv:= @Int.mul_add
def Zbw:= @PyProof.noPylong_of_log2
def Zbx:= @List.map_take
def Zby:= @PySem.W.makes_of
def Zbz:= @List.getElem?_replicate
def ZbA:= @List.length_drop
def ZbB:= @List.cons_append
def ZbC:= @List.foldlM_cons
def ZbD:= @List.drop_length
def ZbE:= @PySem.F.plainAttrs_list
def ZbF:= @List.getElem_mem
def ZbG:= @List.mem_reverse
def ZbH:= @PyProof.Rows.boot_list
def ZbI:= @Bool.or_eq_true
def ZbJ:= @Nat.min_eq_left
def ZbK:= @List.range_succ
def ZbL:= @Int.ediv_nonneg
def ZbM:= @Int.natCast_add
abbrev Mt2:=Nat->Nat->Int
abbrev Mt1:=Nat->Int
abbrev Lpp:=List (Int×Int)
abbrev LAd:=List PySem.Addr
abbrev Fgg:=PySem.W.Frag
namespace L2
open PySem PySem.Spec PyProof.Rows
noncomputable abbrev Key:=Sum Int Str
noncomputable def Qwa:Key->Value->Bool
 | .inl k,v=>Value.isInt k v
 | .inr x,v=>Value.isStrOf x v
noncomputable def QBV(w:World):Key->Int
 | .inl k=>hashInt k
 | .inr x=>hashStr w x
def Qbl:∀{k:Key}{v:Value},Qwa k v=true->(∃i t,k=Sum.inl i/\v=Value.int i t)∨(∃x t,k=Sum.inr x/\v=Value.str x t)
 | .inl i,v,h=>by
  obtain⟨t,e⟩:=Value.isInt_shape (k:=i) (v:=v) h;exact .inl ⟨i,t,rfl,e⟩
 | .inr x,v,h=>by
  obtain⟨t,e⟩:=Value.isStrOf_shape (x:=x) (v:=v) h;exact .inr ⟨x,t,rfl,e⟩
def Qyn(a b:Int):decide ((Sum.inl a:Key)=Sum.inl b)=(a == b):=by
 by_cases e:a=b
 .subst e;simp
 .have h:¬(Sum.inl a:Key)=Sum.inl b:=λq=>e (Sum.inl.inj q);rw[decide_eq_false h];exact(beq_eq_false_iff_ne.mpr e).symm
def Qz4(a b:Str):decide ((Sum.inr a:Key)=Sum.inr b)=decide (a=b):=by
 by_cases e:a=b
 .subst e;simp
 .have h:¬(Sum.inr a:Key)=Sum.inr b:=λq=>e (Sum.inr.inj q);rw[decide_eq_false h,decide_eq_false e]
def QyP(a:Int)(b:Str):decide ((Sum.inl a:Key)=Sum.inr b)=false:=decide_eq_false (λq=>nomatch q)
def QzX(a:Str)(b:Int):decide ((Sum.inr a:Key)=Sum.inl b)=false:=decide_eq_false (λq=>nomatch q)
noncomputable def Ql7(prog:Program)(w:World):PySem.KeyKind prog w Key where
 is:=Qwa
 hash:=QBV w
 inj:=λv a b ha hb=>by
  rcases Qbl ha with⟨i,t,rfl,rfl⟩ | ⟨x,t,rfl,rfl⟩
  .rcases Qbl hb with⟨j,u,rfl,e⟩ | ⟨y,u,rfl,e⟩
   .injection e with e1 _;rw[e1]
   .exact nomatch e
  .rcases Qbl hb with⟨j,u,rfl,e⟩ | ⟨y,u,rfl,e⟩
   .exact nomatch e
   .injection e with e1 _;rw[e1]
 byValue:=λk v h=>by
  rcases Qbl h with⟨i,t,rfl,rfl⟩ | ⟨x,t,rfl,rfl⟩<;>rfl
 pyHash:=λhv h=>by
  rcases Qbl hv with⟨i,t,rfl,rfl⟩ | ⟨x,t,rfl,rfl⟩
  .exact wpAny_pyHash_int h
  .exact wpAny_pyHash_str h
 eqBool:=λhu hv h=>by
  rcases Qbl hu with⟨i,t,rfl,rfl⟩ | ⟨x,t,rfl,rfl⟩
  .rcases Qbl hv with⟨j,u,rfl,rfl⟩ | ⟨y,u,rfl,rfl⟩
   .rw[Qyn]at h;exact wpAny_eqBool_int h
   .rw[QyP]at h;exact SeqAt.EqAt.int_str i t y u _ _ _ _ h
  .rcases Qbl hv with⟨j,u,rfl,rfl⟩ | ⟨y,u,rfl,rfl⟩
   .rw[QzX]at h;exact SeqAt.EqAt.str_int x t j u _ _ _ _ h
   .rw[Qz4]at h;exact wpAny_eqBool_str h
 «strs» :=λk x t v h=>by
  rcases Qbl h with⟨i,u,rfl,e⟩ | ⟨y,u,rfl,e⟩
  .exact nomatch e
  .injection e with e1 _;subst e1;cases v<;>rfl
inductive V where
 | non | bl (b:Bool) | int (i:Int) | str (x:Str) | byt (b:Array UInt8) | flt (b:UInt64) | ref (a:Addr) | ty (n:String)
 deriving DecidableEq
def RelV:V->Value->Prop
 | .non,u=>u=Value.none
 | .bl b,u=>u=Value.bool b
 | .int i,u=>∃t,u=Value.int i t
 | .str x,u=>∃t,u=Value.str x t
 | .byt b,u=>∃t,u=Value.bytes b t
 | .flt b,u=>∃t,u=Value.float b t
 | .ref a,u=>u=Value.ref a
 | .ty n,u=>u=Value.type n
abbrev QB:List V->List Value->Prop:=Paired RelV
def QB.length{xs:List V}{us:List Value}(r:QB xs us):xs.length=us.length:=Paired.length r
def QB.get:∀{xs:List V}{us:List Value}{i:Nat}{x:V},QB xs us->xs[i]? =some x->∃u,us[i]? =some u/\RelV x u
 | _,_,_,_,.nil,e=>by simp at e
 | _,_,0,_,.cons r _,e=>by simp at e;subst e;exact⟨_,rfl,r⟩
 | _,_,i+1,x,.cons _ t,e=>by
  obtain⟨u,h1,h2⟩:=QB.get (i:=i) (x:=x) t (by simpa using e);exact⟨u,by simpa using h1,h2⟩
def QB.set{x:V}{u:Value}(r:RelV x u):∀{xs:List V}{us:List Value}(i:Nat),QB xs us->QB (xs.set i x) (us.set i u)
 | _,_,_,.nil=> .nil
 | _,_,0,.cons _ t=> .cons r t
 | _,_,i+1,.cons q t=> .cons q (QB.set r i t)
def exK{α β γ δ:Type}{P Q R:α->β->γ->δ->Prop}{G:Prop}(k:∀a b c d,P a b c d->Q a b c d->R a b c d->G)(h:∃a b c d,P a b c d/\Q a b c d/\R a b c d):G:=let ⟨a,b,c,d,p,q,r⟩:=h;k a b c d p q r
def exJ{α β:Type}{P Q R:α->β->Prop}{G:Prop}(k:∀a b,P a b->Q a b->R a b->G)(h:∃a b,P a b/\Q a b/\R a b):G:=let ⟨a,b,p,q,r⟩:=h;k a b p q r
def QB.append{xs ys:List V}{us ws:List Value}(h:QB xs us)(s:QB ys ws):QB (xs++ys) (us++ws):=by
 induction h with
 | nil=>exact s
 | cons r t ih=>exact .cons r ih
def QB.take:∀{xs:List V}{us:List Value}(n:Nat),QB xs us->QB (xs.take n) (us.take n)
 | _,_,0,_=> .nil
 | _,_,_+1,.nil=> .nil
 | _,_,n+1,.cons r t=> .cons r (QB.take n t)
def QB.drop:∀{xs:List V}{us:List Value}(n:Nat),QB xs us->QB (xs.drop n) (us.drop n)
 | _,_,0,r=>r
 | _,_,_+1,.nil=> .nil
 | _,_,n+1,.cons _ t=>QB.drop n t
def Qgq:Option V->Option Value->Prop
 | some v,some u=>RelV v u
 | none,none=>True
 | _,_=>False
def KV{κ:Type}:List (κ×V)->List (κ×Value)->Prop:=Paired λ(p:κ×V) (q:κ×Value)=>p.1=q.1/\RelV p.2 q.2
noncomputable def kV:Key->V
 | .inl i=> .int i
 | .inr x=> .str x
inductive HO where
 | lst (xs:List V)
 | tup (xs:List V)
 | dK (kvs:List (Key×V)) | dT (kvs:List (List Key×V))
 | set (S:Int->Bool) (n:Nat)
 | ins (C dx:Addr) (fs:List (Str×V))
 | own (x:Addr)
 | xd (fs:List (Str×V))
 | met (f x:Addr)
 | rng (lo hi:Int)
 | frz (o:Obj) (u:HO)
 | tbl (ps:Array Value)
 | ext (φ:Heap->Prop)
noncomputable abbrev Hp:=Addr->Option HO
noncomputable def upd(H:Hp)(a:Addr)(o:HO):Hp:=λb=>if b=a then some o else H b
def Qat{H:Hp}{a:Addr}{o:HO}:upd H a o a=some o:=by unfold upd;rw[if_pos rfl]
def QM{H:Hp}{a b:Addr}{o:HO}(h:b≠a):upd H a o b=H b:=by unfold upd;rw[if_neg h]
def Qnq{H:Hp}{a b:Addr}{o u:HO}(h:H a=some o)(h':H b=some u)(d:o≠u):a≠b:=by
 intro e;subst e;rw[h]at h';exact d (Option.some.inj h')
def Qb8{H:Hp}{a b:Addr}{o:HO}(h:H a=some o)(h':H b=none):a≠b:=by
 intro e;subst e;rw[h]at h';cases h'
section
variable (P:Program) (w:World)
def QbZ(H:Hp)(h:Heap)(a:Addr):HO->Prop
 | .lst xs=>xs.length<=sizeLine/\∃(its:List Value) (n:Nat),QB xs its/\h.get? a=some {cls:= .type "list",data:= .seq its.toArray n}
 | .tup xs=>xs.length<=sizeLine/\∃its:List Value,QB xs its/\IsTup h a its.toArray
 | .dK kvs=>kvs.length<=sizeLine/\(a == sysModules)=false/\∃vs,KV kvs vs/\h.DictOf (Ql7 P w) a vs
 | .dT kvs=>kvs.length<=sizeLine/\(a == sysModules)=false/\∃xs:List (List Key×Addr×Value),
   Paired (λ(p:List Key×V) (q:List Key×Addr×Value)=>p.1=q.1/\H q.2.1=some (.tup (p.1.map kV))/\RelV p.2 q.2.2) kvs xs∧
   ∃o es ep,h.get? a=some o/\o.ExactDict/\o.data= .dict es ep/\es.toList=xs.map (entryOfKey (tupleKind (Ql7 P w)))/\(xs.map (·.1)).Nodup
 | .set S n=>h.SetOf (intKind P w) a S n
 | .ins C dx fs=>H dx=some (.own a)/\fs.length<=1000/\dx≠a/\h.get? a=some (PySem.W.instObj C dx)∧
   ∃mA,h.Ns1 dx mA/\(∀f,Qgq (fs.lookup f) (mA f))/\PySem.Within mA (fs.map (·.1))
 | .own _=>∃o,h.get? a=some o
 | .xd fs=>∃mA,h.Ns1 a mA/\∀f,Qgq (fs.lookup f) (mA f)
 | .rng lo hi=>∃t u v,h.get? a=some {cls:= .type "range",data:= .fields #[.int lo t,.int hi u,.int 1 v]}
 | .frz o u=>h.get? a=some o/\QbZ H h a u
 | .tbl ps=>h.get? a=some {cls:= .none,data:= .fields ps}
 | .met f x=>h.get? a=some (PySem.W.methodObj (.ref f) (.ref x))
 | .ext φ=>φ h/\(∃o,h.get? a=some o)/\∀h1 h2:Heap,φ h1->(∀o,h1.get? a=some o->h2.get? a=some o)->φ h2
def HOk(H:Hp)(h:Heap):Prop:=∀a o,H a=some o->QbZ P w H h a o
end
section
variable {P:Program}{w:World}{H H':Hp}{h h':Heap}{a:Addr}{o:HO}
def QbZ.lt(x:QbZ P w H h a o):a<h.objs.size:=by
 cases o with
 | lst xs=>obtain⟨_,_,_,_,e⟩:=x;exact Zt e
 | tup xs=>obtain⟨_,_,_,p⟩:=x;exact p.lt
 | dK kvs=>obtain⟨_,_,_,_,o,_,_,e,_⟩:=x;exact Zt e
 | dT kvs=>obtain⟨_,_,_,_,o,_,_,e,_⟩:=x;exact Zt e
 | set S n=>obtain⟨o,_,_,_,e,_⟩:=x;exact Zt e
 | ins C dx fs=>obtain⟨_,_,_,e,_⟩:=x;exact Zt e
 | own y=>obtain⟨_,e⟩:=x;exact Zt e
 | xd fs=>obtain⟨_,⟨_,_,_,e,_⟩,_⟩:=x;exact Zt e
 | rng lo hi=>obtain⟨_,_,_,e⟩:=x;exact Zt e
 | frz ob u=>obtain⟨e,_⟩:=x;exact Zt e
 | tbl ps=>exact Zt (show h.get? a=some _ from x)
 | met f y=>exact Zt (show h.get? a=some _ from x)
 | ext φ=>obtain⟨_,⟨_,e⟩,_⟩:=x;exact Zt e
def Paired.Qgt{α β:Type}{F G:α->β->Prop}:∀{l₁:List α}{l₂:List β},Paired F l₁ l₂->(∀a b,F a b->G a b)->Paired G l₁ l₂
 | _,_,.nil,_=> .nil
 | _,_,.cons r t,f=> .cons (f _ _ r) (Paired.Qgt t f)
def QbZ.Qgj(x:QbZ P w H h a o)(k:∀b u,(b=a∨H b=some (.own a))->h.get? b=some u->h'.get? b=some u)
  (ho:∀b,H b=some (.own a)->H' b=some (.own a)) (ht:∀b xs,H b=some (.tup xs)->H' b=some (.tup xs)):QbZ P w H' h' a o:=by
 induction o with
 | lst xs=>obtain⟨z,its,n,r,e⟩:=x;exact⟨z,its,n,r,k _ _ (.inl rfl) e⟩
 | tup xs=>obtain⟨z,its,r,ob,e,c⟩:=x;exact⟨z,its,r,ob,k _ _ (.inl rfl) e,c⟩
 | dK kvs=>obtain⟨z,y,vs,r,ob,es,ep,e,c⟩:=x;exact⟨z,y,vs,r,ob,es,ep,k _ _ (.inl rfl) e,c⟩
 | dT kvs=>
  obtain⟨z,y,xs,r,ob,es,ep,e,c⟩:=x;exact⟨z,y,xs,Paired.Qgt r λp q z=>⟨z.1,ht _ _ z.2.1,z.2.2⟩,ob,es,ep,k _ _ (.inl rfl) e,c⟩
 | set S n=>obtain⟨ob,es,ep,t,e,c⟩:=x;exact⟨ob,es,ep,t,k _ _ (.inl rfl) e,c⟩
 | ins C dx fs=>
  obtain⟨d,z,ne,e,mA,⟨od,es,ep,e2,c⟩,r⟩:=x;exact⟨ho _ d,z,ne,k _ _ (.inl rfl) e,mA,⟨od,es,ep,k _ _ (.inr d) e2,c⟩,r⟩
 | own y=>obtain⟨ob,e⟩:=x;exact⟨ob,k _ _ (.inl rfl) e⟩
 | xd fs=>obtain⟨mA,⟨od,es,ep,e,c⟩,r⟩:=x;exact⟨mA,⟨od,es,ep,k _ _ (.inl rfl) e,c⟩,r⟩
 | rng lo hi=>obtain⟨t,u,v,e⟩:=x;exact⟨t,u,v,k _ _ (.inl rfl) e⟩
 | frz ob u ih=>obtain⟨e,q⟩:=x;exact⟨k _ _ (.inl rfl) e,ih q⟩
 | tbl ps=>
  have e:h.get? a=some {cls:= .none,data:= .fields ps}:=x;show h'.get? a=some {cls:= .none,data:= .fields ps};exact k a _ (.inl rfl) e
 | met f y=>
  have e:h.get? a=some (PySem.W.methodObj (.ref f) (.ref y)):=x;show h'.get? a=some (PySem.W.methodObj (.ref f) (.ref y));exact k a _ (.inl rfl) e
 | ext φ=>obtain⟨p,⟨o,e⟩,st⟩:=x;exact⟨st _ _ p λo q=>k _ _ (.inl rfl) q,⟨o,k _ _ (.inl rfl) e⟩,st⟩
def HOk.lt(x:HOk P w H h)(e:H a=some o):a<h.objs.size:=(x a o e).lt
def HOk.fresh(x:HOk P w H h)(e:h.objs.size<=a):H a=none:=by
 cases q:H a with
 | none=>rfl
 | some u=>exact absurd (Zx (x.lt q) e) (ZU _)
def HOk.kept(x:HOk P w H h)(k:∀b u,h.get? b=some u->h'.get? b=some u):HOk P w H h':=λa o e=>
 (x a o e).Qgj (λb u _ q=>k b u q) (λ_ q=>q) λ_ _ q=>q
def HOk.laid(x:HOk P w H h)(k:∀b u,h.get? b=some u->h'.get? b=some u)(hp:h.objs.size<=a)(new:QbZ P w (upd H a o) h' a o):HOk P w (upd H a o) h':=λb u e=>by
 have hn:=x.fresh hp;by_cases hb:b=a
 .subst hb;rw[Qat]at e;cases e;exact new
 .rw[QM hb]at e;exact(x b u e).Qgj (λc v _ q=>k c v q) (λc q=>by rw[QM (Qb8 q hn)];exact q) λc xs q=>by rw[QM (Qb8 q hn)];exact q
end
def Rd(H:Hp)(a:Addr)(u:HO):Prop:=H a=some u∨∃o,H a=some (.frz o u)
def Rd.ok{P:Program}{w:World}{H:Hp}{h:Heap}{a:Addr}{u:HO}(r:Rd H a u)(x:HOk P w H h):QbZ P w H h a u:=by
 rcases r with r | ⟨o,r⟩
 .exact x a u r
 .obtain⟨_,q⟩:=x a _ r;exact q
def Mut:Option HO->Prop
 | some (.lst _)=>True
 | some (.dK _)=>True
 | some (.dT _)=>True
 | some (.set _ _)=>True
 | some (.ins _ _ _)=>True
 | some (.ext _)=>True
 | _=>False
section
variable {P:Program}{w:World}{H:Hp}{h h':Heap}{x e:Addr}{o':HO}
def HOk.write(ok:HOk P w H h)(mu:Mut (H x))(he:e=x∨H e=some (.own x))(k:∀b u,b≠e->h.get? b=some u->h'.get? b=some u)(heo:∃u,h'.get? e=some u)
  (new:QbZ P w (upd H x o') h' x o'):HOk P w (upd H x o') h':=λb u q=>by
 have nown:∀c y,H c=some (.own y)->c≠x:=λc y r z=>by subst z;rw[r]at mu;exact mu
 have ntup:∀c xs,H c=some (.tup xs)->c≠x:=λc xs r z=>by subst z;rw[r]at mu;exact mu
 by_cases hb:b=x
 .subst hb;rw[Qat]at q;cases q;exact new
 .rw[QM hb]at q;by_cases hbe:b=e
  .have q':H b=some (.own x):=by
    rcases he with z | z
    .exact absurd (hbe.trans z) hb
    .rw[hbe];exact z
   rw[q]at q';cases q';obtain⟨v,hv⟩:=heo;exact⟨v,by rw[hbe];exact hv⟩
  .refine(ok b u q).Qgj (λc v hc r=>k c v ?_ r) (λc r=>by rw[QM (nown c b r)];exact r) λc xs r=>by rw[QM (ntup c xs r)];exact r
   rcases hc with rfl | hc
   .exact hbe
   .rintro rfl;rcases he with z | z
    .exact nown c b hc z
    .rw[hc]at z;cases z;exact hb rfl
end
structure Un (fs ex:LAd) (H H':Hp) (h h':Heap):Prop where
 keep:∀b o,h.get? b=some o->H b=none->b∉fs->b∉ex->h'.get? b=some o
 slot:∀b o,h.get? b=some o->H b=none->b∈fs->b∉ex->∃sl,h'.get? b=some {o with slots:=sl}
 free:∀b o,h.get? b=some o->H b=none->b∉ex->H' b=none
 there:∀b o,h.get? b=some o->b∉ex->∃o',h'.get? b=some o'
 tups:∀b xs,H b=some (.tup xs)->H' b=some (.tup xs)
 frzs:∀b o u,H b=some (.frz o u)->H' b=some (.frz o u)
 tbls:∀b ps,H b=some (.tbl ps)->∃more,H' b=some (.tbl (ps++more))
section
variable {fs fs' ex ex':LAd}{H H1 H2:Hp}{h h1 h2 h':Heap}{a x e:Addr}{o:HO}
def Un.any(u:Un fs ex H H1 h h1){b:Addr}{ob:Obj}(q:h.get? b=some ob)(n:H b=none)(hx:b∉ex):∃sl,h1.get? b=some {ob with slots:=sl}:=by
 by_cases hb:b∈fs
 .exact u.slot b ob q n hb hx
 .exact⟨ob.slots,u.keep b ob q n hb hx⟩
def Un.kept(k:∀b u,h.get? b=some u->h'.get? b=some u):Un fs ex H H h h':=
 ⟨λb ob q _ _ _=>k b ob q,λb ob q _ _ _=>⟨ob.slots,k b ob q⟩,λ_ _ _ n _=>n,λb ob q _=>⟨ob,k b ob q⟩,λ_ _ q=>q,λ_ _ _ q=>q,λ_ ps q=>⟨#[],by rw[q];simp⟩⟩
def Un.refl:Un fs ex H H h h:=Un.kept λ_ _ q=>q
def Un.laid(k:∀b u,h.get? b=some u->h'.get? b=some u)(hp:h.objs.size<=a)(hn:H a=none):Un fs ex H (upd H a o) h h' where
 keep:=λb u q _ _ _=>k b u q
 slot:=λb u q _ _ _=>⟨u.slots,k b u q⟩
 free:=λb u q n _=>by rw[QM (ZK (Zx (Zt q) hp))];exact n
 there:=λb u q _=>⟨u,k b u q⟩
 tups:=λb xs q=>by rw[QM (Qb8 q hn)];exact q
 frzs:=λb u xs q=>by rw[QM (Qb8 q hn)];exact q
 tbls:=λb ps q=>⟨#[],by rw[QM (Qb8 q hn),q];simp⟩
def Un.write(mu:Mut (H x))(he:e=x∨H e=some (.own x))(k:∀b u,b≠e->h.get? b=some u->h'.get? b=some u)(heo:∃u,h'.get? e=some u):Un fs ex H (upd H x o) h h':=by
 have hx:∀b,H b=none->b≠x:=λb n z=>by subst z;rw[n]at mu;exact mu
 have hb:∀b,H b=none->b≠e:=λb n z=>by
  subst z;rcases he with r | r
  .exact hx b n r
  .rw[n]at r;cases r
 have hm:∀b u,H b=some u->¬Mut (some u)->b≠x:=λb u q nm z=>by subst z;rw[q]at mu;exact nm mu
 refine⟨λb u q n _ _=>k b u (hb b n) q,λb u q n _ _=>⟨u.slots,k b u (hb b n) q⟩,λb u q n _=>by rw[QM (hx b n)];exact n,λb u q _=>?_,
  λb xs q=>by rw[QM (hm b _ q λz=>z)];exact q,λb u xs q=>by rw[QM (hm b _ q λz=>z)];exact q,λb ps q=>⟨#[],by rw[QM (hm b _ q λz=>z),q];simp⟩⟩
 by_cases hbe:b=e
 .subst hbe;exact heo
 .exact⟨u,k b u hbe q⟩
end
noncomputable def trk(h:Heap)(H:Hp):List Addr:=(List.range h.objs.size).filter λa=>(H a).isSome
noncomputable def Qhl(h:Heap)(H:Hp):Heap:=PySem.W.hideAll h (trk h H)
def Qss(h:Heap)(H:Hp):(Qhl h H).objs.size=h.objs.size:=PySem.W.hideAll_size _ _
def QuD{h:Heap}{H:Hp}{b:Addr}{o:Obj}(e:h.get? b=some o)(n:H b=none):(Qhl h H).get? b=some o:=
 ZaV _ e λhm=>by
  have q:(H b).isSome=true:=(ZC.mp hm).2;rw[n]at q;simp at q
def Qwg{h:Heap}{H:Hp}{b:Addr}{o:Obj}(e:(Qhl h H).get? b=some o):h.get? b=some o/\H b=none:=by
 have e':h.get? b=some o:=PySem.W.of_hideAll (trk h H) e;refine⟨e',?_⟩;cases q:H b with
 | none=>rfl
 | some x=>
  have hm:b∈trk h H:=ZC.mpr ⟨ZR.mpr (Zt e'),by simp[q]⟩;have z:(Qhl h H).get? b=none:=PySem.W.hideAll_none (trk h H) hm;rw[z]at e;cases e
structure Mod (K:Fgg) (mg:Str->Option Value) (base:Heap):Prop where
 kin:K.In base
 glob:base.Ns mainGlobals mg
 blt:∃mb,base.Ns builtinsNs mb/\∀x:Str,x≠ "__name__" ->mb x=bootBuiltins x
 nolimit:base.NoLimit
structure Cx where
 prog:Program
 w:World
 K:PySem.W.Frag
 mg:Str->Option Value
 base:Heap
 A:Around
 N:List Str
 s₀:Shared
 H₀:Hp
 env:Env
 outer:List Env
 stack:List Env
 ex:List Addr
 fn:Str->Bool
 calm:Bool
 pn:List (Addr×Obj)
 xe:Value->Shared->Prop
noncomputable def frs(l:List Env):List Addr:=l.filterMap (·.frame)
noncomputable abbrev Cx.fs(X:Cx):List Addr:=frs X.outer
def Vis(sc:Scope)(x:Str):Prop:=sc.names.lookup x=some .local ∨sc.names.lookup x=some .cell∨sc.names.lookup x=some .free
def Loc(sc:Scope)(x:Str):Prop:=sc.names.lookup x=some .local ∨sc.names.lookup x=some .cell
def Look(env:Env)(h:Heap)(m:Str->Option Value)(x:Str)(u:Value):Prop:=
 (env.kindOf x=some .local /\m x=some u)∨((env.kindOf x=some .cell∨env.kindOf x=some .free)/\∃c,env.cells.lookup x=some c/\h.IsCell c (some u))
structure Cx.Ok (X:Cx):Prop where
 mod:Mod X.K X.mg X.base
 kind:X.env.scope.kind= .function
 glob:X.env.globals=mainGlobals
 blt:X.env.builtins=builtinsNs
 above:X.s₀.heap.objs.size<=X.env.locals
 inj:∀x y c,X.env.cells.lookup x=some c->X.env.cells.lookup y=some c->x=y
 has:∀x,(X.env.kindOf x=some .cell∨X.env.kindOf x=some .free)->∃c,X.env.cells.lookup x=some c
 cab:∀x c,X.fn x=true->X.env.cells.lookup x=some c->X.s₀.heap.objs.size<=c
 hd:X.calm=true->X.A.handled=none
 frames:X.A.frames=some X.stack
 stk:X.stack=X.outer∨(X.stack=X.env::X.outer/\X.env.frame=some X.env.locals)
 exf:∀b∈X.ex,b≠X.env.locals/\∀x c,X.env.cells.lookup x=some c->c≠b
 bs:∀b o,X.base.get? b=some o->X.s₀.heap.get? b=some o/\X.H₀ b=none
 bsz:X.base.objs.size<=X.s₀.heap.objs.size
 noex:∀b o,X.base.get? b=some o->b∉X.ex
 exfs:∀b∈X.ex,b∉X.fs
 QdI:X.s₀.heap.FunFrames X.base X.outer
 frf:∀b∈X.fs,X.H₀ b=none
structure Inv (X:Cx) (pins:List (Addr×Obj)) (U:List (Option V)) (H:Hp) (s:Shared):Prop where
 ok:X.Ok
 os:s.os=X.s₀.os
 bare:AllBare s.gens
 base:Un X.fs X.ex X.H₀ H X.s₀.heap s.heap
 loc:∃m,s.heap.Ns X.env.locals m/\∀(i:Nat) (x:Str) (v:V),X.N[i]? =some x->U[i]? =some (some v)->Vis X.env.scope x->∃u,RelV v u/\Look X.env s.heap m x u
 cell:∀x c,X.env.cells.lookup x=some c->∃v,s.heap.IsCell c v
 free:H X.env.locals=none
 freeC:∀x c,X.env.cells.lookup x=some c->H c=none
 pin:∀p∈X.pn++pins,s.heap.get? p.1=some p.2/\H p.1=none/\p.1≠X.env.locals/\p.1∉X.fs/\∀v,p.2.data≠ .cell v
 hok:HOk X.prog X.w H s.heap
 len:U.length=X.N.length
section
variable {X:Cx}{pins:List (Addr×Obj)}{U:List (Option V)}{H H':Hp}{s:Shared}{h':Heap}
def Cx.Ok.QBo(ok:X.Ok){b:Addr}{o:Obj}(e:X.base.get? b=some o):b∉X.fs:=λhb=>by
 have:=(ok.QdI.mem hb).1;rw[e]at this;cases this
def Inv.bs(I:Inv X pins U H s):∀b o,X.base.get? b=some o->s.heap.get? b=some o/\H b=none:=λb o e=>
 ⟨I.base.keep b o (I.ok.bs b o e).1 (I.ok.bs b o e).2 (I.ok.QBo e) (I.ok.noex b o e),I.base.free b o (I.ok.bs b o e).1 (I.ok.bs b o e).2 (I.ok.noex b o e)⟩
def Inv.bk(I:Inv X pins U H s):∀b o,X.base.get? b=some o->s.heap.get? b=some o:=λb o e=>(I.bs b o e).1
def Inv.mod(I:Inv X pins U H s):Mod X.K X.mg X.base:=I.ok.mod
def Inv.kIn(I:Inv X pins U H s):X.K.In s.heap:=I.ok.mod.kin.keeps I.bk
def Inv.lt(I:Inv X pins U H s):X.env.locals<s.heap.objs.size:=let ⟨_,hn,_⟩:=I.loc;hn.lt
def Inv.sz(I:Inv X pins U H s):X.s₀.heap.objs.size<=s.heap.objs.size:=ZL I.ok.above (Nat.le_of_lt I.lt)
def Inv.QBE(I:Inv X pins U H s){a:Addr}(h:s.heap.objs.size<=a):a∉X.fs:=λhb=>by
 obtain⟨_,o,ho,_⟩:=I.ok.QdI.mem hb;exact absurd (Zx (Zt ho) (ZL I.sz h)) (ZU _)
def Inv.cne(I:Inv X pins U H s):∀x c,X.env.cells.lookup x=some c->c≠X.env.locals:=λx c e z=>by
 obtain⟨v,o,ho,hd⟩:=I.cell x c e;obtain⟨m,⟨o',es,ep,ho',hd',_⟩,_⟩:=I.loc;rw[z,ho']at ho;cases ho;rw[hd']at hd;cases hd
def Inv.QdI(I:Inv X pins U H s):s.heap.FunFrames X.base X.outer:=by
 have all:∀(l:List Env),(∀b∈frs l,b∈X.fs)->X.s₀.heap.FunFrames X.base l->s.heap.FunFrames X.base l:=by
  intro l
  induction l with
  | nil=>intro _ _;trivial
  | cons env r ih=>
   intro hs hl;obtain⟨hk,⟨L,o,hf,hn,ho,hd⟩,hr⟩:=hl;have hL:L∈X.fs:=hs L (by unfold frs;rw[Zbm,hf];exact Zf);obtain⟨sl,e⟩:=I.base.slot L o ho (I.ok.frf L hL) hL λz=>I.ok.exfs L z hL;exact⟨hk,⟨L,_,hf,hn,e,hd⟩,ih (λb hb=>hs b (by unfold frs;rw[Zbm,hf];exact Zc _ hb)) hr⟩
 exact all X.outer (λ_ hb=>hb) I.ok.QdI
def Inv.stack(I:Inv X pins U H s):s.heap.FunFrames X.base X.stack:=by
 rcases I.ok.stk with e | ⟨e,hf⟩
 .rw[e];exact I.QdI
 .rw[e];obtain⟨m,hn,_⟩:=I.loc;refine .cons (by rw[I.ok.kind];decide) hf hn ?_ I.QdI;exact Heap.get?_none_of_le (ZL I.ok.bsz I.ok.above)
def Inv.QeS(I:Inv X pins U H s):∀b∈frs X.stack,b∈X.env.locals::X.fs:=λb hb=>by
 rcases I.ok.stk with e | ⟨e,hf⟩
 .rw[e]at hb;exact Zc _ hb
 .rw[e]at hb;unfold frs at hb;rw[Zbm,hf]at hb;exact hb
def Inv.Qly(I:Inv X pins U H s):∀b∈frs X.stack,H b=none:=λb hb=>by
 rcases Zn.mp (I.QeS b hb)with e | hb
 .rw[e];exact I.free
 .obtain⟨_,o,ho,_⟩:=I.ok.QdI.mem hb;exact I.base.free b o ho (I.ok.frf b hb) λz=>I.ok.exfs b z hb
def Inv.step{g':Array GenState}{t':Nat}{d':Drawn}{ch:LAd}(I:Inv X pins U H s)
  (hch:∀b∈ch,(b∈X.ex∨X.s₀.heap.objs.size<=b)/\b≠X.env.locals/\(∀x c,X.env.cells.lookup x=some c->c≠b)/\∀p∈X.pn++pins,p.1≠b)
  (keep:∀b o,b≠X.env.locals->b∉X.fs->b∉ch->s.heap.get? b=some o->H b=none->h'.get? b=some o)
  (slot:∀b o,b≠X.env.locals->b∈X.fs->b∉ch->s.heap.get? b=some o->H b=none->∃sl,h'.get? b=some {o with slots:=sl}) (free:∀b o,b∉ch->s.heap.get? b=some o->H b=none->H' b=none)
  (there:∀b o,b∉ch->s.heap.get? b=some o->∃o',h'.get? b=some o')
  (tups:∀b xs,H b=some (.tup xs)->H' b=some (.tup xs)) (frzs:∀b o u,H b=some (.frz o u)->H' b=some (.frz o u)) (tbls:∀b ps,H b=some (.tbl ps)->∃more,H' b=some (.tbl (ps++more)))
  (ns:∀m,s.heap.Ns X.env.locals m->h'.Ns X.env.locals m) (hok:HOk X.prog X.w H' h') (hg:AllBare g'):
  Inv X pins U H' {s with heap:=h',gens:=g',drawn:=d',toks:=t'}:=by
 have neL:∀b o,X.s₀.heap.get? b=some o->b≠X.env.locals:=λb o e=>ZK (Zx (Zt e) I.ok.above);have neC:∀b o,X.s₀.heap.get? b=some o->b∉X.ex->b∉ch:=λb o e hx hb=>by
  rcases(hch b hb).1 with z | z
  .exact hx z
  .exact absurd (Zx (Zt e) z) (ZU _)
 have cellK:∀x c,X.env.cells.lookup x=some c->∀v,s.heap.IsCell c v->h'.IsCell c v:=λx c e v Z=>by
  obtain⟨o,ho,hd⟩:=Z;have nch:c∉ch:=λz=>(hch c z).2.2.1 x c e rfl;by_cases hc:c∈X.fs
  .obtain⟨sl,q⟩:=slot c o (I.cne x c e) hc nch ho (I.freeC x c e);exact⟨_,q,hd⟩
  .exact⟨o,keep c o (I.cne x c e) hc nch ho (I.freeC x c e),hd⟩
 refine⟨I.ok,I.os,hg,⟨λb o e n hb hx=>?_,λb o e n hb hx=>?_,λb o e n hx=>?_,λb o e hx=>?_,λb xs e=>tups b xs (I.base.tups b xs e),λb o xs e=>frzs b o xs (I.base.frzs b o xs e),λb ps e=>?_⟩,?_,λx c e=>?_,?_,λx c e=>?_,λp hp=>?_,hok,I.len⟩
 .exact keep b o (neL b o e) hb (neC b o e hx) (I.base.keep b o e n hb hx) (I.base.free b o e n hx)
 .obtain⟨sl,e1⟩:=I.base.slot b o e n hb hx;obtain⟨sl',e2⟩:=slot b _ (neL b o e) hb (neC b o e hx) e1 (I.base.free b o e n hx);exact⟨sl',e2⟩
 .obtain⟨o',e1⟩:=I.base.there b o e hx;exact free b o' (neC b o e hx) e1 (I.base.free b o e n hx)
 .obtain⟨o',e1⟩:=I.base.there b o e hx;exact there b o' (neC b o e hx) e1
 .obtain⟨m1,e1⟩:=I.base.tbls b ps e;obtain⟨m2,e2⟩:=tbls b _ e1;exact⟨m1++m2,by rw[e2,Array.append_assoc]⟩
 .obtain⟨m,hn,hl⟩:=I.loc;refine⟨m,ns m hn,λi x v e1 e2 e3=>?_⟩;obtain⟨u,r,l⟩:=hl i x v e1 e2 e3;refine⟨u,r,?_⟩;rcases l with l | ⟨k,c,e,z⟩
  .exact .inl l
  .exact .inr ⟨k,c,e,cellK x c e _ z⟩
 .obtain⟨v,z⟩:=I.cell x c e;exact⟨v,cellK x c e v z⟩
 .obtain⟨m,⟨o,_,_,ho,_⟩,_⟩:=I.loc;exact free _ o (λz=>(hch _ z).2.1 rfl) ho I.free
 .obtain⟨v,o,ho,hd⟩:=I.cell x c e;exact free c o (λz=>(hch c z).2.2.1 x c e rfl) ho (I.freeC x c e)
 .obtain⟨e,n,ne,nf,d⟩:=I.pin p hp;have nch:p.1∉ch:=λz=>(hch p.1 z).2.2.2 p hp rfl;exact⟨keep p.1 p.2 ne nf nch e n,free p.1 p.2 nch e n,ne,nf,d⟩
def Inv.un{t':Nat}(I:Inv X pins U H s)(u:Un X.fs [] H H' s.heap h')(hok:HOk X.prog X.w H' h'):Inv X pins U H' {s with heap:=h',toks:=t'}:=by
 obtain⟨m,⟨o,es,ep,ho,r⟩,_⟩:=id I.loc;obtain⟨sl,hL⟩:=u.any ho I.free ⋯;exact I.step (g':=s.gens) (d':=s.drawn) (ch:=[]) (λ_ z=>nomatch z) (λb o _ hb _ e n=>u.keep b o e n hb ⋯) (λb o _ hb _ e n=>u.slot b o e n hb ⋯) (λb o _ e n=>u.free b o e n ⋯) (λb o _ e=>u.there b o e ⋯) u.tups u.frzs u.tbls (λm' hm=>by
  obtain⟨o',es',ep',ho',r'⟩:=hm;rw[ho]at ho';cases ho';exact⟨_,es',ep',hL,r'⟩) hok I.bare
def Inv.call{g':Array GenState}{t':Nat}{d':Drawn}{ch:LAd}(I:Inv X pins U H s)(u:Un (frs X.stack) ch H H' s.heap h')(hok:HOk X.prog X.w H' h')(hg:AllBare g')
  (hch:∀b∈ch,(b∈X.ex∨X.s₀.heap.objs.size<=b)/\b≠X.env.locals/\(∀x c,X.env.cells.lookup x=some c->c≠b)/\∀p∈X.pn++pins,p.1≠b):
  Inv X pins U H' {s with heap:=h',gens:=g',drawn:=d',toks:=t'}:=by
 obtain⟨m,⟨o,es,ep,ho,r⟩,_⟩:=id I.loc;obtain⟨sl,hL⟩:=u.any ho I.free λz=>(hch _ z).2.1 rfl;exact I.step (ch:=ch) hch (λb o hL hb hc e n=>u.keep b o e n (λz=>(Zn.mp (I.QeS b z)).elim hL hb) hc) (λb o _ _ hc e n=>u.any e n hc) (λb o hc e n=>u.free b o e n hc) (λb o hc e=>u.there b o e hc) u.tups u.frzs u.tbls (λm' hm=>by
  obtain⟨o',es',ep',ho',r'⟩:=hm;rw[ho]at ho';cases ho';exact⟨_,es',ep',hL,r'⟩) hok hg
def Inv.turned{t':Nat}{it:Addr}(I:Inv X pins U H s)(k:∀b o,b≠it->s.heap.get? b=some o->h'.get? b=some o)(hn:H it=none)(hL:it≠X.env.locals)
  (h1:it∈X.ex∨X.s₀.heap.objs.size<=it) (h2:∀x c,X.env.cells.lookup x=some c->c≠it) (h3:∀p∈X.pn++pins,p.1≠it):Inv X pins U H {s with heap:=h',toks:=t'}:=by
 have nit:∀b u,H b=some u->b≠it:=λb u e z=>by rw[z,hn]at e;cases e
 refine I.step (g':=s.gens) (d':=s.drawn) (ch:=[it]) (λb hb=>?_) (λb o _ _ hc e _=>k b o (λz=>hc (by simp[z])) e) (λb o _ _ hc e _=>⟨o.slots,k b o (λz=>hc (by simp[z])) e⟩) (λ_ _ _ _ n=>n)
  (λb o hc e=>⟨o,k b o (λz=>hc (by simp[z])) e⟩) (λ_ _ e=>e) (λ_ _ _ e=>e) (λb ps e=>⟨#[],by rw[e];simp⟩) (λm hm=>?_) (λb u e=>?_) I.bare
 .have e:b=it:=by simpa using hb
  subst e;exact⟨h1,hL,h2,h3⟩
 .obtain⟨o,es,ep,ho,r⟩:=hm;exact⟨o,es,ep,k _ o (Ne.symm hL) ho,r⟩
 .refine(I.hok b u e).Qgj (λc v hc q=>k c v ?_ q) (λ_ q=>q) λ_ _ q=>q;rcases hc with z | z
  .rw[z];exact nit b u e
  .exact nit c _ z
def Inv.tok(I:Inv X pins U H s)(t:Nat):Inv X pins U H {s with toks:=t}:=I.un (h':=s.heap) (t':=t) Un.refl I.hok
def Inv.kept{t':Nat}(I:Inv X pins U H s)(k:∀b u,s.heap.get? b=some u->h'.get? b=some u):Inv X pins U H {s with heap:=h',toks:=t'}:=I.un (Un.kept k) (I.hok.kept k)
def Inv.laid{a:Addr}{o:HO}{t':Nat}(I:Inv X pins U H s)(k:∀b u,s.heap.get? b=some u->h'.get? b=some u)(hp:s.heap.objs.size<=a)(new:QbZ X.prog X.w (upd H a o) h' a o):
  Inv X pins U (upd H a o) {s with heap:=h',toks:=t'}:=I.un (Un.laid k hp (I.hok.fresh hp)) (I.hok.laid k hp new)
def Inv.write{x e:Addr}{o:HO}{t':Nat}(I:Inv X pins U H s)(mu:Mut (H x))(he:e=x∨H e=some (.own x))(k:∀b u,b≠e->s.heap.get? b=some u->h'.get? b=some u)(heo:∃u,h'.get? e=some u)
  (new:QbZ X.prog X.w (upd H x o) h' x o):Inv X pins U (upd H x o) {s with heap:=h',toks:=t'}:=I.un (Un.write mu he k heo) (I.hok.write mu he k heo new)
def Inv.weak{U':List (Option V)}(I:Inv X pins U H s)(hl:U'.length=U.length)(w:∀(i:Nat) v,U'[i]? =some (some v)->U[i]? =some (some v)):Inv X pins U' H s:=
 ⟨I.ok,I.os,I.bare,I.base,let ⟨m,hn,hl'⟩:=I.loc;⟨m,hn,λi x v e1 e2 e3=>hl' i x v e1 (w i v e2) e3⟩,I.cell,I.free,I.freeC,I.pin,I.hok,hl.trans I.len⟩
def Inv.Qp0{pins':List (Addr×Obj)}(I:Inv X pins U H s)(h:∀p∈pins',s.heap.get? p.1=some p.2/\H p.1=none/\p.1≠X.env.locals/\p.1∉X.fs/\∀v,p.2.data≠ .cell v):Inv X pins' U H s:=
 ⟨I.ok,I.os,I.bare,I.base,I.loc,I.cell,I.free,I.freeC,λp hp=>(Zr.mp hp).elim (λz=>I.pin p (Ze _ z)) (h p),I.hok,I.len⟩
def Qkc{N:List Str}(hN:N.Nodup){i j:Nat}{x:Str}(a:N[i]? =some x)(b:N[j]? =some x):i=j:=by
 obtain⟨h1,e1⟩:=Zg.mp a;obtain⟨h2,e2⟩:=Zg.mp b;exact(List.getElem_inj hN).mp (e1.trans e2.symm)
def QmS{M:Model}{A:Around}{E:Value->Shared->Prop}{i:Nat}{x:Str}{v:V}{u:Value}{Q:Unit->Shared->Prop}(I:Inv X pins U H s)(hN:X.N.Nodup)(hi:X.N[i]? =some x)(hx:Loc X.env.scope x)(r:RelV v u)
  (h:∀s',Inv X pins (U.set i (some v)) H s'->(∃a,Heap.SameBut a s.heap s'.heap/\(a=X.env.locals∨X.env.cells.lookup x=some a))->Q () s') (hf:X.fn x=true∨X.env.scope.names.lookup x=some .local :=by first | exact .inl rfl | exact .inr rfl | assumption):wpAny M A (storeName X.env x u) Q E s:=by
 obtain⟨m,hn,hl⟩:=id I.loc;have hcls:(X.env.scope.kind == .class || (X.env.scope.kind == .module && X.env.locals != X.env.globals))=false:=by rw[I.ok.kind];rfl
 have hiU:i<U.length:=by rw[I.len];exact(Zg.mp hi).1
 have cne:=I.cne;have tracked:∀{a:Addr}{h':Heap},(∃o,s.heap.get? a=some o/\H a=none)->Heap.SameBut a s.heap h'->HOk X.prog X.w H h':=λ{a h'} ha hs b ob e=>by
  obtain⟨_,_,hfree⟩:=ha;refine(I.hok b ob e).Qgj (λc w' hc q=>(hs.2 c ?_).trans q) (λ_ q=>q) λ_ _ q=>q;rintro rfl;rcases hc with rfl | hc
  .rw[hfree]at e;cases e
  .rw[hfree]at hc;cases hc
 rcases hx with hk | hk
 .refine wpAny_storeName_local hk hn (λh' hn' hs=>?_) hcls;obtain⟨oL,_,_,hoL,_⟩:=id hn;refine h _ ⟨I.ok,I.os,I.bare,⟨λb o e n hb hx=>?_,λb o e n hb hx=>?_,I.base.free,λb o e hx=>?_,I.base.tups,I.base.frzs,I.base.tbls⟩,⟨_,hn',λj y v' e1 e2 e3=>?_⟩,λy c e=>?_,I.free,I.freeC,λp hp=>?_,tracked ⟨oL,hoL,I.free⟩ hs,by simpa using I.len⟩ ⟨_,hs,.inl rfl⟩
  .exact(hs.2 b (ZK (Zx (Zt e) I.ok.above))).trans (I.base.keep b o e n hb hx)
  .obtain⟨sl,e1⟩:=I.base.slot b o e n hb hx;exact⟨sl,(hs.2 b (ZK (Zx (Zt e) I.ok.above))).trans e1⟩
  .obtain⟨o',e1⟩:=I.base.there b o e hx;exact⟨o',(hs.2 b (ZK (Zx (Zt e) I.ok.above))).trans e1⟩
  .by_cases hj:j=i
   .subst hj;rw[hi]at e1;cases e1;rw[Zm hiU]at e2;cases e2;exact⟨u,r,.inl ⟨hk,⋯⟩⟩
   .rw[Zh (Ne.symm hj)]at e2;obtain⟨u',r',q⟩:=hl j y v' e1 e2 e3;refine⟨u',r',?_⟩;rcases q with⟨k,e⟩ | ⟨k,c,e,z⟩
    .refine .inl ⟨k,?_⟩;have:y≠x:=λe=>hj (Qkc hN e1 (e▸hi));simp[this,e]
    .exact .inr ⟨k,c,e,z.sameBut hs (cne y c e)⟩
  .obtain⟨w',z⟩:=I.cell y c e;exact⟨w',z.sameBut hs (cne y c e)⟩
  .obtain⟨e,n,ne,nf,d⟩:=I.pin p hp;exact⟨(hs.2 p.1 ne).trans e,n,ne,nf,d⟩
 .have hfn:X.fn x=true:=by
   rcases hf with z | z
   .exact z
   .rw[z]at hk;cases hk
  obtain⟨c,hc⟩:=I.ok.has x (.inl hk);obtain⟨w',z⟩:=I.cell x c hc;refine wpAny_storeName_cell I.ok.kind hk hc z (λh' hc' hs=>?_);obtain⟨oc,hoc,hocd⟩:=id z;refine h {s with heap:=h'} ⟨I.ok,I.os,I.bare,⟨λb o e n hb hx=>?_,λb o e n hb hx=>?_,I.base.free,λb o e hx=>?_,I.base.tups,I.base.frzs,I.base.tbls⟩,⟨m,hn.sameBut hs (Ne.symm (cne x c hc)),λj y v' e1 e2 e3=>?_⟩,λy c' e=>?_,I.free,I.freeC,λp hp=>?_,tracked ⟨oc,hoc,I.freeC x c hc⟩ hs,by simpa using I.len⟩ ⟨c,hs,.inr hc⟩
  .exact(hs.2 b (ZK (Zx (Zt e) (I.ok.cab x c hfn hc)))).trans (I.base.keep b o e n hb hx)
  .obtain⟨sl,e1⟩:=I.base.slot b o e n hb hx;exact⟨sl,(hs.2 b (ZK (Zx (Zt e) (I.ok.cab x c hfn hc)))).trans e1⟩
  .obtain⟨o',e1⟩:=I.base.there b o e hx;exact⟨o',(hs.2 b (ZK (Zx (Zt e) (I.ok.cab x c hfn hc)))).trans e1⟩
  .by_cases hj:j=i
   .subst hj;rw[hi]at e1;cases e1;rw[Zm hiU]at e2;cases e2;exact⟨u,r,.inr ⟨.inl hk,c,hc,hc'⟩⟩
   .rw[Zh (Ne.symm hj)]at e2;obtain⟨u',r',q⟩:=hl j y v' e1 e2 e3;refine⟨u',r',?_⟩;rcases q with q | ⟨k,c',e,z'⟩
    .exact .inl q
    .refine .inr ⟨k,c',e,z'.sameBut hs ?_⟩;rintro rfl;exact hj (Qkc hN e1 (I.ok.inj _ _ _ e hc▸hi))
  .by_cases hcc:c'=c
   .subst hcc;exact⟨_,hc'⟩
   .obtain⟨w2,z2⟩:=I.cell y c' e;exact⟨w2,z2.sameBut hs hcc⟩
  .obtain⟨e,n,ne,nf,d⟩:=I.pin p hp;refine⟨(hs.2 p.1 ?_).trans e,n,ne,nf,d⟩;intro q;rw[q,hoc]at e;have q':oc=p.2:=Option.some.inj e;exact d w' (by rw[← q'];exact hocd)
def Qhv{M:Model}{A:Around}{E:Value->Shared->Prop}{i:Nat}{x:Str}{v:V}{u:Value}{Q:Unit->Shared->Prop}(I:Inv X pins U H s)(hN:X.N.Nodup)(hi:X.N[i]? =some x)(hx:Loc X.env.scope x)(r:RelV v u)
  (h:∀s',Inv X pins (U.set i (some v)) H s'->Q () s') (hf:X.fn x=true∨X.env.scope.names.lookup x=some .local :=by first | exact .inl rfl | exact .inr rfl | assumption):wpAny M A (storeName X.env x u) Q E s:=
 QmS I hN hi hx r (λs' I' _=>h s' I') hf
def Inv.QqG{s':Shared}{ch:LAd}(I:Inv X pins U H s)(ho:s'.os=s.os)(u:Un (frs X.stack) ch H H' s.heap s'.heap)(hok:HOk X.prog X.w H' s'.heap)(hg:AllBare s'.gens)
  (hch:∀b∈ch,(b∈X.ex∨X.s₀.heap.objs.size<=b)/\b≠X.env.locals/\(∀x c,X.env.cells.lookup x=some c->c≠b)/\∀p∈X.pn++pins,p.1≠b):Inv X pins U H' s':=by
 obtain⟨h',g',d',t',o'⟩:=s';have e:o'=s.os:=ho;subst e;exact I.call (g':=g') (t':=t') (d':=d') u hok hg hch
end
abbrev XK:=Value->Option Addr->Hp->Prop
noncomputable abbrev St:=List (Option V)
abbrev VK:=V->Hp->Prop
abbrev TE:=St->Hp->VK->Prop
abbrev TT:=St->Hp->(Bool->Hp->Prop)->Prop
abbrev TA:=St->Hp->(List V->Hp->Prop)->Prop
structure Ends where
 nx:St->Hp->Prop
 rt:VK
 bk:St->Hp->Prop:=λ_ _=>False
 ct:St->Hp->Prop:=λ_ _=>False
abbrev TS:=Ends->St->Hp->Prop
def EP(X:Cx)(pins:List (Addr×Obj))(U:St)(Q:VK)(u:Value)(s':Shared):Prop:=∃v H',Inv X pins U H' s'/\RelV v u/\Q v H'
def TP(X:Cx)(pins:List (Addr×Obj))(U:St)(Q:Bool->Hp->Prop)(b:Bool)(s':Shared):Prop:=∃H',Inv X pins U H' s'/\Q b H'
def AP(X:Cx)(pins:List (Addr×Obj))(U:St)(Q:List V->Hp->Prop)(us:List Value)(s':Shared):Prop:=∃vs H',Inv X pins U H' s'/\QB vs us/\Q vs H'
def SP(X:Cx)(pins:List (Addr×Obj))(D:Ends)(f:Flow)(s':Shared):Prop:=
 match f with
 | .next=>∃U' H',Inv X pins U' H' s'/\D.nx U' H'
 | .brk=>∃U' H',Inv X pins U' H' s'/\D.bk U' H'
 | .cont=>∃U' H',Inv X pins U' H' s'/\D.ct U' H'
 | .ret u=>∃v U' H',Inv X pins U' H' s'/\RelV v u/\D.rt v H'
def PE(X:Cx)(e:Expr)(t:TE):Prop:=
 ∀(pins:List (Addr×Obj)) (s:Shared) (U:St) (H:Hp) (Q:VK),Inv X pins U H s->t U H Q->wpAny (model X.prog X.w) X.A (eval e X.env) (EP X pins U Q) X.xe s
def PT(X:Cx)(e:Expr)(t:TT):Prop:=
 ∀(pins:List (Addr×Obj)) (s:Shared) (U:St) (H:Hp) (Q:Bool->Hp->Prop),Inv X pins U H s->t U H Q->wpAny (model X.prog X.w) X.A (isTrue e X.env (eval e X.env)) (TP X pins U Q) X.xe s
def PW(X:Cx)(e:Expr)(t:TT):Prop:=
 ∀(whole:Sem Value) (pins:List (Addr×Obj)) (s:Shared) (U:St) (H:Hp) (Q:Bool->Hp->Prop),Inv X pins U H s->t U H Q->wpAny (model X.prog X.w) X.A (isTrue e X.env whole) (TP X pins U Q) X.xe s
def PW.pt{X:Cx}{e:Expr}{t:TT}(h:PW X e t):PT X e t:=h _
def PA(X:Cx)(es:List Expr)(t:TA):Prop:=
 ∀(pos:Pos) (pins:List (Addr×Obj)) (s:Shared) (U:St) (H:Hp) (Q:List V->Hp->Prop),Inv X pins U H s->t U H Q->wpAny (model X.prog X.w) X.A (spliced (backTo pos (starEach es X.env))) (AP X pins U Q) X.xe s
def PS(X:Cx)(st:Stmt)(t:TS):Prop:=
 ∀(pins:List (Addr×Obj)) (s:Shared) (U:St) (H:Hp) (D:Ends),Inv X pins U H s->t D U H->wpAny (model X.prog X.w) X.A (exec st X.env) (SP X pins D) X.xe s
def PSs(X:Cx)(st:List Stmt)(t:TS):Prop:=
 ∀(pins:List (Addr×Obj)) (s:Shared) (U:St) (H:Hp) (D:Ends),Inv X pins U H s->t D U H->wpAny (model X.prog X.w) X.A (execs st X.env) (SP X pins D) X.xe s
def thn{α:Type}{t:Sem α}{Q Q':α->Shared->Prop}{M:Model}{A:Around}{E:Value->Shared->Prop}{s:Shared}(h:wpAny M A t Q E s)(hQ:∀a s,Q a s->Q' a s):wpAny M A t Q' E s:=wpAny_mono h hQ λ_ _ x=>x
section
variable {X:Cx}
noncomputable def Qhk(i:Nat):TE:=λU H Q=>∃v,U[i]? =some (some v)/\Q v H
noncomputable def tC(v:V):TE:=λ_ H Q=>Q v H
def Qz5{i:Nat}{x:Str}{pos:Pos}(hN:X.N[i]? =some x)(hv:Vis X.env.scope x)(hd:(x == ("__debug__" :Str))=false:=by decide)(hcd:(x == ("__classdict__" :Str))=false:=by decide):PE X (.Name x pos) (Qhk i):=by
 intro pins s U H Q I h;obtain⟨v,e,h⟩:=h;obtain⟨m,hn,hl⟩:=I.loc;obtain⟨u,r,l⟩:=hl i x v hN e hv;have fin:EP X pins U Q u s:=⟨v,H,I,r,h⟩;rcases l with⟨hk,hm⟩ | ⟨hk,c,hc,hcell⟩
 .exact wpAny_Name (wpAny_loadName_local I.ok.kind hk hn hm fin) hd
 .rcases hk with hk | hk
  .exact wpAny_Name (wpAny_loadName_cell I.ok.kind hk hc hcell fin) hd
  .exact wpAny_Name (wpAny_loadName_free I.ok.kind hk hc hcell fin hcd) hd
def Qyx{i j pos}:PE X (.Constant (.int i) j pos) (tC (.int i)):=λ_ _ _ H _ I h=>wpAny_Constant_int ⟨.int i,H,I.tok _,⟨_,rfl⟩,h⟩
def QvM{b j pos}:PE X (.Constant (.bool b) j pos) (tC (.bl b)):=λ_ _ _ H _ I h=>Constant_bool ⟨.bl b,H,I,rfl,h⟩
def QyN{j pos}:PE X (.Constant .none j pos) (tC .non):=λ_ _ _ H _ I h=>Constant_none ⟨.non,H,I,rfl,h⟩
def QzM{x j pos}:PE X (.Constant (.str x) j pos) (tC (.str x)):=λ_ _ _ H _ I h=>Calls.Constant_str ⟨.str x,H,I.tok _,⟨_,rfl⟩,h⟩
def Gl(X:Cx)(x:Str):Prop:=X.env.kindOf x=some .globalImplicit
def QcO{E:Value->Shared->Prop}{pins:List (Addr×Obj)}{s:Shared}{U:St}{H:Hp}{x:Str}{u:Value}{pos:Pos}{Q:Value->Shared->Prop}(I:Inv X pins U H s)(hg:Gl X x)(hm:X.mg x=some u)(h:Q u s)
  (hd:(x == ("__debug__" :Str))=false:=by decide):wpAny (model X.prog X.w) X.A (eval (.Name x pos) X.env) Q E s:=
 Calls.Name_function_global I.ok.kind hg (Calls.loadGlobal_global (by rw[I.ok.glob];exact I.mod.glob.keeps I.bk) hm h) hd
def Qe1{E:Value->Shared->Prop}{pins:List (Addr×Obj)}{s:Shared}{U:St}{H:Hp}{x:Str}{u:Value}{pos:Pos}{Q:Value->Shared->Prop}(I:Inv X pins U H s)(hg:Gl X x)(hm:X.mg x=none)(hv:bootBuiltins x=some u)(h:Q u s)
  (hn:x≠ "__name__" :=by decide) (hd:(x == ("__debug__" :Str))=false:=by decide):wpAny (model X.prog X.w) X.A (eval (.Name x pos) X.env) Q E s:=by
 obtain⟨mb,h1,h2⟩:=I.mod.blt;exact Calls.Name_function_global I.ok.kind hg (Calls.loadGlobal_builtin (by rw[I.ok.glob];exact I.mod.glob.keeps I.bk) hm (by rw[I.ok.blt];exact h1.keeps I.bk) ((h2 x hn).trans hv) h) hd
def Qx7{x:Str}{v:V}{u:Value}{pos:Pos}(hg:Gl X x)(hm:X.mg x=some u)(r:RelV v u)(hd:(x == ("__debug__" :Str))=false:=by decide):PE X (.Name x pos) (tC v):=
 λ_ _ _ H _ I h=>QcO I hg hm ⟨v,H,I,r,h⟩ hd
def Qg1{x:Str}{v:V}{u:Value}{pos:Pos}(hg:Gl X x)(hm:X.mg x=none)(hv:bootBuiltins x=some u)(r:RelV v u)(hn:x≠ "__name__" :=by decide)(hd:(x == ("__debug__" :Str))=false:=by decide):PE X (.Name x pos) (tC v):=
 λ_ _ _ H _ I h=>Qe1 I hg hm hv ⟨v,H,I,r,h⟩ hn hd
variable {a b:Expr}{ta tb:TE}{pos:Pos}
variable {tA tB':TT}{rest:List Expr}
noncomputable def QCd(t u:TT):TT:=λU H Q=>t U H λc H1=>if c=true then u U H1 Q else Q false H1
noncomputable def tOr(t u:TT):TT:=λU H Q=>t U H λc H1=>if c=true then Q true H1 else u U H1 Q
noncomputable def QB0(t:TT):TT:=λU H Q=>t U H λc H1=>Q (!c) H1
def Qw8(ha:PT X a tA):PW X (.BoolOp .And [a] pos) tA:=by
 intro wh pins s U H Q I h;refine isTrue_and (thn (ha pins s U H Q I h) λc s1 e=>?_);cases c with
 | true=>exact isTrue_and_nil e
 | false=>exact e
def QyY(ha:PT X a tA):PW X (.BoolOp .Or [a] pos) tA:=by
 intro wh pins s U H Q I h;refine isTrue_or (thn (ha pins s U H Q I h) λc s1 e=>?_);cases c with
 | false=>exact isTrue_or_nil e
 | true=>exact e
def Qyp(ha:PT X a tA)(hb:PW X (.BoolOp .And (b::rest) pos) tB'):PW X (.BoolOp .And (a::b::rest) pos) (QCd tA tB'):=by
 intro wh pins s U H Q I h;refine isTrue_and (thn (ha pins s U H _ I h) λc s1 Z=>?_);obtain⟨H1,I1,q1⟩:=Z;cases c with
 | true=>exact hb wh pins s1 U H1 Q I1 q1
 | false=>exact⟨H1,I1,q1⟩
def QAV(ha:PT X a tA)(hb:PW X (.BoolOp .Or (b::rest) pos) tB'):PW X (.BoolOp .Or (a::b::rest) pos) (tOr tA tB'):=by
 intro wh pins s U H Q I h;refine isTrue_or (thn (ha pins s U H _ I h) λc s1 Z=>?_);obtain⟨H1,I1,q1⟩:=Z;cases c with
 | true=>exact⟨H1,I1,q1⟩
 | false=>exact hb wh pins s1 U H1 Q I1 q1
def Qyb(ha:PT X a tA):PT X (.UnaryOp .Not a pos) (QB0 tA):=by
 intro pins s U H Q I h;exact isTrue_not (ha pins s U H (λc H1=>Q (!c) H1) I h)
def Qzo{op}{t:TE}(h:PE X a t):PE X (.BoolOp op [a] pos) t:=λpins s U H Q I hw=>BoolOp_one (h pins s U H Q I hw)
noncomputable def tIf(t:TT)(ta tb:TE):TE:=λU H Q=>t U H λc H1=>if c=true then ta U H1 Q else tb U H1 Q
def Qu8{c:Expr}(hc:PT X c tA)(ha:PE X a ta)(hb:PE X b tb):PE X (.IfExp c a b pos) (tIf tA ta tb):=by
 intro pins s U H Q I h;refine wpAny_IfExp (thn (hc pins s U H _ I h) λd s1 Z=>?_);obtain⟨H1,I1,q1⟩:=Z;cases d with
 | true=>exact ha pins s1 U H1 Q I1 q1
 | false=>exact hb pins s1 U H1 Q I1 q1
end
def SqL(K:Fgg)(H:Hp)(a:Addr)(xs:List V):Prop:=
 Rd H a (.lst xs)∨
  ∃(o:Obj) (its:Array Value) (n:Nat),K.lookup a=some o/\o.cls= .type "list" /\o.dict=none/\o.data= .seq its n/\its.size<=sizeLine/\QB xs its.toList
def SqT(K:Fgg)(H:Hp)(a:Addr)(xs:List V):Prop:=
 Rd H a (.tup xs)∨
  ∃(o:Obj) (its:Array Value) (n:Nat),K.lookup a=some o/\o.cls= .type "tuple" /\o.data= .seq its n/\its.size<=sizeLine/\QB xs its.toList
noncomputable def QB3:Value->Option V
 | .none=>some .non
 | .bool b=>some (.bl b)
 | .int i _=>some (.int i)
 | .str x _=>some (.str x)
 | .bytes b _=>some (.byt b)
 | .float b _=>some (.flt b)
 | .ref a=>some (.ref a)
 | .type n=>some (.ty n)
 | _=>none
def RelV.abs{x:V}{u:Value}(r:RelV x u):QB3 u=some x:=by
 cases x with
 | non=>cases r;rfl
 | bl _=>cases r;rfl
 | int _=>obtain⟨t,rfl⟩:=r;rfl
 | str _=>obtain⟨t,rfl⟩:=r;rfl
 | byt _=>obtain⟨t,rfl⟩:=r;rfl
 | flt _=>obtain⟨t,rfl⟩:=r;rfl
 | ref _=>cases r;rfl
 | ty _=>cases r;rfl
def RelV.inj{x y:V}{u:Value}(r:RelV x u)(q:RelV y u):x=y:=Option.some.inj (r.abs.symm.trans q.abs)
def QB.inj:∀{xs ys:List V}{us:List Value},QB xs us->QB ys us->xs=ys
 | _,_,_,.nil,.nil=>rfl
 | _,_,_,.cons r t,.cons r' t'=>by rw[r.inj r',QB.inj t t']
section
variable {X:Cx}{pins:List (Addr×Obj)}{U:St}{H:Hp}{s:Shared}{a:Addr}{xs ys:List V}
def SqL.of{K:Fgg}(h:H a=some (.lst xs)):SqL K H a xs:= .inl (.inl h)
def SqT.of{K:Fgg}(h:H a=some (.tup xs)):SqT K H a xs:= .inl (.inl h)
def Inv.list(I:Inv X pins U H s)(h:SqL X.K H a xs):∃its:List Value,QB xs its/\PlainL s.heap a its.toArray/\xs.length<=sizeLine:=by
 rcases h with h | ⟨o,its,n,hk,hc,hd,hs,hz,r⟩
 .obtain⟨z,its,n,r,e⟩:=h.ok I.hok;exact⟨its,r,⟨_,n,e,rfl,rfl,rfl⟩,z⟩
 .refine⟨its.toList,r,⟨o,n,I.kIn a o hk,hc,hd,by simpa using hs⟩,?_⟩;have e:=r.length;simp only[Zaa]at e;omega
def Inv.tuple(I:Inv X pins U H s)(h:SqT X.K H a xs):∃its:List Value,QB xs its/\IsTup s.heap a its.toArray/\xs.length<=sizeLine:=by
 rcases h with h | ⟨o,its,n,hk,hc,hs,hz,r⟩
 .obtain⟨z,its,r,p⟩:=h.ok I.hok;exact⟨its,r,p,z⟩
 .refine⟨its.toList,r,⟨o,I.kIn a o hk,hc,n,by simpa using hs⟩,?_⟩;have e:=r.length;simp only[Zaa]at e;omega
def Inv.QhB(I:Inv X pins U H s)(h:SqL X.K H a xs)(h':SqL X.K H a ys):xs=ys:=by
 obtain⟨its,r,⟨o,n,e,_,_,d⟩,_⟩:=I.list h;obtain⟨its',r',⟨o',n',e',_,_,d'⟩,_⟩:=I.list h';rw[e]at e';cases e';rw[d]at d';injection d' with d1 _;have:its=its':=by simpa using congrArg Array.toList d1
 subst this;exact r.inj r'
def Inv.Qsl(I:Inv X pins U H s)(h:SqT X.K H a xs)(h':SqT X.K H a ys):xs=ys:=by
 obtain⟨its,r,⟨o,e,_,n,d⟩,_⟩:=I.tuple h;obtain⟨its',r',⟨o',e',_,n',d'⟩,_⟩:=I.tuple h';rw[e]at e';cases e';rw[d]at d';injection d' with d1 _;have:its=its':=by simpa using congrArg Array.toList d1
 subst this;exact r.inj r'
end
noncomputable abbrev Cx.QfE(X:Cx)(E:Value->Shared->Prop):Cx:={X with xe:=E}
noncomputable abbrev Cx.nox(X:Cx):Cx:=X.QfE λ_ _=>False
def Cx.Ok.QfE{X:Cx}(ok:X.Ok)(E:Value->Shared->Prop):(X.QfE E).Ok:=
 ⟨ok.mod,ok.kind,ok.glob,ok.blt,ok.above,ok.inj,ok.has,ok.cab,ok.hd,ok.frames,ok.stk,ok.exf,ok.bs,ok.bsz,ok.noex,ok.exfs,ok.QdI,ok.frf⟩
def Cx.Ok.QeP{X:Cx}{E:Value->Shared->Prop}(ok:(X.QfE E).Ok):X.Ok:=
 ⟨ok.mod,ok.kind,ok.glob,ok.blt,ok.above,ok.inj,ok.has,ok.cab,ok.hd,ok.frames,ok.stk,ok.exf,ok.bs,ok.bsz,ok.noex,ok.exfs,ok.QdI,ok.frf⟩
section
variable {X:Cx}{pins:List (Addr×Obj)}{U:St}{H:Hp}{s:Shared}{E:Value->Shared->Prop}
def Inv.QfE(I:Inv X pins U H s)(E:Value->Shared->Prop):Inv (X.QfE E) pins U H s:=⟨I.ok.QfE E,I.os,I.bare,I.base,I.loc,I.cell,I.free,I.freeC,I.pin,I.hok,I.len⟩
def Inv.QeP(I:Inv (X.QfE E) pins U H s):Inv X pins U H s:=⟨I.ok.QeP,I.os,I.bare,I.base,I.loc,I.cell,I.free,I.freeC,I.pin,I.hok,I.len⟩
def SP.QeP{D:Ends}{f:Flow}{s':Shared}(h:SP (X.QfE E) pins D f s'):SP X pins D f s':=by
 cases f with
 | next=>obtain⟨U',H',I,q⟩:=h;exact⟨U',H',I.QeP,q⟩
 | brk=>obtain⟨U',H',I,q⟩:=h;exact⟨U',H',I.QeP,q⟩
 | cont=>obtain⟨U',H',I,q⟩:=h;exact⟨U',H',I.QeP,q⟩
 | ret u=>obtain⟨v,U',H',I,r,q⟩:=h;exact⟨v,U',H',I.QeP,r,q⟩
def PSs.nox{st:List Stmt}{t:TS}(h:PSs X.nox st t):PSs X st t:=λpins s U H D I hw=>
 wpAny_mono (h pins s U H D (I.QfE _) hw) (λ_ _ q=>q.QeP) λ_ _ z=>False.elim z
end
section
variable {X:Cx}{st:Stmt}{rest:List Stmt}{t u:TS}{e:Expr}{te:TE}{pos:Pos}
noncomputable def QqM:TS:=λD U H=>D.nx U H
noncomputable def QBO(t u:TS):TS:=λD U H=>t {D with nx:=u D} U H
def QwD:PSs X [] QqM:=λ_ _ U H _ I h=>wpAny_execs_nil ⟨U,H,I,h⟩
def QoJ(h1:PS X st t)(h2:PSs X rest u):PSs X (st::rest) (QBO t u):=by
 intro pins s U H D I h;refine wpAny_execs_cons (thn (h1 pins s U H {D with nx:=u D} I h) λf s1 q=>?_);cases f with
 | next=>
  obtain⟨U',H',I',q⟩:=q;exact h2 pins s1 U' H' D I' q
 | ret v=>exact q
 | brk=>exact q
 | cont=>exact q
noncomputable def Qzk:TS:=λD U H=>D.bk U H
noncomputable def QAX:TS:=λD U H=>D.ct U H
def Qwr:PS X (.Pass pos) QqM:=λ_ _ U H _ I h=>wpAny_Pass ⟨U,H,I,h⟩
def Qt8:PS X (.Break pos) Qzk:=λ_ _ U H _ I h=>wpAny_Break ⟨U,H,I,h⟩
def Qpg:PS X (.Continue pos) QAX:=λ_ _ U H _ I h=>wpAny_Continue ⟨U,H,I,h⟩
def Inv.quiet{pins:List (Addr×Obj)}{U:St}{H:Hp}{s:Shared}(I:Inv X pins U H s):interactive X.env=false:=by simp[interactive,I.ok.kind]
def Qye{x j pos pos'}:PS X (.Expr (.Constant (.str x) j pos) pos') QqM:=λ_ s U H _ I h=>wpAny_Expr (Calls.Constant_str (show SP X _ _ .next {s with toks:=s.toks+1}from⟨U,H,I.tok _,h⟩)) I.quiet
noncomputable def Qns(te:TE):TS:=λD U H=>te U H λ_ H1=>D.nx U H1
def Qjf(he:PE X e te)(hs:swapsWith e none pos.line X.env=pure false:=by rfl):PS X (.Expr e pos) (Qns te):=by
 intro pins s U H D I h;exact wpAny_Expr_any (thn (he pins s U H _ I h) λv s1 ⟨x,H1,I1,r1,q1⟩=>⟨U,H1,I1,q1⟩) I.quiet hs
noncomputable def QB9(te:TE):TS:=λD U H=>te U H D.rt
def Qkt(he:PE X e te):PS X (.Return (some e) pos) (QB9 te):=by
 intro pins s U H D I h;exact wpAny_Return_some (thn (he pins s U H _ I h) λv s1 ⟨x,H1,I1,r1,q1⟩=>⟨x,U,H1,I1,r1,q1⟩)
noncomputable def QCi(c:TT)(t u:TS):TS:=λD U H=>c U H λb H1=>if b=true then t D U H1 else u D U H1
def QvY{c:Expr}{a b:List Stmt}{tc:TT}(hc:PT X c tc)(ha:PSs X a t)(hb:PSs X b u):PS X (.If c a b pos) (QCi tc t u):=by
 intro pins s U H D I h;refine wpAny_If (thn (hc pins s U H _ I h) λd s1 Z=>?_);obtain⟨H1,I1,q1⟩:=Z;cases d with
 | true=>exact ha pins s1 U H1 D I1 q1
 | false=>exact hb pins s1 U H1 D I1 q1
noncomputable def QyU:TS:=λ_ _ _=>False
def QtH:PS X st QyU:=λ_ _ _ _ _ _ h=>h.elim
end
abbrev TG:=V->St->Hp->(St->Hp->Prop)->Prop
abbrev TGs:=List V->St->Hp->(St->Hp->Prop)->Prop
def PG(X:Cx)(target:Expr)(t:TG):Prop:=
 ∀(pins:List (Addr×Obj)) (s:Shared) (U:St) (H:Hp) (v:V) (u:Value) (Q:St->Hp->Prop),Inv X pins U H s->RelV v u->t v U H Q→
  wpAny (model X.prog X.w) X.A (assign target X.env u) (λ_ s'=>∃U' H',Inv X pins U' H' s'/\Q U' H') X.xe s
def PGs(X:Cx)(ts:List Expr)(t:TGs):Prop:=
 ∀(pins:List (Addr×Obj)) (s:Shared) (U:St) (H:Hp) (vs:List V) (us:List Value) (Q:St->Hp->Prop),Inv X pins U H s->QB vs us->t vs U H Q→
  wpAny (model X.prog X.w) X.A (assignInOrder ((assignEach ts X.env).map (·.2)) us) (λ_ s'=>∃U' H',Inv X pins U' H' s'/\Q U' H') X.xe s
abbrev QnW:=V->V->V->Hp->(Hp->Prop)->Prop
def Qum(X:Cx)(t:QnW):Prop:=
 ∀(pins:List (Addr×Obj)) (s:Shared) (U:St) (H:Hp) (o i v:V) (ov iv u:Value) (Q:Hp->Prop),Inv X pins U H s->RelV o ov->RelV i iv->RelV v u->t o i v H Q→
  wpAny (model X.prog X.w) X.A (setItem ov iv u) (λ_ s'=>∃H',Inv X pins U H' s'/\Q H') X.xe s
abbrev TIp:=V->V->Hp->VK->Prop
def PIp(X:Cx)(op:Operator)(t:TIp):Prop:=
 ∀(pins:List (Addr×Obj)) (s:Shared) (U:St) (H:Hp) (x y:V) (v u:Value) (Q:VK),Inv X pins U H s->RelV x v->RelV y u->t x y H Q→
  wpAny (model X.prog X.w) X.A (inplaceOp op v u) (EP X pins U Q) X.xe s
section
variable {X:Cx}{pos:Pos}
noncomputable def Qjg(i:Nat):TG:=λv U H Q=>Q (U.set i (some v)) H
def Qqm{i:Nat}{x:Str}(hN:X.N.Nodup)(hi:X.N[i]? =some x)(hx:Loc X.env.scope x)(hf:X.fn x=true∨X.env.scope.names.lookup x=some .local :=by first | exact .inl rfl | exact .inr rfl | assumption):PG X (.Name x pos) (Qjg i):=by
 intro pins s U H v u Q I r h;exact wpAny_assign_Name (Qhv I hN hi hx r (λs' I'=>⟨_,H,I',h⟩) hf)
noncomputable def Qzi:TGs:=λvs U H Q=>vs=[]/\Q U H
noncomputable def QvJ(t:TG)(u:TGs):TGs:=λvs U H Q=>∃v r,vs=v::r/\t v U H λU' H'=>u r U' H' Q
def Qxl:PGs X [] Qzi:=by
 intro pins s U H vs us Q I r h;obtain⟨e,h⟩:=h;subst e;cases r;exact assignInOrder_nil ⟨U,H,I,h⟩
def QuL{e:Expr}{es:List Expr}{t:TG}{u:TGs}(h1:PG X e t)(h2:PGs X es u)
  (hs:(assignEach (e::es) X.env).map (·.2)=assign e X.env::(assignEach es X.env).map (·.2):=by rfl):PGs X (e::es) (QvJ t u):=by
 intro pins s U H vs us Q I r h;obtain⟨v,vr,e1,h⟩:=h;subst e1;cases r with
 | cons r rr=>
  rw[hs];refine assignInOrder_cons (thn (h1 pins s U H _ _ _ I r h) λ_ s1 Z=>?_);obtain⟨U1,H1,I1,q1⟩:=Z;exact h2 pins s1 U1 H1 _ _ Q I1 rr q1
noncomputable def QBZ(K:Fgg)(n:Nat)(t:TGs):TG:=λv U H Q=>∃a xs,v= .ref a/\SqT K H a xs/\xs.length=n/\t xs U H Q
def QzJ{es:List Expr}{k:Nat}{t:TGs}{n:Nat}(hc:X.calm=true)(h:PGs X es t)
  (hn:(assignEach es X.env).length=n:=by rfl) (hst:(assignEach es X.env).findIdx? (·.1)=none:=by rfl):PG X (.Tuple es k pos) (QBZ X.K n t):=by
 intro pins s U H v u Q I r hw;obtain⟨a,xs,e1,hq,hl,hw⟩:=hw;subst e1;cases r;obtain⟨its,rv,ht,hz⟩:=I.tuple hq;refine assign_Tuple_tuple (I.ok.hd hc) ht (by simp[hn,← hl,rv.length]) hst λh' hx=>?_;have I1:Inv X pins U H {s with heap:=h'}:=I.kept (t':=s.toks) λb o e=>hx b o (ZK (Zt e)) e;exact h pins _ U H xs _ Q I1 (by simpa using rv) hw
noncomputable def QaW(to ti:TE)(t:QnW):TG:=λv U H Q=>to U H λo H1=>ti U H1 λi H2=>t o i v H2 λH3=>Q U H3
def Qy8{o i:Expr}{to ti:TE}{t:QnW}(ho:PE X o to)(hi:PE X i ti)(hs:Qum X t)
  (ha:∀v,assign (.Subscript o i pos) X.env v=(do
   let ov ← holding [v] (eval o X.env)
   let iv ← holding [v,ov] (eval i X.env)
   standAt pos
   holding [v,ov,iv] (setItem ov iv v)
   release [v,ov,iv] []):=by intro _;rfl):PG X (.Subscript o i pos) (QaW to ti t):=by
 intro pins s U H v u Q I r h;rw[ha];refine wpAny_bind (wpAny_holding (thn (ho pins s U H _ I h) λov s1=>exJ λx H1 I1 r1 q1=>?_));refine wpAny_bind (wpAny_holding (thn (hi pins s1 U H1 _ I1 q1) λiv s2=>exJ λy H2 I2 r2 q2=>?_));refine wpAny_bind (wpAny_standAt (wpAny_bind (wpAny_holding (thn (hs pins s2 U H2 x y v ov iv u _ I2 r1 r2 r q2) λ_ s3 Z=>?_))));obtain⟨H3,I3,q3⟩:=Z;exact wpAny_release ⟨U,H3,I3,q3⟩
noncomputable def QoW(te:TE)(g:TG):TS:=λD U H=>te U H λx H1=>g x U H1 D.nx
def Qzn{tg e:Expr}{te:TE}{g:TG}(he:PE X e te)(hg:PG X tg g)(hs:swapsWithSole [tg] e pos.line X.env=pure false:=by rfl)(hw:swappedStores [tg] e X.env=pure none:=by rfl)
  (h1:(assignEach [tg] X.env).map (·.2)=[assign tg X.env]:=by rfl):PS X (.Assign [tg] e pos) (QoW te g):=by
 intro pins s U H D I h;refine wpAny_Assign_stores (thn (he pins s U H _ I h) λv s1 ⟨x,H1,I1,r1,q1⟩=>?_) hs hw;rw[h1];exact thn (hg pins s1 U H1 x v _ I1 r1 q1) λ_ s2 q=>q
def QeR{i:Nat}{x:Str}{e:Expr}{te:TE}{pos':Pos}(hN:X.N.Nodup)(hi:X.N[i]? =some x)(hx:Loc X.env.scope x)(he:PE X e te)(hs:swapsWith e (some (.Name x pos')) pos.line X.env=pure false:=by rfl)(hf:X.fn x=true∨X.env.scope.names.lookup x=some .local :=by first | exact .inl rfl | exact .inr rfl | assumption):
  PS X (.Assign [.Name x pos'] e pos) (QoW te (Qjg i)):=by
 intro pins s U H D I h;refine wpAny_Assign_Name (thn (he pins s U H _ I h) λv s1 ⟨y,H1,I1,r1,q1⟩=>?_) hs;exact Qhv I1 hN hi hx r1 (λs2 I2=>⟨_,H1,I2,q1⟩) hf
noncomputable def QAt(to ti te:TE)(tget:V->V->Hp->VK->Prop)(tip:TIp)(tset:QnW):TS:=λD U H=>to U H λo H1=>ti U H1 λi H2=>tget o i H2 λx H3=>te U H3 λy H4=>tip x y H4 λz H5=>tset o i z H5 λH6=>D.nx U H6
def Qzc(X:Cx)(t:V->V->Hp->VK->Prop):Prop:=
 ∀(pins:List (Addr×Obj)) (s:Shared) (U:St) (H:Hp) (o i:V) (ov iv:Value) (Q:VK),Inv X pins U H s->RelV o ov->RelV i iv->t o i H Q→
  wpAny (model X.prog X.w) X.A (getItem ov iv) (EP X pins U Q) X.xe s
def QxN{o i e:Expr}{to ti te:TE}{tget:V->V->Hp->VK->Prop}{tip:TIp}{tset:QnW}{op:Operator}{tpos:Pos}(ho:PE X o to)(hi:PE X i ti)(hg:Qzc X tget)(he:PE X e te)(hp:PIp X op tip)(hs:Qum X tset)
  (ha:∀ov iv new,augStore i ov iv new=(do holding [new,ov,iv] (setItem ov iv new);release [new,ov,iv] [];pure .next):=by intros;rfl):PS X (.AugAssign (.Subscript o i tpos) op e pos) (QAt to ti te tget tip tset):=by
 intro pins s U H D I h;refine wpAny_AugAssign_SubscriptAny (thn (ho pins s U H _ I h) λov s1 ⟨x1,H1,I1,r1,q1⟩=>?_) ha;refine thn (hi pins s1 U H1 _ I1 q1) λiv s2=>exJ λx2 H2 I2 r2 q2=>?_;refine thn (hg pins s2 U H2 x1 x2 ov iv _ I2 r1 r2 q2) λold s3=>exJ λx3 H3 I3 r3 q3=>?_;refine thn (he pins s3 U H3 _ I3 q3) λv s4=>exJ λx4 H4 I4 r4 q4=>?_;refine thn (hp pins s4 U H4 x3 x4 old v _ I4 r3 r4 q4) λnew s5=>exJ λx5 H5 I5 r5 q5=>?_;exact thn (hs pins s5 U H5 x1 x2 x5 ov iv new _ I5 r1 r2 r5 q5) λ_ s6 ⟨H6,I6,q6⟩=>⟨U,H6,I6,q6⟩
end
section
variable {X:Cx}{pos:Pos}
noncomputable def Qzg(c:TT)(tb:TS):TS:=λD U H=>∃W:Nat->St->Hp->Prop,(∃m,W m U H)/\∀m U H,W m U H→
 c U H λb H1=>if b=true then ∃N:St->Hp->Prop,(∀U' H',N U' H'->∃m',m'<m/\W m' U' H')/\tb {D with nx:=N,ct:=N,bk:=D.nx} U H1 else D.nx U H1
def Qov{c:Expr}{body:List Stmt}{tc:TT}{tb:TS}(hp:PassesOwn (model X.prog X.w) X.A X.env X.xe)(hc:PT X c tc)(hb:PSs X body tb):PS X (.While c body [] pos) (Qzg tc tb):=by
 intro pins s U H D I h;obtain⟨W,⟨m0,w0⟩,turn⟩:=h;refine wpAny_While (codeAny_whileLoop (λn s'=>∃U' H',Inv X pins U' H' s'/\W n U' H') ?_ m0 ⟨U,H,I,w0⟩);rintro n s1 ⟨U1,H1,I1,w1⟩;refine wpAny_passesOwn hp (thn (hc pins s1 U1 H1 _ I1 (turn n U1 H1 w1)) λb s2 Z=>?_);obtain⟨H2,I2,q2⟩:=Z;cases b with
 | true=>
  obtain⟨N,hN,q2⟩:=q2;rw[if_pos rfl];refine wpAny_passesOwn hp (thn (hb pins s2 U1 H2 _ I2 q2) λf s3 q3=>?_);cases f with
  | next=>
   obtain⟨U3,H3,I3,n3⟩:=q3;obtain⟨m',hm,w3⟩:=hN U3 H3 n3;exact⟨m',hm,U3,H3,I3,w3⟩
  | cont=>
   obtain⟨U3,H3,I3,n3⟩:=q3;obtain⟨m',hm,w3⟩:=hN U3 H3 n3;exact⟨m',hm,U3,H3,I3,w3⟩
  | brk=>exact q3
  | ret v=>exact q3
 | false=>
  rw[if_neg ZO];exact wpAny_execs_nil ⟨U1,H2,I2,q2⟩
end
structure It where
 go:Nat->Hp->Prop
 yld:Nat->Hp->V->Hp->Prop
 stop:Nat->Hp->Prop
def Qd3(X:Cx)(pins:List (Addr×Obj))(H:Hp)(b:Addr):Prop:=
 H b=none/\b≠X.env.locals/\b∉X.fs/\(b∈X.ex∨X.s₀.heap.objs.size<=b)/\(∀x c,X.env.cells.lookup x=some c->c≠b)/\∀p∈X.pn++pins,p.1≠b
def Inv.QlZ{X:Cx}{pins:List (Addr×Obj)}{U:St}{H H':Hp}{s:Shared}{b:Addr}(I:Inv X pins U H s)(hb:s.heap.objs.size<=b)(hn:H' b=none):Qd3 X pins H' b:=by
 refine⟨hn,Nat.ne_of_gt (Zx I.lt hb),I.QBE hb,.inr (ZL I.sz hb),λx c e z=>?_,λp hp z=>?_⟩
 .obtain⟨v,q⟩:=I.cell x c e;exact absurd (Zx q.lt (by rw[z];exact hb)) (ZU _)
 .exact absurd (Zx (Zt (I.pin p hp).1) (by rw[z];exact hb)) (ZU _)
structure Turn (P:Program) (w:World) (K:Fgg) (tg:Expr) (J:It) (fp:LAd) (it:Addr) (tn:Nat->Heap->Prop):Prop where
 mem:it∈fp
 obj:∀i h,tn i h->∀b∈fp,∃o,h.get? b=some o/\∀v,o.data≠ .cell v
 keep:∀i h h',tn i h->(∀b∈fp,∀o,h.get? b=some o->h'.get? b=some o)->tn i h'
 item:∀(X:Cx),X.prog=P->X.w=w->X.K=K->X.calm=true->∀(i:Nat) (pins:List (Addr×Obj)) (s:Shared) (U:St) (H:Hp) (E:Value->Shared->Prop),Inv X pins U H s->(∀b∈fp,Qd3 X pins H b)->tn i s.heap->J.go i H→
  wpAny (model P w) X.A (pyNext (.ref it)) (λr s1=>∃u,r=some u∧
   wpAny (model P w) X.A (letOwnedTupleGo tg (.ref it) u) (λ_ s2=>∃x H',Inv X pins U H' s2/\RelV x u/\J.yld i H x H'/\tn (i+1) s2.heap/\∀b∈fp,H' b=none) E s1) E s
 done:∀(X:Cx),X.prog=P->X.w=w->X.K=K->X.calm=true->∀(i:Nat) (pins:List (Addr×Obj)) (s:Shared) (U:St) (H:Hp) (E:Value->Shared->Prop),Inv X pins U H s->(∀b∈fp,Qd3 X pins H b)->tn i s.heap->J.stop i H→
  wpAny (model P w) X.A (pyNext (.ref it)) (λr s1=>r=none/\Inv X pins U H s1) E s
 self:∀(A:Around) (i:Nat) (s:Shared) (Q:Value->Shared->Prop) (E:Value->Shared->Prop),tn i s.heap->Q (.ref it) s->wpAny (model P w) A (pyIter (.ref it)) Q E s
abbrev TI:=St->Hp->(It->Hp->Prop)->Prop
def PIE(X:Cx)(pins:List (Addr×Obj))(U:St)(tg:Expr)(R:It->Hp->Prop)(itv:Value)(s2:Shared):Prop:=
 ∃(it:Addr) (fp:LAd) (tn:Nat->Heap->Prop) (J:It) (H':Hp),itv= .ref it/\Inv X pins U H' s2/\Turn X.prog X.w X.K tg J fp it tn/\tn 0 s2.heap/\(∀b∈fp,Qd3 X pins H' b)/\R J H'
def PI(X:Cx)(tg iter:Expr)(wi:TI):Prop:=
 ∀(pins:List (Addr×Obj)) (s:Shared) (U:St) (H:Hp) (R:It->Hp->Prop),Inv X pins U H s->wi U H R→
  wpAny (model X.prog X.w) X.A (eval iter X.env) (λv s1=>wpAny (model X.prog X.w) X.A (pyIter v) (PIE X pins U tg R) X.xe s1) X.xe s
def Qnk{M:Model}{A:Around}{E:Value->Shared->Prop}{s:Shared}{tg:Expr}{it:Addr}{u:Value}{o:Obj}{n:String}{vs:Array Value}{Q:Unit->Shared->Prop}(ho:s.heap.get? it=some o)(hc:o.cls= .type n)(hd:o.data= .fields vs)
    (hn:["enumerate","zip","dict_itemiterator","dict_reverseitemiterator","odict_iterator","itertools.zip_longest","itertools.pairwise"].contains n=false) (hQ:Q () s):wpAny M A (letOwnedTupleGo tg (.ref it) u) Q E s:=by
  unfold letOwnedTupleGo
  cases tg<;>first
    | exact wpAny_pure hQ
    | (cases u<;>first
        | exact wpAny_pure hQ
        | (refine wpAny_bind (wpAny_load ho ?_)
           rw[hc,hd];show wpAny M A (if(["enumerate","zip","dict_itemiterator","dict_reverseitemiterator","odict_iterator","itertools.zip_longest","itertools.pairwise"].contains n && vs[0]? == some (rawInt _))=true then _ else _) Q E s;rw[if_neg (by intro h;rw[hn,Bool.false_and]at h;cases h)];exact wpAny_pure hQ))
noncomputable def Itl(K:Fgg)(a:Addr):It:=
 ⟨λi H=>∃xs x,SqL K H a xs/\xs[i]? =some x,λi H x H'=>H'=H/\∀xs,SqL K H a xs->xs[i]? =some x,λi H=>∃xs,SqL K H a xs/\xs.length<=i⟩
noncomputable def Itt(K:Fgg)(a:Addr):It:=
 ⟨λi H=>∃xs x,SqT K H a xs/\xs[i]? =some x,λi H x H'=>H'=H/\∀xs,SqT K H a xs->xs[i]? =some x,λi H=>∃xs,SqT K H a xs/\xs.length<=i⟩
noncomputable def Itr(lo:Int)(n:Nat):It:=⟨λi _=>i<n,λi H x H'=>H'=H/\x= .int (lo+i),λi _=>n<=i⟩
def Qr4{P:Program}{w:World}{K:Fgg}{tg:Expr}(a it:Addr):Turn P w K tg (Itl K a) [it] it (λi h=>h.IsListIter it a i) where
 mem:= ⋯
 obj:=λi h st b hb=>by
  have e:b=it:=by simpa using hb
  subst e;obtain⟨o,e,c,d⟩:=st;exact⟨o,e,λv z=>by rw[d]at z;cases z⟩
 keep:=λi h h' st k=>st.at λo e=>k it ⋯ o e
 item:=by
  intro X hP hw hK hc i pins s U H E I hf st hg;subst hP hw hK;obtain⟨xs,x,hq,hx⟩:=hg;obtain⟨its,rv,p,hz⟩:=I.list hq;obtain⟨u,hu,ru⟩:=rv.get hx;obtain⟨f0,f1,f2,f3,f4,f5⟩:=hf it ⋯;refine wpAny_pyNext_list_item st p.isList (x:=u) (by simpa using hu) λh' st' sb=>?_;have I1:Inv X pins U H {s with heap:=h'}:=I.turned (t':=s.toks) (λb o hb e=>(sb.2 b hb).trans e) f0 f1 f3 f4 f5;obtain⟨o,e,c,d⟩:=id st';exact⟨u,rfl,Qnk (s:={s with heap:=h'}) e c d ∅ ⟨x,H,I1,ru,⟨rfl,λys hy=>by rw[I.QhB hy hq];exact hx⟩,st',λb hb=>(hf b hb).1⟩⟩
 done:=by
  intro X hP hw hK hc i pins s U H E I hf st hg;subst hP hw hK;obtain⟨xs,hq,hx⟩:=hg;obtain⟨its,rv,p,hz⟩:=I.list hq;obtain⟨f0,f1,f2,f3,f4,f5⟩:=hf it ⋯;have hl:=rv.length;exact wpAny_pyNext_list_end (I.ok.hd hc) st p.isList (by simp;omega) λh' eb=>⟨rfl,I.turned (t':=s.toks) (λb o hb e=>eb b o hb e) f0 f1 f3 f4 f5⟩
 self:=λ_ _ _ _ _ st h=>wpAny_pyIter_listiter st h
def Qro{P:Program}{w:World}{K:Fgg}{tg:Expr}(a it:Addr):Turn P w K tg (Itt K a) [it] it (λi h=>h.IsTupleIter it a i) where
 mem:= ⋯
 obj:=λi h st b hb=>by
  have e:b=it:=by simpa using hb
  subst e;obtain⟨o,e,c,d⟩:=st;exact⟨o,e,λv z=>by rw[d]at z;cases z⟩
 keep:=λi h h' st k=>st.at λo e=>k it ⋯ o e
 item:=by
  intro X hP hw hK hc i pins s U H E I hf st hg;subst hP hw hK;obtain⟨xs,x,hq,hx⟩:=hg;obtain⟨its,rv,p,hz⟩:=I.tuple hq;obtain⟨u,hu,ru⟩:=rv.get hx;obtain⟨f0,f1,f2,f3,f4,f5⟩:=hf it ⋯;refine wpAny_pyNext_tuple_item st (show s.heap.IsTuple a its.toArray from p) (x:=u) (by simpa using hu) λh' st' sb=>?_;have I1:Inv X pins U H {s with heap:=h'}:=I.turned (t':=s.toks) (λb o hb e=>(sb.2 b hb).trans e) f0 f1 f3 f4 f5;obtain⟨o,e,c,d⟩:=id st';exact⟨u,rfl,Qnk (s:={s with heap:=h'}) e c d ∅ ⟨x,H,I1,ru,⟨rfl,λys hy=>by rw[I.Qsl hy hq];exact hx⟩,st',λb hb=>(hf b hb).1⟩⟩
 done:=by
  intro X hP hw hK hc i pins s U H E I hf st hg;subst hP hw hK;obtain⟨xs,hq,hx⟩:=hg;obtain⟨its,rv,p,hz⟩:=I.tuple hq;obtain⟨f0,f1,f2,f3,f4,f5⟩:=hf it ⋯;have hl:=rv.length;exact wpAny_pyNext_tuple_end (I.ok.hd hc) st (show s.heap.IsTuple a its.toArray from p) (by simp;omega) λh' eb=>⟨rfl,I.turned (t':=s.toks) (λb o hb e=>eb b o hb e) f0 f1 f3 f4 f5⟩
 self:=λ_ _ _ _ _ st h=>wpAny_pyIter_tupleiter st h
def Qrk{P:Program}{w:World}{K:Fgg}{tg:Expr}(it:Addr)(lo:Int)(n:Nat):Turn P w K tg (Itr lo n) [it] it (λi h=>IsRangeIter h it (lo+(i:Nat)*1) ((n:Int)-(i:Nat)) 1) where
 mem:= ⋯
 obj:=λi h st b hb=>by
  have e:b=it:=by simpa using hb
  subst e;exact⟨_,st,λv z=>by
   have z':Data.fields _=Data.cell v:=z;cases z'⟩
 keep:=λi h h' st k=>k it ⋯ _ st
 item:=by
  intro X hP hw hK hc i pins s U H E I hf st hg;subst hP hw hK;obtain⟨f0,f1,f2,f3,f4,f5⟩:=hf it ⋯;have W:=Walks.range (prog:=X.prog) (w:=X.w) (I.ok.hd hc) it lo 1 n;refine W.item i s _ _ hg st λv h' tk hv st' kk=>?_;obtain⟨t,rfl⟩:=hv;have I1:Inv X pins U H {s with heap:=h',toks:=tk}:=I.turned (λb o hb e=>kk b o (by simpa using hb) e) f0 f1 f3 f4 f5;refine⟨_,rfl,Qnk (s:={s with heap:=h',toks:=tk}) (n:= "range_iterator") st' rfl rfl ∅ ⟨.int (lo+i),H,I1,⟨t,?_⟩,⟨rfl,rfl⟩,st',λb hb=>(hf b hb).1⟩⟩;rw[Zbt]
 done:=by
  intro X hP hw hK hc i pins s U H E I hf st hg;subst hP hw hK;obtain⟨f0,f1,f2,f3,f4,f5⟩:=hf it ⋯;exact wpAny_pyNext_range_end (I.ok.hd hc) st (by have:n<=i:=hg;omega) λh' eb=>⟨rfl,I.turned (t':=s.toks) (λb o hb e=>eb b o hb e) f0 f1 f3 f4 f5⟩
 self:=λ_ _ _ _ _ st h=>wpAny_pyIter_rangeiter st h
section
variable {X:Cx}{tg:Expr}
def Qul{pins:List (Addr×Obj)}{U:St}{H:Hp}{s:Shared}{R:It->Hp->Prop}{E:Value->Shared->Prop}{lo hi:Int}{t u v:Tok}{tk:Nat}(I:Inv X pins U H s)(h1: -(2^62)<=lo)(h2:lo<2^62)(h3: -(2^62)<=hi)(h4:hi<2^62)
  (q:R (Itr lo (hi-lo).toNat) H):wpAny (model X.prog X.w) X.A (pyIter (.ref s.heap.objs.size)) (PIE X pins U tg R) E {s with heap:=s.heap.push {cls:= .type "range",data:= .fields #[.int lo t,.int hi u,.int 1 v]},toks:=tk}:=by
 refine wpAny_pyIter_range (IsRange.new ..) (small_one h1 h2 h3 h4) ?_;have I1:Inv X pins U H {s with heap:=s.heap.push {cls:= .type "range",data:= .fields #[.int lo t,.int hi u,.int 1 v]},toks:=tk}:=I.kept λb o e=>Zq _ e
 refine⟨(s.heap.push {cls:= .type "range",data:= .fields #[.int lo t,.int hi u,.int 1 v]}).objs.size,[(s.heap.push {cls:= .type "range",data:= .fields #[.int lo t,.int hi u,.int 1 v]}).objs.size],_,_,H,rfl,
  I1.kept (t':=tk) λb o e=>Zq _ e,Qrk _ lo (hi-lo).toNat,?_,λb hb=>?_,q⟩
 .have e1:lo+((0:Nat):Int)*1=lo:= ⋯
  have e2:(((hi-lo).toNat:Nat):Int)-((0:Nat):Int)=Builtin.Range.rangeSize lo hi 1:=by rw[rangeSize_one];split<;>omega
  show IsRangeIter _ _ (lo+((0:Nat):Int)*1) ((((hi-lo).toNat:Nat):Int)-((0:Nat):Int)) 1;rw[e1,e2];exact ZG _ rfl
 .have e:b=(s.heap.push {cls:= .type "range",data:= .fields #[.int lo t,.int hi u,.int 1 v]}).objs.size:=by simpa using hb
  subst e;exact I1.QlZ (Zk _) (I1.hok.fresh (Zk _))
noncomputable def QAA(ta:TA):TI:=λU H R=>ta U H λvs H1=>∃j:Int,vs=[.int j]/\ -(2^62)<=j/\j<2^62/\R (Itr 0 j.toNat) H1
def Qtg{a:Expr}{ta:TA}{p pos:Pos}(hg:Gl X "range")(hm:X.mg "range" =none)(ha:PA X [a] ta)(hs:starEach [a] X.env=[(false,eval a X.env)]:=by rfl):PI X tg (.Call (.Name "range" p) [a] [] pos) (QAA ta):=by
 intro pins s U H R I h;refine Call_ (Qe1 I hg hm boot_range (Zas (thn (ha pos pins s U H _ I h) λus s1 ⟨vs,H1,I1,r1,q1⟩=>?_) hs rfl));obtain⟨j,e,q1,q2,q⟩:=q1;subst e;cases r1 with
 | cons r rr=>
  cases rr;obtain⟨t,rfl⟩:=r;exact call_range_1 (Qul I1 ⋯ ⋯ q1 q2 (by simpa using q))
noncomputable def QBL(wi:TI)(g:TG)(tb:TS):TS:=λD U H=>wi U H λJ H1=>∃W:Nat->Nat->St->Hp->Prop,(∃m,W 0 m U H1)/\∀i m U H,W i m U H→
 (J.stop i H/\D.nx U H)∨(J.go i H/\∃N:St->Hp->Prop,(∀U' H',N U' H'->∃m',m'<m/\W (i+1) m' U' H')/\∀x H',J.yld i H x H'->g x U H' λU2 H2=>tb {D with nx:=N,ct:=N,bk:=D.nx} U2 H2)
noncomputable def Qh7(fp:LAd)(h:Heap):List (Addr×Obj):=fp.filterMap λb=>(h.get? b).map λo=>(b,o)
def QhJ{fp:LAd}{h:Heap}{b:Addr}{o:Obj}(hb:b∈fp)(e:h.get? b=some o):(b,o)∈Qh7 fp h:=ZaN.mpr ⟨b,hb,by rw[e];rfl⟩
def QrO{fp:LAd}{h:Heap}{p:Addr×Obj}(hp:p∈Qh7 fp h):p.1∈fp/\h.get? p.1=some p.2:=by
 obtain⟨b,hb,e⟩:=ZaN.mp hp;cases q:h.get? b with
 | none=>rw[q]at e;cases e
 | some o=>
  rw[q]at e;have e':(b,o)=p:=Option.some.inj e;subst e';exact⟨hb,q⟩
def Inv.pinned{pins:List (Addr×Obj)}{U:St}{H:Hp}{s:Shared}{fp:LAd}(I:Inv X pins U H s)(hf:∀b∈fp,Qd3 X pins H b)(ho:∀b∈fp,∃o,s.heap.get? b=some o/\∀v,o.data≠ .cell v):Inv X (pins++Qh7 fp s.heap) U H s:=
 I.Qp0 λp hp=>(Zr.mp hp).elim (λz=>I.pin p (Zd _ z)) λz=>by
  obtain⟨hb,e⟩:=QrO z;obtain⟨f0,f1,f2,_⟩:=hf p.1 hb;obtain⟨o,e',d⟩:=ho p.1 hb;rw[e]at e';cases e';exact⟨e,f0,f1,f2,d⟩
def Inv.Qhh{pins pl:List (Addr×Obj)}{U:St}{H:Hp}{s:Shared}(I:Inv X (pins++pl) U H s):Inv X pins U H s:=I.Qp0 λp hp=>I.pin p (Zd _ (Ze _ hp))
def QsW{iter:Expr}{body:List Stmt}{wi:TI}{g:TG}{tb:TS}{pos:Pos}(hp:PassesOwn (model X.prog X.w) X.A X.env X.xe)(hc:X.calm=true)(hi:PI X tg iter wi)(hg:PG X tg g)(hb:PSs X body tb)
  (hs:∀x,foldedSetIterable iter X.env x=pure x:=by intro _;rfl):PS X (.For tg iter body [] pos) (QBL wi g tb):=by
 intro pins s U H D I h;refine wpAny_For (thn (hi pins s U H _ I h) λv s1 h1=>thn h1 λitv s2 h2=>?_) hs;obtain⟨it,fp,tn,J,H2,e,I2,T,st2,f2,W,⟨m0,w0⟩,turn⟩:=h2;subst e;have stat:∀{H':Hp},(∀b∈fp,H' b=none)->∀b∈fp,Qd3 X pins H' b:=λhn b hb=>⟨hn b hb,(f2 b hb).2⟩;refine codeAny_forLoop_any (λn s'=>∃i U' H',Inv X pins U' H' s'/\tn i s'.heap/\(∀b∈fp,H' b=none)/\W i n U' H') ?_ m0 ⟨0,U,H2,I2,st2,λb hb=>(f2 b hb).1,w0⟩;rintro n s3 ⟨i,U3,H3,I3,st3,fr3,w3⟩;rcases turn i n U3 H3 w3 with⟨stop,qn⟩ | ⟨go,N,hN,step⟩
 .refine wpAny_passesOwn hp (thn (T.done X rfl rfl rfl hc i pins s3 U3 H3 X.xe I3 (stat fr3) st3 stop) λr s4 Z=>?_);obtain⟨hr,I4⟩:=Z;subst hr;exact wpAny_execs_nil ⟨U3,H3,I4,qn⟩
 .refine wpAny_passesOwn hp (thn (T.item X rfl rfl rfl hc i pins s3 U3 H3 X.xe I3 (stat fr3) st3 go) λr s4 Z=>?_);obtain⟨u,hr,h4⟩:=Z;subst hr;refine wpAny_passesOwn hp (thn h4 λ_ s5 Z=>?_);obtain⟨x,H5,I5,r5,y5,st5,fr5⟩:=Z;have I5':=I5.pinned (stat fr5) (T.obj _ _ st5);refine wpAny_passesOwn hp (thn (hg _ s5 U3 H5 x u _ I5' r5 (step x H5 y5)) λ_ s6 Z=>?_);obtain⟨U6,H6,I6,q6⟩:=Z;refine wpAny_passesOwn hp (thn (hb _ s6 U6 H6 _ I6 q6) λf s7 q7=>?_);have again:∀{U7:St}{H7:Hp},Inv X (pins++Qh7 fp s5.heap) U7 H7 s7->N U7 H7->∃m,m<n/\∃i U' H',Inv X pins U' H' s7/\tn i s7.heap/\(∀b∈fp,H' b=none)/\W i m U' H':=λ{U7 H7} I7 n7=>by
   obtain⟨m',hm,w7⟩:=hN U7 H7 n7;refine⟨m',hm,i+1,U7,H7,I7.Qhh,T.keep _ _ _ st5 λb hb o e=>(I7.pin (b,o) (Zd _ (Zd _ (QhJ hb e)))).1,λb hb=>?_,w7⟩;obtain⟨o,e,d⟩:=T.obj _ _ st5 b hb;exact(I7.pin (b,o) (Zd _ (Zd _ (QhJ hb e)))).2.1
  cases f with
  | next=>obtain⟨U7,H7,I7,n7⟩:=q7;exact again I7 n7
  | cont=>obtain⟨U7,H7,I7,n7⟩:=q7;exact again I7 n7
  | brk=>obtain⟨U7,H7,I7,q7⟩:=q7;exact⟨U7,H7,I7.Qhh,q7⟩
  | ret v=>obtain⟨x7,U7,H7,I7,r7,q7⟩:=q7;exact⟨x7,U7,H7,I7.Qhh,r7,q7⟩
end
abbrev R2:=V->V->Hp->VK->Prop
def OpR(X:Cx)(f:Value->Value->Sem Value)(r:R2):Prop:=
 ∀(pins:List (Addr×Obj)) (s:Shared) (U:St) (H:Hp) (x y:V) (v u:Value) (Q:VK),Inv X pins U H s->RelV x v->RelV y u->r x y H Q→
  wpAny (model X.prog X.w) X.A (f v u) (EP X pins U Q) X.xe s
def UnR(X:Cx)(f:Value->Sem Value)(r:V->Hp->VK->Prop):Prop:=
 ∀(pins:List (Addr×Obj)) (s:Shared) (U:St) (H:Hp) (x:V) (v:Value) (Q:VK),Inv X pins U H s->RelV x v->r x H Q→
  wpAny (model X.prog X.w) X.A (f v) (EP X pins U Q) X.xe s
def Qdl(X:Cx)(f:Value)(r:List V->Hp->VK->Prop):Prop:=
 ∀(pins:List (Addr×Obj)) (s:Shared) (U:St) (H:Hp) (xs:List V) (us:List Value) (Q:VK),Inv X pins U H s->QB xs us->r xs H Q→
  wpAny (model X.prog X.w) X.A (call f us) (EP X pins U Q) X.xe s
def QBx(X:Cx)(r:V->Hp->(Bool->Hp->Prop)->Prop):Prop:=
 ∀(pins:List (Addr×Obj)) (s:Shared) (U:St) (H:Hp) (x:V) (v:Value) (Q:Bool->Hp->Prop),Inv X pins U H s->RelV x v->r x H Q→
  wpAny (model X.prog X.w) X.A (truthy v) (TP X pins U Q) X.xe s
noncomputable def tOp(r:R2)(ta tb:TE):TE:=λU H Q=>ta U H λx H1=>tb U H1 λy H2=>r x y H2 Q
noncomputable def tUn(r:V->Hp->VK->Prop)(ta:TE):TE:=λU H Q=>ta U H λx H1=>r x H1 Q
noncomputable def rI(C:Int->Int->Prop)(g:Int->Int->V):R2:=λx y H Q=>∃i j,x= .int i/\y= .int j/\C i j/\Q (g i j) H
noncomputable def rI0(g:Int->Int->V):R2:=λx y H Q=>∃i j,x= .int i/\y= .int j/\Q (g i j) H
def rU(g:Int->V):V->Hp->VK->Prop:=λx H Q=>∃i,x= .int i/\Q (g i) H
section
variable {X:Cx}{a b c:Expr}{ta tb tc:TE}{pos:Pos}
def Qvl(ha:PE X a ta)(hb:PE X b tb){pins:List (Addr×Obj)}{s:Shared}{U:St}{H:Hp}{R:V->V->Hp->Prop}(I:Inv X pins U H s)
  (h:ta U H λx H1=>tb U H1 λy H2=>R x y H2) {Q:Value->Shared->Prop}{f:Value->Value->Sem Value}
  (hf:∀v u s2 x y H2,Inv X pins U H2 s2->RelV x v->RelV y u->R x y H2->wpAny (model X.prog X.w) X.A (f v u) Q X.xe s2):
  wpAny (model X.prog X.w) X.A (eval a X.env) (λv s₁=>wpAny (model X.prog X.w) X.A (eval b X.env) (λu s₂=>wpAny (model X.prog X.w) X.A (f v u) Q X.xe s₂) X.xe s₁) X.xe s:=by
 refine thn (ha pins s U H _ I h) λv s1=>exJ λx H1 I1 r1 q1=>?_;refine thn (hb pins s1 U H1 _ I1 q1) λu s2=>exJ λy H2 I2 r2 q2=>?_;exact hf v u s2 x y H2 I2 r1 r2 q2
def QqB{op:Operator}{r:R2}(ho:OpR X (binaryOp op) r)(ha:PE X a ta)(hb:PE X b tb):PE X (.BinOp a op b pos) (tOp r ta tb):=by
 intro pins s U H Q I h;exact wpAny_BinOp (Qvl ha hb I h λv u s2 x y H2 I2 rx ry q=>ho pins s2 U H2 x y v u Q I2 rx ry q)
def QAw{op:UnaryOp}{r:V->Hp->VK->Prop}(ho:UnR X (unaryOp op) r)(ha:PE X a ta):PE X (.UnaryOp op a pos) (tUn r ta):=by
 intro pins s U H Q I h;exact UnaryOp_ (thn (ha pins s U H _ I h) λv s1 ⟨x,H1,I1,r1,q1⟩=>ho pins s1 U H1 x v Q I1 r1 q1)
def QBu{op:Operator}{r:R2}(ho:OpR X (inplaceOp op) r){pins:List (Addr×Obj)}{s:Shared}{U:St}{H:Hp}{x y:V}{v u:Value}{Q:VK}(I:Inv X pins U H s)
  (rx:RelV x v) (ry:RelV y u) (q:r x y H Q):wpAny (model X.prog X.w) X.A (inplaceOp op v u) (EP X pins U Q) X.xe s:=ho pins s U H x y v u Q I rx ry q
def opI{f:Value->Value->Sem Value}{C:Int->Int->Prop}{g:Int->Int->Int}
  (rule:∀(i j:Int) (t u:Tok) (s:Shared) (Q:Value->Shared->Prop) (E:Value->Shared->Prop),C i j->Q (.int (g i j) s.toks) {s with toks:=s.toks+1}->wpAny (model X.prog X.w) X.A (f (.int i t) (.int j u)) Q E s):
  OpR X f (rI C λi j=> .int (g i j)):=by
 intro pins s U H x y v u Q I rx ry h;obtain⟨i,j,rfl,rfl,hc,q⟩:=h;obtain⟨t,rfl⟩:=rx;obtain⟨t',rfl⟩:=ry;exact rule i j t t' s _ _ hc ⟨.int (g i j),H,I.tok _,⟨_,rfl⟩,q⟩
def Qq1{f:Value->Value->Sem Value}{g:Int->Int->Int}
  (rule:∀(i j:Int) (t u:Tok) (s:Shared) (Q:Value->Shared->Prop) (E:Value->Shared->Prop),Q (.int (g i j) s.toks) {s with toks:=s.toks+1}->wpAny (model X.prog X.w) X.A (f (.int i t) (.int j u)) Q E s):
  OpR X f (rI0 λi j=> .int (g i j)):=by
 intro pins s U H x y v u Q I rx ry h;obtain⟨i,j,rfl,rfl,q⟩:=h;obtain⟨t,rfl⟩:=rx;obtain⟨t',rfl⟩:=ry;exact rule i j t t' s _ _ ⟨.int (g i j),H,I.tok _,⟨_,rfl⟩,q⟩
def QqK{f:Value->Value->Sem Value}{g:Int->Int->Bool}
  (rule:∀(i j:Int) (t u:Tok) (s:Shared) (Q:Value->Shared->Prop) (E:Value->Shared->Prop),Q (.bool (g i j)) s->wpAny (model X.prog X.w) X.A (f (.int i t) (.int j u)) Q E s):
  OpR X f (rI0 λi j=> .bl (g i j)):=by
 intro pins s U H x y v u Q I rx ry h;obtain⟨i,j,rfl,rfl,q⟩:=h;obtain⟨t,rfl⟩:=rx;obtain⟨t',rfl⟩:=ry;exact rule i j t t' s _ _ ⟨.bl (g i j),H,I,rfl,q⟩
def Qrg(k:Nat):(0:Int)<=2^k:=by
 rw[two_pow_cast];exact Int.natCast_nonneg _
def Qz9:OpR X (binaryOp .Add) (rI0 λi j=> .int (i+j)):=Qq1 λ_ _ _ _ _ _ _ q=>add_int q
def QyQ:OpR X (binaryOp .Sub) (rI0 λi j=> .int (i-j)):=Qq1 λ_ _ _ _ _ _ _ q=>sub_int q
def Qyu:OpR X (binaryOp .RShift) (rI (λ_ j=>0<=j) λi j=> .int (i / 2^j.toNat)):=opI λi j _ _ _ _ _ hc q=>
 rshift_int hc (by rw[Zbq i (Qrg _)];exact q)
def Qw4:OpR X (inplaceOp .Add) (rI0 λi j=> .int (i+j)):=Qq1 λ_ _ _ _ _ _ _ q=>iadd_int q
def Qx8:OpR X (inplaceOp .Sub) (rI0 λi j=> .int (i-j)):=Qq1 λ_ _ _ _ _ _ _ q=>isub_int q
def unI{f:Value->Sem Value}{g:Int->Int}
  (rule:∀(i:Int) (t:Tok) (s:Shared) (Q:Value->Shared->Prop) (E:Value->Shared->Prop),Q (.int (g i) s.toks) {s with toks:=s.toks+1}->wpAny (model X.prog X.w) X.A (f (.int i t)) Q E s):
  UnR X f (rU λi=> .int (g i)):=by
 intro pins s U H x v Q I rx h;obtain⟨i,rfl,q⟩:=h;obtain⟨t,rfl⟩:=rx;exact rule i t s _ _ ⟨.int (g i),H,I.tok _,⟨_,rfl⟩,q⟩
def Qyj:UnR X (unaryOp .USub) (rU λi=> .int (-i)):=unI λ_ _ _ _ _ q=>neg_int q
end
section
variable {X:Cx}{a b c:Expr}{ta tb tc:TE}{pos:Pos}
def QAF:OpR X (compareOp .Lt) (rI0 λi j=> .bl (decide (i<j))):=QqK λ_ _ _ _ _ _ _ q=>lt_int q
def QBe:OpR X (compareOp .LtE) (rI0 λi j=> .bl (decide (i<=j))):=QqK λ_ _ _ _ _ _ _ q=>le_int q
def QAR:OpR X (compareOp .Gt) (rI0 λi j=> .bl (decide (j<i))):=QqK λ_ _ _ _ _ _ _ q=>gt_int q
def QA1:OpR X (compareOp .GtE) (rI0 λi j=> .bl (decide (j<=i))):=QqK λ_ _ _ _ _ _ _ q=>ge_int q
def OpR.or{f:Value->Value->Sem Value}{r r':R2}(h:OpR X f r)(h':OpR X f r'):OpR X f (λx y H Q=>r x y H Q∨r' x y H Q):=by
 intro pins s U H x y v u Q I rx ry q;rcases q with q | q
 .exact h pins s U H x y v u Q I rx ry q
 .exact h' pins s U H x y v u Q I rx ry q
def Qp5{op:CmpOp}{r:R2}(ho:OpR X (compareOp op) r)(ha:PE X a ta)(hb:PE X b tb)(hm:behindInMarks op b=false):PE X (.Compare a [op] [b] pos) (tOp r ta tb):=by
 intro pins s U H Q I h;exact wpAny_Compare1 (Qvl ha hb I h λv u s2 x y H2 I2 rx ry q=>ho pins s2 U H2 x y v u Q I2 rx ry q) hm
noncomputable def QAk(t:TE):TT:=λU H Q=>t U H λx H'=>∃k,x= .bl k/\Q k H'
def Qxd{op:CmpOp}{r:R2}(ho:OpR X (compareOp op) r)(ha:PE X a ta)(hb:PE X b tb)(hm:behindInMarks op b=false):PT X (.Compare a [op] [b] pos) (QAk (tOp r ta tb)):=by
 intro pins s U H Q I h;refine wpAny_isTrue_Compare1 (thn (ha pins s U H _ I h) λv s1 ⟨x,H1,I1,r1,q1⟩=>thn (hb pins s1 U H1 _ I1 q1) λu s2 ⟨y,H2,I2,r2,q2⟩=>
  thn (ho pins s2 U H2 x y v u _ I2 r1 r2 q2) λc s3 ⟨z,H3,I3,r3,k,e,q3⟩=>?_) hm
 subst e;cases r3;exact wpAny_truthy_bool ⟨H3,I3,q3⟩
def QtM(K:Fgg)(x:V)(H:Hp)(k:Bool):Prop:=
 match x with
 | .non=>k=false
 | .bl b=>k=b
 | .int i=>k=(i != 0)
 | .str y=>y.length<=sizeLine/\k=((y.length:Int) != 0)
 | .byt y=>y.size<=sizeLine/\k=((y.size:Int) != 0)
 | .ref p=>(∃xs,SqL K H p xs/\k= !xs.isEmpty)∨(∃xs,SqT K H p xs/\k= !xs.isEmpty)∨∃kvs,H p=some (.dK kvs)/\k= !kvs.isEmpty
 | _=>False
def QqX{κ:Type}{kvs:List (κ×V)}{vs:List (κ×Value)}(r:KV kvs vs):(!vs.isEmpty)= !kvs.isEmpty:=by
 cases r<;>rfl
def QkO{xs:List V}{its:List Value}(r:QB xs its):(!its.toArray.isEmpty)= !xs.isEmpty:=by
 cases r<;>simp
def QgM:(sizeLine:Nat)<2^63:=by rw[sizeLine_eq];decide
def Qk1:QBx X (λx H Q=>∃k,QtM X.K x H k/\Q k H):=by
 intro pins s U H x v Q I rx h;obtain⟨k,e,q⟩:=h;have hl:=QgM;have hs:sizeLine=16777216:=sizeLine_eq;cases x with
 | non=>
  cases rx;have e':k=false:=e;subst e';exact truthy_none ⟨H,I,q⟩
 | bl b=>
  cases rx;have e':k=b:=e;subst e';exact wpAny_truthy_bool ⟨H,I,q⟩
 | int i=>
  obtain⟨t,rfl⟩:=rx;have e':k=(i != 0):=e;subst e';exact PySem.P.truthy_int ⟨H,I,q⟩
 | str y=>
  obtain⟨t,rfl⟩:=rx;obtain⟨hy,e'⟩:y.length<=sizeLine/\k=((y.length:Int) != 0):=e;subst e';exact PySem.P.truthy_str ⋯ ⟨H,I.tok _,q⟩
 | byt y=>
  obtain⟨t,rfl⟩:=rx;obtain⟨hy,e'⟩:y.size<=sizeLine/\k=((y.size:Int) != 0):=e;subst e';exact PySem.W.truthy_bytes ⋯ ⟨H,I.tok _,q⟩
 | ref p=>
  cases rx;have e':(∃xs,SqL X.K H p xs/\k= !xs.isEmpty)∨(∃xs,SqT X.K H p xs/\k= !xs.isEmpty)∨∃kvs,H p=some (.dK kvs)/\k= !kvs.isEmpty:=e;rcases e' with⟨xs,hx,e'⟩ | ⟨xs,hx,e'⟩ | ⟨kvs,hx,e'⟩
  .subst e';obtain⟨its,r,pl,hz⟩:=I.list hx;have hlen:=r.length;exact wpAny_truthy_list pl.isList (by simp only[Zv];omega) ⟨H,I.tok _,by rw[QkO r];exact q⟩
  .subst e';obtain⟨its,r,pl,hz⟩:=I.tuple hx;have hlen:=r.length;exact truthy_tuple pl (by simp only[Zv];omega) ⟨H,I.tok _,by rw[QkO r];exact q⟩
  .subst e';obtain⟨hz,hS,vs,r,m⟩:kvs.length<=sizeLine/\(p == sysModules)=false/\∃vs,KV kvs vs/\s.heap.DictOf (Ql7 X.prog X.w) p vs:=I.hok p _ hx;have hlen:kvs.length=vs.length:=Paired.length r;exact wpAny_truthy_dict hS m ⋯ ⟨H,I.tok _,by rw[QqX r];exact q⟩
 | _=>exact(show False from e).elim
def Qup(ha:PE X a ta)(he:∀whole,isTrue a X.env whole=(do let v ← whole;standAt a.pos;holding [v] (truthy v))):
  PT X a (λU H Q=>ta U H λx H'=>∃k,QtM X.K x H' k/\Q k H'):=by
 intro pins s U H Q I h;exact isTrue_plain (thn (ha pins s U H _ I h) λv s1 ⟨x,H1,I1,r1,q1⟩=>Qk1 pins s1 U H1 x v Q I1 r1 q1) (he _)
def vals1{x:V}{us:List Value}(r:QB [x] us):∃u,us=[u]/\RelV x u:=by
 cases r with
 | cons r1 r2=>cases r2;exact⟨_,rfl,r1⟩
def vals2{x y:V}{us:List Value}(r:QB [x,y] us):∃u w',us=[u,w']/\RelV x u/\RelV y w':=by
 cases r with
 | cons r1 r2=>
  cases r2 with
  | cons r3 r4=>cases r4;exact⟨_,_,rfl,r1,r3⟩
def Qte(hc:X.calm=true):Qdl X (.builtin "max") (λxs H Q=>∃i j,xs=[.int i,.int j]/\Q (.int (if j>i then j else i)) H):=by
 intro pins s U H xs us Q I r h;obtain⟨i,j,rfl,q⟩:=h;obtain⟨u,w',rfl,⟨t,rfl⟩,⟨t',rfl⟩⟩:=vals2 r;refine max_two_ints (I.ok.hd hc) λh' tk k=>⟨_,H,I.kept k,?_,q⟩;by_cases hj:j>i
 .rw[if_pos hj,if_pos hj];exact⟨_,rfl⟩
 .rw[if_neg hj,if_neg hj];exact⟨_,rfl⟩
def Qs9(hc:X.calm=true):Qdl X (.builtin "min") (λxs H Q=>∃i j,xs=[.int i,.int j]/\Q (.int (if j<i then j else i)) H):=by
 intro pins s U H xs us Q I r h;obtain⟨i,j,rfl,q⟩:=h;obtain⟨u,w',rfl,⟨t,rfl⟩,⟨t',rfl⟩⟩:=vals2 r;refine min_two_ints (I.ok.hd hc) λh' tk k=>⟨_,H,I.kept k,?_,q⟩;by_cases hj:j<i
 .rw[if_pos hj,if_pos hj];exact⟨_,rfl⟩
 .rw[if_neg hj,if_neg hj];exact⟨_,rfl⟩
end
structure QjQ (h:Heap) (x dx C:Addr) (mA:Str->Option Value):Prop where
 obj:h.get? x=some (PySem.W.instObj C dx)
 ns:h.Ns1 dx mA
 ne:dx≠x
def Qs8{h:Heap}{dx:Addr}{mA:Str->Option Value}(n:h.Ns1 dx mA):∃od,h.get? dx=some od/\∀name,PySem.W.lookIn name od=some (mA name):=by
 obtain⟨o,es,ep,ho,hd,hk,_,hm⟩:=n;refine⟨o,ho,λname=>?_⟩;have e:=hm name;unfold nsFind findBy at e;rw[← Array.find?_toList]at e;unfold PySem.W.lookIn;rw[hd];dsimp only;split
 .rename_i y q;rw[q]at e;exact congrArg some e
 .rename_i q;rw[q]at e;have a:es.toList.any (·.refKey)=false:=by
   rw[List.any_eq_false];intro y hy;obtain⟨z,t,hkey⟩:=hk y (Array.mem_toList_iff.mp hy);simp[DictEntry.refKey,hkey]
  have a':¬es.toList.any (·.refKey)=true:=by rw[a];exact ZO
  rw[if_neg a'];exact congrArg some e
def QjQ.look{h:Heap}{x dx C:Addr}{mA:Str->Option Value}(I:QjQ h x dx C mA):∃od,PySem.W.InstAt h x (PySem.W.instObj C dx) C (some od)/\∀name,PySem.W.lookIn name od=some (mA name):=
 let ⟨od,ho,hl⟩:=Qs8 I.ns
 ⟨od,⟨I.obj,rfl,rfl,ho⟩,hl⟩
section
variable {prog:Program}{w:World}{A:Around}{E:Value->Shared->Prop}{s:Shared}{K:Fgg}{x dx C f:Addr}{mA:Str->Option Value}{name:Str}{v:Value}
def get_map{expr:Bool}{Q:Value->Shared->Prop}(X:K.In s.heap)(I:QjQ s.heap x dx C mA)(hg:PySem.W.plainGet K C name=true)(hh:PySem.W.hasDictIn K C=true)
  (ha:PySem.W.findIn K (.ref C) name=some none) (hv:mA name=some v) (hv':PySem.W.handedIn v=true) (h:Q v {s with toks:=s.toks+1}):
  wpAny (model prog w) A (getAttr (.ref x) name expr) Q E s:=by
 obtain⟨od,J,hl⟩:=I.look;exact PySem.W.get_value X J (Zbn hg).1 (PySem.W.findObj_own hh ha rfl (by rw[hl,hv])) hv' h
def QtX{pl:Sem Bool}{Q:Value×List Value->Shared->Prop}(X:K.In s.heap)(I:QjQ s.heap x dx C mA)(hg:PySem.W.plainGet K C name=true)
  (hf:PySem.W.findIn K (.ref C) name=some (some (.ref f))) (ht:PySem.W.isFn K (.ref f)=true) (hv:mA name=none) (h:Q (.ref f,[.ref x]) s):
  wpAny (model prog w) A (getMethod (.ref x) name pl) Q E s:=by
 obtain⟨od,J,hl⟩:=I.look;exact PySem.W.method_fn X J (Zbn hg).1 (Zbn hg).2 hf (beq_iff_eq.mp ht) (by show(PySem.W.lookIn name od).map (·.isSome)=some false;rw[hl,hv];rfl) h
def QwY{ns:List Str}{Q:Unit->Shared->Prop}(X:K.In s.heap)(I:QjQ s.heap x dx C mA)
  (hs:PySem.W.findIn K (.ref C) "__setattr__" =some (some (.builtin "object.__setattr__"))) (hp:PySem.W.plainOver K C=true) (ht:PySem.W.takerIn K C name=some none) (hh:PySem.W.hasDictIn K C=true)
  (hw:PySem.Within mA ns) (hsz:ns.length<=sizeLine)
  (h:∀h',QjQ h' x dx C (λy=>if y=name then some v else mA y)->Heap.SameBut dx s.heap h'->Q () {s with heap:=h',toks:=s.toks+2}):
  wpAny (model prog w) A (setAttr (.ref x) name v) Q E s:=by
 obtain⟨od,J,hl⟩:=I.look;refine PySem.W.set_plain X J hs (PySem.W.osa_open (s:={s with toks:=s.toks+1}) (r:=none) X J hp ht λb=>?_);obtain⟨cd,hc,hd'⟩:=PySem.W.any_some hh;have hx:s.heap.get? x=some ⟨.ref C,some dx,.plain,#[]⟩:=I.obj;refine wpAny_bind (wpAny_pure (wpAny_bind (wpAny_bind (wpAny_loadPart hx (wpAny_bind (PySem.W.Looks.here (s:={s with toks:=s.toks+1}) (PySem.W.looks_clsIn X hc) ?_))))));rw[hd'];refine wpAny_pure (a:=some dx) (wpAny_bind (wpAny_pure (wpAny_bind ?_)));refine wpAny_nsSet1 (s:={s with toks:=s.toks+1}) I.ns λh' hn2 hs2=>?_;obtain⟨oD,esD,epD,hoD,hdD,hcD⟩:=hn2.count (PySem.Within.cons name v hw);refine wpAny_bind (wpAny_lookBehind hoD (by rw[hdD];exact pastItsLine_dict (ZL hcD (by rw[Zj];omega))) ?_);exact wpAny_pure (h _ ⟨(hs2.2 _ (Ne.symm I.ne)).trans I.obj,hn2,I.ne⟩ hs2)
def Qun{R:Result->Shared->Prop}{vs:List Value}{kw:List (Str×Value)}(X:K.In s.heap)(hm:PySem.W.makesIn K C=true)
  (hi:PySem.W.findIn K (.ref C) "__init__" =some (some (.ref f))) (hf:PySem.W.typeIn K (.ref f)=some (.type "function"))
  (h:codeAny (model prog w) (A.under (.builtin "type.__call__" ⟨.ref C::vs,kw⟩)) (.call (.ref f) ⟨.ref (s.heap.objs.size+1)::vs,kw⟩) (PySem.W.InitBack (s.heap.objs.size+1) R)
   {s with heap:=(s.heap.push PySem.W.emptyDict).push (PySem.W.instObj C s.heap.objs.size)}):
  codeAny (model prog w) A (.call (.ref C) ⟨vs,kw⟩) R s:=by
 obtain⟨hh,g,d,t,os⟩:=s;exact PySem.W.make_core (Zby X hm) (PySem.W.looks_findIn X hi) (λself=>PySem.W.bind_fn X self hf) (.inl rfl) h
def QsT{R:Result->Shared->Prop}(X:K.In s.heap)(hm:PySem.W.makesIn K C=true)
  (hi:PySem.W.findIn K (.ref C) "__init__" =some (some (.builtin "object.__init__")))
  (hb:∀self,PySem.W.Looks (model prog w) s.heap (bindSpecial (.builtin "object.__init__") self) (.builtin "object.__init__",[self]))
  (h:codeAny (model prog w) (A.under (.builtin "type.__call__" ⟨[.ref C],[]⟩)) (.call (.builtin "object.__init__") ⟨[.ref (s.heap.objs.size+1)],[]⟩) (PySem.W.InitBack (s.heap.objs.size+1) R)
   {s with heap:=(s.heap.push PySem.W.emptyDict).push (PySem.W.instObj C s.heap.objs.size)}):
  codeAny (model prog w) A (.call (.ref C) ⟨[],[]⟩) R s:=by
 obtain⟨hh,g,d,t,os⟩:=s;exact PySem.W.make_core (Zby X hm) (PySem.W.looks_findIn X hi) hb (.inr ⟨rfl,rfl⟩) h
end
noncomputable def QbC(f:Str)(v:V):List (Str×V)->List (Str×V)
 | []=>[(f,v)]
 | (g,x)::r=>if g=f then(g,v)::r else(g,x)::QbC f v r
def QjJ(f g:Str)(v:V):∀fs:List (Str×V),(QbC f v fs).lookup g=if g=f then some v else fs.lookup g
 | []=>by
  show List.lookup g [(f,v)]=_;by_cases h:g=f
  .have hb:(g == f)=true:=beq_iff_eq.mpr h;simp only[List.lookup,hb,if_pos h]
  .have hb:(g == f)=false:=beq_eq_false_iff_ne.mpr h;simp only[List.lookup,hb,if_neg h]
 | (k,x)::r=>by
  have ih:=QjJ f g v r;rw[show QbC f v ((k,x)::r)=(if k=f then(k,v)::r else(k,x)::QbC f v r)from rfl];by_cases hk:k=f
  .rw[if_pos hk];by_cases h:g=k
   .have hb:(g == k)=true:=beq_iff_eq.mpr h;simp only[List.lookup,hb,if_pos (h.trans hk)]
   .have hb:(g == k)=false:=beq_eq_false_iff_ne.mpr h;simp only[List.lookup,hb,if_neg (λe:g=f=>h (e.trans hk.symm))]
  .rw[if_neg hk];by_cases h:g=k
   .have hb:(g == k)=true:=beq_iff_eq.mpr h;simp only[List.lookup,hb,if_neg (λe:g=f=>hk (h.symm.trans e))]
   .have hb:(g == k)=false:=beq_eq_false_iff_ne.mpr h;simp only[List.lookup,hb];exact ih
def Qix(f:Str)(v:V):∀fs:List (Str×V),f∈(QbC f v fs).map (·.1)/\∀g,g∈fs.map (·.1)->g∈(QbC f v fs).map (·.1)
 | []=>⟨by simp[QbC],λg h=>by simp at h⟩
 | (k,x)::r=>by
  obtain⟨i1,i2⟩:=Qix f v r;rw[show QbC f v ((k,x)::r)=(if k=f then(k,v)::r else(k,x)::QbC f v r)from rfl];by_cases hk:k=f
  .rw[if_pos hk];subst hk;exact⟨⋯,λg h=>by simpa using h⟩
  .rw[if_neg hk];refine⟨?_,λg h=>?_⟩
   .rw[ZA];exact Zc _ i1
   .rw[ZA]at h ⊢;rcases Zn.mp h with e | e
    .exact Zn.mpr (.inl e)
    .exact Zc _ (i2 g e)
def QjB(f:Str)(v:V):∀fs:List (Str×V),(QbC f v fs).length<=fs.length+1
 | []=>by simp[QbC]
 | (k,x)::r=>by
  have ih:=QjB f v r;rw[show QbC f v ((k,x)::r)=(if k=f then(k,v)::r else(k,x)::QbC f v r)from rfl];by_cases hk:k=f
  .rw[if_pos hk,Zj,Zj];omega
  .rw[if_neg hk,Zj,Zj];omega
def Qgq.some_of{v:V}{o:Option Value}(r:Qgq (some v) o):∃u,o=some u/\RelV v u:=by
 cases o with
 | none=>exact(show False from r).elim
 | some u=>exact⟨u,rfl,r⟩
def Qgq.none_of{o:Option Value}(r:Qgq none o):o=none:=by
 cases o with
 | none=>rfl
 | some u=>exact(show False from r).elim
def Qr3{v:V}{u:Value}(r:RelV v u):PySem.W.handedIn u=true:=by
 cases v with
 | non=>cases(show u=Value.none from r);rfl
 | bl b=>cases(show u=Value.bool b from r);rfl
 | int i=>obtain⟨t,e⟩:=(show ∃t,u=Value.int i t from r);cases e;rfl
 | str x=>obtain⟨t,e⟩:=(show ∃t,u=Value.str x t from r);cases e;rfl
 | byt b=>obtain⟨t,e⟩:=(show ∃t,u=Value.bytes b t from r);cases e;rfl
 | flt b=>obtain⟨t,e⟩:=(show ∃t,u=Value.float b t from r);cases e;rfl
 | ref a=>cases(show u=Value.ref a from r);rfl
 | ty n=>cases(show u=Value.type n from r);rfl
section
variable {P:Program}{w:World}{H H':Hp}{h h':Heap}{a C dx:Addr}{fs fs':List (Str×V)}
def QlH(hok:HOk P w H h)(e:H a=some (.ins C dx fs)):∃mA,QjQ h a dx C mA/\(∀f,Qgq (fs.lookup f) (mA f))/\PySem.Within mA (fs.map (·.1))/\fs.length<=1000/\H dx=some (.own a):=by
 obtain⟨d,z,ne,ob,mA,n,r,q⟩:=(show QbZ P w H h a (.ins C dx fs)from hok a _ e);exact⟨mA,⟨ob,n,ne⟩,r,q,z,d⟩
end
structure Cls (K:Fgg) (C:Addr):Prop where
 pg:PySem.W.plainGet K C Str.empty=true
 hd:PySem.W.hasDictIn K C=true
 po:PySem.W.plainOver K C=true
 sa:PySem.W.findIn K (.ref C) "__setattr__" =some (some (.builtin "object.__setattr__"))
def Cls.get{K:Fgg}{C:Addr}(c:Cls K C)(f:Str):PySem.W.plainGet K C f=true:=c.pg
def Qct(K:Fgg)(C:Addr)(f:Str):Prop:=PySem.W.findIn K (.ref C) f=some none
def Qct.QAz{K:Fgg}{C:Addr}{f:Str}(n:Qct K C f):PySem.W.takerIn K C f=some none:=by
 unfold PySem.W.takerIn;rw[show PySem.W.findIn K (.ref C) f=some none from n];rfl
structure Con (K:Fgg) (C:Addr) (f:Str) (v:V) (u:Value):Prop where
 at_:PySem.W.findIn K (.ref C) f=some (some u)
 rel:RelV v u
 get:PySem.W.specialIn K u "__get__" =some none
 cp:PySem.W.copiedNames.contains f=false
structure QlG (K:Fgg) (C:Addr) (m:Str) (f:Addr):Prop where
 at_:PySem.W.findIn K (.ref C) m=some (some (.ref f))
 fn:PySem.W.isFn K (.ref f)=true
 kp:PySem.W.keepIn K (.ref f)=true
section
variable {X:Cx}{pins:List (Addr×Obj)}{U:St}{H:Hp}{s:Shared}{a C dx:Addr}{fs:List (Str×V)}{f:Str}{v:V}{A:Around}{E:Value->Shared->Prop}
def QkT{b:Bool}{Q:Value->Shared->Prop}(I:Inv X pins U H s)(e:H a=some (.ins C dx fs))(c:Cls X.K C)(n:Qct X.K C f)(l:fs.lookup f=some v)
  (h:∀u s',Inv X pins U H s'->RelV v u->Q u s'):wpAny (model X.prog X.w) A (getAttr (.ref a) f b) Q E s:=by
 obtain⟨mA,O,r,_,_,_⟩:=QlH I.hok e;obtain⟨u,hu,ru⟩:=Qgq.some_of (v:=v) (o:=mA f) (by rw[← l];exact r f);exact get_map I.kIn O (c.get f) c.hd n hu (Qr3 ru) (h u _ (I.tok _) ru)
def QqT{m:Str}{g:Addr}{pl:Sem Bool}{Q:Value×List Value->Shared->Prop}(I:Inv X pins U H s)(e:H a=some (.ins C dx fs))(c:Cls X.K C)(k:QlG X.K C m g)(l:fs.lookup m=none)
  (h:Q (.ref g,[.ref a]) s):wpAny (model X.prog X.w) A (getMethod (.ref a) m pl) Q E s:=by
 obtain⟨mA,O,r,_,_,_⟩:=QlH I.hok e;have hn:mA m=none:=Qgq.none_of (by rw[← l];exact r m);exact QtX I.kIn O (c.get m) k.at_ k.fn hn h
def QkI{y:V}{u:Value}{Q:Unit->Shared->Prop}(I:Inv X pins U H s)(e:H a=some (.ins C dx fs))(c:Cls X.K C)(n:Qct X.K C f)(hl:fs.length<1000)(ry:RelV y u)
  (h:∀s',Inv X pins U (upd H a (.ins C dx (QbC f y fs))) s'->Q () s'):wpAny (model X.prog X.w) A (setAttr (.ref a) f u) Q E s:=by
 obtain⟨mA,O,r,wi,_,ho⟩:=QlH I.hok e;have hz:(fs.map (·.1)).length<=sizeLine:=by rw[Zp,sizeLine_eq];omega
 refine QwY I.kIn O c.sa c.po n.QAz c.hd wi hz λh' O' sb=>h _ ?_;have hd:∃o,h'.get? dx=some o:=let ⟨o,_,_,e',_⟩:=O'.ns;⟨o,e'⟩;refine I.write (x:=a) (e:=dx) (by rw[e];exact True.intro) (.inr ho) (λb q hb z=>(sb.2 b hb).trans z) hd ?_;refine⟨by rw[QM O.ne];exact ho,?_,O.ne,O'.obj,_,O'.ns,λg=>?_,λg hg=>?_⟩
 .have:=QjB f y fs;omega
 .show Qgq ((QbC f y fs).lookup g) (if g=f then some u else mA g);rw[QjJ];by_cases q:g=f
  .rw[if_pos q,if_pos q];exact ry
  .rw[if_neg q,if_neg q];exact r g
 .by_cases q:g=f
  .rw[q];exact(Qix f y fs).1
  .refine(Qix f y fs).2 g (wi g λz=>hg ?_);show(if g=f then some u else mA g)=none;rw[if_neg q];exact z
def Inv.made(I:Inv X pins U H s):Inv X pins U (upd (upd H s.heap.objs.size (.own (s.heap.objs.size+1))) (s.heap.objs.size+1) (.ins C s.heap.objs.size []))
  {s with heap:=(s.heap.push PySem.W.emptyDict).push (PySem.W.instObj C s.heap.objs.size)}:=by
 have e1:(s.heap.push PySem.W.emptyDict).get? s.heap.objs.size=some PySem.W.emptyDict:=ZG s.heap rfl;have e2:((s.heap.push PySem.W.emptyDict).push (PySem.W.instObj C s.heap.objs.size)).get? (s.heap.objs.size+1)=some (PySem.W.instObj C s.heap.objs.size):=by
  have:=ZG (s.heap.push PySem.W.emptyDict) (o:=PySem.W.instObj C s.heap.objs.size) rfl;rwa[Zax]at this
 have e3:(s.heap.push PySem.W.emptyDict).Ns s.heap.objs.size (λ_=>none):=⟨PySem.W.emptyDict,#[],_,e1,rfl,(λe he=>absurd he ⋯),λ_=>rfl⟩;have I1:=I.laid (a:=s.heap.objs.size) (o:= .own (s.heap.objs.size+1)) (h':=s.heap.push PySem.W.emptyDict) (t':=s.toks) (λb u q=>Zq _ q) (Zk _) ⟨_,e1⟩;refine I1.laid (a:=s.heap.objs.size+1) (o:= .ins C s.heap.objs.size []) (t':=s.toks) (λb u q=>Zq _ q) (Nat.le_of_eq (Zax _ _)) ?_;have ne:s.heap.objs.size≠s.heap.objs.size+1:=ZK (Zar _);refine⟨by rw[QM ne,Qat],ZS _,ne,e2,λ_=>none,(Heap.Ns1.of_empty e3).at λo q=>Zq _ q,λ_=>True.intro,λy hy=>absurd rfl hy⟩
def Qw3{prog:Program}{w:World}{env:Env}{e:Expr}{f:Str}{pos:Pos}{s:Shared}{Q:Value->Shared->Prop}(hb:attributeBase e f env (eval e env)=eval e env)
  (h:wpAny (model prog w) A (eval e env) (λo s₁=>wpAny (model prog w) A (getAttr o f true) Q E s₁) E s):wpAny (model prog w) A (eval (.Attribute e f pos) env) Q E s:=
 Attribute_any_ h (by rw[arm_eval_Attribute,hb])
end
noncomputable def QBJ(K:Fgg)(ta:TE)(f:Str):TE:=λU H Q=>ta U H λx H1=>∃a C dx fs v,x= .ref a/\H1 a=some (.ins C dx fs)/\Cls K C/\Qct K C f/\fs.lookup f=some v/\Q v H1
noncomputable def QBC(K:Fgg)(ta tv:TE)(f:Str):TS:=λD U H=>tv U H λy H1=>ta U H1 λx H2=>∃a C dx fs,x= .ref a/\H2 a=some (.ins C dx fs)/\Cls K C/\Qct K C f/\fs.length<1000∧
 D.nx U (upd H2 a (.ins C dx (QbC f y fs)))
def QzG(X:Cx)(op:Operator)(rd:V->V->Hp->VK->Prop):Prop:=
 ∀(pins:List (Addr×Obj)) (s:Shared) (U:St) (H:Hp) (x y:V) (u v:Value) (Q:VK),Inv X pins U H s->RelV x u->RelV y v->rd x y H Q->wpAny (model X.prog X.w) X.A (inplaceOp op u v) (EP X pins U Q) X.xe s
noncomputable def QxU(K:Fgg)(ta tv:TE)(rd:V->V->Hp->VK->Prop)(f:Str):TS:=λD U H=>ta U H λx H1=>∃a C dx fs v,x= .ref a/\H1 a=some (.ins C dx fs)/\Cls K C/\Qct K C f/\fs.lookup f=some v∧
 tv U H1 λy H2=>rd v y H2 λz H3=>∃dx' fs',H3 a=some (.ins C dx' fs')/\fs'.length<1000/\D.nx U (upd H3 a (.ins C dx' (QbC f z fs')))
section
variable {X:Cx}{o e value:Expr}{f:Str}{pos pos' tpos:Pos}{ta tv:TE}
def QyH(he:PE X e ta)(hb:attributeBase e f X.env (eval e X.env)=eval e X.env):PE X (.Attribute e f pos) (QBJ X.K ta f):=by
 intro pins s U H Q I h;refine Qw3 hb (thn (he pins s U H _ I h) λu s1 Z=>?_);obtain⟨x,H1,I1,rx,a,C,dx,fs,v,ex,ea,c,n,l,q⟩:=Z;subst ex;obtain rfl:u=Value.ref a:=rx;exact QkT I1 ea c n l λu' s2 I2 ru=>⟨v,H1,I2,ru,q⟩
def QyD(ha:PE X o ta)(hv:PE X value tv)(hs:swapsWith value (some (.Attribute o f pos')) pos.line X.env=pure false):PS X (.Assign [.Attribute o f pos'] value pos) (QBC X.K ta tv f):=by
 intro pins s U H D I h;refine plainObj_wpAny_Assign_Attribute (thn (hv pins s U H _ I h) λu s1 ⟨y,H1,I1,ry,q⟩=>thn (ha pins s1 U H1 _ I1 q) λov s2 ⟨x,H2,I2,rx,a,C,dx,fs,ex,ea,c,n,l,q2⟩=>?_) hs;subst ex;obtain rfl:ov=Value.ref a:=rx;exact QkI I2 ea c n l ry λs3 I3=>⟨U,_,I3,q2⟩
def Qs3{op:Operator}{rd:V->V->Hp->VK->Prop}(ha:PE X o ta)(hv:PE X value tv)(hop:QzG X op rd):PS X (.AugAssign (.Attribute o f tpos) op value pos) (QxU X.K ta tv rd f):=by
 intro pins s U H D I h;refine wpAny_AugAssign_AttributeAny (thn (ha pins s U H _ I h) λov s1 Z=>?_);obtain⟨x,H1,I1,rx,a,C,dx,fs,v,ex,ea,c,n,l,q⟩:=Z;subst ex;obtain rfl:ov=Value.ref a:=rx;refine QkT I1 ea c n l λu s2 I2 ru=>thn (hv pins s2 U H1 _ I2 q) λw3 s3 ⟨y,H2,I3,ry,q3⟩=>thn (hop pins s3 U H2 v y u w3 _ I3 ru ry q3) λw4 s4 Z=>?_;obtain⟨z,H3,I4,rz,dx',fs',ea',l',q4⟩:=Z;exact QkI I4 ea' c n l' rz λs5 I5=>⟨U,_,I5,q4⟩
def QCc:V->V->Hp->VK->Prop:=λx y H Q=>∃i j,x= .int i/\y= .int j/\Q (.int (i+j)) H
def Qyr:QzG X .Add QCc:=by
 rintro pins s U H x y u v Q I rx ry ⟨i,j,rfl,rfl,q⟩;obtain⟨t,rfl⟩:=(show ∃t,u=Value.int i t from rx);obtain⟨t',rfl⟩:=(show ∃t',v=Value.int j t' from ry);exact PyProof.Rows.iadd_int ⟨.int (i+j),H,I.tok _,⟨_,rfl⟩,q⟩
end
section
variable {X:Cx}{pins:List (Addr×Obj)}{U:St}{H:Hp}{s:Shared}{A:Around}{E:Value->Shared->Prop}{Q:Value->Shared->Prop}{c:Value}{b:Bool}
end
structure Qao (k:Nat) (A:Around):Prop where
 hd:A.handled=none
 dp:A.depth+3*k+5<recursionLimit
 un:A.units+16*k+200<cLine
def Qao.mono{j k:Nat}{A:Around}(r:Qao k A)(h:j<=k):Qao j A:=⟨r.hd,by have:=r.dp;omega,by have:=r.un;omega⟩
def Qao.deeper{k:Nat}{A:Around}(r:Qao (k+1) A)(env:Env):Qao k (A.deeper env):=
 ⟨r.hd,by have:=r.dp;show A.depth+1+3*k+5<_;omega,by have:=r.un;show A.units+3+16*k+200<_;omega⟩
def Qrw{A:Around}{C:Addr}{us:List Value}{kw:List (Str×Value)}:(A.under (.builtin "type.__call__" ⟨.ref C::us,kw⟩)).depth=A.depth+1:=by
 first | rfl | simp[Around.under,Code.weight,Code.isCreation,Code.isGuard,Code.isCaller,Code.frames,Code.isFrame,guardIds]
def QqO{A:Around}{C:Addr}{us:List Value}{kw:List (Str×Value)}:(A.under (.builtin "type.__call__" ⟨.ref C::us,kw⟩)).units=A.units+1:=by
 first | rfl | simp[Around.under,Code.cUnits,Code.frames,Code.isFrame]
def Qao.make{k:Nat}{A:Around}(r:Qao (k+1) A)(C:Addr)(us:List Value)(kw:List (Str×Value)):Qao k (A.under (.builtin "type.__call__" ⟨.ref C::us,kw⟩)):=
 ⟨r.hd,by have:=r.dp;rw[Qrw];omega,by have:=r.un;rw[QqO];omega⟩
def Qao.depth{k:Nat}{A:Around}(r:Qao k A):A.depth<recursionLimit:=by have:=r.dp;omega
def Qao.units{k:Nat}{A:Around}(r:Qao k A):A.units+64<cLine:=by have:=r.un;omega
noncomputable def QlK:TA:=λ_ H Q=>Q [] H
noncomputable def QkC(ta:TE)(tr:TA):TA:=λU H Q=>ta U H λx H1=>tr U H1 λxs H2=>Q (x::xs) H2
section
variable {X:Cx}{e:Expr}{es:List Expr}{te:TE}{t:TA}{pos:Pos}
def Qdz:PA X [] QlK:=λ_ _ _ _ H Q I h=>Calls.spliced_nil ⟨[],H,I,.nil,h⟩
def Qa5(ha:PE X e te)(hr:PA X es t)(hs:starEach (e::es) X.env=(false,eval e X.env)::starEach es X.env:=by rfl):PA X (e::es) (QkC te t):=by
 intro pos pins s U H Q I h;rw[hs];show wpAny _ _ (spliced ((false,eval e X.env)::backTo pos (starEach es X.env))) _ _ s;refine Calls.spliced_cons (thn (ha pins s U H _ I h) λu s1=>exJ λx H1 I1 r1 q1=>?_);exact thn (hr pos pins s1 U H1 _ I1 q1) λus s2 ⟨xs,H2,I2,r2,q2⟩=>⟨x::xs,H2,I2,.cons r1 r2,q2⟩
noncomputable def QCb(t:TA):TE:=λU H Q=>t U H λxs H1=>xs.length<=sizeLine/\∀p,H1 p=none->Q (.ref p) (upd H1 p (.tup xs))
noncomputable def QBN(t:TA):TE:=λU H Q=>t U H λxs H1=>xs.length<=sizeLine/\∀p,H1 p=none->Q (.ref p) (upd H1 p (.lst xs))
def Qzx{x1}(h:PA X es t):PE X (.Tuple es x1 pos) (QCb t):=by
 intro pins s U H Q I hq;refine wpAny_Tuple_spliced (thn (h pos pins s U H _ I hq) λus s1 ⟨xs,H1,I1,r,z,q⟩=>⟨by rw[← r.length];exact z,?_⟩);have hf:H1 s1.heap.objs.size=none:=I1.hok.fresh (Zk _);refine⟨.ref s1.heap.objs.size,upd H1 s1.heap.objs.size (.tup xs),I1.laid (t':=s1.toks) (λb u e=>Zq _ e) (Zk _) ?_,rfl,q _ hf⟩;exact⟨z,us,r,⟨_,ZG _ rfl,rfl,_,rfl⟩⟩
def QyG(h:PA X es t):PE X (.List es pos) (QBN t):=by
 intro pins s U H Q I hq;refine wpAny_List_spliced (thn (h pos pins s U H _ I hq) λus s1 ⟨xs,H1,I1,r,z,q⟩=>⟨by rw[← r.length];exact z,?_⟩);have hf:H1 s1.heap.objs.size=none:=I1.hok.fresh (Zk _);refine⟨.ref s1.heap.objs.size,upd H1 s1.heap.objs.size (.lst xs),I1.laid (t':=s1.toks) (λb u e=>Zq _ e) (Zk _) ?_,rfl,q _ hf⟩;exact⟨z,us,0,r,ZG _ rfl⟩
end
abbrev Sp:=List V->Hp->VK->XK->Prop
abbrev CXT:=List Env->Hp->Shared->XK->Value->Shared->Prop
structure QiP (P:Program) (w:World) (K:Fgg) (mg:Str->Option Value) (base:Heap) (A:Around) (outer:List Env) (s:Shared) (H:Hp):Prop where
 frames:A.frames=some outer
 mod:Mod K mg base
 bs:∀b o,base.get? b=some o->s.heap.get? b=some o/\H b=none
 bsz:base.objs.size<=s.heap.objs.size
 QdI:s.heap.FunFrames base outer
 frf:∀b∈frs outer,H b=none
 hok:HOk P w H s.heap
 bare:AllBare s.gens
def CE(outer:List Env)(P:Program)(w:World)(H:Hp)(s:Shared)(Q:VK)(u:Value)(s':Shared):Prop:=
 ∃v H',s'.os=s.os/\AllBare s'.gens/\Un (frs outer) [] H H' s.heap s'.heap/\HOk P w H' s'.heap/\RelV v u/\Q v H'
def CR(CX:CXT)(outer:List Env)(P:Program)(w:World)(H:Hp)(s:Shared)(Q:VK)(E:XK)(r:Result)(s':Shared):Prop:=
 match r with
 | .ok (.ret u)=>CE outer P w H s Q u s'
 | .ok _=>False
 | .error e=>CX outer H s E e s'
structure Qau (P:Program) (w:World) (K:Fgg) (mg:Str->Option Value) (base:Heap) (CX:CXT) (k:Nat) (f:Addr) (fd:FuncData) (ps:List Str) (sp:Sp):Prop where
 len:∀vs H Q E,sp vs H Q E->vs.length=ps.length
 run:∀(A:Around) (outer:List Env) (s:Shared) (H:Hp) (args:Args) (us:List Value) (vs:List V) (Q:VK) (E:XK),Qao k A->QiP P w K mg base A outer s H->BindsTo s fd args (ps.zip us)->QB vs us->sp vs H Q E→
  codeAny (model P w) A (.call (.ref f) args) (CR CX outer P w H s Q E) s
def Qau.mono{P:Program}{w:World}{K:Fgg}{mg:Str->Option Value}{base:Heap}{CX:CXT}{j k:Nat}{f:Addr}{fd:FuncData}{ps:List Str}{sp:Sp}(F:Qau P w K mg base CX j f fd ps sp)(h:j<=k):
  Qau P w K mg base CX k f fd ps sp:=⟨F.len,λA outer s H args us vs Q E hr=>F.run A outer s H args us vs Q E (hr.mono h)⟩
def QiP.make{P:Program}{w:World}{K:Fgg}{mg:Str->Option Value}{base:Heap}{A:Around}{outer:List Env}{s:Shared}{H:Hp}(e:QiP P w K mg base A outer s H)(C:Addr)(us:List Value)(kw:List (Str×Value)):
  QiP P w K mg base (A.under (.builtin "type.__call__" ⟨.ref C::us,kw⟩)) outer s H:=⟨by first | exact e.frames | (simpa[Around.under,Code.envs,Code.isFrame,pushEnvs]using e.frames),e.mod,e.bs,e.bsz,e.QdI,e.frf,e.hok,e.bare⟩
section
variable {X:Cx}{pins:List (Addr×Obj)}{U:St}{H:Hp}{s s':Shared}
def Inv.Qpb(I:Inv X pins U H s):QiP X.prog X.w X.K X.mg X.base X.A X.stack s H:=
 ⟨I.ok.frames,I.ok.mod,I.bs,ZL I.ok.bsz I.sz,I.stack,I.Qly,I.hok,I.bare⟩
def Inv.after{Q:VK}{u:Value}(I:Inv X pins U H s)(h:CE X.stack X.prog X.w H s Q u s'):EP X pins U Q u s':=by
 obtain⟨v,H',os,bare,un,hok,r,q⟩:=h;obtain⟨hh,g,d,t,os'⟩:=s';obtain rfl:os'=s.os:=os;exact⟨v,H',I.call (h':=hh) (g':=g) (d':=d) (t':=t) (ch:=[]) un hok bare (λb z=>absurd z ⋯),r,q⟩
end
noncomputable def Qrj(sp:Sp)(dvs:List V)(E:XK)(t:TA):TE:=λU H Q=>t U H λvs H1=>sp (vs++dvs) H1 Q E
noncomputable def QAK(C:Addr)(m:Str)(sp:Sp)(dvs:List V)(E:XK)(ta:TE)(t:TA):TE:=λU H Q=>ta U H λx H1=>∃a dx fs,x= .ref a/\H1 a=some (.ins C dx fs)/\fs.lookup m=none∧
 t U H1 λvs H2=>sp (x::(vs++dvs)) H2 Q E
noncomputable def QAW(C:Addr)(sp:Sp)(dvs:List V)(E:XK)(t:TA):TE:=λU H Q=>t U H λvs H1=>∀x dx,H1 x=none->H1 dx=none->dx≠x→
 sp (.ref x::(vs++dvs)) (upd (upd H1 dx (.own x)) x (.ins C dx [])) (λv H2=>v= .non/\Q (.ref x) H2) E
def Binds(K:Fgg)(fd:FuncData)(ps:List Str)(ds:List Value):Prop:=
 ∀(s:Shared) (us:List Value),K.In s.heap->(us++ds).length=ps.length->BindsTo s fd ⟨us,[]⟩ (ps.zip (us++ds))
def Binds.all{K:Fgg}{fd:FuncData}{ps:List Str}(h:∀us:List Value,us.length=ps.length->bindArgs fd ⟨us,[]⟩=pure (ps.zip us)):Binds K fd ps []:=λs us _ hl=>by
 rw[Zs]at hl ⊢;exact .of_eq (h us hl)
def QfK(CX:CXT)(X:Cx)(E:XK):Prop:=∀(pins:List (Addr×Obj)) (U:St) (H:Hp) (s:Shared) (e:Value) (s':Shared),Inv X pins U H s->CX X.stack H s E e s'->X.xe e s'
section
variable {X:Cx}{CX:CXT}{k:Nat}{f C:Addr}{fd:FuncData}{ps:List Str}{sp:Sp}{dvs:List V}{ds:List Value}{E:XK}{x m:Str}{p pos apos:Pos}{e o:Expr}{es:List Expr}{ta:TE}{t:TA}
def Qoi{pins:List (Addr×Obj)}{U:St}{H:Hp}{s:Shared}{Q:VK}{us:List Value}{vs:List V}(F:Qau X.prog X.w X.K X.mg X.base CX k f fd ps sp)(hr:Qao k X.A)(hb:Binds X.K fd ps ds)(hd:QB dvs ds)(hx:QfK CX X E)
  (I:Inv X pins U H s) (r:QB vs us) (h:sp (vs++dvs) H Q E):wpAny (model X.prog X.w) X.A (call (.ref f) us) (EP X pins U Q) X.xe s:=by
 have r2:QB (vs++dvs) (us++ds):=r.append hd;have hl:(us++ds).length=ps.length:=by rw[← r2.length];exact F.len _ _ _ _ h
 refine wpAny_call (codeAny_mono (F.run X.A X.stack s H ⟨us,[]⟩ (us++ds) (vs++dvs) Q E hr I.Qpb (hb s us I.kIn hl) r2 h) λr s' hq=>?_);cases r with
 | error e=>exact hx pins U H s e s' I hq
 | ok fl=>
  cases fl with
  | ret u=>exact I.after hq
  | next=>exact False.elim hq
  | brk=>exact False.elim hq
  | cont=>exact False.elim hq
def QgD(F:Qau X.prog X.w X.K X.mg X.base CX k f fd ps sp)(hr:Qao k X.A)(hg:Gl X x)(hm:X.mg x=some (.ref f))(hk:PySem.W.keepIn X.K (.ref f)=true)(hb:Binds X.K fd ps ds)(hd:QB dvs ds)(hx:QfK CX X E)
  (ha:PA X (e::es) t) (hdb:(x == ("__debug__" :Str))=false:=by decide) (he:starEach (e::es) X.env=(false,eval e X.env)::starEach es X.env:=by rfl) (hpl:(backTo pos (starEach es X.env)).any (·.1)=false:=by rfl):
  PE X (.Call (.Name x p) (e::es) [] pos) (Qrj sp dvs E t):=by
 intro pins s U H Q I h;refine wpAny_Call_Name_kw (QcO I hg hm ?_ hdb);refine ZaF (h₀:=X.base) I.ok.mod.kin hk (thn (ha pos pins s U H _ I h) λus s1 ⟨vs,H1,I1,r,q⟩=>⟨I1.kIn,?_⟩) he hpl;exact Qoi F hr hb hd hx I1 r q
def Qt0(F:Qau X.prog X.w X.K X.mg X.base CX k f fd ps sp)(hr:Qao k X.A)(hg:Gl X x)(hm:X.mg x=some (.ref f))(hk:PySem.W.keepIn X.K (.ref f)=true)(hb:Binds X.K fd ps ds)(hd:QB dvs ds)(hx:QfK CX X E)
  (hdb:(x == ("__debug__" :Str))=false:=by decide):PE X (.Call (.Name x p) [] [] pos) (Qrj sp dvs E QlK):=by
 intro pins s U H Q I h;refine wpAny_Call_Name_kw (QcO I hg hm ?_ hdb);exact PySem.W.callWith_K0 I.kIn hk (Qoi (us:=[]) F hr hb hd hx I .nil h)
def Qwd{pl:Sem Bool}(he:PE X o ta)(c:Cls X.K C)(hm:QlG X.K C m f)(F:Qau X.prog X.w X.K X.mg X.base CX k f fd ps sp)(hr:Qao k X.A)(hb:Binds X.K fd ps ds)(hd:QB dvs ds)(hx:QfK CX X E)(ha:PA X (e::es) t)
  (hst:starEach (e::es) X.env=(false,eval e X.env)::starEach es X.env:=by rfl) (hpl:(backTo pos (starEach es X.env)).any (·.1)=false:=by rfl)
  (ht:eval (.Call (.Attribute o m apos) (e::es) [] pos) X.env=(do
   let ov ← eval o X.env
   standAt apos.atName
   let (f,first) ← holding [ov] (getMethod ov m pl)
   callWith pos f first (backTo pos (starEach (e::es) X.env)) (backToKw pos (keywordEach [] X.env))):=by rfl):
  PE X (.Call (.Attribute o m apos) (e::es) [] pos) (QAK C m sp dvs E ta t):=by
 intro pins s U H Q I h;refine PySem.W.methodCall_KW (pl:=pl) (thn (he pins s U H _ I h) λu s1 ⟨x,H1,I1,rx,a,dx,fs,ex,ea,l,q⟩=>?_) ht;subst ex;obtain rfl:u=Value.ref a:=rx;refine QqT I1 ea c hm l ?_;refine ZaF (first:=[.ref a]) (h₀:=X.base) I.ok.mod.kin hm.kp (thn (ha pos pins s1 U H1 _ I1 q) λus s2 ⟨vs,H2,I2,r,q2⟩=>⟨I2.kIn,?_⟩) hst hpl;exact Qoi (us:= .ref a::us) (vs:= .ref a::vs) F hr hb hd hx I2 (.cons rfl r) q2
structure Mk (K:Fgg) (C f:Addr):Prop where
 makes:PySem.W.makesIn K C=true
 init:PySem.W.findIn K (.ref C) "__init__" =some (some (.ref f))
 fn:PySem.W.isFn K (.ref f)=true
 kp:PySem.W.keepIn K (.ref C)=true
def QtV{pins:List (Addr×Obj)}{U:St}{H:Hp}{s:Shared}{Q:VK}{us:List Value}{vs:List V}(M:Mk X.K C f)(F:Qau X.prog X.w X.K X.mg X.base CX k f fd ps sp)(hr:Qao (k+1) X.A)(hb:Binds X.K fd ps ds)(hd:QB dvs ds)
  (hx:QfK CX X E) (I:Inv X pins U H s) (r:QB vs us)
  (h:∀x dx,H x=none->H dx=none->dx≠x->sp (.ref x::(vs++dvs)) (upd (upd H dx (.own x)) x (.ins C dx [])) (λv H2=>v= .non/\Q (.ref x) H2) E):
  wpAny (model X.prog X.w) X.A (call (.ref C) us) (EP X pins U Q) X.xe s:=by
 have hq:=h (s.heap.objs.size+1) s.heap.objs.size (I.hok.fresh (ZaD _)) (I.hok.fresh (Zk _)) (ZK (Zar _));have I2:=Inv.made (C:=C) I;have r2:QB (V.ref (s.heap.objs.size+1)::(vs++dvs)) (Value.ref (s.heap.objs.size+1)::(us++ds)):= .cons rfl (r.append hd);have hl:(Value.ref (s.heap.objs.size+1)::us++ds).length=ps.length:=by
  have e:=r2.length;rw[F.len _ _ _ _ hq]at e;exact e.symm
 refine wpAny_call (Qun (f:=f) I.kIn M.makes M.init (beq_iff_eq.mp M.fn) (codeAny_mono (F.run _ X.stack _ _ ⟨Value.ref (s.heap.objs.size+1)::us,[]⟩ (Value.ref (s.heap.objs.size+1)::(us++ds)) _ _ E (hr.make C us [])
  (I2.Qpb.make C us []) (hb _ (Value.ref (s.heap.objs.size+1)::us) I2.kIn hl) r2 hq) λr s' hq'=>?_))
 cases r with
 | error e=>exact hx pins U _ _ e s' I2 hq'
 | ok fl=>
  cases fl with
  | ret u=>
   obtain⟨v,H',I3,rv,ev,q3⟩:=I2.after hq';subst ev;exact⟨rv,⟨V.ref (s.heap.objs.size+1),H',I3,rfl,q3⟩⟩
  | next=>exact False.elim hq'
  | brk=>exact False.elim hq'
  | cont=>exact False.elim hq'
def Qwt(M:Mk X.K C f)(F:Qau X.prog X.w X.K X.mg X.base CX k f fd ps sp)(hr:Qao (k+1) X.A)(hg:Gl X x)(hm:X.mg x=some (.ref C))(hb:Binds X.K fd ps ds)(hd:QB dvs ds)(hx:QfK CX X E)
  (ha:PA X (e::es) t) (hdb:(x == ("__debug__" :Str))=false:=by decide) (he:starEach (e::es) X.env=(false,eval e X.env)::starEach es X.env:=by rfl) (hpl:(backTo pos (starEach es X.env)).any (·.1)=false:=by rfl):
  PE X (.Call (.Name x p) (e::es) [] pos) (QAW C sp dvs E t):=by
 intro pins s U H Q I h;refine wpAny_Call_Name_kw (QcO I hg hm ?_ hdb);refine ZaF (h₀:=X.base) I.ok.mod.kin M.kp (thn (ha pos pins s U H _ I h) λus s1 ⟨vs,H1,I1,r,q⟩=>⟨I1.kIn,?_⟩) he hpl;exact QtV M F hr hb hd hx I1 r q
end
section
variable {X:Cx}{CX:CXT}{k:Nat}{f C:Addr}{fd:FuncData}{ps ks:List Str}{sp:Sp}{E:XK}{x m:Str}{p pos apos kpos:Pos}{e o:Expr}{es:List Expr}{kws:List Keyword}{te ta:TE}{t tk:TA}{nm:Option Str}
structure QCk (K:Fgg) (fd:FuncData) (ps ks:List Str) (g:List Value->List Value->List Value) (gV:List V->List V->List V):Prop where
 to:∀(s:Shared) (us ws:List Value),K.In s.heap->(g us ws).length=ps.length->BindsTo s fd ⟨us,ks.zip ws⟩ (ps.zip (g us ws))
 rel:∀{vs:List V}{us:List Value}{zs:List V}{ws:List Value},QB vs us->QB zs ws->QB (gV vs zs) (g us ws)
variable {g:List Value->List Value->List Value}{gV:List V->List V->List V}
end
structure Qar (N P:List Str) (sc:Scope):Prop where
 kind:sc.kind= .function
 co:sc.isCoroutine=false
 gen:sc.isGenerator=false
 nd:N.Nodup
 pre:N.take P.length=P
 par:∀x∈P,sc.names.lookup x=some .local ∨sc.names.lookup x=some .cell
 nofree:∀y∈sc.names,y.2≠ .free
def Qmu{kindOf:Str->Option NameKind}{x:Str}:∀{binds:List (Str×Value)}{m:Str->Option Value},(∀v,(x,v)∉binds)->bindL kindOf binds m x=m x
 | [],_,_=>rfl
 | (n,v)::r,m,h=>by
  unfold bindL;rw[Qmu λw hw=>h w (Zc _ hw)];split
  .have:x≠n:=by rintro rfl;exact h v Zf
   simp[this]
  .rfl
def QmM{kindOf:Str->Option NameKind}{x:Str}:∀{binds:List (Str×Value)}{m:Str->Option Value},(∀v,(x,v)∉binds)->bindC kindOf binds m x=m x
 | [],_,_=>rfl
 | (n,v)::r,m,h=>by
  unfold bindC;rw[QmM λw hw=>h w (Zc _ hw)];split
  .rfl
  .have:x≠n:=by rintro rfl;exact h v Zf
   simp[this]
def QmG{kindOf:Str->Option NameKind}{x:Str}{v:Value}:∀{P:List Str}{vs:List Value}{i:Nat}{m:Str->Option Value},P.Nodup->P[i]? =some x->vs[i]? =some v->kindOf x=some .local →
  bindL kindOf (P.zip vs) m x=some v
 | [],_,_,_,_,h,_,_=>by simp at h
 | _::_,[],_,_,_,_,h,_=>by simp at h
 | p::P,w::vs,0,m,nd,h1,h2,hk=>by
  simp at h1 h2;subst h1;subst h2;show bindL kindOf ((p,w)::P.zip vs) m p=_;unfold bindL;rw[Qmu λv hv=>(ZV.mp nd).1 (Zbj hv).1,if_pos hk];simp
 | p::P,w::vs,i+1,m,nd,h1,h2,hk=>by
  show bindL kindOf ((p,w)::P.zip vs) m x=_;unfold bindL;exact QmG (i:=i) (ZV.mp nd).2 (by simpa using h1) (by simpa using h2) hk
def QmK{kindOf:Str->Option NameKind}{x:Str}{v:Value}:∀{P:List Str}{vs:List Value}{i:Nat}{m:Str->Option Value},P.Nodup->P[i]? =some x->vs[i]? =some v->kindOf x≠some .local →
  bindC kindOf (P.zip vs) m x=some v
 | [],_,_,_,_,h,_,_=>by simp at h
 | _::_,[],_,_,_,_,h,_=>by simp at h
 | p::P,w::vs,0,m,nd,h1,h2,hk=>by
  simp at h1 h2;subst h1;subst h2;show bindC kindOf ((p,w)::P.zip vs) m p=_;unfold bindC;rw[QmM λv hv=>(ZV.mp nd).1 (Zbj hv).1,if_neg hk];simp
 | p::P,w::vs,i+1,m,nd,h1,h2,hk=>by
  show bindC kindOf ((p,w)::P.zip vs) m x=_;unfold bindC;exact QmK (i:=i) (ZV.mp nd).2 (by simpa using h1) (by simpa using h2) hk
noncomputable def start(N:List Str)(vs:List V):St:=vs.map some++List.replicate (N.length-vs.length) none
noncomputable def QbP(CX:CXT)(P:Program)(w:World)(K:Fgg)(mg:Str->Option Value)(base:Heap)(N:List Str)(qual:Str)(scope:Scope)(f:Addr)(cd:Value)(A:Around)(outer:List Env)(s:Shared)(H:Hp)(E:XK):Cx where
 prog:=P
 w:=w
 K:=K
 mg:=mg
 base:=base
 A:=A.deeper (envOfC qual scope s.heap.objs.size f cd)
 N:=N
 s₀:=s
 H₀:=H
 env:=envOfC qual scope s.heap.objs.size f cd
 outer:=outer
 stack:=envOfC qual scope s.heap.objs.size f cd::outer
 ex:=[]
 calm:=decide (A.handled=none)
 fn:=λ_=>true
 pn:=[]
 xe:=λe s'=>wpAny (model P w) (A.deeper (envOfC qual scope s.heap.objs.size f cd)) (leaving (envOfC qual scope s.heap.objs.size f cd) e) (λ_ s''=>CX outer H s E e s'') (λe' s''=>CX outer H s E e' s'') s'
def Qn0{sc:Scope}{n:Nat}{x:Str}(h:sc.names.lookup x=some .cell):∃c,(cellsFrom n sc.names []).lookup x=some c:=by
 have q:=Zba sc.names n [] (.inl h);exact ZaX.mp q
def Qms{CX:CXT}{P:Program}{w:World}{K:Fgg}{mg:Str->Option Value}{base:Heap}{N ps:List Str}{qual:Str}{scope:Scope}{f:Addr}{cd:Value}{A:Around}{outer:List Env}{s s1:Shared}{H:Hp}{E:XK}{us:List Value}{vs:List V}
  (S:Qar N ps scope) (e0:QiP P w K mg base A outer s H) (hl:vs.length=ps.length) (r:QB vs us)
  (x:InCallC s s.heap.objs.size (bindL (envOfC qual scope s.heap.objs.size f cd).kindOf (ps.zip us) λ_=>none) (cellsFrom (s.heap.objs.size+1) scope.names []) (bindC (envOfC qual scope s.heap.objs.size f cd).kindOf (ps.zip us) λ_=>none) s1):
  Inv (QbP CX P w K mg base N qual scope f cd A outer s H E) [] (start N vs) H s1:=by
 have hpl:ps.length<=N.length:=by have:=congrArg List.length S.pre;rw[ZaE]at this;omega
 obtain⟨h1,tk,rfl,hk⟩:=x.done;have noA:∀b:Addr,b∉(QbP CX P w K mg base N qual scope f cd A outer s H E).ex:=λb z=>absurd (show b∈([]:LAd)from z) ⋯
 refine⟨⟨e0.mod,S.kind,rfl,rfl,Zk _,λy z c h1 h2=>?_,λy hy=>?_,λy c _ h=>?_,λh=>of_decide_eq_true h,Around.frames_deeper e0.frames,.inr ⟨rfl,rfl⟩,λb z=>absurd z (noA b),e0.bs,e0.bsz,λb _ _=>noA b,λb z=>absurd z (noA b),e0.QdI,e0.frf⟩,
  rfl,e0.bare,Un.kept hk,⟨_,x.toInCall.ns,λi y v h1 h2 h3=>?_⟩,λy c h=>⟨_,x.cell y c h⟩,e0.hok.fresh (Zk _),λy c h=>?_,λp hp=>absurd (show p∈([]:List (Addr×Obj))from hp) ⋯,e0.hok.kept hk,?_⟩
 .exact name_of_addr x.apart (Zab h1) (Zab h2)
 .have hy:scope.names.lookup y=some .cell∨scope.names.lookup y=some .free:=hy;rcases hy with hy | hy
  .exact Qn0 hy
  .exact absurd rfl (S.nofree _ (Zab hy))
 .exact Nat.le_of_lt (x.above y c (Zab h))
 .have hi:i<vs.length:=by
   unfold start at h2;by_cases hi:i<vs.length
   .exact hi
   .rw[Zat (by simpa using hi),Zbz]at h2;split at h2<;>cases h2
  have ha:vs[i]? =some v:=by
   unfold start at h2;rw[Zan (by simpa using hi),Zy]at h2;cases e:vs[i]? with
   | none=>rw[e]at h2;cases h2
   | some a=>rw[e]at h2;cases h2;rfl
  obtain⟨u,hu,rv⟩:=r.get ha;have hp:ps[i]? =some y:=by
   rw[← S.pre,List.getElem?_take_of_lt ⋯];exact h1
  have ndP:ps.Nodup:=by rw[← S.pre];exact S.nd.sublist (List.take_sublist _ _)
  refine⟨u,rv,?_⟩;rcases S.par y (Zak hp)with k | k
  .exact .inl ⟨k,QmG ndP hp hu k⟩
  .obtain⟨c,e⟩:=Qn0 (n:=s.heap.objs.size+1) k;refine .inr ⟨.inl k,c,e,?_⟩;have q:=x.cell y c e;rw[QmK ndP hp hu (by show scope.names.lookup y≠_;rw[k];decide)]at q;exact q
 .exact e0.hok.fresh (Nat.le_of_lt (x.above y c (Zab h)))
 .unfold start;show _=N.length;rw[Zo,Zp,List.length_replicate];omega
def Qru{CX:CXT}{P:Program}{w:World}{K:Fgg}{mg:Str->Option Value}{base:Heap}{k:Nat}{f:Addr}{name qual:Str}{params:Arguments}{body:List Stmt}{scope:Scope}{dV kV doc pm cdv ct oc:Value}{an od:Option Addr}
  {osl:Array (Option Value)}{N ps:List Str}{sp:Sp}(lk:K.lookup f=some ⟨oc,od,.func (PySem.W.fnOf name qual params body scope dV kV doc pm an cdv ct),osl⟩) (hcd:PySem.W.codeIn K cdv qual=true) (S:Qar N ps scope)
  (len:∀vs H Q E,sp vs H Q E->vs.length=ps.length)
  (hbody:∀(A:Around) (outer:List Env) (s:Shared) (H:Hp) (vs:List V) (Q:VK) (E:XK),Qao k (A.deeper (envOfC qual scope s.heap.objs.size f cdv))->sp vs H Q E→
   ∃t,PSs (QbP CX P w K mg base N qual scope f cdv A outer s H E) body t/\t {nx:=λ_ H'=>Q .non H',rt:=Q} (start N vs) H):
  Qau P w K mg base CX (k+1) f (PySem.W.fnOf name qual params body scope dV kV doc pm an cdv ct) ps sp:=by
 refine⟨len,λA outer s H args us vs Q E hr e0 hb r hsp=>?_⟩;have hl:=len _ _ _ _ hsp;have KX:K.In s.heap:=e0.mod.kin.keeps λb o e=>(e0.bs b o e).1;have lim:s.heap.NoLimit:=e0.mod.nolimit.keeps λb o e=>(e0.bs b o e).1;have hkind:∀y∈ps.zip us,scope.names.lookup y.1=some .local ∨(scope.names.lookup y.1=some .cell/\((cellsFrom (s.heap.objs.size+1) scope.names []).lookup y.1).isSome=true):=λZ hy=>by
  obtain⟨n,v⟩:=Z;rcases S.par n (Zbj hy).1 with q | q
  .exact .inl q
  .exact .inr ⟨q,Zba _ _ _ (.inl q)⟩
 refine codeAny_call_function hr.depth (KX _ _ lk) rfl S.co S.gen rfl (PySem.W.codeRec_of KX hcd) (hb _ _ _ _ ?_);refine wpAny_newFunctionEnv_cells S.kind hkind λenv he s1 x=>?_;subst he;refine⟨lim.keeps x.toInCall.keep,codeAny_func ?_⟩;obtain⟨t,ht,hq⟩:=hbody A outer s H vs Q E (hr.deeper _) hsp;have I:Inv (QbP CX P w K mg base N qual scope f cdv A outer s H E) [] (start N vs) H s1:=Qms S e0 hl r x;refine wpAny_mono (ht [] s1 (start N vs) H _ I hq) (λfl s' hs=>?_) λe s' hs=>hs
 have fin:∀{U':St}{H':Hp}{v:V}{u:Value},Inv (QbP CX P w K mg base N qual scope f cdv A outer s H E) [] U' H' s'->RelV v u->Q v H'->CE outer P w H s Q u s':=
  λ{U' H' v u} J rv q=>⟨v,H',J.os,J.bare,J.base,J.hok,rv,q⟩
 cases fl with
 | ret u=>
  obtain⟨v,U',H',J,rv,q⟩:=hs;exact fin J rv q
 | next=>
  obtain⟨U',H',J,q⟩:=hs;exact fin (v:=V.non) (u:=Value.none) J rfl q
 | brk=>
  obtain⟨_,_,_,q⟩:=hs;exact False.elim q
 | cont=>
  obtain⟨_,_,_,q⟩:=hs;exact False.elim q
section
variable {X:Cx}{x:Str}{p pos:Pos}{e:Expr}{es:List Expr}{t:TA}{id T:String}{r:List V->Hp->VK->Prop}
noncomputable def tCB(r:List V->Hp->VK->Prop)(t:TA):TE:=λU H Q=>t U H λvs H1=>r vs H1 Q
def QjX(hc:Qdl X (.builtin id) r)(hg:Gl X x)(hm:X.mg x=none)(hv:bootBuiltins x=some (.builtin id))(ha:PA X (e::es) t)(hn:x≠ "__name__" :=by decide)(hdb:(x == ("__debug__" :Str))=false:=by decide)
  (he:starEach (e::es) X.env=(false,eval e X.env)::starEach es X.env:=by rfl) (hpl:(backTo pos (starEach es X.env)).any (·.1)=false:=by rfl):PE X (.Call (.Name x p) (e::es) [] pos) (tCB r t):=by
 intro pins s U H Q I h;refine wpAny_Call_Name_kw (Qe1 I hg hm hv ?_ hn hdb);exact PyProof.Rows.callWith_builtin1 (thn (ha pos pins s U H _ I h) λus s1 ⟨vs,H1,I1,r1,q1⟩=>hc pins s1 U H1 vs us Q I1 r1 q1) he hpl
def QrU(hc:Qdl X (.type T) r)(hg:Gl X x)(hm:X.mg x=none)(hv:bootBuiltins x=some (.type T))(ha:PA X (e::es) t)(hn:x≠ "__name__" :=by decide)(hdb:(x == ("__debug__" :Str))=false:=by decide)
  (he:starEach (e::es) X.env=(false,eval e X.env)::starEach es X.env:=by rfl) (hpl:(backTo pos (starEach es X.env)).any (·.1)=false:=by rfl):PE X (.Call (.Name x p) (e::es) [] pos) (tCB r t):=by
 intro pins s U H Q I h;refine wpAny_Call_Name_kw (Qe1 I hg hm hv ?_ hn hdb);exact Zas (thn (ha pos pins s U H _ I h) λus s1 ⟨vs,H1,I1,r1,q1⟩=>hc pins s1 U H1 vs us Q I1 r1 q1) he hpl
end
end L2
namespace HT
open PySem PyProof.Rows
section
open PySem.SeqAt
open PySem.AutoSeq1 (wpAny_loadPart')
open PySem.MeetsSeq PySem.MeetsSeq2 PySem.MeetsSeq3
end
section
variable {prog:Program}{w:World}{A:Around}{E:Value->Shared->Prop}{s:Shared}
noncomputable def sIx(n d:Nat):Option Int->Nat
 | none=>d
 | some v=>if v<0 then(v+(n:Int)).toNat else min v.toNat n
def Qj6(n d:Nat):sIx n d none=d:=rfl
def QlI(n d k:Nat):sIx n d (some (k:Int))=min k n:=by
 show(if(k:Int)<0 then((k:Int)+(n:Int)).toNat else min (k:Int).toNat n)=min k n;rw[if_neg ⋯,Zae]
end
end HT
namespace L2
open PySem PySem.Spec PyProof.Rows
abbrev TO:=St->Hp->(Option Int->Hp->Prop)->Prop
def PO(X:Cx)(e:Option Expr)(t:TO):Prop:=
 ∀(pins:List (Addr×Obj)) (s:Shared) (U:St) (H:Hp) (Q:Option Int->Hp->Prop),Inv X pins U H s->t U H Q→
  wpAny (model X.prog X.w) X.A (evalPart e X.env) (λu s'=>∃o H',Inv X pins U H' s'/\IsPart u o/\Q o H') X.xe s
noncomputable def Qx2:TO:=λ_ H Q=>Q none H
noncomputable def QAy(t:TE):TO:=λU H Q=>t U H λx H1=>∃i,x= .int i/\Q (some i) H1
def intsAre_of{ns:List Int}:∀{us:List Value},QB (ns.map V.int) us->IntsAre us ns:=by
 induction ns with
 | nil=>intro us r;rw[List.map_nil]at r;cases r;exact .nil
 | cons n ns ih=>
  intro us r;rw[ZA]at r;cases r with
  | cons r1 r2=>
   obtain⟨t,e⟩:=r1;subst e;exact .cons n t (ih r2)
section
variable {X:Cx}{e:Expr}{te:TE}{lo hi:Option Expr}{tl th:TO}{pos p2:Pos}
def Qwq:PO X none Qx2:=by
 intro pins s U H Q I h;rw[evalPart_none];exact wpAny_pure ⟨none,H,I,.none,h⟩
def QxS(h:PE X e te):PO X (some e) (QAy te):=by
 intro pins s U H Q I hw;rw[evalPart_some];refine thn (h pins s U H _ I hw) λu s1=>exJ λx H1 I1 r1 q1=>?_;obtain⟨i,rfl,q⟩:=q1;obtain⟨t,rfl⟩:=r1;exact⟨some i,H1,I1,.int i t,q⟩
def SlR(X:Cx)(r:V->Option Int->Option Int->Hp->VK->Prop):Prop:=
 ∀(pins:List (Addr×Obj)) (s:Shared) (U:St) (H:Hp) (x:V) (v vl vu:Value) (lo hi:Option Int) (sl:Addr) (Q:VK),Inv X pins U H s->RelV x v->s.heap.IsSliceOf sl vl vu .none->IsPart vl lo->IsPart vu hi->r x lo hi H Q→
  ∃T id,typeLookup (.type T) "__getitem__" =pure (some (.builtin id))/\s.TypeIs v T/\wpAny (model X.prog X.w) X.A (getItem v (.ref sl)) (EP X pins U Q) X.xe s
noncomputable def tSl(r:V->Option Int->Option Int->Hp->VK->Prop)(te:TE)(tl th:TO):TE:=λU H Q=>te U H λx H1=>tl U H1 λl H2=>th U H2 λu H3=>r x l u H3 Q
def Qvw{r:V->Option Int->Option Int->Hp->VK->Prop}(hr:SlR X r)(he:PE X e te)(hl:PO X lo tl)(hu:PO X hi th):PE X (.Subscript e (.Slice lo hi none p2) pos) (tSl r te tl th):=by
 intro pins s U H Q I h;refine Subscript_ (thn (he pins s U H _ I h) λv s1=>exJ λx H1 I1 r1 q1=>?_);refine wpAny_Slice (thn (hl pins s1 U H1 _ I1 q1) λvl s2 ⟨l,H2,I2,pl,q2⟩=>thn (hu pins s2 U H2 _ I2 q2) λvu s3=>exJ λu H3 I3 pu q3=>?_);rw[evalPart_none];refine wpAny_pure ?_;have I4:Inv X pins U H3 {s3 with heap:=s3.heap.push {cls:= .type "slice",data:= .fields #[vl,vu,.none]}}:=I3.kept (t':=s3.toks) λb ob q=>Zq _ q;obtain⟨T,id,hT,ht,hg⟩:=hr pins {s3 with heap:=s3.heap.push {cls:= .type "slice",data:= .fields #[vl,vu,.none]}} U H3 x v vl vu l u s3.heap.objs.size Q I4 r1 (Heap.IsSliceOf.new ..) pl pu q3;show wpAny (model X.prog X.w) X.A (subscriptTail e (.Slice lo hi none p2) v (.ref s3.heap.objs.size)) (EP X pins U Q) X.xe {s3 with heap:=s3.heap.push {cls:= .type "slice",data:= .fields #[vl,vu,.none]}};exact tail_any (ops:=[.ref s3.heap.objs.size,v]) ht hT hg (by with_unfolding_all rfl)
noncomputable def QlE(xs:List V)(lo hi:Option Int):List V:=(xs.drop (HT.sIx xs.length 0 lo)).take (HT.sIx xs.length xs.length hi-HT.sIx xs.length 0 lo)
def Qpy(xs:List V)(lo hi:Option Int):(QlE xs lo hi).length<=xs.length:=by
 unfold QlE;rw[ZaE,ZbA];omega
end
noncomputable def ixN(n:Nat)(i:Int):Option Nat:=if 0<=i then(if i<n then some i.toNat else none)else if-(n:Int)<=i then some (i+n).toNat else none
noncomputable def atI{α:Type}(xs:List α)(i:Int):Option α:=(ixN xs.length i).bind λj=>xs[j]?
def Qjs{n:Nat}{i:Int}{j:Nat}(h:ixN n i=some j):seqIndex? i n=some j/\j<n/\ -(n:Int)<=i/\i<n:=by
 unfold ixN at h;by_cases h0:0<=i
 .rw[if_pos h0]at h;by_cases h1:i<n
  .rw[if_pos h1]at h;have e:i.toNat=j:=Option.some.inj h;exact⟨by rw[seqIndex_of h0 h1,e],⋯,⋯,h1⟩
  .rw[if_neg h1]at h;cases h
 .rw[if_neg h0]at h;by_cases h1: -(n:Int)<=i
  .rw[if_pos h1]at h;have e:(i+n).toNat=j:=Option.some.inj h;exact⟨by rw[seqIndex_neg ⋯ h1,e],⋯,h1,⋯⟩
  .rw[if_neg h1]at h;cases h
def Ql6{α:Type}{xs:List α}{i:Int}{v:α}(h:atI xs i=some v):∃j,seqIndex? i xs.length=some j/\xs[j]? =some v/\j<xs.length/\ -(xs.length:Int)<=i/\i<xs.length:=by
 unfold atI at h;cases e:ixN xs.length i with
 | none=>rw[e]at h;cases h
 | some j=>
  rw[e]at h;obtain⟨h1,h2,h3,h4⟩:=Qjs e;exact⟨j,h1,h,h2,h3,h4⟩
def QiV(b:Expr):Prop:=∀o i,subscripted b false o i=operate [o,i] (getItem o i)
def IxR(X:Cx)(r:R2):Prop:=
 ∀(value slice:Expr) (pins:List (Addr×Obj)) (s:Shared) (U:St) (H:Hp) (x y:V) (v u:Value) (Q:VK),Inv X pins U H s->RelV x v->RelV y u->r x y H Q→
  subscripted slice false v u=operate [v,u] (getItem v u)->wpAny (model X.prog X.w) X.A (subscriptTail value slice v u) (EP X pins U Q) X.xe s
def MtR(X:Cx)(id:String)(r:V->List V->Hp->VK->Prop):Prop:=
 ∀(pins:List (Addr×Obj)) (s:Shared) (U:St) (H:Hp) (x:V) (xs:List V) (v:Value) (us:List Value) (Q:VK),Inv X pins U H s->RelV x v->QB xs us->r x xs H Q→
  wpAny (model X.prog X.w) X.A (call (.builtin id) (v::us)) (EP X pins U Q) X.xe s
section
variable {X:Cx}{a b:Expr}{ta tb:TE}{pos:Pos}
def IxR.or{r r':R2}(h:IxR X r)(h':IxR X r'):IxR X (λx y H Q=>r x y H Q∨r' x y H Q):=by
 intro value slice pins s U H x y v u Q I rx ry q hs;rcases q with q | q
 .exact h value slice pins s U H x y v u Q I rx ry q hs
 .exact h' value slice pins s U H x y v u Q I rx ry q hs
def QvH{r:R2}(hr:IxR X r)(ha:PE X a ta)(hb:PE X b tb)(hs:QiV b):PE X (.Subscript a b pos) (tOp r ta tb):=by
 intro pins s U H Q I h;exact Subscript_ (Qvl ha hb I h λv u s2 x y H2 I2 rx ry q=>hr a b pins s2 U H2 x y v u Q I2 rx ry q (hs _ _))
noncomputable def QyR(K:Fgg):R2:=λx y H Q=>∃p xs i v,x= .ref p/\y= .int i/\SqL K H p xs/\atI xs i=some v/\Q v H
noncomputable def QBz(K:Fgg):R2:=λx y H Q=>∃p xs i v,x= .ref p/\y= .int i/\SqT K H p xs/\atI xs i=some v/\Q v H
def Qqi:IxR X (QyR X.K):=by
 intro value slice pins s U H x y v u Q I rx ry h hs;obtain⟨p,xs,i,z,rfl,rfl,hq,he,q⟩:=h;cases rx;obtain⟨t,rfl⟩:=ry;obtain⟨its,r,pl,hz⟩:=I.list hq;obtain⟨j,h1,h2,h3,h4,h5⟩:=Ql6 he;obtain⟨w,ew,rw'⟩:=r.get h2;have hl:=r.length;have hn:=QgM;have fin:EP X pins U Q w s:=⟨z,H,I,rw',q⟩;by_cases h0:0<=i
 .have hj:i.toNat=j:=by
   rw[seqIndex_of h0 h5]at h1;exact Option.some.inj h1
  exact item_listR pl.isList h0 ⋯ (by rw[hj];simpa using ew) fin hs
 .have hj:(i+(its.toArray.size:Int)).toNat=j:=by
   rw[seqIndex_neg ⋯ h4]at h1;rw[Zv,← hl];exact Option.some.inj h1
  exact subscriptTail_builtinR (x:=w) pl.isList.typeIs slot_list_getitem.lookup
   (wpAny_getItem_list_neg (Q:=λr s'=>r=w/\EP X pins U Q r s') pl.isList ⋯ (by rw[Zv]<;>omega) ⋯ (by rw[hj];simpa using ew) ⟨rfl,fin⟩) hs
def Qsj:IxR X (QBz X.K):=by
 intro value slice pins s U H x y v u Q I rx ry h hs;obtain⟨p,xs,i,z,rfl,rfl,hq,he,q⟩:=h;cases rx;obtain⟨t,rfl⟩:=ry;obtain⟨its,r,pl,hz⟩:=I.tuple hq;obtain⟨j,h1,h2,h3,h4,h5⟩:=Ql6 he;obtain⟨w,ew,rw'⟩:=r.get h2;have hl:=r.length;have hn:=QgM;have fin:EP X pins U Q w s:=⟨z,H,I,rw',q⟩
 exact subscriptTail_builtinR (x:=w) pl.typeIs slot_tuple_getitem.lookup
  (getItem_tuple (j:=j) (Q:=λr s'=>r=w/\EP X pins U Q r s') pl ⋯ ⋯ (by rw[Zv,← hl];exact h1) (by simpa using ew) ⟨rfl,fin⟩) hs
def Qq0(its:List Value)(n j:Nat)(u:Value):Obj.mapSeq (·.setIfInBounds j u) {cls:= .type "list",data:= .seq its.toArray n}={cls:= .type "list",data:= .seq (its.set j u).toArray n}:=by
 simp[Obj.mapSeq]
def Inv.lst{pins:List (Addr×Obj)}{U:St}{H:Hp}{s:Shared}{p:Addr}{xs:List V}(I:Inv X pins U H s)(h:H p=some (.lst xs)):
  ∃(its:List Value) (n:Nat),QB xs its/\s.heap.get? p=some {cls:= .type "list",data:= .seq its.toArray n}/\xs.length<=sizeLine:=by
 obtain⟨z,its,n,r,e⟩:=I.hok p _ h;exact⟨its,n,r,e,z⟩
def Inv.QzY{pins:List (Addr×Obj)}{U:St}{H:Hp}{s:Shared}{p:Addr}{xs ys:List V}{its its':List Value}{n n':Nat}{f:Obj->Obj}(I:Inv X pins U H s)(h:H p=some (.lst xs))
  (ho:s.heap.get? p=some {cls:= .type "list",data:= .seq its.toArray n}) (hf:f {cls:= .type "list",data:= .seq its.toArray n}={cls:= .type "list",data:= .seq its'.toArray n'}) (r:QB ys its') (hz:ys.length<=sizeLine) (t:Nat):
  Inv X pins U (upd H p (.lst ys)) {s with heap:=s.heap.update p f,toks:=t}:=by
 have e:(s.heap.update p f).get? p=some {cls:= .type "list",data:= .seq its'.toArray n'}:=by
  rw[Heap.get?_update_self f ho (by rw[hf]<;>rfl),hf]
 refine I.write (x:=p) (e:=p) (by rw[h];trivial) (.inl rfl) (λb u hb q=>(Heap.get?_update_other _ _ (Ne.symm hb)).trans q) ⟨_,e⟩ ?_;exact⟨hz,its',n',r,e⟩
def Qv3:V->V->V->Hp->(Hp->Prop)->Prop:=λo i v H Q=>∃p xs k j,o= .ref p/\i= .int k/\H p=some (.lst xs)/\ixN xs.length k=some j/\Q (upd H p (.lst (xs.set j v)))
def set_list:Qum X Qv3:=by
 intro pins s U H o i v ov iv u Q I ro ri rv h;obtain⟨p,xs,k,j,rfl,rfl,hp,hj,q⟩:=h;cases ro;obtain⟨t,rfl⟩:=ri;obtain⟨its,n,r,ho,hz⟩:=I.lst hp;obtain⟨h1,h2,h3,h4⟩:=Qjs hj;have hl:=r.length;have hn:=QgM
 have I':Inv X pins U (upd H p (.lst (xs.set j v))) {s with heap:=s.heap.update p (Obj.mapSeq (·.setIfInBounds j u))}:=
  I.QzY hp ho (Qq0 its n j u) (r.set rv j) (by rw[Zay];exact hz) s.toks
 by_cases h0:0<=k
 .have hk:k.toNat=j:=by
   rw[seqIndex_of h0 h4]at h1;exact Option.some.inj h1
  exact PySem.W.ki_setAt ho h0 ⋯ (by rw[Zv,← hl];exact h4) (by rw[hk];exact⟨_,I',q⟩)
 .have hk:(k+(its.toArray.size:Int)).toNat=j:=by
   rw[seqIndex_neg ⋯ h3]at h1;rw[Zv,← hl];exact Option.some.inj h1
  exact PySem.W.ki_setBack ho ⋯ (by rw[Zv,← hl];exact h3) ⋯ (by rw[hk];exact⟨_,I',q⟩)
def Qoz(lo hi:Option Int)(n:Nat):(sliceBounds lo hi none n).1=((HT.sIx n 0 lo:Nat):Int)/\(sliceBounds lo hi none n).2.1=((HT.sIx n n hi:Nat):Int)/\(sliceBounds lo hi none n).2.2=1:=by
 refine⟨?_,?_,rfl⟩
 .cases lo with
  | none=>simp[sliceBounds,HT.sIx]
  | some i=>
   simp only[sliceBounds,HT.sIx,Option.getD_none,show(1:Int)>0 by decide,if_true];by_cases h:i<0
   .simp only[h,if_true]<;>omega
   .simp only[h,if_false]<;>omega
 .cases hi with
  | none=>simp[sliceBounds,HT.sIx]
  | some i=>
   simp only[sliceBounds,HT.sIx,Option.getD_none,show(1:Int)>0 by decide,if_true];by_cases h:i<0
   .simp only[h,if_true]<;>omega
   .simp only[h,if_false]<;>omega
def Qm0(its:List Value)(lo hi:Option Int):slicePick its.toArray lo hi none=((its.drop (HT.sIx its.length 0 lo)).take (HT.sIx its.length its.length hi-HT.sIx its.length 0 lo)).toArray:=by
 obtain⟨h1,h2,h3⟩:=Qoz lo hi its.toArray.size;unfold slicePick;rw[h1,h2,h3];simp only[sliceRange_one,pick_run,Zv]<;>rfl
def QBK(K:Fgg):V->Option Int->Option Int->Hp->VK->Prop:=λx lo hi H Q=>∃a xs,x= .ref a/\SqL K H a xs/\∀p,H p=none->Q (.ref p) (upd H p (.lst (QlE xs lo hi)))
def QxI:SlR X (QBK X.K):=by
 intro pins s U H x v vl vu lo hi sl Q I rx hs pl pu h;obtain⟨a,xs,rfl,hx,q⟩:=h;cases rx;obtain⟨its,r,ht,hz⟩:=I.list hx;have hlen:=r.length;refine⟨"list",_,slot_list_getitem.lookup,ht.isList.typeIs,?_⟩;refine wpAny_getItem_list_slice ht.isList hs pl pu .none ⋯ ?_ (by rw[Zv]<;>omega);rw[Qm0,← hlen];refine⟨.ref s.heap.objs.size,_,I.laid (t':=s.toks) (o:= .lst (QlE xs lo hi)) (λb ob q=>Zq _ q) (Zk _) ?_,rfl,q _ (I.hok.fresh (Zk _))⟩;exact⟨ZL (Qpy xs lo hi) hz,_,0,(r.drop (HT.sIx xs.length 0 lo)).take (HT.sIx xs.length xs.length hi-HT.sIx xs.length 0 lo),ZG _ rfl⟩
def Qpa:Qdl X (.builtin "len") (λxs H Q=>∃p ys,xs=[.ref p]/\(SqL X.K H p ys∨SqT X.K H p ys)/\Q (.int ys.length) H):=by
 intro pins s U H xs us Q I r h;obtain⟨p,ys,rfl,hq,q⟩:=h;obtain⟨u,rfl,rx⟩:=vals1 r;cases rx;have hn:=QgM;rcases hq with hq | hq
 .obtain⟨its,r',pl,hz⟩:=I.list hq;have hlen:=r'.length;exact Calls.call_len_list pl.isList (by simp only[Zv]<;>omega) ⟨.int ys.length,H,I.tok _,⟨s.toks+1,by rw[Zv,hlen]⟩,q⟩
 .obtain⟨its,r',pl,hz⟩:=I.tuple hq;have hlen:=r'.length;exact len_tuple pl (by simp only[Zv]<;>omega) ⟨.int ys.length,H,I.tok _,⟨s.toks+1,by rw[Zv,hlen]⟩,q⟩
def QnJ:Qdl X (.type "list") (λxs H Q=>∃p ys,xs=[.ref p]/\(SqL X.K H p ys∨SqT X.K H p ys)/\∀l,H l=none->Q (.ref l) (upd H l (.lst ys))):=by
 intro pins s U H xs us Q I r h;obtain⟨p,ys,rfl,hq,q⟩:=h;obtain⟨u,rfl,rx⟩:=vals1 r;cases rx
 have fin:∀(its:List Value),QB ys its->ys.length<=sizeLine->∀(h':Heap) (c':Nat),(∀b o',s.heap.get? b=some o'->h'.get? b=some o')→
   h'.get? s.heap.objs.size=some {cls:= .type "list",dict:=none,data:= .seq its.toArray c',slots:= #[]}->EP X pins U Q (.ref s.heap.objs.size) {s with heap:=h'}:=λits r' hz h' c' kp e=>
  ⟨.ref s.heap.objs.size,_,I.laid (t':=s.toks) kp (Zk _) (show QbZ X.prog X.w _ h' _ (.lst ys)from⟨hz,its,c',r',e⟩),rfl,q _ (I.hok.fresh (Zk _))⟩
 rcases hq with hq | hq
 .obtain⟨its,r',pl,hz⟩:=I.list hq;have hlen:=r'.length;obtain⟨o,ho,hc,n,hd⟩:=pl.isList;exact call_list_seq p (.inl rfl) ho hc hd (λh' c' kp e=>fin its r' hz h' c' kp e) (by simp only[Zv]<;>omega)
 .obtain⟨its,r',pl,hz⟩:=I.tuple hq;have hlen:=r'.length;obtain⟨o,ho,hc,n,hd⟩:=pl;exact call_list_seq p (.inr rfl) ho hc hd (λh' c' kp e=>fin its r' hz h' c' kp e) (by simp only[Zv]<;>omega)
def tyV(K:Fgg)(T:String)(x:V)(H:Hp):Prop:=match x with
 | .str _=>T= "str"
 | .int _=>T= "int"
 | .ref p=>(T= "list" /\∃xs,SqL K H p xs)∨(T= "tuple" /\∃o,K.lookup p=some o/\o.cls= .type "tuple" /\o.dict=none)∨
   (T= "dict" /\((∃kvs,H p=some (.dK kvs))∨∃kvs,H p=some (.dT kvs)))∨(T= "set" /\∃S n,H p=some (.set S n))
 | _=>False
def QrX{pins:List (Addr×Obj)}{U:St}{H:Hp}{s:Shared}{T:String}{x:V}{v:Value}(I:Inv X pins U H s)(r:RelV x v)(ty:tyV X.K T x H):
  s.TypeIs v T/\∀a,v= .ref a->∃ob,s.heap.get? a=some ob/\ob.dict=none:=by
 cases x with
 | str z=>
  obtain⟨t,rfl⟩:=r;cases(show T= "str" from ty);exact⟨typeIs_str s z t,λ_ e=>nomatch e⟩
 | int i=>
  obtain⟨t,rfl⟩:=r;cases(show T= "int" from ty);exact⟨typeIs_int s i t,λ_ e=>nomatch e⟩
 | ref p=>
  cases r;rcases ty with⟨rfl,xs,hq⟩ | ⟨rfl,o,hk,hc,hd⟩ | ⟨rfl,hk⟩ | ⟨rfl,S,n,hk⟩
  .obtain⟨its,_,pl,_⟩:=I.list hq;refine⟨pl.isList.typeIs,λa e=>?_⟩;cases e;obtain⟨o,n,e,c,hd,_⟩:=pl;exact⟨o,e,hd⟩
  .refine⟨⟨o,I.kIn p o hk,hc⟩,λa e=>?_⟩;cases e;exact⟨o,I.kIn _ o hk,hd⟩
  .have z:∃o,s.heap.get? p=some o/\o.ExactDict:=by
    rcases hk with⟨kvs,hk⟩ | ⟨kvs,hk⟩
    .obtain⟨_,_,_,_,o,_,_,e,ex,_⟩:=I.hok p _ hk;exact⟨o,e,ex⟩
    .obtain⟨_,_,_,_,o,_,_,e,ex,_⟩:=I.hok p _ hk;exact⟨o,e,ex⟩
   obtain⟨o,e,ex⟩:=z;refine⟨⟨o,e,ex.1⟩,λa e2=>?_⟩;cases e2;exact⟨o,e,ex.2.1⟩
  .obtain⟨o,_,_,_,e,ex,_⟩:=I.hok p _ hk;refine⟨⟨o,e,ex.1⟩,λa e2=>?_⟩;cases e2;exact⟨o,e,ex.2.1⟩
 | _=>exact False.elim ty
noncomputable def QBH(K:Fgg)(T:String)(r:V->List V->Hp->VK->Prop)(to:TE):TE:=λU H Q=>to U H λx H1=>tyV K T x H1/\r x [] H1 Q
noncomputable def tBM(K:Fgg)(T:String)(r:V->List V->Hp->VK->Prop)(to:TE)(t:TA):TE:=λU H Q=>to U H λx H1=>tyV K T x H1/\t U H1 λxs H2=>r x xs H2 Q
variable {o e:Expr}{es:List Expr}{to:TE}{t:TA}{name:Str}{apos cpos:Pos}{T id:String}{r:V->List V->Hp->VK->Prop}
def Qz7(pa:PlainAttrs T)(slot:Slot T name id)(hty:typeOf (.builtin id)=pure (.type "method_descriptor"))(hm:MtR X id r)(ho:PE X o to)
  (hbase:attributeBase o name X.env (eval o X.env)=eval o X.env:=by rfl) (hline:(apos.endLine == cpos.line)=true:=by rfl):PE X (.Call (.Attribute o name apos) [] [] cpos) (QBH X.K T r to):=by
 intro pins s U H Q I h;refine wpAny_Call_method0_late hbase hline (thn (ho pins s U H _ I h) λv s1 Z=>?_);obtain⟨x,H1,I1,r1,ty,q1⟩:=Z;obtain⟨h1,h2⟩:=QrX I1 r1 ty;exact⟨T,id,pa,slot,hty,h1,h2,Calls.callWith_builtin rfl (PySem.evalArgs_none (hm pins s1 U H1 x [] v [] Q I1 r1 .nil q1))⟩
def Qv6(pa:PlainAttrs T)(slot:Slot T name id)(hty:typeOf (.builtin id)=pure (.type "method_descriptor"))(hm:MtR X id r)(ho:PE X o to)(ha:PA X (e::es) t)
  (hbase:attributeBase o name X.env (eval o X.env)=eval o X.env:=by rfl)
  (hfew:((backTo cpos (starEach (e::es) X.env)).all (λx=> !x.1) && (backToKw cpos (keywordEach [] X.env)).all (λx=>x.1.isSome)
   && decide ((e::es).length+([]:List Keyword).length+(if([]:List Keyword).isEmpty then 0 else 1)<30))=true:=by rfl)
  (hline:(apos.endLine == cpos.line)=true:=by rfl) (hs:starEach (e::es) X.env=(false,eval e X.env)::starEach es X.env:=by rfl) (hplain:(backTo cpos (starEach es X.env)).any (·.1)=false:=by rfl):
  PE X (.Call (.Attribute o name apos) (e::es) [] cpos) (tBM X.K T r to t):=by
 intro pins s U H Q I h;refine wpAny_Call_method_late hbase hfew hline rfl (thn (ho pins s U H _ I h) λv s1 Z=>?_);obtain⟨x,H1,I1,r1,ty,q1⟩:=Z;obtain⟨h1,h2⟩:=QrX I1 r1 ty;refine⟨T,id,pa,slot,hty,h1,h2,?_⟩;have hA:=ha cpos pins s1 U H1 _ I1 q1;rw[hs]at hA ⊢;refine Calls.callWith_builtin (by show(false || (backTo cpos (starEach es X.env)).any (·.1))=false;rw[hplain]<;>rfl) (Calls.evalArgs_plain ?_);exact thn hA λus s2 ⟨vs,H2,I2,r2,q2⟩=>hm pins s2 U H2 x vs v us Q I2 r1 r2 q2
end
def MtM(X:Cx)(id:String)(r:V->List V->Hp->VK->Prop):Prop:=
 ∀(pins:List (Addr×Obj)) (s:Shared) (U:St) (H:Hp) (x:V) (xs:List V) (v:Value) (us:List Value) (Q:VK),Inv X pins U H s->RelV x v->QB xs us->r x xs H Q→
  wpAny (model X.prog X.w) X.A (call (.builtin id) (v::us)) (EP X pins U Q) X.xe s
def QB.one{x:V}{us:List Value}(r:QB [x] us):∃u,us=[u]/\RelV x u:=vals1 r
def QB.zero:∀{us:List Value},QB [] us->us=[]
 | _,.nil=>rfl
def QB.reverse{xs:List V}{us:List Value}(h:QB xs us):QB xs.reverse us.reverse:=by
 induction h with
 | nil=>exact .nil
 | cons r t ih=>rw[ZaT,ZaT];exact QB.append ih (.cons r .nil)
def QB.rep{xs:List V}{us:List Value}(h:QB xs us):∀k:Nat,QB (List.replicate k xs).flatten (List.replicate k us).flatten
 | 0=> .nil
 | k+1=>by
  rw[Zaj,Zaj,Zao,Zao];exact QB.append h (QB.rep h k)
def foldl_rep(its:List Value):∀(k:Nat) (acc:List Value),
  List.foldl (λx1 x2=>x1++x2) acc.toArray (List.replicate k its.toArray)=(acc++(List.replicate k its).flatten).toArray
 | 0,acc=>by simp
 | k+1,acc=>by
  have e:acc.toArray++its.toArray=(acc++its).toArray:= ⋯
  have e2:(acc++its)++(List.replicate k its).flatten=acc++(List.replicate (k+1) its).flatten:=by
   rw[Zaj,Zao,Zau]
  rw[← e2,← foldl_rep its k (acc++its),← e,Zaj,List.foldl_cons]
section
variable {X:Cx}{pins:List (Addr×Obj)}{U:St}{H:Hp}{s:Shared}{l b:Addr}{xs ys zs:List V}
def Inv.Qz3{its its':List Value}{n:Nat}{f:Array Value->Array Value}{t':Nat}(I:Inv X pins U H s)(hH:H l=some (.lst xs))
  (e:s.heap.get? l=some {cls:= .type "list",data:= .seq its.toArray n}) (hf:f its.toArray=its'.toArray) (hv:QB ys its') (hz:ys.length<=sizeLine):
  Inv X pins U (upd H l (.lst ys)) {s with heap:=s.heap.update l (Obj.mapSeq f),toks:=t'}:=by
 have q:=PySem.IsL.update e f;rw[hf]at q;refine I.write (x:=l) (e:=l) (by rw[hH];exact trivial) (.inl rfl) (λb' u hb hu=>(Heap.get?_update_other s.heap (Obj.mapSeq f) (Ne.symm hb)).trans hu) ⟨_,q⟩ ?_;exact⟨hz,its',_,hv,q⟩
def Inv.QzV{its:List Value}{t':Nat}(I:Inv X pins U H s)(hv:QB ys its)(hz:ys.length<=sizeLine):
  Inv X pins U (upd H s.heap.objs.size (.lst ys)) {s with heap:=s.heap.push {cls:= .type "list",data:= .seq its.toArray},toks:=t'}:=
 I.laid (λ_ _ q=>Zq _ q) (Zk _) ⟨hz,its,0,hv,ZG _ rfl⟩
def Inv.fresh(I:Inv X pins U H s):H s.heap.objs.size=none:=I.hok.fresh (Zk _)
def Inv.Qub(I:Inv X pins U H s)(hH:H l=some (.lst xs)):xs.length<=sizeLine/\∃(its:List Value) (n:Nat),QB xs its/\xs.length=its.length/\s.heap.get? l=some {cls:= .type "list",data:= .seq its.toArray n}:=by
 obtain⟨z,its,n,r,e⟩:=I.hok l _ hH;exact⟨z,its,n,r,r.length,e⟩
def Qnw{n:Nat}(h:n<=sizeLine):Builtin.List.listTooLong n=false:=by
 unfold Builtin.List.listTooLong;exact decide_eq_false ⋯
end
section
variable {X:Cx}
def QpW:V->List V->Hp->VK->Prop:=λx vs H Q=>∃l xs y,x= .ref l/\vs=[y]/\H l=some (.lst xs)/\xs.length<sizeLine/\Q .non (upd H l (.lst (xs++[y])))
def Qmt:MtM X "list.append" QpW:=by
 intro pins s U H x vs v us Q I rx rv h;obtain⟨l,xs,y,rfl,rfl,hH,hz,q⟩:=h;cases rx;obtain⟨u,rfl,ru⟩:=rv.one;obtain⟨z,its,n,r,hl,e⟩:=I.Qub hH;refine call_meets F.slot_list_append ⟨_,e,rfl⟩ F.entry_list_append (F.args_list_append_2 _ _) (PySem.list_append l its.toArray n u (by rw[Zv];omega)) ⟨e,?_⟩;refine⟨.non,_,I.Qz3 (its':=its++[u]) hH e ⋯ (r.append (.cons ru .nil)) ?_,rfl,q⟩;rw[Zo,Zbd];omega
def len_rep{α:Type}(xs:List α)(k:Nat):(List.replicate k xs).flatten.length=k*xs.length:=by
 induction k with
 | zero=>simp
 | succ k ih=>rw[Zaj,Zao,Zo,ih,Nat.succ_mul,Nat.add_comm]
end
section
variable {prog:Program}{w:World}{A:Around}{E:Value->Shared->Prop}{s:Shared}
end
section
variable {X:Cx}
end
end L2
namespace Att
open PySem PySem.W PySem.Calls PyProof.Rows
def Qk8{P:Params}{h:Heap}:∀(ns:List Int) (vs:List Value),WellAll P h vs (ns.map WData.int)->IntsAre vs ns:=by
 intro ns
 induction ns with
 | nil=>
  intro vs w;rw[List.map_nil]at w;cases w;exact .nil
 | cons n ns ih=>
  intro vs w;rw[ZA]at w;cases w with
  | cons a b=>
   cases a;exact .cons _ _ (ih _ b)
def Qsu{l:OpenLaw}{n:Nat}(hn:l.most=some n){P:Params}{h:Heap}{args:List WData}{vals:List Value}
  (hpre:l.row.toRowW.claim.pre args=true) (hwl:WellAll P h vals args):
  ∃a vs ns,vals=[Value.ref a]/\args=[WData.list (ns.map WData.int)]/\h.get? a=some {cls:= .type "list",data:= .seq vs.toArray}/\IntsAre vs ns/\ns.length<=n:=by
 have hsh:WShape.hasAll [] args [.list .int]=true:=(pre_splitW hpre).1;have hc:l.pre.holds [] {args:=args}=true:=(pre_splitW hpre).2;obtain⟨d,r,rfl,h1,h2⟩:=hasAllW_cons hsh;obtain rfl:=hasAllW_nil h2;obtain⟨xs,rfl,h3⟩:=hasW_list h1;obtain⟨ns,rfl⟩:=items_int h3;have hlen:ns.length<=n:=by
  unfold OpenLaw.pre at hc;have h4:(WTm.not (.lt (.lit (.int (n:Int))) (.len (.arg 0)))).holds [] {args:=[.list (ns.map .int)]}=true:=by
   have h4:=(holds_andW hc).1;rw[hn]at h4;exact h4
  have h5:=condW_of h4 (w_not (w_lt w_lit (w_len_list (w_arg rfl))));rw[Zp]at h5;refine Nat.le_of_not_lt λq=>?_;have q':(n:Int)<((ns.length:Nat):Int):= ⋯
  first
   | (rw[decide_eq_true q']at h5;exact absurd h5 ∅)
   | (simp at h5;omega)
 cases hwl with
 | cons w1 w2=>
  cases w2;cases w1 with
  | list ho hall=>exact⟨_,_,ns,rfl,rfl,ho,Qk8 ns _ hall,hlen⟩
def QsQ(l:OpenLaw)(args:List WData):l.row.toRowW.claim.post args (.bool true) args=true:=
 postW_of (r:=l.row.toRowW) (X:=(true == true))
  (show WShape.has [] (.bool true) .bool=true by first | rfl | decide | simp[WShape.has,WShape.arms,WShape.armsAll])
  (show(WTm.eq .res (.lit (.bool true))).value [] {args:=args,res:=some (.bool true),after:=args}=some (.bool (true == true))from w_eq_bool (w_res rfl) w_lit) rfl
def Qpz{l:OpenLaw}{n:Nat}{q:Program}{loose:List Str}{XP:(Str->Option Value)->Heap->Prop}{YP:World->Heap->Prop}{d:DefRec}
  (hn:l.most=some n) (hdf:d.params.defaults=[])
  (call:∀(w:World) (s₀ s₁:Shared) (mg mb:Str->Option Value) (fa:Addr) (o:Obj) (pm cd doc:Value) (a:Addr) (vs:List Value) (ns:List Int),
   Ground q loose [] XP w s₀ mg mb s₁.heap->YP w s₁.heap→
   s₁.heap.get? fa=some o->o.data= .func (docDef d.name d.params d.body d.scope pm cd doc)->s₁.heap.CodeRec cd d.name->mg d.name=some (.ref fa)→
   s₁.heap.get? a=some {cls:= .type "list",data:= .seq vs.toArray}->IntsAre vs ns->ns.length<=n->s₁.gens= #[]→
   codeAny (model l.prog w) callerA (.call (.ref fa) ⟨[.ref a],[]⟩) (λr s'=>r= .ok (.ret (.bool true))/\OldK s₁.heap s'.heap/\s'.os=s₁.os/\AllBare s'.gens) s₁):
  WalkO q loose XP YP l.row.toRowW d [] (λf vs=>PySem.call f vs):=by
 intro w s₀ s₁ mg mb G Y fa o pm cd doc dV kV ho hd hcd hD hmg hg args vals as hpre hlay hrd hwl hlo;obtain rfl:dV= .none:=Dflts.none hD hdf;obtain rfl:kV= .none:=Dflts.noKw hD;obtain⟨a,vs,ns,rfl,rfl,hobj,hints,hlen⟩:=Qsu hn hpre hwl;refine enter_call (codeAny_mono (call w s₀ s₁ mg mb fa o pm cd doc a vs ns G Y ho (fd_plain hd) hcd hmg hobj hints hlen hg) λr s' hq=>?_);obtain⟨rfl,h2,h3,h4⟩:=hq;exact⟨.inl ⟨.bool true,.bool true,[],rfl,λ_=>rfl,.bool true,QsQ l _,λ_=>⟨List.Pairwise.nil,λ_ hm=>(nomatch hm)⟩⟩,h2,h3,h4⟩
section
variable {prog:Program}{w:World}{A:Around}{E:Value->Shared->Prop}{s:Shared}{K:Frag}
end
end Att
namespace L2
open PySem PySem.Spec PyProof.Rows
def Qb0:∀{vs:List Value}{ns:List Int},IntsAre vs ns->QB (ns.map V.int) vs
 | _,_,.nil=> .nil
 | _,_,.cons n t h=> .cons ⟨t,rfl⟩ (Qb0 h)
def Qyh(H:Hp):Prop:=∀b,H b=none∨∃o xs,H b=some (.frz o (.lst xs))
def QuZ{P:Program}{w:World}{K:Fgg}{mg mb:Str->Option Value}{CX:CXT}{k:Nat}{fa a:Addr}{fd:FuncData}{x:Str}{sp:Sp}{s₁:Shared}{vs:List Value}{ns:List Int}
  (KX:K.In s₁.heap) (hns:s₁.heap.Ns mainGlobals mg) (hb:s₁.heap.Ns builtinsNs mb) (hbb:∀x:Str,x≠ "__name__" ->mb x=bootBuiltins x) (hlim:s₁.heap.NoLimit) (hg:s₁.gens= #[])
  (ha:s₁.heap.get? a=some {cls:= .type "list",data:= .seq vs.toArray}) (hi:IntsAre vs ns) (hl:ns.length<=sizeLine) (hr:Qao k callerA)
  (F:∀base:Heap,K.In base->base.Ns mainGlobals mg->Qau P w K mg base CX k fa fd [x] sp) (hbind:∀(s:Shared) (u:Value),BindsTo s fd ⟨[u],[]⟩ [(x,u)])
  (hsp:∀H:Hp,Qyh H->SqL K H a (ns.map V.int)->sp [.ref a] H (λv _=>v= .bl true) λ_ _ _=>False)
  (hCX:∀H e s',CX [] H s₁ (λ_ _ _=>False) e s'->False):
  codeAny (model P w) callerA (.call (.ref fa) ⟨[.ref a],[]⟩) (λr s'=>r= .ok (.ret (.bool true))/\OldK s₁.heap s'.heap/\s'.os=s₁.os/\AllBare s'.gens) s₁:=by
 have rv:=Qb0 hi;have lenV:=hi.length
 have core:∀H:Hp,Qyh H->SqL K H a (ns.map V.int)->HOk P w H s₁.heap->(∀b,H b≠none->b=a)->(H a≠none->K.lookup a=none)→
   codeAny (model P w) callerA (.call (.ref fa) ⟨[.ref a],[]⟩) (λr s'=>r= .ok (.ret (.bool true))/\OldK s₁.heap s'.heap/\s'.os=s₁.os/\AllBare s'.gens) s₁:=by
  intro H hO hS hok hA hK;have base_of:∀{b:Addr}{o:Obj},s₁.heap.get? b=some o->H b=none->(Qhl s₁.heap H).get? b=some o:=λe n=>QuD e n;have noA:∀{b:Addr}{o:Obj}{es:Array DictEntry}{ep:Nat},s₁.heap.get? b=some o->o.data= .dict es ep->H b=none:=λ{b o es ep} e d=>by
   cases q:H b with
   | none=>rfl
   | some u=>
    have e':b=a:=hA b (by rw[q];simp);subst e';rw[ha]at e;cases e;have d':Data.seq vs.toArray _=Data.dict es ep:=d;cases d'
  have nsK:∀{b:Addr}{m:Str->Option Value},s₁.heap.Ns b m->(Qhl s₁.heap H).Ns b m:=λ{b m} ⟨o,es,ep,e,d,r⟩=>⟨o,es,ep,base_of e (noA e d),d,r⟩;have hKb:K.In (Qhl s₁.heap H):=λb o e=>base_of (KX b o e) (by
   cases q:H b with
   | none=>rfl
   | some u=>
    have e':b=a:=hA b (by rw[q];simp);subst e';rw[hK (by rw[q];simp)]at e;cases e)
  have hM:Mod K mg (Qhl s₁.heap H):=⟨hKb,nsK hns,⟨mb,nsK hb,hbb⟩,let ⟨mc,h1,h2⟩:=hlim;⟨mc,nsK h1,h2⟩⟩;have e0:QiP P w K mg (Qhl s₁.heap H) callerA [] s₁ H:=⟨rfl,hM,λb o e=>Qwg e,Nat.le_of_eq (Qss _ _),trivial,λb hb=>absurd (show b∈([]:LAd)from hb) ⋯,hok,.of_eq hg⟩;refine codeAny_mono ((F _ hKb (nsK hns)).run callerA [] s₁ H ⟨[.ref a],[]⟩ [.ref a] [.ref a] _ _ hr e0 (hbind s₁ (.ref a)) (.cons rfl .nil) (hsp H hO hS)) λr s' h=>?_;cases r with
  | error e=>exact(hCX H e s' h).elim
  | ok fl=>
   cases fl with
   | next=>exact False.elim h
   | brk=>exact False.elim h
   | cont=>exact False.elim h
   | ret u=>
    obtain⟨v,H',os,bare,un,hok',r',q⟩:=h;have q':v= .bl true:=q;subst q';obtain rfl:u=Value.bool true:=r';refine⟨rfl,OldK.of_keep λb o e=>?_,os,bare⟩;cases q:H b with
    | none=>exact un.keep b o e q (by intro z;exact absurd (show b∈([]:LAd)from z) ⋯) ⋯
    | some u=>
     rcases hO b with z | ⟨ob,xs,z⟩
     .rw[q]at z;cases z
     .have z2:=un.frzs b ob _ z;obtain⟨e1,_⟩:=hok b _ z;obtain⟨e2,_⟩:=hok' b _ z2;rw[e]at e1;cases e1;exact e2
 cases hk:K.lookup a with
 | some o=>
  have e:=KX a o hk;rw[ha]at e;cases e;refine core (λ_=>none) (λ_=> .inl rfl) (.inr ⟨_,vs.toArray,_,hk,rfl,rfl,rfl,by rw[Zv,lenV];exact hl,by simpa using rv⟩) (λb u z=>by have z':(none:Option HO)=some u:=z;cases z') (λb z=>absurd rfl z) λz=>absurd rfl z
 | none=>
  refine core (λb=>if b=a then some (.frz {cls:= .type "list",data:= .seq vs.toArray} (.lst (ns.map V.int)))else none) (λb=>?_) (.inl (.inr ⟨{cls:= .type "list",data:= .seq vs.toArray},if_pos rfl⟩)) (λb u z=>?_) (λb z=>?_) λ_=>hk
  .by_cases hb:b=a
   .exact .inr ⟨_,_,if_pos hb⟩
   .exact .inl (if_neg hb)
  .by_cases hb:b=a
   .have z':=(if_pos hb).symm.trans z;cases z';subst hb;exact⟨ha,by rw[Zp];exact hl,vs,_,rv,ha⟩
   .have z':=(if_neg hb).symm.trans z;cases z'
  .by_cases hb:b=a
   .exact hb
   .exact absurd (if_neg hb) z
noncomputable abbrev KOf{K:Fgg}{h:Heap}(_:K.In h):PySem.W.Frag:=K
noncomputable def inClass(s:Stmt)(j:Nat):Stmt:=match s with
 | .ClassDef _ _ _ body _ _ _ _ _ _ _=>body.getD j (.Pass ⟨0,0,0,0⟩)
 | _=> .Pass ⟨0,0,0,0⟩
noncomputable def QdU(s:Stmt):Arguments:=match s with
 | .FunctionDef _ a _ _ _ _ _ _ _ _=>a
 | _=>{posonlyargs:=[],args:=[],vararg:=none,kwonlyargs:=[],kw_defaults:=[],kwarg:=none,defaults:=[]}
noncomputable def QY(s:Stmt):List Stmt:=match s with
 | .FunctionDef _ _ b _ _ _ _ _ _ _=>b
 | _=>[]
noncomputable def Qg(s:Stmt):Scope:=match s with
 | .FunctionDef _ _ _ _ _ _ sc _ _ _=>sc
 | _=>{kind:= .function,names:=[],isGenerator:=false,isCoroutine:=false}
noncomputable abbrev CX0:CXT:=λ_ _ _ _ _ _=>False
noncomputable abbrev E0:XK:=λ_ _ _=>False
def Qfc{X:Cx}:QfK CX0 X E0:=λ_ _ _ _ _ _ _ h=>h.elim
structure Fun (K:Fgg) (x qual:Str) (st:Stmt) (f:Addr) (fd:FuncData):Prop where
 ex:∃(oc:Value) (od:Option Addr) (kV doc pm:Value) (an:Option Addr) (cdv ct:Value) (osl:Array (Option Value)),
  fd=PySem.W.fnOf x qual (QdU st) (QY st) (Qg st) .none kV doc pm an cdv ct/\K.lookup f=some ⟨oc,od,.func fd,osl⟩/\PySem.W.codeIn K cdv qual=true
 kp:PySem.W.keepIn K (.ref f)=true
section
variable {P:Program}{w:World}{K:Fgg}{mg:Str->Option Value}{base:Heap}
def Fun.ok{x qual:Str}{st:Stmt}{f:Addr}{fd:FuncData}{N ps:List Str}{k:Nat}{sp:Sp}(F:Fun K x qual st f fd)(S:Qar N ps (Qg st))(len:∀vs H Q E,sp vs H Q E->vs.length=ps.length)
  (hbody:∀(cdv:Value) (A:Around) (outer:List Env) (s:Shared) (H:Hp) (vs:List V) (Q:VK) (E:XK),Qao k (A.deeper (envOfC qual (Qg st) s.heap.objs.size f cdv))->sp vs H Q E→
   ∃t,PSs (QbP CX0 P w K mg base N qual (Qg st) f cdv A outer s H E).nox (QY st) t/\t {nx:=λ_ H'=>Q .non H',rt:=Q} (start N vs) H):Qau P w K mg base CX0 (k+1) f fd ps sp:=by
 obtain⟨oc,od,kV,doc,pm,an,cdv,ct,osl,rfl,lk,hcd⟩:=F.ex;refine Qru lk hcd S len λA outer s H vs Q E hr hsp=>?_;obtain⟨t,h,q⟩:=hbody cdv A outer s H vs Q E hr hsp;exact⟨t,h.nox,q⟩
def Fun.binds{x qual:Str}{st:Stmt}{f:Addr}{fd:FuncData}{ps:List Str}(F:Fun K x qual st f fd)
  (h:∀(kV doc pm:Value) (an:Option Addr) (cdv ct:Value) (us:List Value),us.length=ps.length->bindArgs (PySem.W.fnOf x qual (QdU st) (QY st) (Qg st) .none kV doc pm an cdv ct) ⟨us,[]⟩=pure (ps.zip us)):Binds K fd ps []:=by
 obtain⟨oc,od,kV,doc,pm,an,cdv,ct,osl,rfl,lk,hcd⟩:=F.ex;exact .all (h kV doc pm an cdv ct)
def QrF{x qual:Str}{st:Stmt}{f:Addr}{oc:Value}{od an:Option Addr}{osl:Array (Option Value)}{kV doc pm cdv ct:Value}(l:K.lookup f=some ⟨oc,od,.func (PySem.W.fnOf x qual (QdU st) (QY st) (Qg st) .none kV doc pm an cdv ct),osl⟩)
  (c:PySem.W.codeIn K cdv qual=true) (k:PySem.W.keepIn K (.ref f)=true):Fun K x qual st f (PySem.W.fnOf x qual (QdU st) (QY st) (Qg st) .none kV doc pm an cdv ct):=⟨⟨oc,od,kV,doc,pm,an,cdv,ct,osl,rfl,l,c⟩,k⟩
end
section
variable {X:Cx}
end
def Qq4{A B:Prop}(h:B):if false=true then A else B:=by
 rw[if_neg ZO];exact h
def Qom{A B:Prop}(h:A):if true=true then A else B:=by
 rw[if_pos rfl];exact h
def QE(H H':Hp):Prop:=∀b o,H b=some o->H' b=some o
def QE.refl(H:Hp):QE H H:=λ_ _ h=>h
def QE.trans{H H1 H2:Hp}(a:QE H H1)(b:QE H1 H2):QE H H2:=λc o h=>b c o (a c o h)
def QE.free{H H':Hp}(e:QE H H'){l:Addr}(h:H' l=Option.none):H l=Option.none:=by
 cases q:H l with
 | none=>rfl
 | some o=>
  rw[e l o q]at h;cases h
section
variable {κ:Type} [DecidableEq κ]
end
section
variable {P:Program}{w:World}{H:Hp}{h:Heap}{a:Addr}
end
section
variable {X:Cx}{pins:List (Addr×Obj)}{U:St}{H:Hp}{s:Shared}{a:Addr}{y v:V}{u r:Value}{o:Option V}{A:Around}{E:Value->Shared->Prop}
end
section
variable {X:Cx}{pins:List (Addr×Obj)}{U:St}{H:Hp}{s:Shared}{a:Addr}{kvs:List (Key×V)}{k:Key}{u:Value}{A:Around}{E:Value->Shared->Prop}
end
section
variable {X:Cx}{o i e value:Expr}{pos pos' tpos:Pos}{td ty tv:TE}
end
section
variable {X:Cx}{pos:Pos}
end
end L2
namespace HS
open PySem PySem.Spec L2 PyProof.Rows
end HS
namespace L2
open PySem PySem.Spec PyProof.Rows
def Ql4(env:Env)(body:Str×NameKind->List (Str×Addr)->Sem (ForInStep (List (Str×Addr))))
  (hb:∀n k cs,body (n,k) cs=if(k == NameKind.free)=true then(do let c ← cellOf env n;pure (ForInStep.yield ((n,c)::cs)))else pure (ForInStep.yield cs)):
  ∀(names:List (Str×NameKind)) (acc:List (Str×Addr)),(∀y∈names,y.2= .free->∃c,env.cells.lookup y.1=some c)->(∀x c,acc.lookup x=some c->env.cells.lookup x=some c)→
   ∃cl,forIn names acc body=(pure cl:Sem _)/\(∀x c,cl.lookup x=some c->env.cells.lookup x=some c)/\(∀x,acc.lookup x≠none->cl.lookup x≠none)/\∀y∈names,y.2= .free->cl.lookup y.1≠none
 | [],acc,_,ha=>⟨acc,rfl,ha,λ_ h=>h,λy hy=>by simp at hy⟩
 | (n,k)::r,acc,hn,ha=>by
  rw[List.forIn_cons,hb];have hr:∀y∈r,y.2= .free->∃c,env.cells.lookup y.1=some c:=λy hy=>hn y (Zc _ hy);by_cases hk:k= .free
  .subst hk;obtain⟨c,hc⟩:=hn (n,.free) Zf rfl;have hce:cellOf env n=pure c:=by unfold cellOf;rw[show env.cells.lookup n=some c from hc]
   rw[if_pos (by rfl),hce];obtain⟨cl,e,h1,h2,h3⟩:=Ql4 env body hb r ((n,c)::acc) hr (λx c' e=>by
    rw[Zu]at e;cases q:x == n with
    | true=>rw[q]at e;cases e;rw[beq_iff_eq]at q;rw[q];exact hc
    | false=>rw[q]at e;exact ha x c' e)
   have hcons:∀x,((n,c)::acc).lookup x≠none->cl.lookup x≠none:=h2;refine⟨cl,by simpa using e,h1,λx hx=>hcons x ?_,λy hy hf=>?_⟩
   .rw[Zu];cases x == n with
    | true=>simp
    | false=>exact hx
   .rcases Zn.mp hy with rfl | hy
    .exact hcons _ (by simp[Zu])
    .exact h3 y hy hf
  .rw[if_neg (by simpa using hk)];obtain⟨cl,e,h1,h2,h3⟩:=Ql4 env body hb r acc hr ha;refine⟨cl,by simpa using e,h1,h2,λy hy hf=>?_⟩;rcases Zn.mp hy with rfl | hy
   .exact absurd hf hk
   .exact h3 y hy hf
def Qxq(h:∀y∈scope.names,y.2= .free->∃c,env.cells.lookup y.1=some c):
  ∃cl,closureFor scope env=pure cl/\(∀x c,cl.lookup x=some c->env.cells.lookup x=some c)/\∀y∈scope.names,y.2= .free->∃c,cl.lookup y.1=some c:=by
 unfold closureFor;obtain⟨cl,e,h1,_,h3⟩:=Ql4 env (λx cs=>match x with | (name,kind)=>if(kind == NameKind.free)=true then(do let c ← cellOf env name;pure (ForInStep.yield ((name,c)::cs)))else pure (ForInStep.yield cs)) (λ_ _ _=>rfl) scope.names [] h (λx c e=>by simp at e);refine⟨cl,?_,h1,λy hy hf=>Option.ne_none_iff_exists'.mp (h3 y hy hf)⟩;show(forIn scope.names [] _ >>= λr=>pure r)=_;rw[e];rfl
noncomputable def cxc(X:Cx)(N':List Str)(scope:Scope)(cl:List (Str×Addr))(C:Addr)(fp:LAd)(s3:Shared)(H3:Hp):Cx:=
 {X with N:=N',s₀:=s3,H₀:=H3,env:=compEnvC scope cl C X.env,outer:=X.stack,ex:=fp,fn:=λx=>decide (scope.names.lookup x=some .cell),pn:=[],xe:=λ_ _=>False}
def PTs(X:Cx)(ifs:List Expr)(t:TT):Prop:=
 ∀(pins:List (Addr×Obj)) (s:Shared) (U:St) (H:Hp) (Q:Bool->Hp->Prop),Inv X pins U H s->t U H Q→
  wpAny (model X.prog X.w) X.A (forIn ifs true λc r=>if r=true then do let ok ← isTrue c X.env (eval c X.env);pure (ForInStep.yield ok)else pure (ForInStep.yield r)) (TP X pins U Q) X.xe s
noncomputable def QBS:TT:=λ_ H Q=>Q true H
def QxD:PTs X [] QBS:=λ_ _ _ H _ I h=>wpAny_tests_nil ⟨H,I,h⟩
def Qxr(h:PT X c t):PTs X [c] t:=λpins s U H Q I q=>wpAny_tests_one (h pins s U H Q I q)
def QkV(X:Cx)(N':List Str)(scope:Scope)(U U':St):Prop:=
 U'.length=N'.length/\∀(j:Nat) (x:Str) (v:V),N'[j]? =some x->U'[j]? =some (some v)->scope.names.lookup x=some .free/\∃i:Nat,X.N[i]? =some x/\U[i]? =some (some v)/\(X.env.kindOf x=some .cell∨X.env.kindOf x=some .free)
noncomputable def Qnb(wi:TI)(cap:St->St->Prop)(g:TG)(tc:TT)(te:TE):TE:=λU H Q=>wi U H λJ H1=>∃Uc,cap U Uc/\∀D,H1 D=none->∃W:Nat->Nat->List V->Hp->Prop,
 (∃m,W 0 m [] (upd H1 D (.lst [])))/\∀i m acc H2,W i m acc H2->(J.stop i H2/\Q (.ref D) H2)∨
  (J.go i H2/\∀x H3,J.yld i H2 x H3->g x Uc H3 λU2 H4=>(∀(j:Nat) v,Uc[j]? =some (some v)->U2[j]? =some (some v))/\tc U2 H4 λb H5=>if b=true then
   te U2 H5 λy H6=>H6 D=some (.lst acc)/\acc.length<sizeLine/\∃m',m'<m/\W (i+1) m' (acc++[y]) (upd H6 D (.lst (acc++[y])))
   else ∃m',m'<m/\W (i+1) m' acc H5)
def QcS{env:Env}:∀{names:List (Str×NameKind)}{x:Str},names.lookup x=some .free→
  (names.map λ(n,k)=>if(k == NameKind.free && env.scope.kind == .function && env.kindOf n == some .cell)then(n,NameKind.cell)else(n,k)).lookup x=some .cell∨
  (names.map λ(n,k)=>if(k == NameKind.free && env.scope.kind == .function && env.kindOf n == some .cell)then(n,NameKind.cell)else(n,k)).lookup x=some .free
 | [],_,h=>by simp at h
 | (n,k)::r,x,h=>by
  have ih:= @QcS env r x;rw[ZA];cases hx:x == n with
  | true=>
   simp only[Zu,hx]at h;cases h;dsimp only;split
   .left;simp[Zu,hx]
   .right;simp[Zu,hx]
  | false=>
   simp only[Zu,hx]at h;dsimp only;split
   .simp only[Zu,hx];exact ih h
   .simp only[Zu,hx];exact ih h
def QeX{env:Env}:∀{names:List (Str×NameKind)}{x:Str},
  ((names.map λ(n,k)=>if(k == NameKind.free && env.scope.kind == .function && env.kindOf n == some .cell)then(n,NameKind.cell)else(n,k)).lookup x=some .cell∨
  (names.map λ(n,k)=>if(k == NameKind.free && env.scope.kind == .function && env.kindOf n == some .cell)then(n,NameKind.cell)else(n,k)).lookup x=some .free)→
  ∃k,(x,k)∈names/\(k= .free∨k= .cell)
 | [],_,h=>by simp at h
 | (n,k)::r,x,h=>by
  have ih:= @QeX env r x;rw[ZA]at h;cases hx:x == n with
  | true=>
   have hn:x=n:=by simpa using hx
   subst hn;dsimp only at h;split at h
   .rename_i hc;simp only[Zi]at hc;refine⟨k,Zf,.inl (by simpa using hc.1.1)⟩
   .simp only[Zu,hx]at h;refine⟨k,Zf,?_⟩;rcases h with h | h
    .exact .inr (Option.some.inj h)
    .exact .inl (Option.some.inj h)
  | false=>
   dsimp only at h;have:∃k,(x,k)∈r/\(k= .free∨k= .cell):=by
    apply ih;split at h
    .simpa only[Zu,hx]using h
    .simpa only[Zu,hx]using h
   obtain⟨k',h1,h2⟩:=this;exact⟨k',Zc _ h1,h2⟩
def QgI:∀(names:List (Str×NameKind)) (n:Nat) (acc:List (Str×Addr)) (x:Str) (c:Addr),(cellsFrom n names acc).lookup x=some c->acc.lookup x=some c∨(n<=c/\(x,NameKind.cell)∈names)
 | [],_,_,_,_,h=> .inl h
 | (nm,k)::r,n,acc,x,c,h=>by
  unfold cellsFrom at h;split at h
  .rename_i hk;have hk:k= .cell:=by simpa using hk
   rcases QgI r (n+1) ((nm,n)::acc) x c h with h | ⟨h1,h2⟩
   .rw[Zu]at h;cases q:x == nm with
    | true=>
     rw[q]at h;cases h;have:x=nm:=by simpa using q
     exact .inr ⟨Zk _,by rw[this,hk];exact Zf⟩
    | false=>rw[q]at h;exact .inl h
   .exact .inr ⟨⋯,Zc _ h2⟩
  .rcases QgI r n acc x c h with h | ⟨h1,h2⟩
   .exact .inl h
   .exact .inr ⟨h1,Zc _ h2⟩
def QnM:∀(names:List (Str×NameKind)) (n:Nat) (acc:List (Str×Addr)) (x:Str) (c:Addr),(x,NameKind.cell)∈names->(cellsFrom n names acc).lookup x=some c->n<=c
 | (nm,k)::r,n,acc,x,c,hm,h=>by
  unfold cellsFrom at h;split at h
  .by_cases hr:(x,NameKind.cell)∈r
   .have:=QnM r (n+1) _ x c hr h;omega
   .have hx:x=nm:=by
     rcases Zn.mp hm with e | e
     .exact(Prod.mk.inj e).1
     .exact absurd e hr
    rcases QgI r (n+1) ((nm,n)::acc) x c h with h | ⟨h1,_⟩
    .rw[Zu,show(x == nm)=true by simpa using hx]at h;cases h;exact Zk _
    .omega
  .rename_i hk;rcases Zn.mp hm with e | e
   .exact absurd (by rw[← (Prod.mk.inj e).2];rfl) hk
   .exact QnM r n acc x c e h
def Qo5:∀(names:List (Str×NameKind)) (n:Nat) (acc:List (Str×Addr)),(∀x y c,acc.lookup x=some c->acc.lookup y=some c->x=y)->(∀x c,acc.lookup x=some c->c<n)→
  ∀x y c,(cellsFrom n names acc).lookup x=some c->(cellsFrom n names acc).lookup y=some c->x=y
 | [],_,_,hi,_,x,y,c,h1,h2=>hi x y c h1 h2
 | (nm,k)::r,n,acc,hi,hb,x,y,c,h1,h2=>by
  unfold cellsFrom at h1 h2;split at h1
  .rename_i hk;rw[if_pos hk]at h2;refine Qo5 r (n+1) ((nm,n)::acc) (λx y c h1 h2=>?_) (λx c h=>?_) x y c h1 h2
   .rw[Zu]at h1 h2;cases qx:x == nm with
    | true=>
     rw[qx]at h1;cases h1;cases qy:y == nm with
     | true=>rw[show x=nm by simpa using qx,show y=nm by simpa using qy]
     | false=>rw[qy]at h2;exact absurd (hb y _ h2) (ZU _)
    | false=>
     rw[qx]at h1;cases qy:y == nm with
     | true=>rw[qy]at h2;cases h2;exact absurd (hb x _ h1) (ZU _)
     | false=>rw[qy]at h2;exact hi x y c h1 h2
   .rw[Zu]at h;cases qx:x == nm with
    | true=>rw[qx]at h;cases h;exact Zar _
    | false=>rw[qx]at h;exact ZaK (hb x c h)
  .rename_i hk;rw[if_neg hk]at h2;exact Qo5 r n acc hi hb x y c h1 h2
def QgO:∀(names:List (Str×NameKind)) (n:Nat) (acc:List (Str×Addr)) (x:Str),(∃c,acc.lookup x=some c)->∃c,(cellsFrom n names acc).lookup x=some c
 | [],_,_,_,h=>h
 | (nm,k)::r,n,acc,x,h=>by
  unfold cellsFrom;split
  .refine QgO r (n+1) _ x ?_;rw[Zu];cases x == nm with
   | true=>exact⟨n,rfl⟩
   | false=>exact h
  .exact QgO r n acc x h
def Qob:∀(names:List (Str×NameKind)) (n:Nat) (acc:List (Str×Addr)) (x:Str),(x,NameKind.cell)∈names->∃c,(cellsFrom n names acc).lookup x=some c
 | (nm,k)::r,n,acc,x,hm=>by
  unfold cellsFrom;rcases Zn.mp hm with e | e
  .obtain⟨e1,e2⟩:=Prod.mk.inj e;subst e1;rw[← e2,if_pos (by rfl)];exact QgO r (n+1) _ x ⟨n,by simp[Zu]⟩
  .split
   .exact Qob r (n+1) _ x e
   .exact Qob r n acc x e
def Qlt(lo:Nat):∀(names:List (Str×NameKind)) (h:Heap) (acc:List (Str×Addr)),(∀x c,acc.lookup x=some c->lo<=c->h.IsCell c none)->lo<=h.objs.size→
  ∀x c,(cellsFrom h.objs.size names acc).lookup x=some c->lo<=c->(pushCells h names).IsCell c none
 | [],_,_,ha,_,x,c,e,hl=>ha x c e hl
 | (nm,k)::r,h,acc,ha,hlo,x,c,e,hl=>by
  unfold cellsFrom at e;unfold pushCells;split at e
  .rename_i hk;rw[if_pos hk];have hs:=Zax h {cls:= .type "cell",data:= .cell none};refine Qlt lo r (h.push {cls:= .type "cell",data:= .cell none}) ((nm,h.objs.size)::acc) (λx c e hl=>?_) (by rw[hs];omega) x c (by rw[hs];exact e) hl;rw[Zu]at e;cases q:x == nm with
   | true=>rw[q]at e;cases e;exact⟨_,ZG _ rfl,rfl⟩
   | false=>rw[q]at e;exact(ha x c e hl).keeps λb o e=>Zq _ e
  .rename_i hk;rw[if_neg hk];exact Qlt lo r h acc ha hlo x c e hl
def Qrt
  (hQ:∀h':Heap,h'.Ns s.heap.objs.size (λ_=>none)->(∀b o,s.heap.get? b=some o->h'.get? b=some o)->((∀x c,cl.lookup x=some c->c<s.heap.objs.size)->∀x c,(cellsFrom (s.heap.objs.size+1) scope.names cl).lookup x=some c->s.heap.objs.size+1<=c->h'.IsCell c none)→
   Q (newEnv scope s.heap.objs.size globals (cellsFrom (s.heap.objs.size+1) scope.names cl) qual none .none (some env) builtins) {s with heap:=h'}):
  wpAny M A (newFunctionEnv scope globals cl [] qual none .none (some env) builtins) Q E s:=by
 simp only[newFunctionEnv,Option.isSome_some,if_true];refine wpAny_bind (wpAny_alloc ?_);refine wpAny_bind (wpAny_layCells _ (λname kind cells=>by cases hkc:kind == NameKind.cell<;>simp[hkc]) _ _ _ _ ?_);have hs:=Zax s.heap {cls:= .type "dict",data:= .dict #[]};rw[show({s with heap:=s.heap.push {cls:= .type "dict",data:= .dict #[]}}:Shared).heap.objs.size=s.heap.objs.size+1 from hs];refine wpAny_bind (wpAny_pure (wpAny_pure ?_));refine hQ _ ((Heap.Ns.new s.heap (.type "dict")).keeps (pushCells_keeps _ _)) (λb o e=>pushCells_keeps _ _ b o (Zq _ e)) λhb x c e hl=>?_;refine Qlt (s.heap.objs.size+1) scope.names (s.heap.push {cls:= .type "dict",data:= .dict #[]}) cl (λx c e hl=>?_) (by rw[hs];exact Zk _) x c (by rw[hs];exact e) hl;exact absurd (Zx (hb x c e) (ZL (ZaD _) hl)) (ZU _)
section
variable {X:Cx}{tg iter elt:Expr}{ifs:List Expr}{scope:Scope}{N':List Str}{pos:Pos}
structure Qe2 (X:Cx) (N':List Str) (scope:Scope):Prop where
 kind:scope.kind= .function
 own:∀y∈scope.names,y.2= .cell->scope.names.lookup y.1=some .cell
 loc:∀y∈scope.names,y.2= .local ->scope.names.lookup y.1=some .local
 free:∀y∈scope.names,y.2= .free->X.env.kindOf y.1=some .cell∨X.env.kindOf y.1=some .free
def QvD{pins:List (Addr×Obj)}{U Uc:St}{H3:Hp}{s3:Shared}{fp:LAd}{cl:List (Str×Addr)}{h':Heap}{tk:Nat}(S:Qe2 X N' scope)(I:Inv X pins U H3 s3)
  (hf:∀b∈fp,Qd3 X pins H3 b) (hfl:∀b∈fp,b<s3.heap.objs.size) (hc1:∀x c,cl.lookup x=some c->X.env.cells.lookup x=some c) (hc2:∀y∈scope.names,y.2= .free->∃c,cl.lookup y.1=some c) (cap:QkV X N' scope U Uc)
  (hns:h'.Ns s3.heap.objs.size (λ_=>none)) (hk:∀b o,s3.heap.get? b=some o->h'.get? b=some o)
  (hown:(∀x c,cl.lookup x=some c->c<s3.heap.objs.size)->∀x c,(cellsFrom (s3.heap.objs.size+1) scope.names cl).lookup x=some c->s3.heap.objs.size+1<=c->h'.IsCell c none):
  Inv (cxc X N' scope (cellsFrom (s3.heap.objs.size+1) scope.names cl) s3.heap.objs.size fp s3 H3) [] Uc H3 {s3 with heap:=h',toks:=tk}:=by
 have nold:∀b,b∈fp->b≠s3.heap.objs.size:=λb hb e=>absurd (hfl b hb) (by rw[e];exact ZU _);have cellOld:∀x c,cl.lookup x=some c->∃v,s3.heap.IsCell c v:=λx c e=>I.cell x c (hc1 x c e);have cellLt:∀x c,cl.lookup x=some c->c<s3.heap.objs.size:=λx c e=>let ⟨v,q⟩:=cellOld x c e;q.lt;have cellNew:∀c v,s3.heap.IsCell c v->h'.IsCell c v:=λc v ⟨o,ho,hd⟩=>⟨o,hk c o ho,hd⟩;have hown:=hown cellLt;have look:∀x c,(cellsFrom (s3.heap.objs.size+1) scope.names cl).lookup x=some c->cl.lookup x=some c∨(s3.heap.objs.size+1<=c/\(x,NameKind.cell)∈scope.names):=QgI scope.names _ cl
 refine⟨⟨I.ok.mod,S.kind,I.ok.glob,I.ok.blt,Zk _,Qo5 scope.names _ cl (λx y c h1 h2=>I.ok.inj x y c (hc1 x c h1) (hc1 y c h2)) (λx c e=>ZaK (cellLt x c e)),λx hx=>?_,λx c e1 e2=>?_,I.ok.hd,I.ok.frames,.inl rfl,λb hb=>⟨nold b hb,λx c e=>?_⟩,
  I.bs,ZL I.ok.bsz I.sz,λb o e hb=>?_,λb hb hs=>?_,I.stack,I.Qly⟩,rfl,I.bare,Un.kept hk,⟨_,hns,λj x v h1 h2 h3=>?_⟩,λx c e=>?_,I.hok.fresh (Zk _),λx c e=>?_,λp hp=>absurd (show p∈([]:List (Addr×Obj))from hp) ⋯,I.hok.kept hk,cap.1⟩
 .obtain⟨k,hm,hk'⟩:=QeX hx;rcases hk' with rfl | rfl
  .exact QgO scope.names _ cl x (hc2 _ hm rfl)
  .exact Qob scope.names _ cl x hm
 .have e1:decide (scope.names.lookup x=some .cell)=true:=e1;have:=QnM scope.names _ cl x c (Zab (of_decide_eq_true e1)) e2;exact ZL (ZaD _) this
 .rcases look x c e with e | ⟨e,_⟩
  .exact(hf b hb).2.2.2.2.1 x c (hc1 x c e)
  .intro z;rw[z]at e;exact absurd (Zx (hfl b hb) (ZL (ZaD _) e)) (ZU _)
 .rcases(hf b hb).2.2.2.1 with z | z
  .exact I.ok.noex b o e z
  .exact absurd (Zx (Zt e) (ZL I.ok.bsz z)) (ZU _)
 .rcases Zn.mp (I.QeS b hs)with e | z
  .exact(hf b hb).2.1 e
  .exact(hf b hb).2.2.1 z
 .obtain⟨hl,i,e1,e2,e3⟩:=cap.2 j x v h1 h2;obtain⟨m,hn,look'⟩:=I.loc;obtain⟨u,r,l⟩:=look' i x v e1 e2 (e3.elim (λz=> .inr (.inl z)) λz=> .inr (.inr z));refine⟨u,r,.inr ⟨QcS hl,?_⟩⟩;rcases l with⟨k,_⟩ | ⟨_,c,ec,hcell⟩
  .rcases e3 with z | z<;>(rw[k]at z;cases z)
  .obtain⟨c',ec'⟩:=QgO scope.names (s3.heap.objs.size+1) cl x (hc2 (x,.free) (Zab hl) rfl);rcases look x c' ec' with q | ⟨_,q⟩
   .have:=hc1 x c' q;rw[ec]at this;cases this;exact⟨c,ec',cellNew c _ hcell⟩
   .have:=S.own _ q rfl;rw[hl]at this;cases this
 .rcases look x c e with q | ⟨q,_⟩
  .obtain⟨v,q⟩:=cellOld x c q;exact⟨v,cellNew c v q⟩
  .exact⟨none,hown x c e q⟩
 .rcases look x c e with q | ⟨q,_⟩
  .exact I.freeC x c (hc1 x c q)
  .exact I.hok.fresh ⋯
def Qsf(J:Nat->Shared->Prop)
  (turn:∀n s,J n s->wpAny (model prog w) A (pyNext it) (λr s1=>match r with
   | none=>R (.ok .next) s1
   | some v=>wpAny (model prog w) A (letOwnedTupleGo tg it v) (λ_ s2=>wpAny (model prog w) A (assign tg env v) (λ_ s3=>
     wpAny (model prog w) A (forIn ifs true λc r=>if r=true then do let ok ← isTrue c env (eval c env);pure (ForInStep.yield ok)else pure (ForInStep.yield r)) (λok s4=>
      if ok=true then wpAny (model prog w) A (eval elt env) (λx s5=>wpAny (model prog w) A (call (.builtin "list.append") [acc,x]) (λ_ s6=>∃m,m<n/\J m s6) (λ_ _=>False) s5) (λ_ _=>False) s4
      else ∃m,m<n/\J m s4) (λ_ _=>False) s3) (λ_ _=>False) s2) (λ_ _=>False) s1) (λ_ _=>False) s)
  (n:Nat) (h:J n s0):codeAny (model prog w) A (.compLoop (.ListComp elt [⟨tg,iter,ifs,0⟩] scope pos) 0 it acc env) R s0:=by
 have up:∀{α:Type}{t:Sem α}{Q:α->Shared->Prop}{E:Value->Shared->Prop}{s:Shared},wpAny (model prog w) A t Q (λ_ _=>False) s->wpAny (model prog w) A t Q E s:=λh=>wpAny_mono h (λ_ _ q=>q) λ_ _ f=>f.elim;refine codeAny_loop (by rfl) J (λk sk hk=>?_) n h;show wpAny (model prog w) A ((compTurn (.ListComp elt [⟨tg,iter,ifs,0⟩] scope pos) 0 it acc env).onRaise (λx=>do noteFrame x env;theTreesLotGoes x)) _ _ sk;refine wpAny_noted (up ?_);rw[compTurn_list];refine wpAny_bind (wpAny_standAt (wpAny_bind (thn (turn k sk hk) λr s1 h1=>?_)));cases r with
 | none=>exact wpAny_pure h1
 | some v=>
  refine wpAny_bind (thn h1 λ_ s2 h2=>wpAny_bind (thn h2 λ_ s3 h3=>wpAny_bind (thn h3 λok s4 h4=>?_)));cases ok with
  | false=>exact wpAny_pure ⟨rfl,h4⟩
  | true=>exact wpAny_bind (wpAny_bind (thn h4 λx s5 h5=>wpAny_bind (thn h5 λ_ s6 h6=>wpAny_pure (wpAny_pure ⟨rfl,h6⟩))))
def QuU{it D C:Addr}{fp:LAd}{tn:Nat->Heap->Prop}{J:It}{cl:List (Str×Addr)}{s3 s4:Shared}{H3:Hp}{Uc:St}{g:TG}{tc:TT}{te:TE}{Q:Hp->Prop}(hcalm:X.calm=true)
  (T:Turn X.prog X.w X.K tg J fp it tn)
  (hg:PG (cxc X N' scope cl C fp s3 H3) tg g) (ht:PTs (cxc X N' scope cl C fp s3 H3) ifs tc) (he:PE (cxc X N' scope cl C fp s3 H3) elt te)
  (I:Inv (cxc X N' scope cl C fp s3 H3) [] Uc H3 s4) (st:tn 0 s4.heap) (ff:∀b∈fp,Qd3 (cxc X N' scope cl C fp s3 H3) [] H3 b)
  (W:Nat->Nat->List V->Hp->Prop) (hw:∃m,W 0 m [] H3)
  (turn:∀i m acc H2,W i m acc H2->(J.stop i H2/\Q H2)∨
   (J.go i H2/\∀x H5,J.yld i H2 x H5->g x Uc H5 λU2 H6=>(∀(j:Nat) v,Uc[j]? =some (some v)->U2[j]? =some (some v))/\tc U2 H6 λb H7=>if b=true then
    te U2 H7 λy H8=>H8 D=some (.lst acc)/\acc.length<sizeLine/\∃m',m'<m/\W (i+1) m' (acc++[y]) (upd H8 D (.lst (acc++[y])))
    else ∃m',m'<m/\W (i+1) m' acc H7))
  {R:Result->Shared->Prop}(hR:∀H' s',Inv (cxc X N' scope cl C fp s3 H3) [] Uc H' s'->Q H'->R (.ok .next) s'):
  codeAny (model X.prog X.w) X.A (.compStart (.ListComp elt [⟨tg,iter,ifs,0⟩] scope pos) 0 (.ref it) (.ref D) (compEnvC scope cl C X.env)) R s4:=by
 obtain⟨m0,w0⟩:=hw;have stat:∀{H':Hp},(∀b∈fp,H' b=none)->∀b∈fp,Qd3 (cxc X N' scope cl C fp s3 H3) [] H' b:=λhn b hb=>⟨hn b hb,(ff b hb).2⟩;have loop:codeAny (model X.prog X.w) X.A (.compLoop (.ListComp elt [⟨tg,iter,ifs,0⟩] scope pos) 0 (.ref it) (.ref D) (compEnvC scope cl C X.env)) R s4:=by
  refine Qsf (λn s'=>∃i acc H',Inv (cxc X N' scope cl C fp s3 H3) [] Uc H' s'/\tn i s'.heap/\(∀b∈fp,H' b=none)/\W i n acc H') ?_ m0 ⟨0,[],H3,I,st,λb hb=>(ff b hb).1,w0⟩;rintro n s5 ⟨i,acc,H5,I5,st5,fr5,w5⟩;rcases turn i n acc H5 w5 with⟨stop,q⟩ | ⟨go,step⟩
  .refine thn (T.done (cxc X N' scope cl C fp s3 H3) rfl rfl rfl hcalm i [] s5 Uc H5 _ I5 (stat fr5) st5 stop) λr s6 Z=>?_;obtain⟨hr,I6⟩:=Z;subst hr;exact hR H5 s6 I6 q
  .refine thn (T.item (cxc X N' scope cl C fp s3 H3) rfl rfl rfl hcalm i [] s5 Uc H5 _ I5 (stat fr5) st5 go) λr s6 Z=>?_;obtain⟨u,hr,h6⟩:=Z;subst hr;refine thn h6 λ_ s7 Z=>?_;obtain⟨x,H7,I7,r7,y7,st7,fr7⟩:=Z;have I7':=I7.pinned (stat fr7) (T.obj _ _ st7);refine thn (hg _ s7 Uc H7 x u _ I7' r7 (step x H7 y7)) λ_ s8=>exJ λU8 H8 I8 k8 q8=>?_;refine thn (ht _ s8 U8 H8 _ I8 q8) λok s9 Z=>?_;obtain⟨H9,I9,q9⟩:=Z
   have again:∀{H':Hp}{s':Shared}{acc':List V},Inv (cxc X N' scope cl C fp s3 H3) ([]++Qh7 fp s7.heap) U8 H' s'->(∃m',m'<n/\W (i+1) m' acc' H')→
     ∃m,m<n/\∃i acc H',Inv (cxc X N' scope cl C fp s3 H3) [] Uc H' s'/\tn i s'.heap/\(∀b∈fp,H' b=none)/\W i m acc H':=λ{H' s' acc'} I' ⟨m',hm,w'⟩=>by
    have pin:∀b∈fp,∀o,s7.heap.get? b=some o->s'.heap.get? b=some o/\H' b=none:=λb hb o e=>by
     have z:=I'.pin (b,o) (Zd _ (Zd _ (QhJ hb e)));exact⟨z.1,z.2.1⟩
    refine⟨m',hm,i+1,acc',H',?_,T.keep _ _ _ st7 λb hb o e=>(pin b hb o e).1,λb hb=>?_,w'⟩
    .exact I'.Qhh.weak (I.len.trans I8.len.symm) k8
    .obtain⟨o,e,_⟩:=T.obj _ _ st7 b hb;exact(pin b hb o e).2
   cases ok with
   | false=>
    rw[if_neg ZO]at q9 ⊢;exact again I9 q9
   | true=>
    rw[if_pos rfl]at q9 ⊢;refine thn (he _ s9 U8 H9 _ I9 q9) λyv s10 Z=>?_;obtain⟨y,H10,I10,r10,e10,l10,q10⟩:=Z;refine thn (Qmt _ s10 U8 H10 (.ref D) [y] (.ref D) [yv] (λv H11=>H11=upd H10 D (.lst (acc++[y]))) I10 rfl (.cons r10 .nil) ⟨D,acc,y,rfl,rfl,e10,l10,rfl⟩) λ_ s11 Z=>?_;obtain⟨_,H11,I11,_,e11⟩:=Z;subst e11;exact again I11 q10
 exact codeAny_compStart_list loop (T.self _ 0 _ _ _ st loop)
def QnO{wi:TI}{g:TG}{tc:TT}{te:TE}{cp:Pos}{use:Option (Value->Sem Unit)}{pins:List (Addr×Obj)}{s:Shared}{U:St}{H:Hp}{QV:Value->Shared->Prop}{Q:VK}(hcalm:X.calm=true)(S:Qe2 X N' scope)(hi:PI X tg iter wi)
  (hin:∀cl C fp s3 H3,PG (cxc X N' scope cl C fp s3 H3) tg g/\PTs (cxc X N' scope cl C fp s3 H3) ifs tc/\PE (cxc X N' scope cl C fp s3 H3) elt te)
  (hs:∀x,foldedSetIterable iter X.env x=pure x) (I:Inv X pins U H s) (h:Qnb wi (QkV X N' scope) g tc te U H Q)
  (fin:∀(D C:Addr) (H':Hp) (s':Shared),Inv X pins U H' s'->H' C=none->C≠X.env.locals->X.s₀.heap.objs.size<=C->(∀x c,X.env.cells.lookup x=some c->c≠C)->(∀p∈X.pn++pins,p.1≠C)->(∃m,s'.heap.Ns C m)->Q (.ref D) H'→
   compPost (model X.prog X.w) X.A X.xe use QV (.ref D) C (.ok .next) s'):
  wpAny (model X.prog X.w) X.A (comprehension (.ListComp elt [⟨tg,iter,ifs,0⟩] scope pos) scope X.env cp (newList []) false (eval iter X.env) use) QV X.xe s:=by
 obtain⟨cl,hcl,hc1,hc2⟩:=Qxq λy hy hf=>I.ok.has y.1 (S.free y hy hf);refine wpAny_comprehension_free rfl hs hcl S.kind S.loc ?_;refine thn (hi pins s U H _ I h) λv s1 h1=>thn h1 λitv s2 h2=>?_;obtain⟨it,fp,tn,J,H2,e,I2,T,st2,f2,Uc,cap,hw⟩:=h2;subst e;have hD0:H2 s2.heap.objs.size=none:=I2.hok.fresh (Zk _);obtain⟨W,hW0,turn⟩:=hw _ hD0;have fpl:∀b∈fp,b<s2.heap.objs.size:=λb hb=>let ⟨o,e,_⟩:=T.obj _ _ st2 b hb;Zt e;have hlist:∀D:Addr,D=s2.heap.objs.size->∃x,x=D:=λD _=>⟨D,rfl⟩;refine wpAny_newObj_type ?_
 have I3:Inv X pins U (upd H2 s2.heap.objs.size (.lst [])) {s2 with heap:=s2.heap.push {cls:= .type "list",dict:=none,data:= .seq ([]:List Value).toArray}}:=
  I2.laid (t':=s2.toks) (λb o e=>Zq _ e) (Zk _) ⟨ZS _,[],0,.nil,ZG _ rfl⟩
 generalize hs3:({s2 with heap:=s2.heap.push {cls:= .type "list",dict:=none,data:= .seq ([]:List Value).toArray}}:Shared)=s3 at I3;have hs3':s3.heap=s2.heap.push {cls:= .type "list",dict:=none,data:= .seq ([]:List Value).toArray}:=by rw[← hs3]
 have sz3:s3.heap.objs.size=s2.heap.objs.size+1:=by rw[hs3',Zax]
 have old3:∀b o,s2.heap.get? b=some o->s3.heap.get? b=some o:=λb o e=>by rw[hs3'];exact Zq _ e
 have f3:∀b∈fp,Qd3 X pins (upd H2 s2.heap.objs.size (.lst [])) b:=λb hb=>⟨by rw[QM (ZK (fpl b hb))];exact(f2 b hb).1,(f2 b hb).2⟩;have fpl3:∀b∈fp,b<s3.heap.objs.size:=λb hb=>by rw[sz3];exact ZaK (fpl b hb)
 refine Qrt (λh4 hns4' keep4 hown4=>?_);have I4:=QvD (tk:=s3.toks) S I3 f3 fpl3 hc1 hc2 cap hns4' keep4 hown4;have hout:∀H' s',Inv (cxc X N' scope (cellsFrom (s3.heap.objs.size+1) scope.names cl) s3.heap.objs.size fp s3 (upd H2 s2.heap.objs.size (.lst []))) [] Uc H' s'->Inv X pins U H' s':=λH' s' J'=>
  I3.QqG J'.os J'.base J'.hok J'.bare λb hb=>⟨(f3 b hb).2.2.2.1,(f3 b hb).2.1,(f3 b hb).2.2.2.2.1,(f3 b hb).2.2.2.2.2⟩
 obtain⟨hg,ht,he⟩:=hin (cellsFrom (s3.heap.objs.size+1) scope.names cl) s3.heap.objs.size fp s3 (upd H2 s2.heap.objs.size (.lst []));have fc:∀b∈fp,Qd3 (cxc X N' scope (cellsFrom (s3.heap.objs.size+1) scope.names cl) s3.heap.objs.size fp s3 (upd H2 s2.heap.objs.size (.lst []))) [] (upd H2 s2.heap.objs.size (.lst [])) b:=λb hb=>
  ⟨(f3 b hb).1,ZK (fpl3 b hb),λhs'=>(Zn.mp (I3.QeS b hs')).elim (f3 b hb).2.1 (f3 b hb).2.2.1,.inl hb,λx c e=>(by
   rcases QgI scope.names _ cl x c e with e | ⟨e,_⟩
   .exact(f3 b hb).2.2.2.2.1 x c (hc1 x c e)
   .intro z;rw[z]at e;exact absurd (Zx (fpl3 b hb) (ZL (ZaD _) e)) (ZU _)),λp hp=>absurd (show p∈([]:List (Addr×Obj))from hp) ⋯⟩
 have hC1:s3.heap.objs.size≠X.env.locals:=Ne.symm (ZK I3.lt);refine QuU (W:=W) hcalm T hg ht he I4 (T.keep _ _ _ st2 λb hb o e=>keep4 b o (old3 b o e)) fc hW0 turn λH' s' J' q=>?_;have O:=hout H' s' J';refine fin _ _ H' s' O J'.free hC1 (ZL I3.sz (Zk _)) (λx c e z=>?_) (λp hp z=>?_) (let ⟨m,hn,_⟩:=J'.loc;⟨m,hn⟩) q
 .obtain⟨v,o,ho,_⟩:=I3.cell x c e;exact absurd (Zt ho) (by rw[z];exact ZU _)
 .exact absurd (Zt (I3.pin p hp).1) (by rw[z];exact ZU _)
def Inv.Qv4(I:Inv X pins U H s)(hs:Heap.SameBut C s.heap h')(hn:H C=none)(hL:C≠X.env.locals)(h1:X.s₀.heap.objs.size<=C)
  (h2:∀x c,X.env.cells.lookup x=some c->c≠C) (h3:∀p∈X.pn++pins,p.1≠C):Inv X pins U H {s with heap:=h'}:=
 I.turned (t':=s.toks) (λb o hb e=>(hs.2 b hb).trans e) hn hL (.inr h1) h2 h3
def Qp2(hcalm:X.calm=true)(S:Qe2 X N' scope)(hi:PI X tg iter wi)
  (hin:∀cl C fp s3 H3,PG (cxc X N' scope cl C fp s3 H3) tg g/\PTs (cxc X N' scope cl C fp s3 H3) ifs tc/\PE (cxc X N' scope cl C fp s3 H3) elt te)
  (hs:∀x,foldedSetIterable iter X.env x=pure x:=by intro _;rfl):PE X (.ListComp elt [⟨tg,iter,ifs,0⟩] scope pos) (Qnb wi (QkV X N' scope) g tc te):=by
 intro pins s U H Q I h;rw[eval_ListComp];refine QnO hcalm S hi hin hs I h λD C H' s' O h1 h2 h3 h4 h5 Z q=>?_;obtain⟨m,hm⟩:=Z;exact⟨m,hm,λh' hs'=>⟨.ref D,H',O.Qv4 hs' h1 h2 h3 h4 h5,rfl,q⟩⟩
def QxO(hN:X.N.Nodup)(hx1:X.N[i]? =some x)(hx:Loc X.env.scope x)(hf:X.fn x=true∨X.env.scope.names.lookup x=some .local)(hcalm:X.calm=true)(S:Qe2 X N' scope)(hi:PI X tg iter wi)
  (hin:∀cl C fp s3 H3,PG (cxc X N' scope cl C fp s3 H3) tg g/\PTs (cxc X N' scope cl C fp s3 H3) ifs tc/\PE (cxc X N' scope cl C fp s3 H3) elt te)
  (hs:∀x,foldedSetIterable iter X.env x=pure x:=by intro _;rfl):
  PS X (.Assign [.Name x pos'] (.ListComp elt [⟨tg,iter,ifs,0⟩] scope pos) spos) (QoW (Qnb wi (QkV X N' scope) g tc te) (Qjg i)):=by
 have hb:∃b,swapsWith (.ListComp elt [⟨tg,iter,ifs,0⟩] scope pos) (some (.Name x pos')) spos.line X.env=pure b:=⟨_,rfl⟩;obtain⟨b,hb⟩:=hb;cases b with
 | false=>exact QeR hN hx1 hx (Qp2 hcalm S hi hin hs) hb hf
 | true=>
  intro pins s U H D I h;rw[exec_Assign_Name_used _ _ _ _ hb];refine wpAny_bind (wpAny_standAt (wpAny_bind ?_));show wpAny _ X.A (do let _ ← comprehension (.ListComp elt [⟨tg,iter,ifs,0⟩] scope pos) scope X.env _ (newList []) false (eval iter X.env) (some (assign (.Name x pos') X.env))) _ _ s;refine wpAny_bind (thn (QnO hcalm S hi hin hs I h λDl C H' s' O h1 h2 h3 h4 h5 ⟨m,hm⟩ q=>?_) λ_ s' hq=>wpAny_pure (wpAny_pure hq));refine wpAny_assign_Name (QmS O hN hx1 hx (v:= .ref Dl) rfl (λs2 I2 hsb=>?_) hf);obtain⟨a,sb,ha⟩:=hsb;have haC:C≠a:=by
   rcases ha with rfl | ha
   .exact h2
   .exact Ne.symm (h4 _ _ ha)
  exact⟨m,hm.sameBut sb haC,λh' hs'=>⟨_,H',I2.Qv4 hs' h1 h2 h3 h4 h5,q⟩⟩
end
section
def Inv.Qv2{t':Nat}{ch:LAd}{T:Addr}{ts:List V}(I:Inv X pins U H s)(hf:∀b∈ch,Qd3 X pins H b)(k:∀b o,b∉ch->s.heap.get? b=some o->h'.get? b=some o)(hp:∀b∈ch,∃o,h'.get? b=some o)
  (hT:s.heap.objs.size<=T) (hnew:ts.length<=sizeLine/\∃its:List Value,QB ts its/\IsTup h' T its.toArray):Inv X pins U (upd H T (.tup ts)) {s with heap:=h',toks:=t'}:=by
 have hn:H T=none:=I.hok.fresh hT;have neT:∀b u,H b=some u->b≠T:=λb u e=>Qb8 e hn;have nch:∀b u,H b=some u->b∉ch:=λb u e hb=>by rw[(hf b hb).1]at e;cases e
 have ltT:∀b o,s.heap.get? b=some o->b≠T:=λb o e=>ZK (Zx (Zt e) hT)
 refine I.step (g':=s.gens) (d':=s.drawn) (ch:=ch) (λb hb=>?_) (λb o _ _ hc e _=>k b o hc e) (λb o _ _ hc e _=>⟨o.slots,k b o hc e⟩) (λb o _ e n=>by rw[QM (ltT b o e)];exact n)
  (λb o hc e=>⟨o,k b o hc e⟩) (λb xs e=>by rw[QM (neT b _ e)];exact e) (λb o u e=>by rw[QM (neT b _ e)];exact e) (λb ps e=>⟨#[],by rw[QM (neT b _ e),e];simp⟩) (λm hm=>?_) (λb u e=>?_) I.bare
 .obtain⟨f0,f1,f2,f3,f4,f5⟩:=hf b hb;exact⟨f3,f1,f4,f5⟩
 .obtain⟨o,es,ep,ho,r⟩:=hm;exact⟨o,es,ep,k _ o (λz=>(hf _ z).2.1 rfl) ho,r⟩
 .by_cases hb:b=T
  .subst hb;rw[Qat]at e;cases e;exact hnew
  .rw[QM hb]at e;refine(I.hok b u e).Qgj (λc v hc q=>k c v ?_ q) (λc q=>by rw[QM (neT c _ q)];exact q) λc xs q=>by rw[QM (neT c _ q)];exact q
   rcases hc with z | z
   .rw[z];exact nch b u e
   .exact nch c _ z
def Inv.turns{t':Nat}{ch:LAd}(I:Inv X pins U H s)(hf:∀b∈ch,Qd3 X pins H b)(k:∀b o,b∉ch->s.heap.get? b=some o->h'.get? b=some o):Inv X pins U H {s with heap:=h',toks:=t'}:=by
 have nch:∀b u,H b=some u->b∉ch:=λb u e hb=>by rw[(hf b hb).1]at e;cases e
 refine I.step (g':=s.gens) (d':=s.drawn) (ch:=ch) (λb hb=>?_) (λb o _ _ hc e _=>k b o hc e) (λb o _ _ hc e _=>⟨o.slots,k b o hc e⟩) (λb o _ e n=>n)
  (λb o hc e=>⟨o,k b o hc e⟩) (λb xs e=>e) (λb o u e=>e) (λb ps e=>⟨#[],by rw[e];simp⟩) (λm hm=>?_) (λb u e=>?_) I.bare
 .obtain⟨f0,f1,f2,f3,f4,f5⟩:=hf b hb;exact⟨f3,f1,f4,f5⟩
 .obtain⟨o,es,ep,ho,r⟩:=hm;exact⟨o,es,ep,k _ o (λz=>(hf _ z).2.1 rfl) ho,r⟩
 .refine(I.hok b u e).Qgj (λc v hc q=>k c v ?_ q) (λc q=>q) λc xs q=>q;rcases hc with z | z
  .rw[z];exact nch b u e
  .exact nch c _ z
end
noncomputable def Ite(K:Fgg)(a:Addr):It:=
 ⟨λi H=>∃xs x,SqL K H a xs/\xs[i]? =some x,λi H v H'=>∃p x,v= .ref p/\H p=none/\H'=upd H p (.tup [.int i,x])/\∀xs,SqL K H a xs->xs[i]? =some x,λi H=>∃xs,SqL K H a xs/\xs.length<=i⟩
def mm0{a:Addr}{l:LAd}:a∈a::l:= .head _
def mm1{a b:Addr}{l:LAd}:a∈b::a::l:= .tail _ mm0
def mm2{a b c:Addr}{l:LAd}:a∈b::c::a::l:= .tail _ mm1
def mm3{a b c d:Addr}{l:LAd}:a∈b::c::d::a::l:= .tail _ mm2
def mm4{a b c d e:Addr}{l:LAd}:a∈b::c::d::e::a::l:= .tail _ mm3
def nmm{a b:Addr}{l:LAd}(hb:b∉l)(ha:a∈l):b≠a:=λe=>hb (e▸ha)
def fa1{p:Addr->Prop}{a:Addr}{l:LAd}(h:p a)(t:∀x∈l,p x):∀x∈a::l,p x:=List.forall_mem_cons.2 ⟨h,t⟩
def NL(h:Heap)(b:Addr):Prop:=∃o,h.get? b=some o/\o.cls≠ .type "list" /\∀v,o.data≠ .cell v
def NL.it{h:Heap}(q:h.IsListIter b l k):NL h b:=by
 obtain⟨o,ho,hc,hd⟩:=q;exact⟨o,ho,by rw[hc];simp,λv z=>by rw[hd]at z;cases z⟩
def NL.zip(hz:IsZip h z T1 T2 x):NL h z:=⟨_,hz,⋯,λv z=>by cases z⟩
def NL.tup{h:Heap}(q:h.get? b=some {cls:= .type "tuple",data:= .seq a}):NL h b:=⟨_,q,⋯,λv z=>by cases z⟩
def NL.obj(n:NL h b):∃o,h.get? b=some o/\∀v,o.data≠ .cell v:=let ⟨o,e,_,v⟩:=n;⟨o,e,v⟩
def NL.ex(n:NL h b):∃o,h.get? b=some o:=let ⟨o,e,_⟩:=n;⟨o,e⟩
def NL.lt(n:NL h b):b<h.objs.size:=let ⟨_,e⟩:=n.ex;Zt e
def NL.apart{X:Cx}{H:Hp}{s:Shared}(n:NL s.heap b)(I:Inv X pins U H s)(hn:H b=none)(hq:SqL X.K H l ys):l≠b:=λe=>by
 subst e;rcases hq with(hq | ⟨_,hq⟩) | ⟨o',its,k,hk,hc',_⟩
 .rw[hn]at hq;cases hq
 .rw[hn]at hq;cases hq
 .obtain⟨o,ho,hc,_⟩:=n;rw[I.kIn l o' hk]at ho;exact hc (Option.some.inj ho▸hc')
def Qth{P:Program}{w:World}{K:Fgg}{es:List Expr}{tk:Nat}{tpos:Pos}(a e it:Addr)(hne:e≠it):Turn P w K (.Tuple es tk tpos) (Ite K a) [e,it] e (λi h=>∃old,IsEnum h e it (i:Int) old/\h.IsListIter it a i) where
 mem:=mm0
 obj:=λi h st b hb=>by
  obtain⟨old,he,hi⟩:=st;exact(fa1 (p:=NL h) ⟨_,he,⋯,λv z=>by cases z⟩ (fa1 (.it hi) (List.forall_mem_nil _)) b hb).obj
 keep:=λi h h' st k=>by
  obtain⟨old,he,hi⟩:=st;exact⟨old,k e mm0 _ he,hi.at (k it mm1)⟩
 item:=by
  intro X hP hw hK hc i pins s U H E I hf st hg;subst hP hw hK;obtain⟨old,he,hi⟩:=st;obtain⟨xs,x,hq,hx⟩:=hg;obtain⟨its,rv,p,hz⟩:=I.list hq;obtain⟨u,hu,ru⟩:=rv.get hx;refine wpAny_pyNext_enum_item he hi p.isList (x:=u) (by simpa using hu) hne λh1 heo hi1 ht1 hz1 hk1=>?_;refine⟨.ref s.heap.objs.size,rfl,wpAny_letOwnedTupleGo_enum heo λh2 he2 hs2=>?_⟩
  replace hs2:Heap.SameBut e h1 h2:=hs2
  have helt:e<s.heap.objs.size:=Zt he;have hilt:it<s.heap.objs.size:=by obtain⟨o,ho,_⟩:=hi;exact Zt ho
  have ht2:IsTup h2 s.heap.objs.size [Value.int i s.toks,u].toArray:=⟨_,(hs2.2 _ (Nat.ne_of_gt helt)).trans ht1,rfl,_,rfl⟩;have hi2:h2.IsListIter it a (i+1):=hi1.extBut hs2.extBut (Ne.symm hne);have kk:∀b o,b∉[e,it]->s.heap.get? b=some o->h2.get? b=some o:=λb o hb q=>by
   have h1:b≠e:=λz=>hb (by simp[z]);have h2:b≠it:=λz=>hb (by simp[z]);exact hs2.extBut b o h1 (hk1 b o h1 h2 q)
  refine⟨.ref s.heap.objs.size,upd H s.heap.objs.size (.tup [.int i,x]),I.Qv2 (t':=s.toks+1) hf kk (λb hb=>?_) (Zk _) ⟨by show 2<=sizeLine;decide,_,.cons ⟨_,rfl⟩ (.cons ru .nil),ht2⟩,rfl,
   ⟨_,x,rfl,I.hok.fresh (Zk _),rfl,λys hy=>by rw[I.QhB hy hq];exact hx⟩,⟨u,?_,hi2⟩,λb hb=>?_⟩
  .have hb:b=e∨b=it:=by simpa using hb
   rcases hb with rfl | rfl
   .exact⟨_,he2⟩
   .obtain⟨o,ho,_⟩:=hi2;exact⟨o,ho⟩
  .have:((i+1:Nat):Int)=(i:Int)+1:=by push_cast;rfl
   rw[this];exact he2
  .have hb':b=e∨b=it:=by simpa using hb
   have:b≠s.heap.objs.size:=by
    rcases hb' with rfl | rfl
    .exact ZK helt
    .exact ZK hilt
   rw[QM this];exact(hf b hb).1
 done:=by
  intro X hP hw hK hc i pins s U H E I hf st hg;subst hP hw hK;obtain⟨old,he,hi⟩:=st;obtain⟨xs,hq,hx⟩:=hg;obtain⟨its,rv,p,hz⟩:=I.list hq;have hl:=rv.length;refine wpAny_pyNext_enum_end (I.ok.hd hc) he hi p.isList (by simp;omega) λh1 eb=>⟨rfl,?_⟩;exact I.turns (t':=s.toks) hf λb o hb q=>eb b o (λz=>hb (by simp[z])) q
 self:=λ_ _ _ _ _ st h=>by
  obtain⟨old,he,hi⟩:=st;exact wpAny_pyIter_enum he h
section
noncomputable def QBd(K:Fgg)(ta:TA):TI:=λU H R=>ta U H λvs H1=>∃a,vs=[.ref a]/\(∃xs,SqL K H1 a xs)/\R (Ite K a) H1
def QxY{a:Expr}{ta:TA}{p pos:Pos}{es:List Expr}{tk:Nat}{tpos:Pos}(hg:Gl X "enumerate")(hm:X.mg "enumerate" =none)(ha:PA X [a] ta)(hs:starEach [a] X.env=[(false,eval a X.env)]):
  PI X (.Tuple es tk tpos) (.Call (.Name "enumerate" p) [a] [] pos) (QBd X.K ta):=by
 intro pins s U H R I h;refine Call_ (Qe1 I hg hm PyProof.Rows.boot_enumerate (Zas (thn (ha pos pins s U H _ I h) λus s1 ⟨vs,H1,I1,r1,q1⟩=>?_) hs rfl));obtain⟨l,e,⟨xs,hq⟩,q⟩:=q1;subst e;obtain⟨u,rfl,ru⟩:=vals1 r1;cases ru;obtain⟨its,rv,pl,hz⟩:=I1.list hq;refine call_enumerate_list pl.isList λh2 he2 hi2 hz2 hk2=>?_;have I2:Inv X pins U H1 {s1 with heap:=h2}:=I1.kept (t':=s1.toks) hk2;refine wpAny_pyIter_enum he2 ⟨_,[s1.heap.objs.size+1,s1.heap.objs.size],_,_,H1,rfl,I2,Qth l _ _ (Nat.succ_ne_self _),⟨_,he2,hi2⟩,λb hb=>?_,q⟩;have hb:b=s1.heap.objs.size+1∨b=s1.heap.objs.size:=by simpa using hb
 have hle:s1.heap.objs.size<=b:=by rcases hb with rfl | rfl<;>omega
 exact I1.QlZ hle (I1.hok.fresh hle)
end
noncomputable def Itz(K:Fgg)(a b:Addr):It:=
 ⟨λi H=>∃xs ys x y,SqL K H a xs/\SqL K H b ys/\xs[i]? =some x/\ys[i]? =some y,λi H v H'=>∃p x y,v= .ref p/\H p=none/\H'=upd H p (.tup [x,y])/\(∀xs,SqL K H a xs->xs[i]? =some x)/\∀ys,SqL K H b ys->ys[i]? =some y,
  λi H=>∃xs ys,SqL K H a xs/\SqL K H b ys/\(xs.length<=i∨ys.length<=i)⟩
structure Qqn (z TI TO i1 i2:Addr):Prop where
 a:TI≠z
 b:TO≠z
 c:i1≠z
 d:i2≠z
 e:TI≠TO
 f:TI≠i1
 g:TI≠i2
 h:TO≠i1
 i:TO≠i2
 j:i1≠i2
def Qlj{h:Heap}(hz:IsZip h z T1 T2 x)(hA:IsPair h T1 a b)(hB:IsPair h T2 c d)(h1:h.IsListIter i1 l1 k)(h2:h.IsListIter i2 l2 k):∀b∈[z,T1,T2,i1,i2],NL h b:=
 fa1 (.zip hz) (fa1 (.tup hA) (fa1 (.tup hB) (fa1 (.it h1) (fa1 (.it h2) λ_ h=>nomatch h))))
def Qr1{X:Cx}{s:Shared}(D:Qqn z T1 T2 i1 i2)(I:Inv X pins U H s)(hf:∀b∈[z,T1,T2,i1,i2],Qd3 X pins H b)(O:∀b∈[z,T1,T2,i1,i2],NL s.heap b)(hq1:SqL X.K H l1 xs)(hq2:SqL X.K H l2 ys):ZipApart z T1 T2 i1 i2 l1 l2:=by
 have A1:=λb hb=>(O b hb).apart I (hf b hb).1 hq1;have A2:=λb hb=>(O b hb).apart I (hf b hb).1 hq2;exact⟨D.a,D.b,D.c,D.d,D.e,D.f,D.g,D.h,D.i,D.j,A1 z mm0,A1 T2 mm2,A1 i1 mm3,A1 i2 mm4,A2 z mm0,A2 T2 mm2,A2 i1 mm3,A2 i2 mm4⟩
def Qug{P:Program}{w:World}{K:Fgg}{es:List Expr}{tk:Nat}{tpos:Pos}(l1 l2 z TI TO i1 i2:Addr)(D:Qqn z TI TO i1 i2):
  Turn P w K (.Tuple es tk tpos) (Itz K l1 l2) [z,TI,TO,i1,i2] z (λi h=>IsZip h z TI TO .none/\IsPair h TI (.ref i1) (.ref i2)/\(∃a b,IsPair h TO a b)/\h.IsListIter i1 l1 i/\h.IsListIter i2 l2 i) where
 mem:=mm0
 obj:=λi h st b hb=>by
  obtain⟨hz,hTI,⟨p,q,hTO⟩,h1,h2⟩:=st;exact(Qlj hz hTI hTO h1 h2 b hb).obj
 keep:=λi h h' st k=>by
  obtain⟨hz,hTI,⟨p,q,hTO⟩,h1,h2⟩:=st;exact⟨k z mm0 _ hz,k TI mm1 _ hTI,⟨p,q,k TO mm2 _ hTO⟩,h1.at (k i1 mm3),h2.at (k i2 mm4)⟩
 item:=by
  intro X hP hw hK hc i pins s U H E I hf st hg;subst hP hw hK;obtain⟨hz,hTI,⟨a0,b0,hTO⟩,h1,h2⟩:=st;obtain⟨xs,ys,x,y,hq1,hq2,hx,hy⟩:=hg;obtain⟨its,rv,p,hzz⟩:=I.list hq1;obtain⟨its2,rv2,p2,hzz2⟩:=I.list hq2;obtain⟨u,hu,ru⟩:=rv.get hx;obtain⟨u2,hu2,ru2⟩:=rv2.get hy;have O:=Qlj hz hTI hTO h1 h2;refine wpAny_pyNext_zip_item (Qr1 D I hf O hq1 hq2) hz hTI hTO h1 h2 p.isList p2.isList (x:=u) (y:=u2) (by simpa using hu) (by simpa using hu2) λh3 z3 TO3 a3 b3 T3 sz3 k3=>?_;refine⟨.ref s.heap.objs.size,rfl,wpAny_letOwnedTupleGo_zip z3 λh4 z4 hs4=>?_⟩
  replace hs4:Heap.SameBut z h3 h4:=hs4
  have kk:∀b o,b∉[z,TI,TO,i1,i2]->s.heap.get? b=some o->h4.get? b=some o:=λb o hb q=>
   hs4.extBut b o (nmm hb mm0) (k3 b o (nmm hb mm0) (nmm hb mm2) (nmm hb mm3) (nmm hb mm4) q)
  have TI4:IsPair h4 TI (.ref i1) (.ref i2):=hs4.extBut _ _ D.a (k3 _ _ D.a D.e D.f D.g hTI);have TO4:IsPair h4 TO u u2:=hs4.extBut _ _ D.b TO3;have a4:h4.IsListIter i1 l1 (i+1):=a3.extBut hs4.extBut D.c;have b4:h4.IsListIter i2 l2 (i+1):=b3.extBut hs4.extBut D.d
  exact⟨.ref s.heap.objs.size,upd H s.heap.objs.size (.tup [x,y]),I.Qv2 (t':=s.toks) hf kk (λb hb=>(Qlj z4 TI4 TO4 a4 b4 b hb).ex) (Zk _) ⟨by show 2<=sizeLine;decide,_,.cons ru (.cons ru2 .nil),_,(hs4.2 _ (Nat.ne_of_gt (O z mm0).lt)).trans T3,rfl,_,rfl⟩,rfl,
   ⟨_,x,y,rfl,I.hok.fresh (Zk _),rfl,λzs hy'=>by rw[I.QhB hy' hq1];exact hx,λzs hy'=>by rw[I.QhB hy' hq2];exact hy⟩,⟨z4,TI4,⟨_,_,TO4⟩,a4,b4⟩,λb hb=>by rw[QM (ZK (O b hb).lt)];exact(hf b hb).1⟩
 done:=by
  intro X hP hw hK hc i pins s U H E I hf st hg;subst hP hw hK;obtain⟨hz,hTI,⟨a0,b0,hTO⟩,h1,h2⟩:=st;obtain⟨xs,ys,hq1,hq2,hx⟩:=hg;obtain⟨its,rv,p,hzz⟩:=I.list hq1;obtain⟨its2,rv2,p2,hzz2⟩:=I.list hq2;have hl:=rv.length;have hl2:=rv2.length;refine wpAny_pyNext_zip_end (I.ok.hd hc) (Qr1 D I hf (Qlj hz hTI hTO h1 h2) hq1 hq2) hz hTI hTO h1 h2 p.isList p2.isList (by rcases hx with hx | hx;(left;simp;omega);(right;simp;omega)) λh3 k3=>⟨rfl,?_⟩;exact I.turns (t':=s.toks) hf λb o hb q=>k3 b o (nmm hb mm0) (nmm hb mm2) (nmm hb mm3) (nmm hb mm4) q
 self:=λ_ _ _ _ _ st h=>wpAny_pyIter_zip st.1 h
section
noncomputable def QBY(K:Fgg)(ta:TA):TI:=λU H R=>ta U H λvs H1=>∃a b,vs=[.ref a,.ref b]/\(∃xs,SqL K H1 a xs)/\(∃ys,SqL K H1 b ys)/\R (Itz K a b) H1
def Qz6{a b:Expr}{ta:TA}{p pos:Pos}{es:List Expr}{tk:Nat}{tpos:Pos}(hg:Gl X "zip")(hm:X.mg "zip" =none)(ha:PA X [a,b] ta)(hs:starEach [a,b] X.env=[(false,eval a X.env),(false,eval b X.env)])(hs2:starEach [b] X.env=[(false,eval b X.env)]):
  PI X (.Tuple es tk tpos) (.Call (.Name "zip" p) [a,b] [] pos) (QBY X.K ta):=by
 intro pins s U H R I h;refine Call_ (Qe1 I hg hm PyProof.Rows.boot_zip (Zas (thn (ha pos pins s U H _ I h) λus s1 ⟨vs,H1,I1,r1,q1⟩=>?_) (by rw[hs,hs2]) (by rw[hs2];rfl)));obtain⟨l,l2,e,⟨xs,hq⟩,⟨ys,hq2⟩,q⟩:=q1;subst e;obtain⟨u,u2,rfl,ru,ru2⟩:=vals2 r1;cases ru;cases ru2;obtain⟨its,rv,pl,hz⟩:=I1.list hq;obtain⟨its2,rv2,pl2,hz2⟩:=I1.list hq2;refine call_zip_2 pl.isList pl2.isList λh2 hz hTI hTO h1 h2' hsz hk2=>?_;have I2:Inv X pins U H1 {s1 with heap:=h2}:=I1.kept (t':=s1.toks) hk2;refine wpAny_pyIter_zip hz ⟨_,[s1.heap.objs.size+4,s1.heap.objs.size+2,s1.heap.objs.size+3,s1.heap.objs.size,s1.heap.objs.size+1],_,_,H1,rfl,I2,Qug l l2 _ _ _ _ _ ⟨?_,?_,?_,?_,?_,?_,?_,?_,?_,?_⟩,⟨hz,hTI,⟨_,_,hTO⟩,h1,h2'⟩,λb hb=>?_,q⟩
 iterate 10 (exact(by intro e;first | (have e':(s1.heap.objs.size:Nat)+_=_:=e;omega) | (have e':(s1.heap.objs.size:Nat)=_:=e;omega)))
 have hle:s1.heap.objs.size<=b:=by
  simp only[Zn,List.not_mem_nil,or_false]at hb;rcases hb with rfl | rfl | rfl | rfl | rfl<;>first | exact Zk _ | exact Nat.le_add_right _ _
 exact I1.QlZ hle (I1.hok.fresh hle)
end
end L2
namespace L2
open PySem PySem.Spec
section
variable {prog:Program}{w:World}{A:Around}{E:Value->Shared->Prop}{s:Shared}
end
section
variable {prog:Program}{w:World}{A:Around}{E:Value->Shared->Prop}{s:Shared}
end
open PyProof.Rows
section
end
end L2
namespace HS
open PySem PySem.Spec PyProof.Rows L2
inductive Ob where
 | ins (x:Str) (ns:List Str) | pin (a:Addr) | pair
noncomputable def Ob.n:Ob->Nat
 | .ins _ _=>1
 | .pin _=>0
 | .pair=>0
inductive D where
 | non | bl (b:Bool) | int (i:Int) | str (x:Str) | tup (xs:List D) | lst (xs:List D) | exc (x:Str) | dk (ks:List (List Int))
 | obj (o:Ob) (xs:List D)
mutual
noncomputable def D.flat:D->Bool
 | .lst _=>false
 | .tup xs=>Qak xs
 | .non=>true
 | .bl _=>true
 | .int _=>true
 | .str _=>true
 | .exc _=>true
 | .dk _=>false
 | .obj _ _=>false
noncomputable def Qak:List D->Bool
 | []=>true
 | d::ds=>d.flat && Qak ds
end
mutual
noncomputable def D.nl:D->Nat
 | .lst xs=>nls xs+1
 | .tup xs=>nls xs
 | .non=>0
 | .bl _=>0
 | .int _=>0
 | .str _=>0
 | .exc _=>0
 | .dk _=>1
 | .obj o xs=>nls xs+o.n
noncomputable def nls:List D->Nat
 | []=>0
 | d::ds=>d.nl+nls ds
end
mutual
def Qc9:∀(d:D),d.flat=true->d.nl=0
 | .non,_=>rfl
 | .bl _,_=>rfl
 | .int _,_=>rfl
 | .str _,_=>rfl
 | .exc _,_=>rfl
 | .dk _,h=>by simp[D.flat]at h
 | .obj _ _,h=>by simp[D.flat]at h
 | .tup xs,h=>by simp only[D.nl];simp only[D.flat]at h;exact Qhe xs h
 | .lst xs,h=>by simp[D.flat]at h
def Qhe:∀(ds:List D),Qak ds=true->nls ds=0
 | [],_=>rfl
 | d::ds,h=>by simp only[Qak,Zi]at h;simp only[nls,Qc9 d h.1,Qhe ds h.2]
end
def Fix(K:Fgg)(H:Hp)(a:Addr)(vs:List V):Prop:=
 (∃o,H a=some (.frz o (.lst vs)))∨
  ∃(its:List Value) (n:Nat),K.lookup a=some {cls:= .type "list",data:= .seq its.toArray n}/\vs.length<=sizeLine/\QB vs its
def QdK(a C:Addr)(h:Heap):Prop:=∃o vs,h.get? a=some o/\o.cls= .ref C/\o.data= .fields vs
def ExcAt(K:Fgg)(H:Hp)(a:Addr)(x:Str):Prop:=∃C,PySem.W.nsIn K mainGlobals x=some (some (.ref C))/\H a=some (.ext (QdK a C))
def Qq2{K:Fgg}{H H':Hp}{a:Addr}{x:Str}(s:QE H H')(h:ExcAt K H a x):ExcAt K H' a x:=by
 obtain⟨C,h1,h2⟩:=h;exact⟨C,h1,s _ _ h2⟩
def Qr2{K:Fgg}{H:Hp}{a p:Addr}{x:Str}{zs ys:List V}(hp:H p=some (.lst zs))(h:ExcAt K H a x):ExcAt K (upd H p (.lst ys)) a x:=by
 obtain⟨C,h1,h2⟩:=h;exact⟨C,h1,by rw[QM (Qnq h2 hp (by intro z;cases z))];exact h2⟩
noncomputable def dkC(ks:List (List Int)):List (List Key×V):=ks.map λk=>(k.map Sum.inl,V.bl true)
def QcT(K:Fgg)(H:Hp)(v:V)(vs:List V)(A:LAd):Ob->Prop
 | .ins x ns=>∃a C dx,v= .ref a/\A=[a]/\PySem.W.nsIn K mainGlobals x=some (some (.ref C))/\H a=some (.ins C dx (ns.zip vs))/\ns.length=vs.length
 | .pin a=>v= .ref a/\vs=[v]/\A=[]
 | .pair=>A=[]/\v≠ .non/\∃u,vs=[v,u]
def QcT.same{K:Fgg}{H H':Hp}{v:V}{vs:List V}{A:LAd}(s:QE H H'):∀{o:Ob},QcT K H v vs A o->QcT K H' v vs A o
 | .ins _ _,⟨a,C,dx,e1,e2,e3,e4,e5⟩=>⟨a,C,dx,e1,e2,e3,s _ _ e4,e5⟩
 | .pin _,h=>h
 | .pair,h=>h
def QcT.upd{K:Fgg}{H:Hp}{v:V}{vs:List V}{A:LAd}{p:Addr}{u:HO}(hn:p∉A):∀{o:Ob},QcT K H v vs A o->QcT K (upd H p u) v vs A o
 | .ins _ _,⟨a,C,dx,e1,e2,e3,e4,e5⟩=>⟨a,C,dx,e1,e2,e3,by rw[QM (λz=>hn (by rw[e2,← z];exact List.mem_singleton_self a))];exact e4,e5⟩
 | .pin _,h=>h
 | .pair,h=>h
def QcT.mem{K:Fgg}{H:Hp}{v:V}{vs:List V}{A:LAd}:∀{o:Ob},QcT K H v vs A o->∀a∈A,∃u,H a=some u
 | .ins _ _,⟨a,C,dx,e1,e2,e3,e4,e5⟩,b,hb=>by rw[e2]at hb;rw[Zl.mp hb];exact⟨_,e4⟩
 | .pin _,⟨_,_,e⟩,b,hb=>by rw[e]at hb;simp at hb
 | .pair,⟨e,_⟩,b,hb=>by rw[e]at hb;simp at hb
def QcT.len{K:Fgg}{H:Hp}{v:V}{vs:List V}{A:LAd}:∀{o:Ob},QcT K H v vs A o->A.length=o.n
 | .ins _ _,⟨a,C,dx,e1,e2,e3,e4,e5⟩=>by rw[e2];rfl
 | .pin _,⟨_,_,e⟩=>by rw[e];rfl
 | .pair,⟨e,_⟩=>by rw[e];rfl
def QcT.ne{K:Fgg}{H:Hp}{v:V}{vs:List V}{A:LAd}:∀{o:Ob},QcT K H v vs A o->v≠ .non
 | .ins _ _,⟨a,C,dx,e1,_⟩=>by rw[e1];exact V.noConfusion
 | .pin _,⟨e,_,_⟩=>by rw[e];exact V.noConfusion
 | .pair,⟨_,h,_⟩=>h
mutual
def Rp(K:Fgg)(H:Hp):D->V->List Addr->Prop
 | .non,v,F=>v= .non/\F=[]
 | .bl b,v,F=>v= .bl b/\F=[]
 | .int i,v,F=>v= .int i/\F=[]
 | .str x,v,F=>v= .str x/\F=[]
 | .exc x,v,F=>(∃a,v= .ref a/\ExcAt K H a x)/\F=[]
 | .dk ks,v,F=>∃a,v= .ref a/\F=[a]/\H a=some (.dT (dkC ks))
 | .obj o ds,v,F=>∃vs A G,F=A++G/\QcT K H v vs A o/\Rps K H ds vs G
 | .tup ds,v,F=>∃a vs,v= .ref a/\SqT K H a vs/\Rps K H ds vs F
 | .lst ds,v,F=>ds.length<=sizeLine/\∃a vs,v= .ref a/\((∃G,F=a::G/\H a=some (.lst vs)/\Rps K H ds vs G)∨(Fix K H a vs/\Rps K H ds vs F))
def Rps(K:Fgg)(H:Hp):List D->List V->List Addr->Prop
 | [],vs,F=>vs=[]/\F=[]
 | d::ds,vs,F=>∃v ws F1 F2,vs=v::ws/\F=F1++F2/\Rp K H d v F1/\Rps K H ds ws F2
end
def Qop{K:Fgg}{H H':Hp}{a:Addr}{vs:List V}(s:QE H H')(h:SqT K H a vs):SqT K H' a vs:=by
 rcases h with(h | ⟨o,h⟩) | h
 .exact .inl (.inl (s _ _ h))
 .exact .inl (.inr ⟨o,s _ _ h⟩)
 .exact .inr h
def Qo0{K:Fgg}{H H':Hp}{a:Addr}{vs:List V}(s:QE H H')(h:Fix K H a vs):Fix K H' a vs:=by
 rcases h with⟨o,h⟩ | h
 .exact .inl ⟨o,s _ _ h⟩
 .exact .inr h
def QpK{K:Fgg}{H:Hp}{a p:Addr}{vs zs ys:List V}(hp:H p=some (.lst zs))(h:SqT K H a vs):SqT K (upd H p (.lst ys)) a vs:=by
 rcases h with(h | ⟨o,h⟩) | h
 .exact .inl (.inl (by rw[QM (Qnq h hp (by intro z;cases z))];exact h))
 .exact .inl (.inr ⟨o,by rw[QM (Qnq h hp (by intro z;cases z))];exact h⟩)
 .exact .inr h
def QxP{K:Fgg}{H:Hp}{a p:Addr}{vs zs ys:List V}(hp:H p=some (.lst zs))(h:Fix K H a vs):Fix K (upd H p (.lst ys)) a vs:=by
 rcases h with⟨o,h⟩ | h
 .exact .inl ⟨o,by rw[QM (Qnq h hp (by intro z;cases z))];exact h⟩
 .exact .inr h
section
variable {K:Fgg}{H H':Hp}
mutual
def Rp.same(s:QE H H'):∀{d:D}{v:V}{F:LAd},Rp K H d v F->Rp K H' d v F
 | .exc _,_,_,h=>by
  simp only[Rp]at h ⊢;obtain⟨⟨a,e,q⟩,z⟩:=h;exact⟨⟨a,e,Qq2 s q⟩,z⟩
 | .dk _,_,_,h=>by
  simp only[Rp]at h ⊢;obtain⟨a,e,eF,q⟩:=h;exact⟨a,e,eF,s _ _ q⟩
 | .obj _ _,_,_,h=>by
  simp only[Rp]at h ⊢;obtain⟨vs,A,G,eF,q,r⟩:=h;exact⟨vs,A,G,eF,q.same s,Rps.same s r⟩
 | .non,_,_,h=>h
 | .bl _,_,_,h=>h
 | .int _,_,_,h=>h
 | .str _,_,_,h=>h
 | .tup ds,_,_,h=>by
  simp only[Rp]at h ⊢;obtain⟨a,vs,e,q,r⟩:=h;exact⟨a,vs,e,Qop s q,Rps.same s r⟩
 | .lst ds,_,_,h=>by
  simp only[Rp]at h ⊢;obtain⟨hz,a,vs,e,⟨G,eF,q,r⟩ | ⟨q,r⟩⟩:=h
  .exact⟨hz,a,vs,e,.inl ⟨G,eF,s _ _ q,Rps.same s r⟩⟩
  .exact⟨hz,a,vs,e,.inr ⟨Qo0 s q,Rps.same s r⟩⟩
def Rps.same(s:QE H H'):∀{ds:List D}{vs:List V}{F:LAd},Rps K H ds vs F->Rps K H' ds vs F
 | [],_,_,h=>h
 | d::ds,_,_,h=>by
  simp only[Rps]at h ⊢;obtain⟨v,ws,F1,F2,e,eF,r,q⟩:=h;exact⟨v,ws,F1,F2,e,eF,Rp.same s r,Rps.same s q⟩
end
mutual
def Rp.upd{p:Addr}{zs ys:List V}(hp:H p=some (.lst zs)):∀{d:D}{v:V}{F:LAd},Rp K H d v F->p∉F->Rp K (upd H p (.lst ys)) d v F
 | .exc _,_,_,h,_=>by
  simp only[Rp]at h ⊢;obtain⟨⟨a,e,q⟩,z⟩:=h;exact⟨⟨a,e,Qr2 hp q⟩,z⟩
 | .dk _,_,_,h,hn=>by
  simp only[Rp]at h ⊢;obtain⟨a,e,eF,q⟩:=h;subst eF;exact⟨a,e,rfl,by rw[QM (λz=>hn (by rw[z];exact Zf))];exact q⟩
 | .obj _ _,_,_,h,hn=>by
  simp only[Rp]at h ⊢;obtain⟨vs,A,G,eF,q,r⟩:=h;subst eF;exact⟨vs,A,G,rfl,q.upd λz=>hn (Ze _ z),Rps.upd hp r λz=>hn (Zd _ z)⟩
 | .non,_,_,h,_=>h
 | .bl _,_,_,h,_=>h
 | .int _,_,_,h,_=>h
 | .str _,_,_,h,_=>h
 | .tup ds,_,_,h,hn=>by
  simp only[Rp]at h ⊢;obtain⟨a,vs,e,q,r⟩:=h;exact⟨a,vs,e,QpK hp q,Rps.upd hp r hn⟩
 | .lst ds,_,_,h,hn=>by
  simp only[Rp]at h ⊢;obtain⟨hz,a,vs,e,⟨G,eF,q,r⟩ | ⟨q,r⟩⟩:=h
  .subst eF;have h1:a≠p:=λz=>hn (by rw[z];exact Zf);exact⟨hz,a,vs,e,.inl ⟨G,rfl,by rw[QM h1];exact q,Rps.upd hp r λz=>hn (Zc _ z)⟩⟩
  .exact⟨hz,a,vs,e,.inr ⟨QxP hp q,Rps.upd hp r hn⟩⟩
def Rps.upd{p:Addr}{zs ys:List V}(hp:H p=some (.lst zs)):∀{ds:List D}{vs:List V}{F:LAd},Rps K H ds vs F->p∉F->Rps K (upd H p (.lst ys)) ds vs F
 | [],_,_,h,_=>h
 | d::ds,_,_,h,hn=>by
  simp only[Rps]at h ⊢;obtain⟨v,ws,F1,F2,e,eF,r,q⟩:=h;subst eF;exact⟨v,ws,F1,F2,e,rfl,Rp.upd hp r λz=>hn (Ze _ z),Rps.upd hp q λz=>hn (Zd _ z)⟩
end
mutual
def Rp.mem:∀{d:D}{v:V}{F:LAd},Rp K H d v F->∀a∈F,∃u,H a=some u
 | .non,_,_,h,a,ha=>by simp only[Rp]at h;rw[h.2]at ha;simp at ha
 | .bl _,_,_,h,a,ha=>by simp only[Rp]at h;rw[h.2]at ha;simp at ha
 | .int _,_,_,h,a,ha=>by simp only[Rp]at h;rw[h.2]at ha;simp at ha
 | .str _,_,_,h,a,ha=>by simp only[Rp]at h;rw[h.2]at ha;simp at ha
 | .exc _,_,_,h,a,ha=>by simp only[Rp]at h;rw[h.2]at ha;simp at ha
 | .dk _,_,_,h,a,ha=>by simp only[Rp]at h;obtain⟨b,e,eF,q⟩:=h;subst eF;rw[Zl.mp ha];exact⟨_,q⟩
 | .obj _ _,_,_,h,a,ha=>by
  simp only[Rp]at h;obtain⟨vs,A,G,eF,q,r⟩:=h;subst eF;rcases Zr.mp ha with z | z
  .exact q.mem a z
  .exact Rps.mem r a z
 | .tup ds,_,_,h,a,ha=>by
  simp only[Rp]at h;obtain⟨_,vs,e,q,r⟩:=h;exact Rps.mem r a ha
 | .lst ds,_,_,h,a,ha=>by
  simp only[Rp]at h;obtain⟨_,b,vs,e,⟨G,eF,q,r⟩ | ⟨q,r⟩⟩:=h
  .subst eF;rcases Zn.mp ha with z | z
   .exact⟨_,by rw[z];exact q⟩
   .exact Rps.mem r a z
  .exact Rps.mem r a ha
def Rps.mem:∀{ds:List D}{vs:List V}{F:LAd},Rps K H ds vs F->∀a∈F,∃u,H a=some u
 | [],_,_,h,a,ha=>by simp only[Rps]at h;rw[h.2]at ha;simp at ha
 | d::ds,_,_,h,a,ha=>by
  simp only[Rps]at h;obtain⟨v,ws,F1,F2,e,eF,r,q⟩:=h;subst eF;rcases Zr.mp ha with z | z
  .exact Rp.mem r a z
  .exact Rps.mem q a z
end
mutual
def Rp.Qcm:∀{d:D}{v:V}{F:LAd},Rp K H d v F->d.flat=true->F=[]
 | .non,_,_,h,_=>by simp only[Rp]at h;exact h.2
 | .bl _,_,_,h,_=>by simp only[Rp]at h;exact h.2
 | .int _,_,_,h,_=>by simp only[Rp]at h;exact h.2
 | .str _,_,_,h,_=>by simp only[Rp]at h;exact h.2
 | .exc _,_,_,h,_=>by simp only[Rp]at h;exact h.2
 | .dk _,_,_,h,hf=>by simp[D.flat]at hf
 | .obj _ _,_,_,h,hf=>by simp[D.flat]at hf
 | .tup ds,_,_,h,hf=>by
  simp only[Rp]at h;simp only[D.flat]at hf;obtain⟨_,vs,e,q,r⟩:=h;exact Rps.Qcm r hf
 | .lst ds,_,_,h,hf=>by simp[D.flat]at hf
def Rps.Qcm:∀{ds:List D}{vs:List V}{F:LAd},Rps K H ds vs F->Qak ds=true->F=[]
 | [],_,_,h,_=>by simp only[Rps]at h;exact h.2
 | d::ds,_,_,h,hf=>by
  simp only[Rps]at h;simp only[Qak,Zi]at hf;obtain⟨v,ws,F1,F2,e,eF,r,q⟩:=h;rw[eF,Rp.Qcm r hf.1,Rps.Qcm q hf.2];rfl
end
mutual
def Rp.Qaw:∀{d:D}{v:V}{F:LAd},Rp K H d v F->F.length<=d.nl
 | .non,_,_,h=>by simp only[Rp]at h;rw[h.2];exact ZS _
 | .bl _,_,_,h=>by simp only[Rp]at h;rw[h.2];exact ZS _
 | .int _,_,_,h=>by simp only[Rp]at h;rw[h.2];exact ZS _
 | .str _,_,_,h=>by simp only[Rp]at h;rw[h.2];exact ZS _
 | .exc _,_,_,h=>by simp only[Rp]at h;rw[h.2];exact ZS _
 | .dk _,_,_,h=>by simp only[Rp]at h;obtain⟨b,e,eF,q⟩:=h;subst eF;exact Zk _
 | .obj _ _,_,_,h=>by
  simp only[Rp]at h;obtain⟨vs,A,G,eF,q,r⟩:=h;rw[eF,Zo,q.len];simp only[D.nl];have:=Rps.Qaw r;omega
 | .tup ds,_,_,h=>by
  simp only[Rp]at h;obtain⟨_,vs,e,q,r⟩:=h;simp only[D.nl];exact Rps.Qaw r
 | .lst ds,_,_,h=>by
  simp only[Rp]at h;simp only[D.nl];obtain⟨_,b,vs,e,⟨G,eF,q,r⟩ | ⟨q,r⟩⟩:=h
  .rw[eF,Zj];have:=Rps.Qaw r;omega
  .have:=Rps.Qaw r;omega
def Rps.Qaw:∀{ds:List D}{vs:List V}{F:LAd},Rps K H ds vs F->F.length<=nls ds
 | [],_,_,h=>by simp only[Rps]at h;rw[h.2];exact ZS _
 | d::ds,_,_,h=>by
  simp only[Rps]at h;obtain⟨v,ws,F1,F2,e,eF,r,q⟩:=h;simp only[nls];rw[eF,Zo];have:=Rp.Qaw r;have:=Rps.Qaw q;omega
end
def Rps.length:∀{ds:List D}{vs:List V}{F:LAd},Rps K H ds vs F->ds.length=vs.length
 | [],_,_,h=>by simp only[Rps]at h;rw[h.1];rfl
 | d::ds,_,_,h=>by
  simp only[Rps]at h;obtain⟨v,ws,F1,F2,e,eF,r,q⟩:=h;rw[e,Zj,Zj,Rps.length q]
def Rps.append:∀{ds es:List D}{vs ws:List V}{F G:LAd},Rps K H ds vs F->Rps K H es ws G->Rps K H (ds++es) (vs++ws) (F++G)
 | [],_,_,_,_,_,h,g=>by simp only[Rps]at h;rw[h.1,h.2];exact g
 | d::ds,_,_,_,_,_,h,g=>by
  simp only[Rps,ZbB]at h ⊢;obtain⟨v,ws,F1,F2,e,eF,r,q⟩:=h;subst e eF;exact⟨v,_,F1,_,rfl,by rw[Zau],r,Rps.append q g⟩
def Rps.get:∀{ds:List D}{vs:List V}{F:LAd}{i:Nat}{d:D},Rps K H ds vs F->ds[i]? =some d->∃v F1 G F2,vs[i]? =some v/\F=F1++(G++F2)/\Rp K H d v G/\(F.length=nls ds->G.length=d.nl)
 | [],_,_,_,_,_,e=>by simp at e
 | d::ds,_,_,0,_,h,e=>by
  simp only[Rps]at h;obtain⟨v,ws,F1,F2,e1,eF,r,q⟩:=h;simp at e;subst e e1 eF;refine⟨v,[],F1,F2,⋯,rfl,r,λhl=>?_⟩;simp only[nls,Zo]at hl;have:=Rp.Qaw r;have:=Rps.Qaw q;omega
 | d::ds,_,_,i+1,_,h,e=>by
  simp only[Rps]at h;obtain⟨v,ws,F1,F2,e1,eF,r,q⟩:=h;obtain⟨v',G1,G,G2,h1,h2,h3,h4⟩:=Rps.get q (by simpa using e);have l1:=Rp.Qaw r;have l2:=Rps.Qaw q;subst e1 eF;refine⟨v',F1++G1,G,G2,by simpa using h1,by rw[h2,Zau],h3,λhl=>h4 ?_⟩;simp only[nls,Zo]at hl;omega
def Fix.sq{K:Fgg}{H:Hp}{a:Addr}{vs:List V}(h:Fix K H a vs):SqL K H a vs:=by
 rcases h with⟨o,h⟩ | ⟨its,n,h,hz,r⟩
 .exact .inl (.inr ⟨o,h⟩)
 .exact .inr ⟨_,its.toArray,n,h,rfl,rfl,rfl,by rw[Zv,← r.length];exact hz,by simpa using r⟩
def _root_.L2.Inv.QlT(I:Inv X pins U H s)(h:H a=some (.lst vs)∨Fix X.K H a vs):
  vs.length<=sizeLine/\∃(its:List Value) (n:Nat),QB vs its/\vs.length=its.length/\s.heap.get? a=some {cls:= .type "list",data:= .seq its.toArray n}:=by
 rcases h with h | ⟨o,h⟩ | ⟨its,n,h,hz,r⟩
 .exact I.Qub h
 .obtain⟨e,hz,its,n,r,e2⟩:=I.hok a _ h;exact⟨hz,its,n,r,r.length,e2⟩
 .exact⟨hz,its,n,r,r.length,I.kIn _ _ h⟩
def Rp.lst_inv{K:Fgg}{H:Hp}{ds:List D}{v:V}{F:LAd}(h:Rp K H (.lst ds) v F):
  ∃a vs G,v= .ref a/\(H a=some (.lst vs)∨Fix K H a vs)/\Rps K H ds vs G/\ds.length<=sizeLine/\(F=a::G∨F=G):=by
 simp only[Rp]at h;obtain⟨hz,a,vs,e,⟨G,eF,q,r⟩ | ⟨q,r⟩⟩:=h
 .exact⟨a,vs,G,e,.inl q,r,hz,.inl eF⟩
 .exact⟨a,vs,F,e,.inr q,r,hz,.inr rfl⟩
def Qah{K:Fgg}{H:Hp}{a:Addr}{vs:List V}(h:H a=some (.lst vs)∨Fix K H a vs):SqL K H a vs:=h.elim (λh=>SqL.of h) Fix.sq
def Rp.Qa2{K:Fgg}{H:Hp}{ds:List D}{v:V}{F:LAd}(h:Rp K H (.tup ds) v F):∃a vs,v= .ref a/\SqT K H a vs/\Rps K H ds vs F:=by
 simp only[Rp]at h;exact h
def Rp.Qg5{K:Fgg}{H:Hp}{ds:List D}{a:Addr}{vs:List V}{G:LAd}(h:H a=some (.lst vs))(r:Rps K H ds vs G)(hz:ds.length<=sizeLine):Rp K H (.lst ds) (.ref a) (a::G):=by
 simp only[Rp];exact⟨hz,a,vs,rfl,.inl ⟨G,rfl,h,r⟩⟩
def Rp.Qoc{K:Fgg}{H:Hp}{ds:List D}{a:Addr}{vs:List V}{G:LAd}(h:H a=some (.tup vs))(r:Rps K H ds vs G):Rp K H (.tup ds) (.ref a) G:=by
 simp only[Rp];exact⟨a,vs,rfl,SqT.of h,r⟩
def Rp.int_inv{K:Fgg}{H:Hp}{i:Int}{v:V}{F:LAd}(h:Rp K H (.int i) v F):v= .int i:=by simp only[Rp]at h;exact h.1
def Rp.QgJ{K:Fgg}{H:Hp}{i:Bool}{v:V}{F:LAd}(h:Rp K H (.bl i) v F):v= .bl i:=by simp only[Rp]at h;exact h.1
def Rp.QgC{K:Fgg}{H:Hp}{v:V}{F:LAd}(h:Rp K H .non v F):v= .non:=by simp only[Rp]at h;exact h.1
def Rp.str_inv{K:Fgg}{H:Hp}{i:Str}{v:V}{F:LAd}(h:Rp K H (.str i) v F):v= .str i:=by simp only[Rp]at h;exact h.1
def Rp.int_mk{K:Fgg}{H:Hp}{i:Int}:Rp K H (.int i) (.int i) []:=by simp[Rp]
def Rp.Qdg{K:Fgg}{H:Hp}{i:Bool}:Rp K H (.bl i) (.bl i) []:=by simp[Rp]
def Rp.QfJ{K:Fgg}{H:Hp}:Rp K H .non .non []:=by simp[Rp]
def Rp.str_mk{K:Fgg}{H:Hp}{i:Str}:Rp K H (.str i) (.str i) []:=by simp[Rp]
def QbD(h:H p=none):QE H (L2.upd H p o):=λb u e=>by rw[QM (Qb8 e h)];exact e
end
end HS
namespace HS
open PySem PySem.Spec L2
noncomputable abbrev En:=List (Option (D×Bool))
noncomputable abbrev slT(d:D):Option (D×Bool):=some (d,true)
noncomputable abbrev slF(d:D):Option (D×Bool):=some (d,false)
noncomputable abbrev slI(i:Int):Option (D×Bool):=some (.int i,true)
def nn{α:Type}{x:α}{C:Prop}(h:(none:Option α)=some x):C:=nomatch h
structure R where
 d:D
 fr:Bool
 M:List Nat
noncomputable abbrev reT(d:D):R:=⟨d,true,[]⟩
noncomputable abbrev reF(d:D):R:=⟨d,false,[]⟩
noncomputable abbrev reI(i:Int):R:=⟨.int i,true,[]⟩
structure RA where
 ds:List D
 fr:Bool
 M:List Nat
noncomputable abbrev DE:=En->Option R
noncomputable abbrev DA:=En->Option RA
noncomputable abbrev DT:=En->Option Bool
structure Rel (K:Fgg) (H0:Hp) (A0:LAd) (hs:List (V×D×List Addr)) (ρ:En) (F:Nat->List Addr) (U:St) (H:Hp):Prop where
 len:ρ.length=U.length
 val:∀(i:Nat) d b,ρ[i]? =some (some (d,b))->∃v,U[i]? =some (some v)/\Rp K H d v (F i)
 own:∀(i:Nat) d,ρ[i]? =some (some (d,true))->(F i).length=d.nl/\(F i).Nodup/\(∀a∈F i,H0 a=none)/\(∀(j:Nat) d' b',j≠i->ρ[j]? =some (some (d',b'))->∀a∈F i,a∉F j)/\∀t∈hs,∀a∈F i,a∉t.2.2
 src:∀(i:Nat) d b,ρ[i]? =some (some (d,b))->∀a∈F i,H0 a=none∨a∈A0
 held:∀t∈hs,Rp K H t.2.1 t.1 t.2.2/\∀a∈t.2.2,H0 a=none∨a∈A0
 same:QE H0 H
def Src(ρ:En)(F:Nat->List Addr)(H:Hp)(M:List Nat)(G:LAd):Prop:=
 ∀a∈G,H a=none∨∃(i:Nat) (d:D) (b:Bool),ρ[i]? =some (some (d,b))/\a∈F i/\(b=true->i∈M)
noncomputable def nw(H:Hp)(a:Addr):Nat:=match H a with | none=>1 | some _=>0
def Cnt(F:Nat->List Addr)(H:Hp)(M:List Nat)(G:LAd):Prop:=
 ∀a,G.count a<=nw H a+((M.map F).flatten).count a
def Qbp(ρ:En)(M:List Nat):Prop:=∀i∈M,∃d,ρ[i]? =some (some (d,true))
structure Q9 (K:Fgg) (ρ:En) (F:Nat->List Addr) (H H':Hp) (r:R) (v:V) (G:LAd):Prop where
 same:QE H H'
 rp:Rp K H' r.d v G
 src:Src ρ F H r.M G
 cnt:r.fr=true->Cnt F H r.M G/\G.length=r.d.nl
 own:Qbp ρ r.M
structure Qrs (K:Fgg) (ρ:En) (F:Nat->List Addr) (H H':Hp) (r:RA) (vs:List V) (G:LAd):Prop where
 same:QE H H'
 rp:Rps K H' r.ds vs G
 src:Src ρ F H r.M G
 cnt:r.fr=true->Cnt F H r.M G/\G.length=nls r.ds
 own:Qbp ρ r.M
noncomputable def tV(K:Fgg)(H0:Hp)(A0:LAd)(f:DE):TE:=λU H Q=>∃ρ hs F r,Rel K H0 A0 hs ρ F U H/\f ρ=some r/\∀v H' G,Q9 K ρ F H H' r v G->Q v H'
noncomputable def tVA(K:Fgg)(H0:Hp)(A0:LAd)(f:DA):TA:=λU H Q=>∃ρ hs F r,Rel K H0 A0 hs ρ F U H/\f ρ=some r/\∀v H' G,Qrs K ρ F H H' r v G->Q v H'
noncomputable def tVT(K:Fgg)(H0:Hp)(A0:LAd)(f:DT):TT:=λU H Q=>∃ρ hs F b,Rel K H0 A0 hs ρ F U H/\f ρ=some b/\∀H',QE H H'->Q b H'
def SE(X:Cx)(e:Expr)(f:DE):Prop:=∀H0 A0,PE X e (tV X.K H0 A0 f)
def SA(X:Cx)(es:List Expr)(f:DA):Prop:=∀H0 A0,PA X es (tVA X.K H0 A0 f)
def ST(X:Cx)(e:Expr)(f:DT):Prop:=∀H0 A0,PT X e (tVT X.K H0 A0 f)
def _root_.L2.PE.mono(h:PE X e t)(m:∀U H Q,t' U H Q->t U H Q):PE X e t':=λpins s U H Q I q=>h pins s U H Q I (m U H Q q)
def _root_.L2.PT.mono(h:PT X e t)(m:∀U H Q,t' U H Q->t U H Q):PT X e t':=λpins s U H Q I q=>h pins s U H Q I (m U H Q q)
def _root_.L2.PA.mono(h:PA X e t)(m:∀U H Q,t' U H Q->t U H Q):PA X e t':=λpos pins s U H Q I q=>h pos pins s U H Q I (m U H Q q)
section
def Rel.ext(r:Rel K H0 A0 hs ρ F U H)(s:QE H H'):Rel K H0 A0 hs ρ F U H' where
 len:=r.len
 val:=λi d b e=>let ⟨v,h1,h2⟩:=r.val i d b e;⟨v,h1,h2.same s⟩
 own:=r.own
 src:=r.src
 held:=λt ht=>⟨(r.held t ht).1.same s,(r.held t ht).2⟩
 same:=r.same.trans s
def Rel.mem(r:Rel K H0 A0 hs ρ F U H)(e:ρ[i]? =some (some (d,b)))(h:a∈F i):∃u,H a=some u:=
 let ⟨_,_,h2⟩:=r.val i d b e;h2.mem a h
def QdR(h:H a=some o):nw H a=0:=by simp[nw,h]
def QaM(h:H a=none):nw H a=1:=by simp[nw,h]
def Rel.fl0(r:Rel K H0 A0 hs ρ F U H)(ow:Qbp ρ M)(h:H a=none):((M.map F).flatten).count a=0:=by
 rw[ZM];intro hm;obtain⟨l,hl,ha⟩:=Zbe.mp hm;obtain⟨i,hi,rfl⟩:=Zac.mp hl;obtain⟨d,e⟩:=ow i hi;obtain⟨vs,q⟩:=r.mem e ha;rw[h]at q;cases q
def Cnt.append(r:Rel K H0 A0 hs ρ F U H)(c1:Cnt F H M1 G1)(c2:Cnt F H1 M2 G2)(s:QE H H1)(m1:∀a∈G1,∃u,H1 a=some u):Cnt F H (M1++M2) (G1++G2):=λa=>by
 rw[Zaf,ZP,List.flatten_append,Zaf];have h1:=c1 a;have h2:=c2 a;cases q:H1 a with
 | some o=>rw[QdR q]at h2;omega
 | none=>
  rw[QaM q]at h2;have h3:H a=none:=s.free q;rw[QaM h3]at h1 ⊢;have h4:G1.count a=0:=ZM.mpr λhm=>by obtain⟨vs,z⟩:=m1 a hm;rw[q]at z;cases z
  omega
def Src.append(c1:Src ρ F H M1 G1)(c2:Src ρ F H1 M2 G2)(s:QE H H1):Src ρ F H (M1++M2) (G1++G2):=λa ha=>by
 rcases Zr.mp ha with h | h
 .rcases c1 a h with z | ⟨i,d,b,e,m,w⟩
  .exact .inl z
  .exact .inr ⟨i,d,b,e,m,λhb=>Ze _ (w hb)⟩
 .rcases c2 a h with z | ⟨i,d,b,e,m,w⟩
  .exact .inl (s.free z)
  .exact .inr ⟨i,d,b,e,m,λhb=>Zd _ (w hb)⟩
def Qbp.append(h1:Qbp ρ M1)(h2:Qbp ρ M2):Qbp ρ (M1++M2):=λi hi=>(Zr.mp hi).elim (h1 i) (h2 i)
def Qbp.nil:Qbp ρ []:=λi hi=>by simp at hi
def Src.nil:Src ρ F H M []:=λa ha=>by simp at ha
def Cnt.nil:Cnt F H M []:=λa=>by simp
def Q9.flat(s:QE H H')(r:Rp K H' d v [])(hf:d.flat=true:=by rfl):Q9 K ρ F H H' ⟨d,true,[]⟩ v []:=⟨s,r,Src.nil,λ_=>⟨Cnt.nil,(Qc9 d hf).symm⟩,Qbp.nil⟩
def Q9.sub(p:Q9 K ρ F H H1 r v G)(rp:Rp K H1 d u G')(hs:∀a,G'.count a<=G.count a)(hn:G.length=r.d.nl->G'.length=d.nl):Q9 K ρ F H H1 ⟨d,r.fr,r.M⟩ u G' where
 same:=p.same
 rp:=rp
 src:=λa ha=>p.src a (by
  have:=hs a;have h1:0<G'.count a:=Zaq.mpr ha;exact Zaq.mp ⋯)
 cnt:=λh=>⟨λa=>ZL (hs a) ((p.cnt h).1 a),hn (p.cnt h).2⟩
 own:=p.own
noncomputable def R.norm(r:R):R:=if r.d.flat then⟨r.d,true,[]⟩else r
def R.Qdw(r:R):r.norm.d=r.d:=by unfold R.norm;split<;>rfl
def Q9.norm(p:Q9 K ρ F H H' r v G):Q9 K ρ F H H' r.norm v G:=by
 unfold R.norm;split
 .rename_i h;have:=p.rp.Qcm h;subst this;exact .flat p.same p.rp h
 .exact p
end
noncomputable def Qd(i:Nat):DE:=λρ=>match ρ[i]? with
 | some (some (d,b))=>if d.flat then some ⟨d,true,[]⟩else if b then some ⟨d,true,[i]⟩else some ⟨d,false,[]⟩
 | _=>none
noncomputable def dC(d:D):DE:=λ_=>some ⟨d,true,[]⟩
noncomputable abbrev vv0:DE:=Qd 0
noncomputable abbrev vv1:DE:=Qd 1
noncomputable abbrev vv2:DE:=Qd 2
noncomputable abbrev vv3:DE:=Qd 3
noncomputable abbrev vv4:DE:=Qd 4
noncomputable abbrev vv5:DE:=Qd 5
noncomputable abbrev vv6:DE:=Qd 6
noncomputable abbrev vv7:DE:=Qd 7
noncomputable abbrev vv8:DE:=Qd 8
noncomputable abbrev vv9:DE:=Qd 9
noncomputable abbrev QlU:DE:=Qd 10
noncomputable abbrev kk0:DE:=dC (.int 0)
noncomputable abbrev kk1:DE:=dC (.int 1)
noncomputable abbrev kk2:DE:=dC (.int 2)
noncomputable abbrev kk3:DE:=dC (.int 3)
noncomputable abbrev kk4:DE:=dC (.int 4)
noncomputable abbrev kk6:DE:=dC (.int 6)
noncomputable abbrev kk7:DE:=dC (.int 7)
noncomputable abbrev kk9:DE:=dC (.int 9)
noncomputable abbrev QB1:DE:=dC (.int 11)
noncomputable abbrev QzH:DE:=dC (.int 12)
noncomputable abbrev QzK:DE:=dC (.int 16)
noncomputable abbrev Qrp:DE:=dC (.int 17)
noncomputable abbrev QBD:DE:=dC (.int 18)
noncomputable abbrev QBr:DE:=dC (.int 19)
noncomputable abbrev QBp:DE:=dC (.int 20)
noncomputable abbrev QBG:DE:=dC (.int 21)
noncomputable abbrev QBQ:DE:=dC (.int 25)
noncomputable abbrev QBR:DE:=dC (.int 36)
noncomputable abbrev QBq:DE:=dC (.int 64)
noncomputable abbrev QCf:DE:=dC (.int 72)
noncomputable abbrev QAb:DE:=dC (.int 1000)
noncomputable abbrev Qy3:DE:=dC (.int 1999)
noncomputable abbrev Qtr:DE:=dC (.int 2000)
noncomputable abbrev QpO:DE:=dC (.int 48271)
noncomputable abbrev QpU:DE:=dC (.int 65537)
noncomputable abbrev QlF:DE:=dC (.int 69621)
noncomputable abbrev Qf0:DE:=dC (.int 1000003)
noncomputable abbrev QfH:DE:=dC (.int 2147483647)
section
def Qn6(h:PE X (.Name x pos) (Qhk i)):SE X (.Name x pos) (Qd i):=λH0 A0=>h.mono λU H Q=>exK λρ hs F r rel e q=>by
 unfold Qd at e;split at e
 .rename_i d b q1;obtain⟨v,h1,h2⟩:=rel.val i d b q1;refine⟨v,h1,q v H (F i) ?_⟩;split at e
  .rename_i hf;cases e;have:=h2.Qcm hf;rw[this]at h2 ⊢;exact .flat (QE.refl _) h2 hf
  .split at e
   .rename_i hb;cases e;subst hb;exact⟨QE.refl _,h2,λa ha=> .inr ⟨i,d,true,q1,ha,λ_=>⋯⟩,λ_=>⟨λa=>⋯,(rel.own i d q1).1⟩,λj hj=>by simp at hj;subst hj;exact⟨d,q1⟩⟩
   .rename_i hb;cases e;simp at hb;subst hb;exact⟨QE.refl _,h2,λa ha=> .inr ⟨i,d,false,q1,ha,λz=>by cases z⟩,λz=>(by cases z),Qbp.nil⟩
 .cases e
def QlO(h:PE X e (tC v))(r:∀K H,Rp K H d v [])(hf:d.flat=true):SE X e (dC d):=λH0 A0=>h.mono λU H Q=>exK λρ hs F r' rel e q=>by
 cases e;exact q v H [] (.flat (QE.refl _) (r _ _) hf)
def two{K:Fgg}{H0:Hp}{A0:LAd}{fa fb:DE}{U:St}{H:Hp}{hs:List (V×D×List Addr)}{ρ:En}{F:Nat->List Addr}{ra rb:R}{Rr:V->V->Hp->Prop}(rel:Rel K H0 A0 hs ρ F U H)(ea:fa ρ=some ra)(eb:fb ρ=some rb)
  (k:∀x y H1 H2 G1 G2,Q9 K ρ F H H1 ra x G1->Q9 K ρ F H1 H2 rb y G2->Rr x y H2):tV K H0 A0 fa U H λx H1=>tV K H0 A0 fb U H1 λy H2=>Rr x y H2:=
 ⟨ρ,hs,F,ra,rel,ea,λx H1 G1 p1=>⟨ρ,hs,F,rb,rel.ext p1.same,eb,λy H2 G2 p2=>k x y H1 H2 G1 G2 p1 p2⟩⟩
noncomputable def dOp(g:D->D->Option D)(fa fb:DE):DE:=λρ=>(fa ρ).bind λra=>(fb ρ).bind λrb=>(g ra.d rb.d).map λd=>⟨d,true,[]⟩
def QlD(e:dOp g fa fb ρ=some r):∃ra rb d,fa ρ=some ra/\fb ρ=some rb/\g ra.d rb.d=some d/\r=⟨d,true,[]⟩:=by
 unfold dOp at e;cases h1:fa ρ with
 | none=>rw[h1]at e;cases e
 | some ra=>
  cases h2:fb ρ with
  | none=>rw[h1,h2]at e;cases e
  | some rb=>
   rw[h1,h2]at e;cases h3:g ra.d rb.d with
   | none=>simp[h3]at e
   | some d=>simp[h3]at e;exact⟨ra,rb,d,rfl,rfl,h3,e.symm⟩
def Qcw(K:Fgg)(g:D->D->Option D)(r:R2):Prop:=∀a b d,g a b=some d->d.flat=true/\∀H x y F G (Q:VK),Rp K H a x F->Rp K H b y G->(∀v,(∀H',Rp K H' d v [])->Q v H)->r x y H Q
def Qm7(ho:OpR X (binaryOp op) r)(hg:Qcw X.K g r)(ha:SE X a fa)(hb:SE X b fb):SE X (.BinOp a op b pos) (dOp g fa fb):=λH0 A0=>
 (QqB ho (ha H0 A0) (hb H0 A0)).mono λU H Q=>exK λρ hs F r' rel e q=>by
  obtain⟨ra,rb,d,ea,eb,eg,rfl⟩:=QlD e;refine two rel ea eb λx y H1 H2 G1 G2 p1 p2=>(hg _ _ _ eg).2 H2 x y G1 G2 Q (p1.rp.same p2.same) p2.rp λv hv=>?_;exact q v H2 [] (.flat (p1.same.trans p2.same) (hv H2) (hg _ _ _ eg).1)
def Qyz(ho:OpR X (compareOp op) r)(hg:Qcw X.K g r)(ha:SE X a fa)(hb:SE X b fb)(hm:behindInMarks op b=false):SE X (.Compare a [op] [b] pos) (dOp g fa fb):=λH0 A0=>
 (Qp5 ho (ha H0 A0) (hb H0 A0) hm).mono λU H Q=>exK λρ hs F r' rel e q=>by
  obtain⟨ra,rb,d,ea,eb,eg,rfl⟩:=QlD e;refine two rel ea eb λx y H1 H2 G1 G2 p1 p2=>(hg _ _ _ eg).2 H2 x y G1 G2 Q (p1.rp.same p2.same) p2.rp λv hv=>?_;exact q v H2 [] (.flat (p1.same.trans p2.same) (hv H2) (hg _ _ _ eg).1)
end
noncomputable def QhG(i j:Int):Int:=if 0<=j then i / j else i.fdiv j
noncomputable def Qim(i j:Int):Int:=if 0<=j then i % j else i.fmod j
def Qxw(i j:Int):QhG i j=i.fdiv j:=by
 unfold QhG;split
 .rw[Zbq _ (by assumption)]
 .rfl
def QwM(i j:Int):Qim i j=i.fmod j:=by
 unfold Qim;split
 .rw[Int.fmod_eq_emod_of_nonneg _ (by assumption)]
 .rfl
noncomputable def Qfi(i j:Int):Bool:=decide (i.natAbs<2^64) || decide (j.natAbs<2^64) || (decide (Builtin.Int.intBits i<=2^20) && decide (Builtin.Int.intBits j<=2^20))
noncomputable def QeE(j:Int):Bool:=decide (j≠0) && decide (j.natAbs<2^8000)
noncomputable def gI(f:Int->Int->Option D)(a b:D):Option D:=match a,b with
 | .int i,.int j=>f i j
 | _,_=>none
noncomputable def QaW:=gI λi j=>some (.int (i-j))
noncomputable def QbU:=gI λi j=>if QeE j then some (.int (QhG i j))else none
noncomputable def QN:=gI λi j=>if j≠0 then some (.int (Qim i j))else none
noncomputable def Qiq:=gI λi j=>if 0<=j then some (.int (i / 2^j.toNat))else none
noncomputable def gLt:=gI λi j=>some (.bl (decide (i<j)))
noncomputable def gLe:=gI λi j=>some (.bl (decide (i<=j)))
noncomputable def gGt:=gI λi j=>some (.bl (decide (j<i)))
noncomputable def gGe:=gI λi j=>some (.bl (decide (j<=i)))
def QsY(h:gI f a b=some d):∃i j,a= .int i/\b= .int j/\f i j=some d:=by
 unfold gI at h;split at h
 .exact⟨_,_,rfl,rfl,h⟩
 .cases h
section
def Qhu(hf:∀i j d,f i j=some d->d.flat=true)(h:∀i j d,f i j=some d->∀H (Q:VK),(∀v,(∀H',Rp K H' d v [])->Q v H)->r (.int i) (.int j) H Q):Qcw K (gI f) r:=λa b d e=>by
 obtain⟨i,j,rfl,rfl,ef⟩:=QsY e;refine⟨hf i j d ef,λH x y F G Q ha hb q=>?_⟩;rw[ha.int_inv,hb.int_inv];exact h i j d ef H Q q
def Qsd:Qcw K QaW (rI0 λi j=> .int (i-j)):=Qhu (λi j d e=>by cases e;rfl) λi j d e H Q q=>by cases e;exact⟨i,j,rfl,rfl,q _ λ_=> .int_mk⟩
def Que(h:Qfi i j=true):IntMulOk i j:=by
 have small:∀k:Int,k.natAbs<2^64->Builtin.Int.intBits k<=64:=λk hk=>by
  unfold Builtin.Int.intBits;split
  .omega
  .rename_i h0;have h0':k.natAbs≠0:=λz=>by simp_all
   have:=(Nat.log2_lt h0').mpr hk;omega
 unfold Qfi at h;simp only[ZbI,Zi,decide_eq_true_eq]at h;rcases h with(h | h) | ⟨h1,h2⟩
 .exact .of_left (small i h)
 .exact .of_right (small j h)
 .exact .of_bits h1 h2
def QxT:OpR X (binaryOp .Mult) (rI (λi j=>Qfi i j=true) λi j=> .int (i*j)):=opI λ_ _ _ _ _ _ _ hc q=>PyProof.Rows.mul_int q (Que hc)
def QxK:OpR X (binaryOp .FloorDiv) (rI (λi j=>QeE j=true) λi j=> .int (QhG i j)):=opI λi j _ _ _ _ _ hc q=>by
 unfold QeE at hc;simp only[Zi,decide_eq_true_eq]at hc;rw[Qxw]at q;refine PyProof.Rows.floordiv_int hc.1 q (.inl (Zbw ?_));have h0:j.natAbs≠0:= ⋯
 exact Nat.lt_trans ((Nat.log2_lt h0).mpr hc.2) ∅
def Qxf:OpR X (binaryOp .Mod) (rI (λi j=>j≠0) λi j=> .int (Qim i j)):=opI λi j _ _ _ _ _ hc q=>by
 rw[QwM]at q;exact PyProof.Rows.mod_int' hc q
def QyB:Qcw K QbU (rI (λi j=>QeE j=true) λi j=> .int (QhG i j)):=Qhu (λi j d e=>by split at e<;>cases e;rfl) λi j d e H Q q=>by
 split at e
 .cases e;exact⟨i,j,rfl,rfl,by assumption,q _ λ_=> .int_mk⟩
 .cases e
def Qzq:Qcw K QN (rI (λi j=>j≠0) λi j=> .int (Qim i j)):=Qhu (λi j d e=>by split at e<;>cases e;rfl) λi j d e H Q q=>by
 split at e
 .cases e;exact⟨i,j,rfl,rfl,by assumption,q _ λ_=> .int_mk⟩
 .cases e
def QzI:Qcw K Qiq (rI (λ_ j=>0<=j) λi j=> .int (i / 2^j.toNat)):=Qhu (λi j d e=>by split at e<;>cases e;rfl) λi j d e H Q q=>by
 split at e
 .cases e;exact⟨i,j,rfl,rfl,by assumption,q _ λ_=> .int_mk⟩
 .cases e
def QA0:Qcw K gLt (rI0 λi j=> .bl (decide (i<j))):=Qhu (λi j d e=>by cases e;rfl) λi j d e H Q q=>by cases e;exact⟨i,j,rfl,rfl,q _ λ_=> .Qdg⟩
def QA7:Qcw K gLe (rI0 λi j=> .bl (decide (i<=j))):=Qhu (λi j d e=>by cases e;rfl) λi j d e H Q q=>by cases e;exact⟨i,j,rfl,rfl,q _ λ_=> .Qdg⟩
def QA9:Qcw K gGt (rI0 λi j=> .bl (decide (j<i))):=Qhu (λi j d e=>by cases e;rfl) λi j d e H Q q=>by cases e;exact⟨i,j,rfl,rfl,q _ λ_=> .Qdg⟩
def QAO:Qcw K gGe (rI0 λi j=> .bl (decide (j<=i))):=Qhu (λi j d e=>by cases e;rfl) λi j d e H Q q=>by cases e;exact⟨i,j,rfl,rfl,q _ λ_=> .Qdg⟩
end
def Qc5:∀(xs ys:List D),Qak (xs++ys)=(Qak xs && Qak ys)
 | [],ys=>by simp[Qak]
 | x::xs,ys=>by simp[Qak,Qc5 xs ys,Bool.and_assoc]
noncomputable def QaR(ds:List D)(M:List Nat):R:=if Qak ds then⟨.lst ds,true,[]⟩else⟨.lst ds,false,M⟩
section
variable {K:Fgg}{H0 H H':Hp}{A0:LAd}{hs:List (V×D×List Addr)}{ρ:En}{F:Nat->List Addr}{U:L2.St}
def Q9.QaR(s:QE H H1)(hp:H1 p=none)(r:Rps K H1 ds vs G)(hz:ds.length<=sizeLine)(src:Src ρ F H M G)(ow:Qbp ρ M):
  Q9 K ρ F H (upd H1 p (.lst vs)) (QaR ds M) (.ref p) (p::G):=by
 have s2:QE H1 (upd H1 p (.lst vs)):=QbD hp;have rp:Rp K (upd H1 p (.lst vs)) (.lst ds) (.ref p) (p::G):=Rp.Qg5 Qat (r.same s2) hz;have hH:H p=none:=s.free hp;unfold HS.QaR;split
 .rename_i hf;have:=r.Qcm hf;subst this;refine⟨s.trans s2,rp,λa ha=>?_,λ_=>⟨λa=>?_,by simp only[D.nl,Qhe ds hf];rfl⟩,Qbp.nil⟩
  .have:a=p:=by simpa using ha
   subst this;exact .inl hH
  .rw[List.count_singleton];split
   .rename_i e;have e':p=a:=by simpa using e
    subst e';rw[QaM hH];omega
   .omega
 .refine⟨s.trans s2,rp,λa ha=>?_,λz=>(by cases z),ow⟩;rcases Zn.mp ha with rfl | h
  .exact .inl hH
  .exact src a h
end
noncomputable def Qx(fa fb:DE):DE:=λρ=>(fa ρ).bind λra=>(fb ρ).bind λrb=>match ra.d,rb.d with
 | .int i,.int j=>some ⟨.int (i+j),true,[]⟩
 | .lst xs,.lst ys=>if xs.length+ys.length<=sizeLine then some (QaR (xs++ys) (ra.M++rb.M))else none
 | _,_=>none
noncomputable def Qac(fa fb:DE):DE:=λρ=>(fa ρ).bind λra=>(fb ρ).bind λrb=>match ra.d,rb.d with
 | .int i,.int j=>if Qfi i j then some ⟨.int (i*j),true,[]⟩else none
 | .lst xs,.int j=>if xs.length*j.toNat<=sizeLine/\ -(2^63)<=j/\j<2^63/\Qak xs=true then some ⟨.lst (List.replicate j.toNat xs).flatten,true,[]⟩else none
 | _,_=>none
def QqW{fa fb:DE}{ρ:En}{k:R->R->Option R}{r:R}(e:((fa ρ).bind λra=>(fb ρ).bind λrb=>k ra rb)=some r):∃ra rb,fa ρ=some ra/\fb ρ=some rb/\k ra rb=some r:=by
 cases h1:fa ρ with
 | none=>rw[h1]at e;cases e
 | some ra=>
  cases h2:fb ρ with
  | none=>rw[h1,h2]at e;cases e
  | some rb=>rw[h1,h2]at e;exact⟨ra,rb,rfl,rfl,e⟩
def bind1{α β:Type}{x:Option α}{k:α->Option β}{r:β}(e:x.bind k=some r):∃a,x=some a/\k a=some r:=by
 cases x with
 | none=>cases e
 | some a=>exact⟨a,rfl,e⟩
section
noncomputable def QAv(K:Fgg):R2:=λx y H Q=>∃l c xs zs,x= .ref l/\y= .ref c/\(H l=some (.lst xs)∨Fix K H l xs)/\(H c=some (.lst zs)∨Fix K H c zs)/\xs.length+zs.length<=sizeLine/\∀p,H p=none->Q (.ref p) (upd H p (.lst (xs++zs)))
def mapR{α γ:Type}{x:Option α}{f:α->γ}{r:γ}{M:γ->Prop}(e:x.map f=some r)(g:∀a,x=some a->M (f a)):M r:=by
 obtain⟨a,h,rfl⟩:=Zb.mp e;exact g a h
def Qf{α β:Type}{x:Option α}{k:α->Option β}{r:β}{G:Prop}(e:x.bind k=some r)(g:∀a,x=some a->k a=some r->G):G:=let ⟨a,h1,h2⟩:=bind1 e;g a h1 h2
def Qwu:OpR X (binaryOp .Add) (QAv X.K):=by
 intro pins s U H x y v u Q I rx ry h;obtain⟨l,c,xs,zs,rfl,rfl,hH,hB,hz,q⟩:=h;cases rx;cases ry;obtain⟨z,its,n,r,hl,e⟩:=I.QlT hH;obtain⟨z2,its2,n2,r2,hl2,e2⟩:=I.QlT hB;refine PySem.P.add_list e e2 ?_ (by rw[Zv,Zv];omega);have ea:its.toArray++its2.toArray=(its++its2).toArray:= ⋯
 rw[ea];exact⟨.ref _,_,I.QzV (t':=s.toks) (r.append r2) (by rw[Zo];omega),rfl,q _ I.fresh⟩
def QsB(ha:SE X a fa)(hb:SE X b fb):SE X (.BinOp a .Add b pos) (Qx fa fb):=λH0 A0=>
 (QqB (Qz9.or Qwu) (ha H0 A0) (hb H0 A0)).mono λU H Q=>exK λρ hs F r' rel e q=>by
  obtain⟨ra,rb,ea,eb,ek⟩:=QqW e;refine two rel ea eb λx y H1 H2 G1 G2 p1 p2=>?_;have p1':=p1.rp.same p2.same;have p2':=p2.rp;have c1:=p1.src.append p2.src p1.same;have o1:=p1.own.append p2.own;revert ek;revert p1' p2';cases ra.d<;>cases rb.d<;>intro p1' p2' ek<;>first | (cases ek;done) | skip
  .cases ek;rw[p1'.int_inv,p2'.int_inv];exact .inl ⟨_,_,rfl,rfl,q _ H2 [] (.flat (p1.same.trans p2.same) .int_mk)⟩
  .rename_i xs ys;dsimp only at ek;split at ek
   .rename_i hz;cases ek;obtain⟨l,vs,L1,rfl,hl,rl,zl,el⟩:=p1'.lst_inv;obtain⟨c,ws,L2',rfl,hc,rc,zc,ec⟩:=p2'.lst_inv;have n1:=rl.length;have n2:=rc.length;refine .inr ⟨l,c,vs,ws,rfl,rfl,hl,hc,⋯,λp hp=>?_⟩;refine q _ _ (p::(L1++L2')) (Q9.QaR (p1.same.trans p2.same) hp (rl.append rc) (by rw[Zo];exact hz) (λa ha=>c1 a ?_) o1);rcases Zr.mp ha with h | h
    .refine Ze _ ?_;rcases el with rfl | rfl
     .exact Zc _ h
     .exact h
    .refine Zd _ ?_;rcases ec with rfl | rfl
     .exact Zc _ h
     .exact h
   .cases ek
noncomputable def QAU(K:Fgg):R2:=λx y H Q=>∃l k xs,x= .ref l/\y= .int k/\(H l=some (.lst xs)∨Fix K H l xs)/\ -(2^63)<=k/\k<2^63/\xs.length*k.toNat<=sizeLine∧
 ∀p,H p=none->Q (.ref p) (upd H p (.lst (List.replicate k.toNat xs).flatten))
def Qw5:OpR X (binaryOp .Mult) (QAU X.K):=by
 intro pins s U H x y v u Q I rx ry h;obtain⟨l,k,xs,rfl,rfl,hH,h1,h2,hz,q⟩:=h;cases rx;obtain⟨t,rfl⟩:=ry;obtain⟨z,its,n,r,hl,e⟩:=I.QlT hH;have hlen:its.toArray.size*k.toNat<=sizeLine:=by rw[Zv,← hl];exact hz
 have hcap:¬its.toArray.size*k.toNat>(2^63-1) / 8:=by
  have:(sizeLine:Nat)<=(2^63-1) / 8:= ∅
  omega
 have hfit:¬(!Builtin.List.listFitsIndex k)=true:=by
  rw[fitsIndex_both h1 h2];exact ZO
 have hlong:¬Builtin.List.listTooLong (its.toArray.size*k.toNat)=true:=by
  rw[Qnw hlen];exact ZO
 have hnew:List.foldl (λx1 x2=>x1++x2) #[] (List.replicate (if its.toArray.isEmpty=true then 0 else k.toNat) its.toArray)=(List.replicate k.toNat its).flatten.toArray:=by
  have f0:∀m:Nat,List.foldl (λx1 x2=>x1++x2) #[] (List.replicate m its.toArray)=(List.replicate m its).flatten.toArray:=λm=>by
   have:=foldl_rep its m [];rw[ZaY]at this;exact this
  rw[f0];cases its with
  | nil=>simp
  | cons a r'=>rw[if_neg ⋯]
 open PyProof.Rows in
 refine wpAny_binaryOp_repeat_ref ∅ ⟨_,e,rfl⟩ (λs'=>typeIs_int s' k t) noFill_list_mul F.fills_int_mul F.slot_int_rmul repeat_list F.slot_int_index.lookup
  (call_meets F.slot_int_rmul (typeIs_int s k t) F.entry_int_rmul (F.args_int_rmul_2 _ _) (int___rmul___int_list k t l its.toArray n)
   ⟨e,rfl,⟨_,e,rfl⟩,call_meets F.slot_list_mul ⟨_,e,rfl⟩ F.entry_list_mul (F.args_list_mul_2 _ _) (AutoListH.list___mul___list_int_3 l its.toArray n k t hfit hcap hlong) ⟨e,?_⟩⟩)
 rw[hnew];exact⟨.ref _,_,I.QzV (t':=s.toks) (r.rep k.toNat) (by rw[len_rep,Nat.mul_comm];exact hz),rfl,q _ I.fresh⟩
def QmI(h:Qak xs=true):∀n:Nat,Qak (List.replicate n xs).flatten=true
 | 0=>by simp[Qak]
 | n+1=>by rw[Zaj,Zao,Qc5,h,QmI h n];rfl
def Rps.rep(h:Rps K H ds vs []):∀n:Nat,Rps K H (List.replicate n ds).flatten (List.replicate n vs).flatten []
 | 0=>by simp[Rps]
 | n+1=>by rw[Zaj,Zao,Zaj,Zao];exact h.append (Rps.rep h n)
def Qze(ha:SE X a fa)(hb:SE X b fb):SE X (.BinOp a .Mult b pos) (Qac fa fb):=λH0 A0=>
 (QqB (QxT.or Qw5) (ha H0 A0) (hb H0 A0)).mono λU H Q=>exK λρ hs F r' rel e q=>by
  obtain⟨ra,rb,ea,eb,ek⟩:=QqW e;refine two rel ea eb λx y H1 H2 G1 G2 p1 p2=>?_;have p1':=p1.rp.same p2.same;have p2':=p2.rp;revert ek;revert p1' p2';cases ra.d<;>cases rb.d<;>intro p1' p2' ek<;>first | (cases ek;done) | skip
  .dsimp only at ek;split at ek
   .rename_i hm;cases ek;rw[p1'.int_inv,p2'.int_inv];exact .inl ⟨_,_,rfl,rfl,hm,q _ H2 [] (.flat (p1.same.trans p2.same) .int_mk)⟩
   .cases ek
  .rename_i xs j;dsimp only at ek;split at ek
   .rename_i hz;cases ek;obtain⟨hz1,hz2,hz3,hf⟩:=hz;obtain⟨l,vs,L1,rfl,hl,rl,zl,el⟩:=p1'.lst_inv;have n1:=rl.length;have e0:=rl.Qcm hf;subst e0;rw[p2'.int_inv];refine .inr ⟨l,j,vs,rfl,rfl,hl,hz2,hz3,by rw[← n1];exact hz1,λp hp=>?_⟩;have w:HS.QaR (List.replicate j.toNat xs).flatten []=⟨.lst (List.replicate j.toNat xs).flatten,true,[]⟩:=by
     unfold HS.QaR;rw[if_pos (QmI hf _)]
    rw[← w]at q;exact q _ _ (p::[]) (Q9.QaR (p1.same.trans p2.same) hp (rl.rep _) (by rw[len_rep,Nat.mul_comm];exact hz1) Src.nil Qbp.nil)
   .cases ek
end
noncomputable def Qc:DA:=λ_=>some ⟨[],true,[]⟩
noncomputable def Qa(fa:DE)(fr:DA):DA:=λρ=>(fa ρ).bind λr=>(fr ρ).bind λrs=>some ⟨r.d::rs.ds,r.fr && rs.fr,r.M++rs.M⟩
noncomputable def Qbs(fa:DA):DE:=λρ=>(fa ρ).bind λr=>if r.ds.length<=64 then some ⟨.tup r.ds,r.fr,r.M⟩else none
noncomputable def QH(fa:DA):DE:=λρ=>(fa ρ).bind λr=>if r.ds.length<=64 then some ⟨.lst r.ds,r.fr,r.M⟩else none
section
variable {X:Cx}{a b e:Expr}{es:List Expr}{fa fb:DE}{fs:DA}{pos:Pos}
def QkP:SA X [] Qc:=λH0 A0=>Qdz.mono λU H Q=>exK λρ hs F r' rel e q=>by
 cases e;exact q [] H [] ⟨QE.refl _,by simp[Rps],Src.nil,λ_=>⟨Cnt.nil,rfl⟩,Qbp.nil⟩
def QgV(ha:SE X e fa)(hr:SA X es fs)(hs:starEach (e::es) X.env=(false,eval e X.env)::starEach es X.env):SA X (e::es) (Qa fa fs):=λH0 A0=>
 (Qa5 (ha H0 A0) (hr H0 A0) hs).mono λU H Q=>exK λρ hs F r' rel e q=>by
  refine Qf e λr e1 e=>?_;refine Qf e λrs e2 e=>?_;cases e;refine⟨ρ,hs,F,r,rel,e1,λx H1 G1 p1=>⟨ρ,hs,F,rs,rel.ext p1.same,e2,λxs H2 G2 p2=>?_⟩⟩;refine q _ H2 (G1++G2) ⟨p1.same.trans p2.same,?_,p1.src.append p2.src p1.same,λh=>?_,p1.own.append p2.own⟩
  .simp only[Rps];exact⟨x,xs,G1,G2,rfl,rfl,p1.rp.same p2.same,p2.rp⟩
  .simp only[Zi]at h;exact⟨(p1.cnt h.1).1.append rel (p2.cnt h.2).1 p1.same p1.rp.mem,by simp only[nls,Zo,(p1.cnt h.1).2,(p2.cnt h.2).2]⟩
def Qhc{n:Nat}(h:n<=64):n<=sizeLine:=ZL h ∅
def QzP{k:Nat}(ha:SA X es fs):SE X (.Tuple es k pos) (Qbs fs):=λH0 A0=>
 (Qzx (ha H0 A0)).mono λU H Q=>exK λρ hs F r' rel e q=>by
  refine Qf e λr e1 e=>?_;split at e
  .rename_i hz;cases e;refine⟨ρ,hs,F,r,rel,e1,λxs H1 G p=>⟨by rw[← p.rp.length];exact Qhc hz,λc hc=>q _ _ G ⟨p.same.trans (QbD hc),Rp.Qoc Qat (p.rp.same (QbD hc)),p.src,λh=>⟨(p.cnt h).1,by simp only[D.nl];exact(p.cnt h).2⟩,p.own⟩⟩⟩
  .cases e
def Qtk(ha:SA X es fs):SE X (.List es pos) (QH fs):=λH0 A0=>
 (QyG (ha H0 A0)).mono λU H Q=>exK λρ hs F r' rel e q=>by
  refine Qf e λr e1 e=>?_;split at e
  .rename_i hz;cases e;refine⟨ρ,hs,F,r,rel,e1,λxs H1 G p=>⟨by rw[← p.rp.length];exact Qhc hz,λc hc=>?_⟩⟩;have hH:H c=none:=p.same.free hc;refine q _ _ (c::G) ⟨p.same.trans (QbD hc),Rp.Qg5 Qat (p.rp.same (QbD hc)) (Qhc hz),λz hz'=>?_,λh=>⟨λz=>?_,by simp only[D.nl,Zj,(p.cnt h).2]⟩,p.own⟩
   .rcases Zn.mp hz' with rfl | h
    .exact .inl hH
    .exact p.src z h
   .rw[Zaz];have:=(p.cnt h).1 z;split
    .rename_i e';have e':c=z:=by simpa using e'
     subst e';have h0:G.count c=0:=ZM.mpr λhm=>by obtain⟨vs,w⟩:=p.rp.mem c hm;rw[hc]at w;cases w
     rw[QaM hH];omega
    .exact this
  .cases e
noncomputable def D.items:D->Option (List D)
 | .lst xs=>some xs
 | .tup xs=>some xs
 | _=>none
noncomputable def Qz(fa fb:DE):DE:=λρ=>(fa ρ).bind λra=>(fb ρ).bind λrb=>match rb.d with
 | .int i=>(ra.d.items).bind λxs=>(atI xs i).map λd=>(R.norm ⟨d,ra.fr,ra.M⟩)
 | _=>none
def Qwj{α β:Type}{xs:List α}{i:Int}{d:α}(h:atI xs i=some d):∃j:Nat,xs[j]? =some d/\∀(ys:List β),ys.length=xs.length->∀y,ys[j]? =some y->atI ys i=some y:=by
 unfold atI at h;cases e:ixN xs.length i with
 | none=>rw[e]at h;cases h
 | some j=>
  rw[e]at h;refine⟨j,h,λys hl y hy=>?_⟩;unfold atI;rw[hl,e];exact hy
def QyM(ha:SE X a fa)(hb:SE X b fb)(hs:QiV b):SE X (.Subscript a b pos) (Qz fa fb):=λH0 A0=>
 (QvH (Qqi.or Qsj) (ha H0 A0) (hb H0 A0) hs).mono λU H Q=>exK λρ hs F r' rel e q=>by
  obtain⟨ra,rb,ea,eb,ek⟩:=QqW e;refine two rel ea eb λx y H1 H2 G1 G2 p1 p2=>?_;have p1':=p1.rp.same p2.same;have p2':=p2.rp;have pp:Q9 X.K ρ F H H2 ra x G1:=⟨p1.same.trans p2.same,p1',p1.src,p1.cnt,p1.own⟩;cases hb':rb.d with
  | int i=>
   rw[hb']at ek p2';rw[p2'.int_inv];refine Qf ek λxs ex ek=>?_;obtain⟨d,ed,ek⟩:=Zb.mp ek;subst ek;obtain⟨j,hj,hm⟩:=Qwj ed;have fin:∀(L:LAd) (vs:List V),Rps X.K H2 xs vs L->(∀z,L.count z<=G1.count z)->(G1.length=ra.d.nl->L.length=nls xs)->∃v,atI vs i=some v/\Q v H2:=λL vs rl hc hn=>by
    obtain⟨v,F1,G,F2,hv,eF,rv,hx⟩:=rl.get hj;refine⟨v,hm vs rl.length.symm v hv,q v H2 G (Q9.norm (Q9.sub pp rv (λz=>ZL ?_ (hc z)) λz=>hx (hn z)))⟩;rw[eF,Zaf,Zaf];omega
   cases hra:ra.d with
   | lst ys=>
    rw[hra]at ex p1';cases ex;obtain⟨l,vs,L,rfl,hl,rl,zl,el⟩:=p1'.lst_inv;have hn:G1.length=ra.d.nl->L.length=nls xs:=λhz=>by
     have:=rl.Qaw;simp only[hra,D.nl]at hz;rcases el with rfl | rfl
     .rw[Zj]at hz;omega
     .omega
    have hc:∀z,L.count z<=G1.count z:=λz=>by
     rcases el with rfl | rfl
     .rw[Zaz];omega
     .exact Zk _
    obtain⟨v,h1,h2⟩:=fin L vs rl hc hn;exact .inl ⟨l,vs,i,v,rfl,rfl,Qah hl,h1,h2⟩
   | tup ys=>
    rw[hra]at ex p1';cases ex;obtain⟨l,vs,rfl,hl,rl⟩:=p1'.Qa2;obtain⟨v,h1,h2⟩:=fin G1 vs rl (λz=>Zk _) λz=>(by simpa only[hra,D.nl]using z);exact .inr ⟨l,vs,i,v,rfl,rfl,hl,h1,h2⟩
   | _=>rw[hra]at ex;cases ex
  | _=>rw[hb']at ek;cases ek
noncomputable abbrev DO:=En->Option (Option Int)
noncomputable def QcB:DO:=λ_=>some none
noncomputable def Qbu(f:DE):DO:=λρ=>(f ρ).bind λr=>match r.d with
 | .int i=>some (some i)
 | _=>none
noncomputable def tVO(K:Fgg)(H0:Hp)(A0:LAd)(f:DO):TO:=λU H Q=>∃ρ hs F o,Rel K H0 A0 hs ρ F U H/\f ρ=some o/\∀H',QE H H'->Q o H'
def SO(X:Cx)(e:Option Expr)(f:DO):Prop:=∀H0 A0,PO X e (tVO X.K H0 A0 f)
def _root_.L2.PO.mono{X:Cx}{e:Option Expr}{t t':TO}(h:PO X e t)(m:∀U H Q,t' U H Q->t U H Q):PO X e t':=by
 intro pins s U H Q I q;exact h pins s U H Q I (m U H Q q)
def QxC:SO X none QcB:=λH0 A0=>Qwq.mono λU H Q=>exK λρ hs F o rel e q=>by
 cases e;exact q H (QE.refl _)
def Qwy(h:SE X a fa):SO X (some a) (Qbu fa):=λH0 A0=>(QxS (h H0 A0)).mono λU H Q=>exK λρ hs F o rel e q=>by
 refine Qf e λr e1 e=>?_;refine⟨ρ,hs,F,r,rel,e1,λv H1 G p=>?_⟩;have rp:=p.rp;cases hr:r.d with
 | int i=>
  rw[hr]at e rp;cases e;exact⟨i,rp.int_inv,q H1 p.same⟩
 | _=>rw[hr]at e;cases e
noncomputable def cutD(xs:List D)(lo hi:Option Int):List D:=(xs.drop (HT.sIx xs.length 0 lo)).take (HT.sIx xs.length xs.length hi-HT.sIx xs.length 0 lo)
noncomputable def QcR(fa:DE)(lo hi:DO):DE:=λρ=>(fa ρ).bind λra=>(lo ρ).bind λl=>(hi ρ).bind λh=>match ra.d with
 | .lst xs=>some (QaR (cutD xs l h) ra.M)
 | _=>none
def Rps.drop:∀{ds:List D}{vs:List V}{F:LAd}{K:Fgg}{H:Hp}(n:Nat),Rps K H ds vs F->∃G,Rps K H (ds.drop n) (vs.drop n) G/\∀a∈G,a∈F
 | [],vs,F,K,H,n,h=>by simp only[Rps]at h;rw[h.1,h.2];exact⟨[],by simp[Rps],λ_ h=>h⟩
 | d::ds,vs,F,K,H,0,h=>⟨F,by simpa using h,λ_ h=>h⟩
 | d::ds,vs,F,K,H,n+1,h=>by
  simp only[Rps]at h;obtain⟨v,ws,F1,F2,e,eF,r,q⟩:=h;subst e eF;obtain⟨G,h1,h2⟩:=Rps.drop n q;exact⟨G,by simpa using h1,λa ha=>Zd _ (h2 a ha)⟩
def Rps.take:∀{ds:List D}{vs:List V}{F:LAd}{K:Fgg}{H:Hp}(n:Nat),Rps K H ds vs F->∃G,Rps K H (ds.take n) (vs.take n) G/\∀a∈G,a∈F
 | [],vs,F,K,H,n,h=>by simp only[Rps]at h;rw[h.1,h.2];exact⟨[],by simp[Rps],λ_ h=>h⟩
 | d::ds,vs,F,K,H,0,h=>⟨[],by simp[Rps],λ_ h=>by simp at h⟩
 | d::ds,vs,F,K,H,n+1,h=>by
  simp only[Rps]at h;obtain⟨v,ws,F1,F2,e,eF,r,q⟩:=h;subst e eF;obtain⟨G,h1,h2⟩:=Rps.take n q;refine⟨F1++G,?_,λa ha=>?_⟩
  .simp only[List.take_succ_cons,Rps];exact⟨v,_,F1,G,rfl,rfl,r,h1⟩
  .rcases Zr.mp ha with h | h
   .exact Ze _ h
   .exact Zd _ (h2 a h)
def QyI{lo hi:Option Expr}{fl fh:DO}{p2:Pos}(ha:SE X a fa)(hl:SO X lo fl)(hh:SO X hi fh):SE X (.Subscript a (.Slice lo hi none p2) pos) (QcR fa fl fh):=λH0 A0=>
 (Qvw QxI (ha H0 A0) (hl H0 A0) (hh H0 A0)).mono λU H Q=>exK λρ hs F r' rel e q=>by
  refine Qf e λra e1 e=>?_;refine Qf e λl e2 e=>?_;refine Qf e λh e3 e=>?_;refine⟨ρ,hs,F,ra,rel,e1,λx H1 G1 p1=>⟨ρ,hs,F,l,rel.ext p1.same,e2,λH2 s2=>⟨ρ,hs,F,h,(rel.ext p1.same).ext s2,e3,λH3 s3=>?_⟩⟩⟩;have rp:=p1.rp.same (s2.trans s3);cases hra:ra.d with
  | lst xs=>
   rw[hra]at e rp;cases e;obtain⟨c,vs,L,rfl,hc,rl,zl,el⟩:=rp.lst_inv;refine⟨c,vs,rfl,Qah hc,λp hp=>?_⟩;obtain⟨G2,h2,m2⟩:=rl.drop (HT.sIx xs.length 0 l);obtain⟨G3,h3,m3⟩:=h2.take (HT.sIx xs.length xs.length h-HT.sIx xs.length 0 l);have n1:=rl.length;rw[show QlE vs l h=(vs.drop (HT.sIx xs.length 0 l)).take (HT.sIx xs.length xs.length h-HT.sIx xs.length 0 l) by unfold QlE;rw[n1]];refine q _ _ (p::G3) (Q9.QaR (p1.same.trans (s2.trans s3)) hp h3 ?_ (λz hz=>p1.src z ?_) p1.own)
   .unfold cutD;rw[ZaE,ZbA];omega
   .have:=m2 z (m3 z hz);rcases el with rfl | rfl
    .exact Zc _ this
    .exact this
  | _=>rw[hra]at e;cases e
noncomputable def dBf(g:List D->Option D)(fs:DA):DE:=λρ=>(fs ρ).bind λr=>(g r.ds).map λd=>⟨d,true,[]⟩
def QfA(K:Fgg)(g:List D->Option D)(r:List V->Hp->VK->Prop):Prop:=∀ds d,g ds=some d->d.flat=true/\∀H vs F (Q:VK),Rps K H ds vs F->(∀v,(∀H',Rp K H' d v [])->Q v H)->r vs H Q
def QiW{x:Str}{id:String}{g:List D->Option D}{r:List V->Hp->VK->Prop}{p:Pos}(hc:Qdl X (.builtin id) r)(hk:QfA X.K g r)(hg:Gl X x)(hm:X.mg x=none)(hv:bootBuiltins x=some (.builtin id))(ha:SA X (e::es) fs)(hn:x≠ "__name__")(hdb:(x == ("__debug__" :Str))=false)
  (he:starEach (e::es) X.env=(false,eval e X.env)::starEach es X.env) (hpl:(backTo pos (starEach es X.env)).any (·.1)=false):SE X (.Call (.Name x p) (e::es) [] pos) (dBf g fs):=λH0 A0=>
 (QjX hc hg hm hv (ha H0 A0) hn hdb he hpl).mono λU H Q=>exK λρ hs F r' rel e q=>by
  refine Qf e λra e1 e=>?_;obtain⟨d,ed,e⟩:=Zb.mp e;subst e;exact⟨ρ,hs,F,ra,rel,e1,λvs H1 G p1=>(hk _ _ ed).2 H1 vs G Q p1.rp λv hv=>q v H1 [] (.flat p1.same (hv _) (hk _ _ ed).1)⟩
def Rps.one{K:Fgg}{H:Hp}{d:D}{vs:List V}{F:LAd}(h:Rps K H [d] vs F):∃v,vs=[v]/\Rp K H d v F:=by
 simp only[Rps]at h;obtain⟨v,ws,F1,F2,rfl,rfl,r,rfl,rfl⟩:=h;exact⟨v,rfl,by simpa using r⟩
def Rps.two{K:Fgg}{H:Hp}{d e:D}{vs:List V}{F:LAd}(h:Rps K H [d,e] vs F):∃v w F1 F2,vs=[v,w]/\Rp K H d v F1/\Rp K H e w F2:=by
 simp only[Rps]at h;obtain⟨v,ws,F1,F2,rfl,rfl,r,w,ws',F3,F4,rfl,rfl,r2,rfl,rfl⟩:=h;exact⟨v,w,F1,F3,rfl,r,r2⟩
noncomputable def QaQ:List D->Option D
 | [.lst xs]=>some (.int xs.length)
 | [.tup xs]=>some (.int xs.length)
 | _=>none
def QvO(K:Fgg):List V->Hp->VK->Prop:=λxs H Q=>∃p ys,xs=[.ref p]/\(SqL K H p ys∨SqT K H p ys)/\Q (.int ys.length) H
def QsS{X:Cx}:Qdl X (.builtin "len") (QvO X.K):=Qpa
def QyL{K:Fgg}:QfA K QaQ (QvO K):=λds d e=>by
 unfold QaQ at e;split at e
 .cases e;refine⟨rfl,λH vs F Q r q=>?_⟩;obtain⟨v,rfl,rp⟩:=r.one;obtain⟨l,ws,L,rfl,hl,rl,zl,el⟩:=rp.lst_inv;exact⟨l,ws,rfl,.inl (Qah hl),by rw[← rl.length];exact q _ λ_=> .int_mk⟩
 .cases e;refine⟨rfl,λH vs F Q r q=>?_⟩;obtain⟨v,rfl,rp⟩:=r.one;obtain⟨l,ws,rfl,hl,rl⟩:=rp.Qa2;exact⟨l,ws,rfl,.inr hl,by rw[← rl.length];exact q _ λ_=> .int_mk⟩
 .cases e
noncomputable def Qla:List D->Option D
 | [.int i,.int j]=>some (.int (if j<i then j else i))
 | _=>none
noncomputable def Qks:List D->Option D
 | [.int i,.int j]=>some (.int (if j>i then j else i))
 | _=>none
def QwL{K:Fgg}:QfA K Qla (λxs H Q=>∃i j,xs=[.int i,.int j]/\Q (.int (if j<i then j else i)) H):=λds d e=>by
 unfold Qla at e;split at e
 .cases e;refine⟨rfl,λH vs F Q r q=>?_⟩;obtain⟨v,w,F1,F2,rfl,r1,r2⟩:=r.two;exact⟨_,_,by rw[r1.int_inv,r2.int_inv],q _ λ_=> .int_mk⟩
 .cases e
def Qws{K:Fgg}:QfA K Qks (λxs H Q=>∃i j,xs=[.int i,.int j]/\Q (.int (if j>i then j else i)) H):=λds d e=>by
 unfold Qks at e;split at e
 .cases e;refine⟨rfl,λH vs F Q r q=>?_⟩;obtain⟨v,w,F1,F2,rfl,r1,r2⟩:=r.two;exact⟨_,_,by rw[r1.int_inv,r2.int_inv],q _ λ_=> .int_mk⟩
 .cases e
noncomputable def dList(fs:DA):DE:=λρ=>(fs ρ).bind λr=>match r.ds with
 | [.lst xs]=>some (QaR xs r.M)
 | [.tup xs]=>if xs.length<=sizeLine then some (QaR xs r.M)else none
 | _=>none
end
end HS
namespace HS
open PySem PySem.Spec L2 PyProof.Rows
end HS
namespace HS
open PySem PySem.Spec L2
mutual
noncomputable def D.py:D->PyData
 | .non=> .none
 | .bl b=> .bool b
 | .int i=> .int i
 | .str x=> .str x
 | .tup xs=> .tuple (pys xs)
 | .lst xs=> .list (pys xs)
 | .exc _=> .none
 | .dk _=> .none
 | .obj _ _=> .none
noncomputable def pys:List D->List PyData
 | []=>[]
 | d::ds=>d.py::pys ds
end
def QpV:∀ds:List D,pys ds=ds.map D.py
 | []=>rfl
 | d::ds=>by simp[pys,QpV ds]
noncomputable def D.sim:Nat->D->Bool
 | _,.non=>true
 | _,.bl _=>true
 | _,.int _=>true
 | _,.str x=>PyData.canLay0 (.str x)
 | 0,.tup xs=>xs.isEmpty
 | 0,.lst xs=>xs.isEmpty
 | n+1,.tup xs=>xs.all (D.sim n)
 | n+1,.lst xs=>xs.all (D.sim n)
 | _,.exc _=>false
 | _,.dk _=>false
 | _,.obj _ _=>false
def QfD:∀{ds:List D},(∀d∈ds,d.py.canLay0=true)->PyData.canLayAll0 (pys ds)=true
 | [],_=>rfl
 | d::ds,h=>by
  simp only[pys,PyData.canLayAll0,Zi];exact⟨h d Zf,QfD λe he=>h e (Zc _ he)⟩
def Qgh:∀{ds:List D},(∀d∈ds,d.py.depth<=n)->PyData.depthAll (pys ds)<=n
 | [],_=>ZS _
 | d::ds,h=>by
  simp only[pys,PyData.depthAll];exact Nat.max_le.mpr ⟨h d Zf,Qgh λe he=>h e (Zc _ he)⟩
def Qco:∀(n:Nat) (d:D),d.sim n=true->d.py.canLay0=true/\d.py.depth<=n+1
 | n,.exc _,h=>by cases n<;>cases h
 | n,.dk _,h=>by cases n<;>cases h
 | n,.obj _ _,h=>by cases n<;>cases h
 | n,.non,_=>by simp[D.py,PyData.canLay0,PyData.depth]
 | n,.bl _,_=>by simp[D.py,PyData.canLay0,PyData.depth]
 | n,.int _,_=>by simp[D.py,PyData.canLay0,PyData.depth]
 | n,.str x,h=>by
  simp only[D.py,PyData.depth];refine⟨?_,ZS _⟩;cases n<;>exact h
 | 0,.tup xs,h=>by
  have:xs=[]:=by simpa[D.sim]using h
  subst this;simp[D.py,pys,PyData.canLay0,PyData.canLayAll0,PyData.depth,PyData.depthAll]
 | 0,.lst xs,h=>by
  have:xs=[]:=by simpa[D.sim]using h
  subst this;simp[D.py,pys,PyData.canLay0,PyData.canLayAll0,PyData.depth,PyData.depthAll]
 | n+1,.tup xs,h=>by
  simp only[D.sim,Zam]at h;simp only[D.py,PyData.canLay0,PyData.depth];exact⟨QfD λd hd=>(Qco n d (h d hd)).1,Zbh (Qgh λd hd=>(Qco n d (h d hd)).2) 1⟩
 | n+1,.lst xs,h=>by
  simp only[D.sim,Zam]at h;simp only[D.py,PyData.canLay0,PyData.depth];exact⟨QfD λd hd=>(Qco n d (h d hd)).1,Zbh (Qgh λd hd=>(Qco n d (h d hd)).2) 1⟩
noncomputable def deq(a b:D):Bool:=PyData.eqv a.py b.py
def Qhm(h:d.sim n=true):deq d d=true:=SeqAt.eqv_refl _ (Qco n d h).1
mutual
noncomputable def D.noX:D->Bool
 | .exc _=>false
 | .dk _=>false
 | .obj _ _=>false
 | .tup xs=>Qki xs
 | .lst xs=>Qki xs
 | .non=>true
 | .bl _=>true
 | .int _=>true
 | .str _=>true
noncomputable def Qki:List D->Bool
 | []=>true
 | d::ds=>d.noX && Qki ds
end
def Qmg:∀{ds:List D},(∀d∈ds,d.noX=true)->Qki ds=true
 | [],_=>rfl
 | d::ds,h=>by
  simp only[Qki,Zi];exact⟨h d Zf,Qmg λe he=>h e (Zc _ he)⟩
def QcG:∀(n:Nat) (d:D),d.sim n=true->d.noX=true
 | n,.exc _,h=>by cases n<;>cases h
 | n,.dk _,h=>by cases n<;>cases h
 | n,.obj _ _,h=>by cases n<;>cases h
 | n,.non,_=>rfl
 | n,.bl _,_=>rfl
 | n,.int _,_=>rfl
 | n,.str x,_=>rfl
 | 0,.tup xs,h=>by
  have:xs=[]:=by simpa[D.sim]using h
  subst this;rfl
 | 0,.lst xs,h=>by
  have:xs=[]:=by simpa[D.sim]using h
  subst this;rfl
 | n+1,.tup xs,h=>by
  simp only[D.sim,Zam]at h;simp only[D.noX];exact Qmg λd hd=>QcG n d (h d hd)
 | n+1,.lst xs,h=>by
  simp only[D.sim,Zam]at h;simp only[D.noX];exact Qmg λd hd=>QcG n d (h d hd)
section
variable {X:Cx}{pins:List (Addr×Obj)}{U:L2.St}{H:Hp}{s:Shared}
mutual
def Rp.reads(I:Inv X pins U H s):∀{d:D}{v:V}{F:LAd}{u:Value},d.noX=true->Rp X.K H d v F->RelV v u->∃as,Reads s.heap u d.py as
 | .exc _,v,_,u,hx,h,r=>by cases hx
 | .dk _,v,_,u,hx,h,r=>by cases hx
 | .obj _ _,v,_,u,hx,h,r=>by cases hx
 | .non,v,_,u,hx,h,r=>by
  rw[h.QgC]at r;cases(show u=Value.none from r);exact⟨_,.none⟩
 | .bl b,v,_,u,hx,h,r=>by
  rw[h.QgJ]at r;cases(show u=Value.bool b from r);exact⟨_,.bool b⟩
 | .int i,v,_,u,hx,h,r=>by
  rw[h.int_inv]at r;obtain⟨t,rfl⟩:=(show ∃t,u=Value.int i t from r);exact⟨_,.int i t⟩
 | .str i,v,_,u,hx,h,r=>by
  rw[h.str_inv]at r;obtain⟨t,rfl⟩:=(show ∃t,u=Value.str i t from r);exact⟨_,.str i t⟩
 | .tup ds,v,_,u,hx,h,r=>by
  obtain⟨a,vs,rfl,hq,rs⟩:=h.Qa2;cases(show u=Value.ref a from r);obtain⟨its,rv,⟨o,h1,h2,n,h3⟩,_⟩:=I.tuple hq;obtain⟨as,ra⟩:=Rps.reads I (by simpa only[D.noX]using hx) rs rv;exact⟨_,.tuple h1 h2 h3 (by simpa using ra)⟩
 | .lst ds,v,_,u,hx,h,r=>by
  simp only[Rp]at h;obtain⟨hz,a,vs,rfl,h⟩:=h;have key:∃G,(H a=some (.lst vs)∨Fix X.K H a vs)/\Rps X.K H ds vs G:=by
   rcases h with⟨G,_,q,rs⟩ | ⟨q,rs⟩
   .exact⟨G,.inl q,rs⟩
   .exact⟨_,.inr q,rs⟩
  obtain⟨G,hq,rs⟩:=key;cases(show u=Value.ref a from r);obtain⟨_,its,n,rv,_,e⟩:=I.QlT hq;obtain⟨as,ra⟩:=Rps.reads I (by simpa only[D.noX]using hx) rs rv;exact⟨_,.list e rfl rfl (by simpa using ra)⟩
def Rps.reads(I:Inv X pins U H s):∀{ds:List D}{vs:List V}{F:LAd}{us:List Value},Qki ds=true->Rps X.K H ds vs F->QB vs us->∃as,ReadsAll s.heap us (pys ds) as
 | [],vs,_,us,_,h,r=>by
  simp only[Rps]at h;rw[h.1]at r;cases r;exact⟨_,.nil⟩
 | d::ds,vs,_,us,hx,h,r=>by
  simp only[Qki,Zi]at hx;simp only[Rps]at h;obtain⟨v,ws,F1,F2,rfl,rfl,h1,h2⟩:=h;cases r with
  | cons r rr=>
   obtain⟨as,ra⟩:=Rp.reads I hx.1 h1 r;obtain⟨bs,rb⟩:=Rps.reads I hx.2 h2 rr;exact⟨_,.cons ra rb⟩
end
end
noncomputable def gEq(a b:D):Option D:=if a.sim 8 && b.sim 8 then some (.bl (deq a b))else none
noncomputable def gNe(a b:D):Option D:=if a.sim 8 && b.sim 8 then some (.bl (!deq a b))else none
noncomputable def gIn(neg:Bool)(a b:D):Option D:=match b with
 | .lst xs=>if a.sim 8 && b.sim 8 then some (.bl (if neg then !(xs.any λy=>deq y a)else xs.any λy=>deq y a))else none
 | .tup xs=>if a.sim 8 && b.sim 8 then some (.bl (if neg then !(xs.any λy=>deq y a)else xs.any λy=>deq y a))else none
 | _=>none
def Qr7{neg:Bool}:∀a b d,gIn neg a b=some d->∃k,d= .bl k:=λa b d h=>by
 unfold gIn at h;split at h
 .split at h<;>cases h;exact⟨_,rfl⟩
 .split at h<;>cases h;exact⟨_,rfl⟩
 .cases h
noncomputable def QzN(K:Fgg):R2:=λx y H Q=>∃a b F G,Rp K H a x F/\Rp K H b y G/\a.sim 8=true/\b.sim 8=true/\Q (.bl (deq a b)) H
noncomputable def QyE(K:Fgg):R2:=λx y H Q=>∃a b F G,Rp K H a x F/\Rp K H b y G/\a.sim 8=true/\b.sim 8=true/\Q (.bl (!deq a b)) H
section
variable {X:Cx}
def QzA(hu:X.A.units+64<cLine):OpR X (compareOp .Eq) (QzN X.K):=by
 intro pins s U H x y v u Q I rx ry h;obtain⟨a,b,F,G,ha,hb,sa,sb,q⟩:=h;obtain⟨as,ra⟩:=Rp.reads I (QcG 8 _ sa) ha rx;obtain⟨bs,rb⟩:=Rp.reads I (QcG 8 _ sb) hb ry;have h1:=Qco 8 a sa;have h2:=Qco 8 b sb;exact SeqAt.compareEq_reads ra rb h1.1 h2.1 (by have:=Nat.min_le_left a.py.depth b.py.depth;omega) ⟨.bl _,H,I,rfl,q⟩
def Qzr(hu:X.A.units+64<cLine):OpR X (compareOp .NotEq) (QyE X.K):=by
 intro pins s U H x y v u Q I rx ry h;obtain⟨a,b,F,G,ha,hb,sa,sb,q⟩:=h;obtain⟨as,ra⟩:=Rp.reads I (QcG 8 _ sa) ha rx;obtain⟨bs,rb⟩:=Rp.reads I (QcG 8 _ sb) hb ry;have h1:=Qco 8 a sa;have h2:=Qco 8 b sb;exact SeqAt.compareNe_reads ra rb h1.1 h2.1 (by have:=Nat.min_le_left a.py.depth b.py.depth;omega) ⟨.bl _,H,I,rfl,q⟩
def QAr:Qcw K gEq (QzN K):=λa b d e=>by
 unfold gEq at e;split at e
 .rename_i h;simp only[Zi]at h;cases e;exact⟨rfl,λH x y F G Q ha hb q=>⟨a,b,F,G,ha,hb,h.1,h.2,q _ λ_=> .Qdg⟩⟩
 .cases e
def QAS:Qcw K gNe (QyE K):=λa b d e=>by
 unfold gNe at e;split at e
 .rename_i h;simp only[Zi]at h;cases e;exact⟨rfl,λH x y F G Q ha hb q=>⟨a,b,F,G,ha,hb,h.1,h.2,q _ λ_=> .Qdg⟩⟩
 .cases e
noncomputable def Qu0(K:Fgg)(neg:Bool):R2:=λx y H Q=>∃a b F G xs,Rp K H a x F/\Rp K H b y G/\a.sim 8=true/\b.sim 8=true/\(b= .lst xs∨b= .tup xs)/\Q (.bl (if neg then !(xs.any λy=>deq y a)else xs.any λy=>deq y a)) H
noncomputable def QlY(K:Fgg)(neg:Bool):R2:=λx y H Q=>Qu0 K neg x y H Q
def inS{K:Fgg}{neg:Bool}{x y:V}{H:Hp}{Q:VK}(h:Qu0 K neg x y H Q):QlY K neg x y H Q:=by first | exact h | exact .inl h
def Qsn{K:Fgg}{neg:Bool}{x y:V}{H:Hp}{Q:VK}{P:Prop}(h:QlY K neg x y H Q)(h1:Qu0 K neg x y H Q->P)
 :P:=by
 unfold QlY at h
 first
  | exact h1 h
def Qs0(xs:List D)(a:D):((pys xs).any λy=>PyData.eqv y a.py)=xs.any λy=>deq y a:=by
 rw[QpV,List.any_map];rfl
def Qzw(hu:X.A.units+64<cLine):OpR X (compareOp .In) (QlY X.K false):=by
 intro pins s U H x y v u Q I rx ry h;refine Qsn h (λh=>?_);obtain⟨a,b,F,G,xs,ha,hb,sa,sb,hk,q⟩:=h;obtain⟨as,ra⟩:=Rp.reads I (QcG 8 _ sa) ha rx;obtain⟨bs,rb⟩:=Rp.reads I (QcG 8 _ sb) hb ry;have h1:=Qco 8 a sa;have h2:=Qco 8 b sb;have q':Q (.bl ((pys xs).any λy=>PyData.eqv y a.py)) H:=by rw[Qs0];exact q
 rcases hk with rfl | rfl
 .exact SeqAt.in_list_reads rb ra h2.1 h1.1 (by have:=Zbf (PyData.depthAll (pys xs)) a.py.depth;omega) ⟨.bl _,H,I,rfl,q'⟩
 .exact SeqAt.in_tuple_reads rb ra h2.1 h1.1 (by have:=Zbf (PyData.depthAll (pys xs)) a.py.depth;omega) ⟨.bl _,H,I,rfl,q'⟩
def Qtu(hu:X.A.units+64<cLine):OpR X (compareOp .NotIn) (QlY X.K true):=by
 intro pins s U H x y v u Q I rx ry h;refine Qsn h (λh=>?_);obtain⟨a,b,F,G,xs,ha,hb,sa,sb,hk,q⟩:=h;obtain⟨as,ra⟩:=Rp.reads I (QcG 8 _ sa) ha rx;obtain⟨bs,rb⟩:=Rp.reads I (QcG 8 _ sb) hb ry;have h1:=Qco 8 a sa;have h2:=Qco 8 b sb;have q':Q (.bl (!(pys xs).any λy=>PyData.eqv y a.py)) H:=by rw[Qs0];exact q
 rcases hk with rfl | rfl
 .exact SeqAt.notIn_list_reads rb ra h2.1 h1.1 (by have:=Zbf (PyData.depthAll (pys xs)) a.py.depth;omega) ⟨.bl _,H,I,rfl,q'⟩
 .exact SeqAt.notIn_tuple_reads rb ra h2.1 h1.1 (by have:=Zbf (PyData.depthAll (pys xs)) a.py.depth;omega) ⟨.bl _,H,I,rfl,q'⟩
def QvZ:Qcw K (gIn neg) (QlY K neg):=λa b d e=>by
 unfold gIn at e;split at e
 .split at e
  .rename_i h;simp only[Zi]at h;cases e;exact⟨rfl,λH x y F G Q ha hb q=>inS ⟨a,_,F,G,_,ha,hb,h.1,h.2,.inl rfl,q _ λ_=> .Qdg⟩⟩
  .cases e
 .split at e
  .rename_i h;simp only[Zi]at h;cases e;exact⟨rfl,λH x y F G Q ha hb q=>inS ⟨a,_,F,G,_,ha,hb,h.1,h.2,.inr rfl,q _ λ_=> .Qdg⟩⟩
  .cases e
 .cases e
noncomputable def D.Qq9:D->Bool
 | .non=>true
 | _=>false
def Qxm(h:Rp K H d v F):decide (v= .non)=d.Qq9:=by
 cases d with
 | obj o ds=>simp only[Rp]at h;obtain⟨vs,A,G,_,q,_⟩:=h;exact decide_eq_false q.ne
 | non=>rw[h.QgC];rfl
 | bl b=>rw[h.QgJ];rfl
 | int b=>rw[h.int_inv];rfl
 | str b=>rw[h.str_inv];rfl
 | tup b=>obtain⟨a,vs,rfl,_⟩:=h.Qa2;rfl
 | lst b=>obtain⟨a,vs,G,rfl,_⟩:=h.lst_inv;rfl
 | exc b=>simp only[Rp]at h;obtain⟨⟨a,rfl,_⟩,_⟩:=h;rfl
 | dk b=>simp only[Rp]at h;obtain⟨a,rfl,_⟩:=h;rfl
noncomputable def D.tyN:D->String
 | .non=> "NoneType" | .bl _=> "bool" | .int _=> "int" | .str _=> "str" | .tup _=> "tuple" | .lst _=> "list" | .exc _=> "?" | .dk _=> "?"
 | .obj _ _=> "?"
noncomputable def D.isE:D->Bool
 | .exc _=>true
 | .dk _=>true
 | .obj _ _=>true
 | _=>false
noncomputable def D.isa(T:String)(d:D):Option Bool:=if(T == "int" || T == "bool" || T == "list" || T == "tuple" || T == "str") && !d.isE then some (d.tyN == T || (d.tyN == "bool" && T == "int"))else none
def Qyf(I:Inv X pins U H s)(rp:Rp X.K H d v F)(rx:RelV v u)(e:d.isa T=some b)(h:∀tk,Q (.bool b) {s with toks:=tk}):
  wpAny (model X.prog X.w) A (call (.builtin "isinstance") [u,.type T]) Q E s:=by
 have kit:PySem.W.kitOne X.K (.type d.tyN) (.type T)=some b:=by
  unfold D.isa at e;split at e
  .rename_i hT;cases e;simp only[Zi,ZbI,beq_iff_eq]at hT;obtain⟨hT,hE⟩:=hT;rcases hT with(((rfl | rfl) | rfl) | rfl) | rfl<;>cases d<;>first | rfl | (cases hE)
  .cases e
 cases d with
 | exc x=>unfold D.isa at e;split at e;(rename_i hT;exfalso;simp only[Zi]at hT;exact nomatch hT.2);cases e
 | dk x=>unfold D.isa at e;split at e;(rename_i hT;exfalso;simp only[Zi]at hT;exact nomatch hT.2);cases e
 | obj _ _=>unfold D.isa at e;split at e;(rename_i hT;exfalso;simp only[Zi]at hT;exact nomatch hT.2);cases e
 | non=>rw[rp.QgC]at rx;cases(show u=Value.none from rx);exact ZaJ PySem.W.kitx_none I.kIn True.intro kit (λz=>nomatch z) h
 | bl y=>rw[rp.QgJ]at rx;cases(show u=Value.bool y from rx);exact ZaJ PySem.W.kitx_bool I.kIn True.intro kit (λz=>nomatch z) h
 | int i=>rw[rp.int_inv]at rx;obtain⟨t,q⟩:=(show ∃t,u=Value.int i t from rx);cases q;exact ZaJ PySem.W.kitx_int I.kIn True.intro kit (λz=>nomatch z) h
 | str y=>rw[rp.str_inv]at rx;obtain⟨t,q⟩:=(show ∃t,u=Value.str y t from rx);cases q;exact ZaJ PySem.W.kitx_str I.kIn True.intro kit (λz=>nomatch z) h
 | tup ds=>
  obtain⟨a,vs,rfl,hq,_⟩:=rp.Qa2;cases(show u=Value.ref a from rx);obtain⟨its,rv,⟨o,h1,h2,n,h3⟩,_⟩:=I.tuple hq;exact ZaJ PySem.W.kitx_tuple I.kIn ⟨o,h1,h2⟩ kit (λz=>nomatch z) h
 | lst ds=>
  obtain⟨a,vs,G,rfl,hq,_⟩:=rp.lst_inv;cases(show u=Value.ref a from rx);obtain⟨_,its,n,rv,_,e1⟩:=I.QlT hq;exact ZaJ PySem.W.kitx_list I.kIn ⟨_,e1,rfl⟩ kit (λz=>nomatch z) h
def QB8(K:Fgg):List V->Hp->VK->Prop:=λxs H Q=>∃x T d F b,xs=[x,.ty T]/\Rp K H d x F/\d.isa T=some b/\Q (.bl b) H
def Qvc:Qdl X (.builtin "isinstance") (QB8 X.K):=by
 intro pins s U H xs us Q I r h;obtain⟨x,T,d,F,b,rfl,rp,e,q⟩:=h;obtain⟨u,w,rfl,ru,rw'⟩:=vals2 r;cases(show w=Value.type T from rw');exact Qyf I rp ru e λtk=>⟨.bl b,H,I.tok _,rfl,q⟩
noncomputable def Qev(T:String)(fa:DE):DE:=λρ=>(fa ρ).bind λr=>(r.d.isa T).map λb=>⟨.bl b,true,[]⟩
def Qy9(hg:Gl X "isinstance")(hm:X.mg "isinstance" =none)(ha:SE X a fa)(hT:PE X (.Name x p2) (tC (.ty T)))
  (he:starEach [a,.Name x p2] X.env=(false,eval a X.env)::starEach [.Name x p2] X.env):SE X (.Call (.Name "isinstance" p) [a,.Name x p2] [] pos) (Qev T fa):=λH0 A0=>
 (QjX Qvc hg hm Zbk (Qa5 (ha H0 A0) (Qa5 hT Qdz) he) ∅ ∅ he (by rfl)).mono λU H Q=>exK λρ hs F r' rel e q=>by
  refine Qf e λr e1 e=>?_;obtain⟨b,eb,e⟩:=Zb.mp e;subst e;exact⟨ρ,hs,F,r,rel,e1,λv H1 G p=>⟨v,T,r.d,G,b,rfl,p.rp,eb,q _ H1 [] (.flat p.same .Qdg)⟩⟩
noncomputable def D.tru:D->Option Bool
 | .non=>some false
 | .bl b=>some b
 | .int i=>some (i != 0)
 | .lst xs=>some (!xs.isEmpty)
 | .tup xs=>some (!xs.isEmpty)
 | .str _=>none
 | .exc _=>none
 | .dk _=>none
 | .obj _ _=>none
def Qng(h:Rp K H d v F)(e:d.tru=some b):QtM K v H b:=by
 have emp:∀{ds:List D}{vs:List V}{G:LAd},Rps K H ds vs G->(!ds.isEmpty)= !vs.isEmpty:=λ{ds vs G} r=>by
  have:=r.length;cases ds<;>cases vs<;>simp_all
 cases d with
 | non=>rw[h.QgC];cases e;exact rfl
 | bl c=>rw[h.QgJ];cases e;exact rfl
 | int i=>rw[h.int_inv];cases e;exact rfl
 | str i=>cases e
 | exc i=>cases e
 | dk i=>cases e
 | obj _ _=>cases e
 | tup ds=>cases e;obtain⟨a,vs,rfl,hq,r⟩:=h.Qa2;exact .inr (.inl ⟨vs,hq,emp r⟩)
 | lst ds=>cases e;obtain⟨a,vs,G,rfl,hq,r,_⟩:=h.lst_inv;exact .inl ⟨vs,Qah hq,emp r⟩
noncomputable def Qv(fa:DE):DT:=λρ=>(fa ρ).bind λr=>r.d.tru
noncomputable def Qer(f g:DT):DT:=λρ=>(f ρ).bind λb=>if b=true then g ρ else some false
noncomputable def bOr(f g:DT):DT:=λρ=>(f ρ).bind λb=>if b=true then some true else g ρ
noncomputable def QbO(f:DT):DT:=λρ=>(f ρ).bind λb=>some (!b)
def SW(X:Cx)(e:Expr)(f:DT):Prop:=∀H0 A0,PW X e (tVT X.K H0 A0 f)
def _root_.L2.PW.mono(h:PW X e t)(m:∀U H Q,t' U H Q->t U H Q):PW X e t':=λwh pins s U H Q I q=>h wh pins s U H Q I (m U H Q q)
variable {a b e:Expr}{fa fb:DE}{ga gb gc:DT}{pos:Pos}{rest:List Expr}
def Qtt(ha:SE X a fa)(he:∀whole,isTrue a X.env whole=(do let v ← whole;standAt a.pos;holding [v] (truthy v))):ST X a (Qv fa):=λH0 A0=>
 (Qup (ha H0 A0) he).mono λU H Q=>exK λρ hs F b rel e q=>by
  refine Qf e λr e1 e=>?_;exact⟨ρ,hs,F,r,rel,e1,λv H1 G p=>⟨b,Qng p.rp e,q H1 p.same⟩⟩
def Qyy(ho:OpR X (compareOp op) r)(hg:Qcw X.K g r)(hbl:∀a b d,g a b=some d->∃k,d= .bl k)(ha:SE X a fa)(hb:SE X b fb)(hm:behindInMarks op b=false):ST X (.Compare a [op] [b] pos) (Qv (dOp g fa fb)):=λH0 A0=>
 (Qxd ho (ha H0 A0) (hb H0 A0) hm).mono λU H Q=>exK λρ hs F k rel e q=>by
  refine Qf e λr' e0 e=>?_;obtain⟨ra,rb,d,ea,eb,eg,rfl⟩:=QlD e0;obtain⟨k',rfl⟩:=hbl _ _ _ eg;cases e;refine two rel ea eb λx y H1 H2 G1 G2 p1 p2=>(hg _ _ _ eg).2 H2 x y G1 G2 _ (p1.rp.same p2.same) p2.rp λv hv=>?_;exact⟨_,(hv H2).QgJ,q H2 (p1.same.trans p2.same)⟩
def Qsc(ha:ST X a ga):ST X (.UnaryOp .Not a pos) (QbO ga):=λH0 A0=>
 (Qyb (ha H0 A0)).mono λU H Q=>exK λρ hs F b rel e q=>by
  refine Qf e λc e1 e=>?_;cases e;exact⟨ρ,hs,F,c,rel,e1,λH1 s1=>q H1 s1⟩
def Qxe(ha:ST X a ga):SW X (.BoolOp .And [a] pos) ga:=λH0 A0=>Qw8 (ha H0 A0)
def Qto(ha:ST X a ga):SW X (.BoolOp .Or [a] pos) ga:=λH0 A0=>QyY (ha H0 A0)
def Qzb(ha:ST X a ga)(hb:SW X (.BoolOp .And (b::rest) pos) gb):SW X (.BoolOp .And (a::b::rest) pos) (Qer ga gb):=λH0 A0=>
 (Qyp (ha H0 A0) (hb H0 A0)).mono λU H Q=>exK λρ hs F c rel e q=>by
  refine Qf e λd e1 e=>?_;refine⟨ρ,hs,F,d,rel,e1,λH1 s1=>?_⟩;cases d with
  | true=>exact⟨ρ,hs,F,c,rel.ext s1,e,λH2 s2=>q H2 (s1.trans s2)⟩
  | false=>cases e;exact q H1 s1
def Qv5(ha:ST X a ga)(hb:SW X (.BoolOp .Or (b::rest) pos) gb):SW X (.BoolOp .Or (a::b::rest) pos) (bOr ga gb):=λH0 A0=>
 (QAV (ha H0 A0) (hb H0 A0)).mono λU H Q=>exK λρ hs F c rel e q=>by
  refine Qf e λd e1 e=>?_;refine⟨ρ,hs,F,d,rel,e1,λH1 s1=>?_⟩;cases d with
  | true=>cases e;exact q H1 s1
  | false=>exact⟨ρ,hs,F,c,rel.ext s1,e,λH2 s2=>q H2 (s1.trans s2)⟩
def SW.st(h:SW X e ga):ST X e ga:=λH0 A0=>(h H0 A0).pt
noncomputable def QcZ(fa fb:DE):DE:=λρ=>(fa ρ).bind λra=>(ra.d.tru).bind λb=>if b=true then fb ρ else some ra
noncomputable def dOr(fa fb:DE):DE:=λρ=>(fa ρ).bind λra=>(ra.d.tru).bind λb=>if b=true then some ra else fb ρ
noncomputable def Qvd(fa:DE):DE:=λρ=>(fa ρ).bind λra=>(ra.d.tru).bind λb=>some ⟨.bl (!b),true,[]⟩
noncomputable def dIf(g:DT)(fa fb:DE):DE:=λρ=>(g ρ).bind λb=>if b=true then fa ρ else fb ρ
def Qnt{op}(h:SE X a fa):SE X (.BoolOp op [a] pos) fa:=λH0 A0=>Qzo (h H0 A0)
def Q9.ext(s:QE H H1)(p:Q9 K ρ F H1 H2 r v G)(rel:Rel K H0 A0 hs ρ F U H):Q9 K ρ F H H2 r v G where
 same:=s.trans p.same
 rp:=p.rp
 src:=λa ha=>(p.src a ha).elim (λz=> .inl (s.free z)) .inr
 cnt:=λh=>⟨λa=>ZL ((p.cnt h).1 a) (Zbh (by
  cases q:H1 a with
  | none=>rw[QaM q,QaM (s.free q)];exact Zk _
  | some o=>rw[QdR q];exact ZS _) _),(p.cnt h).2⟩
 own:=p.own
def Qsb(ha:SE X a fa)(hb:SE X (.BoolOp .And (b::rest) pos) fb):SE X (.BoolOp .And (a::b::rest) pos) (QcZ fa fb):=λH0 A0=>by
 intro pins s U H Q I ⟨ρ,hs,F,r,rel,e,q⟩;refine Qf e λra e1 e=>?_;refine Qf e λc e2 e=>?_;refine PyProof.Rows.BoolOp_and (thn (ha H0 A0 pins s U H _ I ⟨ρ,hs,F,ra,rel,e1,λv H' G p=>(⟨G,p⟩:∃G,Q9 X.K ρ F H H' ra v G)⟩) λv s1 Z=>?_);obtain⟨x,H1,I1,r1,G,p⟩:=Z;refine thn (Qk1 pins s1 U H1 x v (λk H2=>k=c/\H2=H1) I1 r1 ⟨c,Qng p.rp e2,rfl,rfl⟩) λk s2 Z=>?_;obtain⟨H2,I2,e3,e4⟩:=Z;subst e3 e4;cases k with
 | true=>exact hb H0 A0 pins s2 U _ Q I2 ⟨ρ,hs,F,r,rel.ext p.same,e,λw H3 G3 p3=>q w H3 G3 (p3.ext p.same rel)⟩
 | false=>cases e;exact⟨x,_,I2,r1,q x _ G p⟩
def QvW(ha:SE X a fa)(hb:SE X (.BoolOp .Or (b::rest) pos) fb):SE X (.BoolOp .Or (a::b::rest) pos) (dOr fa fb):=λH0 A0=>by
 intro pins s U H Q I ⟨ρ,hs,F,r,rel,e,q⟩;refine Qf e λra e1 e=>?_;refine Qf e λc e2 e=>?_;refine PyProof.Rows.BoolOp_or (thn (ha H0 A0 pins s U H _ I ⟨ρ,hs,F,ra,rel,e1,λv H' G p=>(⟨G,p⟩:∃G,Q9 X.K ρ F H H' ra v G)⟩) λv s1 Z=>?_);obtain⟨x,H1,I1,r1,G,p⟩:=Z;refine thn (Qk1 pins s1 U H1 x v (λk H2=>k=c/\H2=H1) I1 r1 ⟨c,Qng p.rp e2,rfl,rfl⟩) λk s2 Z=>?_;obtain⟨H2,I2,e3,e4⟩:=Z;subst e3 e4;cases k with
 | false=>exact hb H0 A0 pins s2 U _ Q I2 ⟨ρ,hs,F,r,rel.ext p.same,e,λw H3 G3 p3=>q w H3 G3 (p3.ext p.same rel)⟩
 | true=>cases e;exact⟨x,_,I2,r1,q x _ G p⟩
def Qsz(ha:SE X a fa):SE X (.UnaryOp .Not a pos) (Qvd fa):=λH0 A0=>by
 intro pins s U H Q I ⟨ρ,hs,F,r,rel,e,q⟩;refine Qf e λra e1 e=>?_;refine Qf e λc e2 e=>?_;cases e;refine PyProof.Rows.UnaryOp_ (thn (ha H0 A0 pins s U H _ I ⟨ρ,hs,F,ra,rel,e1,λv H' G p=>(⟨G,p⟩:∃G,Q9 X.K ρ F H H' ra v G)⟩) λv s1 Z=>?_);obtain⟨x,H1,I1,r1,G,p⟩:=Z;refine PyProof.Rows.not_of (thn (Qk1 pins s1 U H1 x v (λk H2=>k=c/\H2=H1) I1 r1 ⟨c,Qng p.rp e2,rfl,rfl⟩) λk s2 Z=>?_);obtain⟨H2,I2,e3,e4⟩:=Z;subst e3 e4;exact⟨.bl (!k),_,I2,rfl,q _ _ [] (.flat p.same .Qdg)⟩
def QAq(hc:ST X c gc)(ha:SE X a fa)(hb:SE X b fb):SE X (.IfExp c a b pos) (dIf gc fa fb):=λH0 A0=>
 (Qu8 (hc H0 A0) (ha H0 A0) (hb H0 A0)).mono λU H Q=>exK λρ hs F r rel e q=>by
  refine Qf e λc e1 e=>?_;refine⟨ρ,hs,F,c,rel,e1,λH1 s1=>?_⟩;cases c with
  | true=>exact⟨ρ,hs,F,r,rel.ext s1,e,λv H2 G p=>q v H2 G (p.ext s1 rel)⟩
  | false=>exact⟨ρ,hs,F,r,rel.ext s1,e,λv H2 G p=>q v H2 G (p.ext s1 rel)⟩
noncomputable def QcW(fa:DE):DE:=λρ=>(fa ρ).bind λra=>match ra.d with
 | .int i=>some ⟨.int (-i),true,[]⟩
 | _=>none
def Qyi(ha:SE X a fa):SE X (.UnaryOp .USub a pos) (QcW fa):=λH0 A0=>
 (QAw Qyj (ha H0 A0)).mono λU H Q=>exK λρ hs F r rel e q=>by
  refine Qf e λra e1 e=>?_;refine⟨ρ,hs,F,ra,rel,e1,λv H1 G p=>?_⟩;have rp:=p.rp;cases hr:ra.d with
  | int i=>
   rw[hr]at e rp;cases e;exact⟨i,rp.int_inv,q _ H1 [] (.flat p.same .int_mk)⟩
  | _=>rw[hr]at e;cases e
end
end HS
namespace HS
open PySem PySem.Spec L2
section
def Qc2(ρ ρ':En):Prop:=ρ'.length=ρ.length/\∀(i:Nat) d b,ρ'[i]? =some (some (d,b))->∃b',ρ[i]? =some (some (d,b'))/\(b=true->b'=true)
def Qc2.refl:Qc2 ρ ρ:=⟨rfl,λi d b h=>⟨b,h,id⟩⟩
def Qc2.trans(a:Qc2 ρ ρ')(b:Qc2 ρ' ρ''):Qc2 ρ ρ'':=⟨b.1.trans a.1,λi d c h=>by
 obtain⟨c',h1,h2⟩:=b.2 i d c h;obtain⟨c'',h3,h4⟩:=a.2 i d c' h1;exact⟨c'',h3,λz=>h4 (h2 z)⟩⟩
def Rel.weak(r:Rel K H0 A0 hs ρ F U H)(w:Qc2 ρ ρ'):Rel K H0 A0 hs ρ' F U H where
 len:=w.1.trans r.len
 val:=λi d b e=>let ⟨b',h,_⟩:=w.2 i d b e;r.val i d b' h
 own:=λi d e=>by
  obtain⟨b',h,hb⟩:=w.2 i d true e;have:b'=true:=hb rfl;subst this;obtain⟨h1,h2,h3,h4,h5⟩:=r.own i d h;exact⟨h1,h2,h3,λj d' b' hj e'=>let ⟨b'',h',_⟩:=w.2 j d' b' e';h4 j d' b'' hj h',h5⟩
 src:=λi d b e=>let ⟨b',h,_⟩:=w.2 i d b e;r.src i d b' h
 held:=r.held
 same:=r.same
noncomputable def kill:List Nat->En->En
 | [],ρ=>ρ
 | i::M,ρ=>kill M (ρ.set i none)
noncomputable def Qcn:List Nat->En->En
 | [],ρ=>ρ
 | i::M,ρ=>Qcn M (match ρ[i]? with
  | some (some (d,_))=>ρ.set i (some (d,false))
  | _=>ρ)
def Qmv(i:Nat):Qc2 ρ (ρ.set i none):=⟨⋯,λj d b h=>by
 by_cases hj:i=j
 .subst hj;by_cases hl:i<ρ.length
  .rw[Zm hl]at h;cases h
  .rw[Zw (by simp;omega)]at h;cases h
 .rw[Zh hj]at h;exact⟨b,h,id⟩⟩
def Qb4:∀(M:List Nat) (ρ:En),Qc2 ρ (kill M ρ)
 | [],ρ=> .refl
 | i::M,ρ=>(Qmv i).trans (Qb4 M _)
def Qf7:∀(M:List Nat) (ρ:En) (i:Nat) (d:D) (b:Bool),i∈M->(kill M ρ)[i]? =some (some (d,b))->False
 | [],ρ,i,d,b,h,_=>by simp at h
 | j::M,ρ,i,d,b,h,e=>by
  rcases Zn.mp h with rfl | h
  .obtain⟨b',e',_⟩:=(Qb4 M (ρ.set i none)).2 i d b e;by_cases hl:i<ρ.length
   .rw[Zm hl]at e';cases e'
   .rw[Zw (by simp;omega)]at e';cases e'
  .exact Qf7 M _ i d b h e
def Qvm(i:Nat):Qc2 ρ (match ρ[i]? with
  | some (some (d,_))=>ρ.set i (some (d,false))
  | _=>ρ):=by
 split
 .rename_i d b e;refine⟨⋯,λj d' b' h=>?_⟩;by_cases hj:i=j
  .subst hj;have hl:i<ρ.length:=(Zg.mp e).1;rw[Zm hl]at h;cases h;exact⟨b,e,λz=>by cases z⟩
  .rw[Zh hj]at h;exact⟨b',h,id⟩
 .exact .refl
def QcH:∀(M:List Nat) (ρ:En),Qc2 ρ (Qcn M ρ)
 | [],ρ=> .refl
 | i::M,ρ=>(Qvm i).trans (QcH M _)
def QkK:∀(M:List Nat) (ρ:En) (i:Nat) (d:D),i∈M->(Qcn M ρ)[i]? =some (some (d,true))->False
 | [],ρ,i,d,h,_=>by simp at h
 | j::M,ρ,i,d,h,e=>by
  rcases Zn.mp h with rfl | h
  .obtain⟨b',e',hb⟩:=(QcH M _).2 i d true e;have:b'=true:=hb rfl;subst this;split at e'
   .rename_i d' b e1;have hl:i<ρ.length:=(Zg.mp e1).1;rw[Zm hl]at e';cases e'
   .rename_i h1;exact h1 d true e'
  .exact QkK M _ i d h e
def Shr(H0:Hp)(A0:LAd)(ρ:En)(F:Nat->List Addr)(G:LAd):Prop:=
 ∀a∈G,(H0 a=none∨a∈A0)/\∀(i:Nat) d,ρ[i]? =some (some (d,true))->a∉F i
def Shr.of(r:Rel K H0 A0 hs ρ F U H)(s:Src ρ F H M G):Shr H0 A0 (Qcn M ρ) F G:=λa ha=>by
 have w:=QcH M ρ;rcases s a ha with h | ⟨i,d,b,e,m,hm⟩
 .refine⟨.inl (r.same.free h),λj d' e' hj=>?_⟩;obtain⟨b',e2,_⟩:=w.2 j d' true e';obtain⟨vs,q⟩:=r.mem e2 hj;rw[h]at q;cases q
 .refine⟨r.src i d b e a m,λj d' e' hj=>?_⟩;obtain⟨b',e2,hb⟩:=w.2 j d' true e';have:b'=true:=hb rfl;subst this;by_cases hij:i=j
  .subst hij;rw[e]at e2;cases e2;exact QkK M ρ i _ (hm rfl) e'
  .exact(r.own j d' e2).2.2.2.1 i d b hij e a hj m
def Rel.QqA(r:Rel K H0 A0 hs ρ F U H)(rp:Rp K H d v G)(sh:Shr H0 A0 ρ F G):
  Rel K H0 A0 hs (ρ.set i (some (d,d.flat))) (λj=>if j=i then G else F j) (U.set i (some v)) H where
 len:=by simp[r.len]
 val:=λj d' b e=>by
  by_cases hj:j=i
  .subst hj;have hl:j<ρ.length:=by
    by_cases hl:j<ρ.length
    .exact hl
    .rw[Zw (by simp;omega)]at e;cases e
   rw[Zm hl]at e;cases e;exact⟨v,by rw[Zm (by rw[← r.len];exact hl)],by rw[if_pos rfl];exact rp⟩
  .rw[Zh (Ne.symm hj)]at e;obtain⟨w,h1,h2⟩:=r.val j d' b e;exact⟨w,by rw[Zh (Ne.symm hj)];exact h1,by rw[if_neg hj];exact h2⟩
 own:=λj d' e=>by
  by_cases hj:j=i
  .subst hj;have hl:j<ρ.length:=by
    by_cases hl:j<ρ.length
    .exact hl
    .rw[Zw (by simp;omega)]at e;cases e
   rw[Zm hl]at e;have e1:=Option.some.inj (Option.some.inj e);have ed:d=d':=congrArg Prod.fst e1;have ef:d.flat=true:=congrArg Prod.snd e1;subst ed;have:=rp.Qcm ef;subst this;rw[if_pos rfl];exact⟨(Qc9 d ef).symm,Zad,λa ha=>by simp at ha,λ_ _ _ _ _ a ha=>by simp at ha,λ_ _ a ha=>by simp at ha⟩
  .rw[Zh (Ne.symm hj)]at e;obtain⟨h1,h2,h3,h4,h5⟩:=r.own j d' e;rw[if_neg hj];refine⟨h1,h2,h3,λk d'' b hk ek a ha=>?_,h5⟩;by_cases hki:k=i
   .subst hki;rw[if_pos rfl];exact λhG=>(sh a hG).2 j d' e ha
   .rw[Zh (Ne.symm hki)]at ek;rw[if_neg hki];exact h4 k d'' b hk ek a ha
 src:=λj d' b e a ha=>by
  by_cases hj:j=i
  .subst hj;rw[if_pos rfl]at ha;exact(sh a ha).1
  .rw[Zh (Ne.symm hj)]at e;rw[if_neg hj]at ha;exact r.src j d' b e a ha
 held:=r.held
 same:=r.same
def QA4(r:Rel K H0 A0 hs ρ F U H)(ow:Qbp ρ M)(nd:M.Nodup)(a:Addr):((M.map F).flatten).count a<=1:=by
 induction M with
 | nil=>simp
 | cons i M ih=>
  rw[ZA,Zao,Zaf];obtain⟨h1,h2⟩:=ZV.mp nd;have ih':=ih (λj hj=>ow j (Zc _ hj)) h2;obtain⟨d,e⟩:=ow i Zf;obtain⟨_,nd1,_,apart,_⟩:=r.own i d e;by_cases ha:a∈F i
  .have c1:(F i).count a<=1:=ZZ.mp nd1 a;have c2:((M.map F).flatten).count a=0:=ZM.mpr λhm=>by
    obtain⟨l,hl,hal⟩:=Zbe.mp hm;obtain⟨j,hj,rfl⟩:=Zac.mp hl;obtain⟨d',e'⟩:=ow j (Zc _ hj);exact apart j d' true (λz=>h1 (z▸hj)) e' a ha hal
   omega
  .have:(F i).count a=0:=ZM.mpr ha;omega
def Q9.fresh(r:Rel K H0 A0 hs ρ F U H)(p:Q9 K ρ F H H' rr v G)(hf:rr.fr=true)(nd:rr.M.Nodup):
  G.Nodup/\∀a∈G,H0 a=none/\(H a=none∨∃i d,i∈rr.M/\ρ[i]? =some (some (d,true))/\a∈F i):=by
 obtain⟨c,_⟩:=p.cnt hf;refine⟨ZZ.mpr λa=>?_,λa ha=>?_⟩
 .have h1:=c a;have h2:=QA4 r p.own nd a;cases q:H a with
  | none=>rw[QaM q,r.fl0 p.own q]at h1;omega
  | some o=>rw[QdR q]at h1;omega
 .cases q:H a with
  | none=>exact⟨r.same.free q,.inl rfl⟩
  | some o=>
   have h1:=c a;rw[QdR q]at h1;have h2:0<G.count a:=Zaq.mpr ha;obtain⟨l,hl,hal⟩:=Zbe.mp (Zaq.mp (by omega:0<((rr.M.map F).flatten).count a));obtain⟨i,hi,rfl⟩:=Zac.mp hl;obtain⟨d,e⟩:=p.own i hi;exact⟨(r.own i d e).2.2.1 a hal,.inr ⟨i,d,hi,e,hal⟩⟩
def Rel.QB5(r:Rel K H0 A0 hs ρ F U H)(p:Q9 K ρ F H H' rr v G)(hf:rr.fr=true)(nd:rr.M.Nodup):
  Rel K H0 A0 hs ((kill rr.M ρ).set i (some (rr.d,true))) (λj=>if j=i then G else F j) (U.set i (some v)) H':=by
 have r1:=(r.ext p.same).weak (Qb4 rr.M ρ);obtain⟨gn,gs⟩:=p.fresh r hf nd;have gl:=(p.cnt hf).2;have apart:∀(j:Nat) d b,(kill rr.M ρ)[j]? =some (some (d,b))->∀a∈G,a∉F j:=λj d b e a ha hj=>by
  obtain⟨b',e',_⟩:=(Qb4 rr.M ρ).2 j d b e;rcases(gs a ha).2 with q | ⟨k,d',hk,ek,hak⟩
  .obtain⟨vs,w⟩:=r.mem e' hj;rw[q]at w;cases w
  .have hjk:j≠k:=λz=>by subst z;exact Qf7 rr.M ρ j d b hk e
   exact(r.own k d' ek).2.2.2.1 j d b' hjk e' a hak hj
 have apartH:∀t∈hs,∀a∈G,a∉t.2.2:=λt ht a ha hj=>by
  rcases(gs a ha).2 with q | ⟨k,d',hk,ek,hak⟩
  .obtain⟨vs,w⟩:=(r.held t ht).1.mem a hj;rw[q]at w;cases w
  .exact(r.own k d' ek).2.2.2.2 t ht a hak hj
 have lt:∀{j:Nat}{x:Option (D×Bool)}{y:D×Bool},((kill rr.M ρ).set j x)[j]? =some (some y)->j<(kill rr.M ρ).length:=λ{j x y} e=>by
  by_cases hl:j<(kill rr.M ρ).length
  .exact hl
  .rw[Zw (by simp;omega)]at e;cases e
 refine⟨by simp[r1.len],λj d b e=>?_,λj d e=>?_,λj d b e a ha=>?_,r1.held,r1.same⟩
 .by_cases hj:j=i
  .subst hj;have hl:=lt e;rw[Zm hl]at e;cases e;exact⟨v,by rw[Zm (by rw[← r1.len];exact hl)],by rw[if_pos rfl];exact p.rp⟩
  .rw[Zh (Ne.symm hj)]at e;obtain⟨w,h1,h2⟩:=r1.val j d b e;exact⟨w,by rw[Zh (Ne.symm hj)];exact h1,by rw[if_neg hj];exact h2⟩
 .by_cases hj:j=i
  .subst hj;have hl:=lt e;rw[Zm hl]at e;cases e;rw[if_pos rfl];refine⟨gl,gn,λa ha=>(gs a ha).1,λk d' b hk ek a ha=>?_,apartH⟩;rw[Zh (Ne.symm hk)]at ek;rw[if_neg hk];exact apart k d' b ek a ha
  .rw[Zh (Ne.symm hj)]at e;obtain⟨h1,h2,h3,h4,h5⟩:=r1.own j d e;rw[if_neg hj];refine⟨h1,h2,h3,λk d' b hk ek a ha=>?_,h5⟩;by_cases hki:k=i
   .subst hki;rw[if_pos rfl];exact λhG=>apart j d true e a hG ha
   .rw[Zh (Ne.symm hki)]at ek;rw[if_neg hki];exact h4 k d' b hk ek a ha
 .by_cases hj:j=i
  .subst hj;rw[if_pos rfl]at ha;exact .inl (gs a ha).1
  .rw[Zh (Ne.symm hj)]at e;rw[if_neg hj]at ha;exact r1.src j d b e a ha
noncomputable def asg(i:Nat)(r:R)(ρ:En):En:=
 if r.norm.fr && decide r.norm.M.Nodup then(kill r.norm.M ρ).set i (some (r.d,true))else(Qcn r.norm.M ρ).set i (some (r.d,r.d.flat))
def Rel.asg(r:Rel K H0 A0 hs ρ F U H)(p:Q9 K ρ F H H' rr v G):∃F',Rel K H0 A0 hs (asg i rr ρ) F' (U.set i (some v)) H':=by
 have p':=p.norm;unfold HS.asg;split
 .rename_i h;simp only[Zi,decide_eq_true_eq]at h;have:=r.QB5 (i:=i) p' h.1 h.2;rw[rr.Qdw]at this;exact⟨_,this⟩
 .have r1:=(r.ext p'.same).weak (QcH rr.norm.M ρ);have rp:=p'.rp;rw[rr.Qdw]at rp;have sh:=Shr.of r p'.src;exact⟨_,r1.QqA rp sh⟩
def Rel.hold(r:Rel K H0 A0 hs ρ F U H)(h:∀t∈ts,Rp K H t.2.1 t.1 t.2.2/\Shr H0 A0 ρ F t.2.2):Rel K H0 A0 (ts++hs) ρ F U H where
 len:=r.len
 val:=r.val
 own:=λi d e=>by
  obtain⟨h1,h2,h3,h4,h5⟩:=r.own i d e;refine⟨h1,h2,h3,h4,λt ht a ha hm=>?_⟩;rcases Zr.mp ht with z | z
  .exact((h t z).2 a hm).2 i d e ha
  .exact h5 t z a ha hm
 src:=r.src
 held:=λt ht=>by
  rcases Zr.mp ht with z | z
  .exact⟨(h t z).1,λa ha=>((h t z).2 a ha).1⟩
  .exact r.held t z
 same:=r.same
def Rel.QnF(r:Rel K H0 A0 (ts++hs) ρ F U H):Rel K H0 A0 hs ρ F U H where
 len:=r.len
 val:=r.val
 own:=λi d e=>let ⟨h1,h2,h3,h4,h5⟩:=r.own i d e;⟨h1,h2,h3,h4,λt ht=>h5 t (Zd _ ht)⟩
 src:=r.src
 held:=λt ht=>r.held t (Zd _ ht)
 same:=r.same
end
structure Ret (K:Fgg) (H0:Hp) (A0:LAd) (d:D) (fr:Bool) (v:V) (H':Hp) (G:LAd):Prop where
 same:QE H0 H'
 rp:Rp K H' d v G
 src:∀a∈G,H0 a=none∨a∈A0
 cnt:fr=true->G.Nodup/\G.length=d.nl/\∀a∈G,H0 a=none
noncomputable abbrev Den:=List D->Option (D×Bool)
noncomputable def spV(K:Fgg)(n:Nat)(den:Den):Sp:=λvs H Q _=>∃ds F d fr,Rps K H ds vs F/\ds.length=n/\den ds=some (d,fr)/\∀v H' G,Ret K H F d fr v H' G->Q v H'
def Qjb{K:Fgg}{n:Nat}{den:Den}{ps:List Str}(hn:ps.length=n):∀vs H Q E,spV K n den vs H Q E->vs.length=ps.length:=λvs H Q E ⟨ds,F,d,fr,r,hl,_⟩=>by rw[hn,← hl,r.length]
noncomputable def Qj(n:Nat)(den:Den)(dfl:List D)(fs:DA):DE:=λρ=>(fs ρ).bind λr=>if r.ds.length+dfl.length=n then(den (r.ds++dfl)).map λq=>if q.2=true then⟨q.1,true,[]⟩else R.norm ⟨q.1,false,r.M⟩else none
section
variable {X:Cx}{e:Expr}{es:List Expr}{fs:DA}{pos p:Pos}{x:Str}{n k:Nat}{f:Addr}{fd:FuncData}{ps:List Str}{den:Den}{dfl:List D}{dvs:List V}{ds:List Value}
def Qiu{U:L2.St}{H H0:Hp}{A0:LAd}{Q:VK}(hdf:∀H,Rps X.K H dfl dvs []):tV X.K H0 A0 (Qj n den dfl fs) U H Q->Qrj (spV X.K n den) dvs E0 (tVA X.K H0 A0 fs) U H Q:=exK λρ hs F r rel e q=>by
 refine Qf e λra e1 e=>?_;split at e
 .rename_i hl;obtain⟨⟨d,fr⟩,e2,e⟩:=Zb.mp e;refine⟨ρ,hs,F,ra,rel,e1,λvs H1 G p1=>⟨ra.ds++dfl,G++[],d,fr,p1.rp.append (hdf H1),by rw[Zo];exact hl,e2,λv H2 G2 rt=>?_⟩⟩;subst e;have src:Src ρ F H ra.M G2:=λa ha=>by
   rcases rt.src a ha with z | z
   .exact .inl (p1.same.free z)
   .rw[Zs]at z;exact p1.src a z
  split at q
  .rename_i hf;have hf:fr=true:=hf;obtain⟨nd,hn,fresh⟩:=rt.cnt hf;have hH:∀a∈G2,H a=none:=λa ha=>p1.same.free (fresh a ha);refine q v H2 G2 ⟨p1.same.trans rt.same,rt.rp,λa ha=> .inl (hH a ha),λ_=>⟨λa=>?_,hn⟩,Qbp.nil⟩;by_cases ha:a∈G2
   .rw[QaM (hH a ha)];have:=ZZ.mp nd a;omega
   .rw[ZM.mpr ha];exact ZS _
  .refine q v H2 G2 (Q9.norm ⟨p1.same.trans rt.same,rt.rp,src,λz=>(by cases z),p1.own⟩)
 .cases e
def Qxk(Fk:Qau X.prog X.w X.K X.mg X.base CX0 k f fd ps (spV X.K n den))(hr:Qao k X.A)(hg:Gl X x)(hm:X.mg x=some (.ref f))(hk:PySem.W.keepIn X.K (.ref f)=true)(hb:Binds X.K fd ps ds)(hd:QB dvs ds)(hdf:∀H,Rps X.K H dfl dvs [])
  (ha:SA X (e::es) fs) (hdb:(x == ("__debug__" :Str))=false) (he:starEach (e::es) X.env=(false,eval e X.env)::starEach es X.env) (hpl:(backTo pos (starEach es X.env)).any (·.1)=false):
  SE X (.Call (.Name x p) (e::es) [] pos) (Qj n den dfl fs):=λH0 A0=>
 (QgD Fk hr hg hm hk hb hd Qfc (ha H0 A0) hdb he hpl).mono λU H Q h=>Qiu hdf h
def Qur(Fk:Qau X.prog X.w X.K X.mg X.base CX0 k f fd ps (spV X.K n den))(hr:Qao k X.A)(hg:Gl X x)(hm:X.mg x=some (.ref f))(hk:PySem.W.keepIn X.K (.ref f)=true)(hb:Binds X.K fd ps ds)(hd:QB dvs ds)(hdf:∀H,Rps X.K H dfl dvs [])
  (hdb:(x == ("__debug__" :Str))=false):SE X (.Call (.Name x p) [] [] pos) (Qj n den dfl Qc):=λH0 A0=>
 (Qt0 Fk hr hg hm hk hb hd Qfc hdb).mono λU H Q h=>by
  have h':=Qiu hdf h;obtain⟨ρ,hs,F,r,rel,e,q⟩:=h';cases e;exact q [] H [] ⟨QE.refl _,by simp[Rps],Src.nil,λ_=>⟨Cnt.nil,rfl⟩,Qbp.nil⟩
end
structure IR where
 items:List D
 M:List Nat
noncomputable abbrev DI:=En->Option IR
def QlQ(K:Fgg)(H:Hp)(ts:List (V×D×List Addr)):Prop:=∀t∈ts,Rp K H t.2.1 t.1 t.2.2
structure Walk (K:Fgg) (J:It) (ts:List (V×D×List Addr)) (ds:List D):Prop where
 stop:∀H,QlQ K H ts->J.stop ds.length H
 go:∀i H,i<ds.length->QlQ K H ts->J.go i H
 yld:∀(i:Nat) d H x H',ds[i]? =some d->QlQ K H ts->J.yld i H x H'->QE H H'/\∃G,Rp K H' d x G/\∀a∈G,∃t∈ts,a∈t.2.2
noncomputable def tI(K:Fgg)(H0:Hp)(A0:LAd)(f:DI):TI:=λU H Rr=>∃ρ hs F ir,Rel K H0 A0 hs ρ F U H/\f ρ=some ir∧
 ∀J H1 ts,QE H H1->Walk K J ts ir.items->(∀t∈ts,Rp K H1 t.2.1 t.1 t.2.2/\Src ρ F H ir.M t.2.2)->Qbp ρ ir.M->ir.items.length<=sizeLine->Rr J H1
def SI(X:Cx)(tg e:Expr)(f:DI):Prop:=∀H0 A0,PI X tg e (tI X.K H0 A0 f)
def _root_.L2.PI.mono(h:PI X tg e t)(m:∀U H Q,t' U H Q->t U H Q):PI X tg e t':=λpins s U H Q I q=>h pins s U H Q I (m U H Q q)
section
variable {X:Cx}{tg a b:Expr}{fa fb:DE}{fs:DA}{pos p:Pos}
def Rps.nth{K:Fgg}{H:Hp}{ds:List D}{vs:List V}{F:LAd}{i:Nat}{d:D}(h:Rps K H ds vs F)(e:ds[i]? =some d):∃v G,vs[i]? =some v/\Rp K H d v G/\∀a∈G,a∈F:=by
 obtain⟨v,F1,G,F2,h1,h2,h3,_⟩:=h.get e;exact⟨v,G,h1,h3,λa ha=>by rw[h2];exact Zd _ (Ze _ ha)⟩
noncomputable def QBW(K:Fgg)(tl:TE):TI:=λU H Rr=>tl U H λx H1=>(∃a,x= .ref a/\(∃xs,SqL K H1 a xs)/\Rr (Itl K a) H1)∨(∃a,x= .ref a/\(∃xs,SqT K H1 a xs)/\Rr (Itt K a) H1)
def QyO(hl:PE X l tl):PI X tg l (QBW X.K tl):=by
 intro pins s U H Rr I h;refine thn (hl pins s U H _ I h) λv s1=>exJ λx H1 I1 r1 q1=>?_;rcases q1 with⟨a,e,⟨xs,hq⟩,q⟩ | ⟨a,e,⟨xs,hq⟩,q⟩
 .subst e;cases r1;obtain⟨its,rv,pl,hz⟩:=I1.list hq;refine wpAny_pyIter_list pl.isList ⟨s1.heap.objs.size,[s1.heap.objs.size],_,_,H1,rfl,I1.kept (t':=s1.toks) λb o e=>Zq _ e,Qr4 a _,⟨_,ZG _ rfl,rfl,rfl⟩,λb hb=>?_,q⟩;have e:b=s1.heap.objs.size:=by simpa using hb
  subst e;exact I1.QlZ (Zk _) (I1.hok.fresh (Zk _))
 .subst e;cases r1;obtain⟨its,rv,pl,hz⟩:=I1.tuple hq;refine wpAny_pyIter_tuple (show s1.heap.IsTuple a its.toArray from pl) ⟨s1.heap.objs.size,[s1.heap.objs.size],_,_,H1,rfl,I1.kept (t':=s1.toks) λb o e=>Zq _ e,Qro a _,⟨_,ZG _ rfl,rfl,rfl⟩,λb hb=>?_,q⟩;have e:b=s1.heap.objs.size:=by simpa using hb
  subst e;exact I1.QlZ (Zk _) (I1.hok.fresh (Zk _))
noncomputable def Qan(fa:DE):DI:=λρ=>(fa ρ).bind λr=>match r.d with
 | .lst xs=>some ⟨xs,r.M⟩
 | .tup xs=>if xs.length<=sizeLine then some ⟨xs,r.M⟩else none
 | _=>none
def Qtn{K:Fgg}{c:Addr}{ds:List D}{G:LAd}:Walk K (Itl K c) [(.ref c,.lst ds,G)] ds where
 stop:=λH h=>by
  obtain⟨l,vs,L,e,hl,rl,zl,el⟩:=(h _ (Zl.mpr rfl)).lst_inv;cases e;exact⟨vs,Qah hl,by rw[rl.length];exact Zk _⟩
 go:=λi H hi h=>by
  obtain⟨l,vs,L,e,hl,rl,zl,el⟩:=(h _ (Zl.mpr rfl)).lst_inv;cases e;have:i<vs.length:=by rw[← rl.length];exact hi
  exact⟨vs,vs[i],Qah hl,by simp[this]⟩
 yld:=λi d H x H' e h y=>by
  obtain⟨l,vs,L,e1,hl,rl,zl,el⟩:=(h _ (Zl.mpr rfl)).lst_inv;cases e1;obtain⟨rfl,y⟩:=y;obtain⟨v,G',h1,h2,h3⟩:=rl.nth e;have:=y vs (Qah hl);rw[h1]at this;cases this;refine⟨QE.refl _,G',h2,λz hz=>⟨_,Zl.mpr rfl,?_⟩⟩;have:=h3 z hz;rcases el with rfl | rfl
  .exact Zc _ this
  .exact this
def QtI{K:Fgg}{c:Addr}{ds:List D}{G:LAd}:Walk K (Itt K c) [(.ref c,.tup ds,G)] ds where
 stop:=λH h=>by
  obtain⟨l,vs,e,hl,rl⟩:=(h _ (Zl.mpr rfl)).Qa2;cases e;exact⟨vs,hl,by rw[rl.length];exact Zk _⟩
 go:=λi H hi h=>by
  obtain⟨l,vs,e,hl,rl⟩:=(h _ (Zl.mpr rfl)).Qa2;cases e;have:i<vs.length:=by rw[← rl.length];exact hi
  exact⟨vs,vs[i],hl,by simp[this]⟩
 yld:=λi d H x H' e h y=>by
  obtain⟨l,vs,e1,hl,rl⟩:=(h _ (Zl.mpr rfl)).Qa2;cases e1;obtain⟨rfl,y⟩:=y;obtain⟨v,G',h1,h2,h3⟩:=rl.nth e;have:=y vs hl;rw[h1]at this;cases this;exact⟨QE.refl _,G',h2,λz hz=>⟨_,Zl.mpr rfl,h3 z hz⟩⟩
def QAi(ha:SE X a fa):SI X tg a (Qan fa):=λH0 A0=>
 (QyO (ha H0 A0)).mono λU H Rr=>exK λρ hs F ir rel e q=>by
 refine Qf e λr e1 e=>?_;refine⟨ρ,hs,F,r,rel,e1,λv H1 G p=>?_⟩;have rp:=p.rp;cases hr:r.d with
 | lst xs=>
  rw[hr]at e rp;cases e;obtain⟨c,vs,L,rfl,hl,rl,zl,el⟩:=rp.lst_inv;refine .inl ⟨c,rfl,⟨vs,Qah hl⟩,q _ H1 [(.ref c,.lst xs,G)] p.same Qtn (λt ht=>?_) p.own zl⟩;rw[Zl.mp ht];exact⟨rp,p.src⟩
 | tup xs=>
  rw[hr]at e rp;dsimp only at e;split at e
  .rename_i hz;cases e;obtain⟨c,vs,rfl,hl,rl⟩:=rp.Qa2;refine .inr ⟨c,rfl,⟨vs,hl⟩,q _ H1 [(.ref c,.tup xs,G)] p.same QtI (λt ht=>?_) p.own hz⟩;rw[Zl.mp ht];exact⟨rp,p.src⟩
  .cases e
 | _=>rw[hr]at e;cases e
noncomputable def QjT(lo:Int)(n:Nat):List D:=(List.range n).map λ(k:Nat)=> .int (lo+(k:Int))
def QjV:(QjT lo n).length=n:=by simp[QjT]
def QuB(h:(QjT lo n)[i]? =some d):i<n/\d= .int (lo+i):=by
 unfold QjT at h;rw[Zy]at h;cases q:(List.range n)[i]? with
 | none=>rw[q]at h;cases h
 | some k=>
  rw[q]at h;obtain⟨h1,h2⟩:=Zg.mp q;simp at h1 h2;subst h2;exact⟨h1,(Option.some.inj h).symm⟩
def QqL:Walk K (Itr lo n) [] (QjT lo n) where
 stop:=λH _=>by rw[QjV];exact Zk _
 go:=λi H hi _=>by rw[QjV]at hi;exact hi
 yld:=λi d H x H' e _ y=>by
  obtain⟨h1,rfl⟩:=QuB e;obtain⟨rfl,rfl⟩:=y;exact⟨QE.refl _,[],.int_mk,λz hz=>by simp at hz⟩
noncomputable def Qbe(fa:DE):DI:=λρ=>(fa ρ).bind λr=>match r.d with
 | .int j=>if j<=16777216/\ -(2^62)<=j then some ⟨QjT 0 j.toNat,[]⟩else none
 | _=>none
def Qqy:(sizeLine:Nat)=16777216:=sizeLine_eq
def Qsg(hg:Gl X "range")(hm:X.mg "range" =none)(ha:SE X a fa)(hs:starEach [a] X.env=[(false,eval a X.env)]):SI X tg (.Call (.Name "range" p) [a] [] pos) (Qbe fa):=λH0 A0=>
 (Qtg hg hm (Qa5 (ha H0 A0) Qdz hs) hs).mono λU H Rr=>exK λρ hs F ir rel e q=>by
  refine Qf e λr e1 e=>?_;refine⟨ρ,hs,F,r,rel,e1,λv H1 G pp=>?_⟩;have rp:=pp.rp;cases hr:r.d with
  | int j=>
   rw[hr]at e rp;dsimp only at e;split at e
   .rename_i hz;cases e;rw[rp.int_inv];refine⟨j,rfl,hz.2,⋯,q _ H1 [] pp.same QqL (λt ht=>by simp at ht) Qbp.nil ?_⟩;rw[QjV,Qqy];omega
   .cases e
  | _=>rw[hr]at e;cases e
noncomputable def QdC(ds:List D):List D:=ds.zipIdx.map λq=> .tup [.int q.2,q.1]
def QiD:(QdC ds).length=ds.length:=by simp[QdC]
def QrM{ds:List D}{i:Nat}{d:D}(h:(QdC ds)[i]? =some d):∃e,ds[i]? =some e/\d= .tup [.int i,e]:=by
 unfold QdC at h;rw[Zy,Zbi]at h;cases q:ds[i]? with
 | none=>rw[q]at h;cases h
 | some e=>rw[q]at h;simp at h;exact⟨e,rfl,h.symm⟩
def Qtj{K:Fgg}{c:Addr}{ds:List D}{G:LAd}:Walk K (Ite K c) [(.ref c,.lst ds,G)] (QdC ds) where
 stop:=λH h=>by
  obtain⟨l,vs,L,e,hl,rl,zl,el⟩:=(h _ (Zl.mpr rfl)).lst_inv;cases e;exact⟨vs,Qah hl,by rw[QiD,rl.length];exact Zk _⟩
 go:=λi H hi h=>by
  obtain⟨l,vs,L,e,hl,rl,zl,el⟩:=(h _ (Zl.mpr rfl)).lst_inv;cases e;rw[QiD]at hi;have:i<vs.length:=by rw[← rl.length];exact hi
  exact⟨vs,vs[i],Qah hl,by simp[this]⟩
 yld:=λi d H x H' e h y=>by
  obtain⟨l,vs,L,e1,hl,rl,zl,el⟩:=(h _ (Zl.mpr rfl)).lst_inv;cases e1;obtain⟨d',e',rfl⟩:=QrM e;obtain⟨pp,u,rfl,hp,rfl,y⟩:=y;obtain⟨v,G',h1,h2,h3⟩:=rl.nth e';have:=y vs (Qah hl);rw[h1]at this;cases this;have s:=QbD (o:= .tup [.int i,u]) hp;refine⟨s,G',Rp.Qoc Qat ?_,λz hz=>⟨_,Zl.mpr rfl,?_⟩⟩
  .simp only[Rps];exact⟨.int i,[u],[],G',rfl,rfl,.int_mk,u,[],G',[],rfl,⋯,h2.same s,rfl,rfl⟩
  .have:=h3 z hz;rcases el with rfl | rfl
   .exact Zc _ this
   .exact this
noncomputable def Qc0(fa:DE):DI:=λρ=>(fa ρ).bind λr=>match r.d with
 | .lst xs=>some ⟨QdC xs,r.M⟩
 | _=>none
def Qx5(hg:Gl X "enumerate")(hm:X.mg "enumerate" =none)(ha:SE X a fa)(hs:starEach [a] X.env=[(false,eval a X.env)]):SI X (.Tuple es tk tpos) (.Call (.Name "enumerate" p) [a] [] pos) (Qc0 fa):=λH0 A0=>
 (QxY hg hm (Qa5 (ha H0 A0) Qdz hs) hs).mono λU H Rr=>exK λρ hs F ir rel e q=>by
  refine Qf e λr e1 e=>?_;refine⟨ρ,hs,F,r,rel,e1,λv H1 G pp=>?_⟩;have rp:=pp.rp;cases hr:r.d with
  | lst xs=>
   rw[hr]at e rp;cases e;obtain⟨c,vs,L,rfl,hl,rl,zl,el⟩:=rp.lst_inv;refine⟨c,rfl,⟨vs,Qah hl⟩,q _ H1 [(.ref c,.lst xs,G)] pp.same Qtj (λt ht=>?_) pp.own (by rw[QiD];exact zl)⟩;rw[Zl.mp ht];exact⟨rp,pp.src⟩
  | _=>rw[hr]at e;cases e
noncomputable def QfN(xs ys:List D):List D:=(xs.zip ys).map λq=> .tup [q.1,q.2]
def Qj5:(QfN xs ys).length=min xs.length ys.length:=by simp[QfN]
def QuT{xs ys:List D}{i:Nat}{d:D}(h:(QfN xs ys)[i]? =some d):∃e f,xs[i]? =some e/\ys[i]? =some f/\d= .tup [e,f]:=by
 unfold QfN at h;rw[Zy]at h;cases q:(xs.zip ys)[i]? with
 | none=>rw[q]at h;cases h
 | some e=>
  rw[q]at h;obtain⟨h1,h2⟩:=List.getElem?_zip_eq_some.mp q;exact⟨e.1,e.2,h1,h2,(Option.some.inj h).symm⟩
def QuO{K:Fgg}{c c':Addr}{xs ys:List D}{G G':LAd}:Walk K (Itz K c c') [(.ref c,.lst xs,G),(.ref c',.lst ys,G')] (QfN xs ys) where
 stop:=λH h=>by
  obtain⟨l,vs,L,e,hl,rl,zl,el⟩:=(h _ (Zf)).lst_inv;obtain⟨l',vs',L',e',hl',rl',zl',el'⟩:=(h _ (Zc _ Zf)).lst_inv;cases e;cases e';refine⟨vs,vs',Qah hl,Qah hl',?_⟩;rw[Qj5,← rl.length,← rl'.length];omega
 go:=λi H hi h=>by
  obtain⟨l,vs,L,e,hl,rl,zl,el⟩:=(h _ (Zf)).lst_inv;obtain⟨l',vs',L',e',hl',rl',zl',el'⟩:=(h _ (Zc _ Zf)).lst_inv;cases e;cases e';rw[Qj5]at hi;have h1:i<vs.length:=by rw[← rl.length];omega
  have h2:i<vs'.length:=by rw[← rl'.length];omega
  exact⟨vs,vs',vs[i],vs'[i],Qah hl,Qah hl',by simp[h1],by simp[h2]⟩
 yld:=λi d H x H' e h y=>by
  obtain⟨l,vs,L,e1,hl,rl,zl,el⟩:=(h _ (Zf)).lst_inv;obtain⟨l',vs',L',e1',hl',rl',zl',el'⟩:=(h _ (Zc _ Zf)).lst_inv;cases e1;cases e1';obtain⟨d1,d2,ea,eb,rfl⟩:=QuT e;obtain⟨pp,u,u',rfl,hp,rfl,y,y'⟩:=y;obtain⟨v,G1,h1,h2,h3⟩:=rl.nth ea;obtain⟨v',G2,h1',h2',h3'⟩:=rl'.nth eb;have:=y vs (Qah hl);rw[h1]at this;cases this;have:=y' vs' (Qah hl');rw[h1']at this;cases this;have s:=QbD (o:= .tup [u,u']) hp;refine⟨s,G1++G2,Rp.Qoc Qat ?_,λz hz=>?_⟩
  .simp only[Rps];exact⟨u,[u'],G1,G2,rfl,rfl,h2.same s,u',[],G2,[],rfl,⋯,h2'.same s,rfl,rfl⟩
  .rcases Zr.mp hz with hz | hz
   .refine⟨_,Zf,?_⟩;have:=h3 z hz;rcases el with rfl | rfl
    .exact Zc _ this
    .exact this
   .refine⟨_,Zc _ Zf,?_⟩;have:=h3' z hz;rcases el' with rfl | rfl
    .exact Zc _ this
    .exact this
noncomputable def QaD(fa fb:DE):DI:=λρ=>(fa ρ).bind λr=>(fb ρ).bind λr'=>match r.d,r'.d with
 | .lst xs,.lst ys=>some ⟨QfN xs ys,r.M++r'.M⟩
 | _,_=>none
def QzU(hg:Gl X "zip")(hm:X.mg "zip" =none)(ha:SE X a fa)(hb:SE X b fb)(hs:starEach [a,b] X.env=[(false,eval a X.env),(false,eval b X.env)])(hs2:starEach [b] X.env=[(false,eval b X.env)]):
  SI X (.Tuple es tk tpos) (.Call (.Name "zip" p) [a,b] [] pos) (QaD fa fb):=λH0 A0=>
 (Qz6 hg hm (Qa5 (ha H0 A0) (Qa5 (hb H0 A0) Qdz hs2) (by rw[hs,hs2])) hs hs2).mono λU H Rr=>exK λρ hs F ir rel e q=>by
  refine Qf e λr e1 e=>?_;refine Qf e λr' e2 e=>?_;refine⟨ρ,hs,F,r,rel,e1,λv H1 G pp=>⟨ρ,hs,F,r',rel.ext pp.same,e2,λv' H2 G' pp'=>?_⟩⟩;have rp:=pp.rp.same pp'.same;have rp':=pp'.rp;cases hr:r.d with
  | lst xs=>
   cases hr':r'.d with
   | lst ys=>
    rw[hr,hr']at e;rw[hr]at rp;rw[hr']at rp';cases e;obtain⟨c,vs,L,rfl,hl,rl,zl,el⟩:=rp.lst_inv;obtain⟨c',vs',L',rfl,hl',rl',zl',el'⟩:=rp'.lst_inv;refine⟨c,c',rfl,⟨vs,Qah hl⟩,⟨vs',Qah hl'⟩,q _ H2 [(.ref c,.lst xs,G),(.ref c',.lst ys,G')] (pp.same.trans pp'.same) QuO (λt ht=>?_) (pp.own.append pp'.own) (by rw[Qj5];omega)⟩;have sa:=pp.src.append pp'.src pp.same;rcases Zn.mp ht with rfl | ht
    .exact⟨rp,λz hz=>sa z (Ze _ hz)⟩
    .rw[Zl.mp ht];exact⟨rp',λz hz=>sa z (Zd _ hz)⟩
   | _=>rw[hr,hr']at e;cases e
  | _=>rw[hr]at e;cases e
end
end HS
namespace HS
open PySem L2
section
end
end HS
namespace HS
open PySem PySem.Spec L2
inductive Tg where
 | nm (i:Nat)
 | tp (is:List Nat)
noncomputable def Tg.slots:Tg->List Nat
 | .nm i=>[i]
 | .tp is=>is
noncomputable def Qd7:List Nat->List D->En->En
 | i::is,d::ds,ρ=>Qd7 is ds (ρ.set i (some (d,d.flat)))
 | _,_,ρ=>ρ
noncomputable def QbF:Tg->D->En->Option En
 | .nm i,d,ρ=>some (ρ.set i (some (d,d.flat)))
 | .tp is,.tup xs,ρ=>if xs.length=is.length then some (Qd7 is xs ρ)else none
 | .tp is,.lst xs,ρ=>if xs.length=is.length then some (Qd7 is xs ρ)else none
 | .tp _,_,_=>none
noncomputable def tG(K:Fgg)(H0:Hp)(A0:LAd)(t:Tg):TG:=λv U H Q=>∃ρ hs F d G ρ',Rel K H0 A0 hs ρ F U H/\Rp K H d v G/\Shr H0 A0 ρ F G/\QbF t d ρ=some ρ'∧
 ∀U' F',Rel K H0 A0 hs ρ' F' U' H->(∀j,j∉t.slots->U'[j]? =U[j]?)->(∀j a,a∈F' j->a∈F j∨a∈G)->Q U' H
def SG(X:Cx)(tg:Expr)(t:Tg):Prop:=∀H0 A0,PG X tg (tG X.K H0 A0 t)
def _root_.L2.PG.mono{X:Cx}{tg:Expr}{t t':TG}(h:PG X tg t)(m:∀v U H Q,t' v U H Q->t v U H Q):PG X tg t':=λpins s U H v u Q I r q=>h pins s U H v u Q I r (m v U H Q q)
noncomputable def Qli:List Nat->TGs
 | []=>Qzi
 | i::is=>QvJ (Qjg i) (Qli is)
def Shr.set{H0:Hp}{A0:LAd}{ρ:En}{F:Nat->List Addr}{G G1:LAd}{i:Nat}{d:D}(h:Shr H0 A0 ρ F G)(hf:d.flat=true->G1=[]):Shr H0 A0 (ρ.set i (some (d,d.flat))) (λj=>if j=i then G1 else F j) G:=λa ha=>by
 refine⟨(h a ha).1,λj d' e=>?_⟩;by_cases hj:j=i
 .subst hj;show ¬a∈(if j=j then G1 else F j);rw[if_pos rfl];have hl:j<ρ.length:=by
   by_cases hl:j<ρ.length
   .exact hl
   .rw[Zw (by simp;omega)]at e;cases e
  rw[Zm hl]at e;have e1:=Option.some.inj (Option.some.inj e);rw[hf (congrArg Prod.snd e1)];simp
 .rw[Zh (Ne.symm hj)]at e;show ¬a∈(if j=i then G1 else F j);rw[if_neg hj];exact(h a ha).2 j d' e
def Qkh{K:Fgg}{H0:Hp}{A0:LAd}{hs:List (V×D×List Addr)}:∀(is:List Nat) (ds:List D) (vs:List V) (ρ:En) (F:Nat->List Addr) (U:L2.St) (H:Hp) (G:LAd) (Q:L2.St->Hp->Prop),
  Rel K H0 A0 hs ρ F U H->Rps K H ds vs G->Shr H0 A0 ρ F G->ds.length=is.length→
  (∀U' F',Rel K H0 A0 hs (Qd7 is ds ρ) F' U' H->(∀j,j∉is->U'[j]? =U[j]?)->(∀j a,a∈F' j->a∈F j∨a∈G)->Q U' H)->Qli is vs U H Q
 | [],ds,vs,ρ,F,U,H,G,Q,rel,rp,sh,hl,q=>by
  have:ds=[]:=by simpa using hl
  subst this;simp only[Rps]at rp;exact⟨rp.1,q U F rel (λ_ _=>rfl) λ_ _ h=> .inl h⟩
 | i::is,[],vs,ρ,F,U,H,G,Q,rel,rp,sh,hl,q=>by simp at hl
 | i::is,d::ds,vs,ρ,F,U,H,G,Q,rel,rp,sh,hl,q=>by
  simp only[Rps]at rp;obtain⟨v,ws,G1,G2,rfl,rfl,r1,r2⟩:=rp;refine⟨v,ws,rfl,?_⟩;have sh1:Shr H0 A0 ρ F G1:=λa ha=>sh a (Ze _ ha);have sh2:Shr H0 A0 ρ F G2:=λa ha=>sh a (Zd _ ha);refine Qkh is ds ws _ _ _ H G2 Q (rel.QqA r1 sh1) r2 (sh2.set r1.Qcm) (by simpa using hl) λU' F' rel' k m=>q U' F' rel' (λj hj=>?_) λj a ha=>?_
  .have h1:j≠i:=λz=>hj (by rw[z];exact Zf);rw[k j λz=>hj (Zc _ z),Zh (Ne.symm h1)]
  .rcases m j a ha with z | z
   .by_cases hj:j=i
    .rw[if_pos hj]at z;exact .inr (Ze _ z)
    .rw[if_neg hj]at z;exact .inl z
   .exact .inr (Zd _ z)
section
variable {X:Cx}{tg:Expr}{pos:Pos}
def QxH{i:Nat}{x:Str}(h:PG X (.Name x pos) (Qjg i)):SG X (.Name x pos) (.nm i):=λH0 A0=>h.mono λv U H Q Z=>by
 obtain⟨ρ,hs,F,d,G,ρ',rel,rp,sh,e,q⟩:=Z;cases e;refine q _ _ (rel.QqA rp sh) (λj hj=>?_) λj a ha=>?_
 .have:j≠i:=λz=>hj (by simp[Tg.slots,z]);rw[Zh (Ne.symm this)]
 .by_cases hj:j=i
  .rw[if_pos hj]at ha;exact .inr ha
  .rw[if_neg hj]at ha;exact .inl ha
def QwI{es:List Expr}{k:Nat}{t:TGs}{n:Nat}(hc:X.calm=true)(h:PGs X es t)
  (hn:(assignEach es X.env).length=n) (hst:(assignEach es X.env).findIdx? (·.1)=none):PG X (.Tuple es k pos) (λv U H Q=>∃a xs,v= .ref a/\SqL X.K H a xs/\xs.length=n/\t xs U H Q):=by
 intro pins s U H v u Q I r hw;obtain⟨a,xs,e1,hq,hl,hw⟩:=hw;subst e1;cases r;obtain⟨its,rv,ht,hz⟩:=I.list hq;rw[PyProof.Rows.assign_Tuple];refine wpAny_bind (wpAny_standAt ?_);unfold unpack;rw[hn,hst,show n=its.toArray.size by simp[← hl,rv.length]];refine wpAny_bind (wpAny_holding (PySem.W.kun_itemsOf (I.ok.hd hc) ht.isList λh' hx=>?_));have I1:Inv X pins U H {s with heap:=h'}:=I.kept (t':=s.toks) λb o e=>hx b o (ZK (Zt e)) e;exact h pins _ U H xs _ Q I1 (by simpa using rv) hw
def QzE{es:List Expr}{k:Nat}{is:List Nat}(hc:X.calm=true)(h:PGs X es (Qli is))(hn:(assignEach es X.env).length=is.length)(hst:(assignEach es X.env).findIdx? (·.1)=none):SG X (.Tuple es k pos) (.tp is):=λH0 A0=>
 λpins s U H v u Q I r Z=>by
  obtain⟨ρ,hs,F,d,G,ρ',rel,rp,sh,e,q⟩:=Z;cases d with
  | tup xs=>
   simp only[QbF]at e;split at e
   .rename_i hl;cases e;obtain⟨a,vs,rfl,hq,rs⟩:=rp.Qa2;exact QzJ hc h hn hst pins s U H _ u Q I r ⟨a,vs,rfl,hq,by rw[← rs.length];exact hl,Qkh is xs vs ρ F U H G Q rel rs sh hl q⟩
   .cases e
  | lst xs=>
   simp only[QbF]at e;split at e
   .rename_i hl;cases e;obtain⟨a,vs,L,rfl,hq,rs,_,eG⟩:=rp.lst_inv;have sub:∀b∈L,b∈G:=λb hb=>by
     rcases eG with rfl | rfl
     .exact Zc _ hb
     .exact hb
    exact QwI hc h hn hst pins s U H _ u Q I r ⟨a,vs,rfl,Qah hq,by rw[← rs.length];exact hl,Qkh is xs vs ρ F U H L Q rel rs (λb hb=>sh b (sub b hb)) hl λU' F' rel' k m=>q U' F' rel' k λj b hb=>(m j b hb).imp id (sub b)⟩
   .cases e
  | _=>simp only[QbF]at e;cases e
end
noncomputable def QeM(cap:List (Option Nat))(ρ:En):En:=cap.map λo=>o.bind λi=>match ρ[i]? with
 | some (some (d,_))=>some (d,d.flat)
 | _=>none
noncomputable def Qrb(cap:List (Option Nat))(ρ:En):List Nat:=cap.filterMap λo=>o.bind λi=>match ρ[i]? with
 | some (some (d,b))=>if b && !d.flat then some i else none
 | _=>none
noncomputable def QfS(t:Tg)(ft:DT)(fe:DE)(ρc:En)(acc:List D×Bool)(d:D):Option (List D×Bool):=
 (QbF t d ρc).bind λρ1=>(ft ρ1).bind λc=>if c=true then(fe ρ1).map λr=>(acc.1++[r.d],acc.2 && r.norm.fr)else some acc
noncomputable def QR(fi:DI)(t:Tg)(cap:List (Option Nat))(ft:DT)(fe:DE):DE:=λρ=>(fi ρ).bind λir=>
 (ir.items.foldlM (QfS t ft fe (QeM cap ρ)) ([],true)).map λq=>if q.2=true then⟨.lst q.1,true,[]⟩else⟨.lst q.1,false,ir.M++Qrb cap ρ⟩
def Qdc(ρ:En):Prop:=∀(j:Nat) d,ρ[j]? =some (some (d,true))->d.flat=true
def Qdc.set{ρ:En}(h:Qdc ρ)(i:Nat)(d:D):Qdc (ρ.set i (some (d,d.flat))):=λj d' e=>by
 by_cases hj:j=i
 .subst hj;have hl:j<ρ.length:=by
   by_cases hl:j<ρ.length
   .exact hl
   .rw[Zw (by simp;omega)]at e;cases e
  rw[Zm hl]at e;have e1:=Option.some.inj (Option.some.inj e);have h1:d=d':=congrArg Prod.fst e1;have h2:d.flat=true:=congrArg Prod.snd e1;rw[← h1];exact h2
 .rw[Zh (Ne.symm hj)]at e;exact h j d' e
def Qdc.Qd7:∀(is:List Nat) (ds:List D) {ρ:En},Qdc ρ->Qdc (Qd7 is ds ρ)
 | [],_,_,h=>h
 | _::_,[],_,h=>h
 | i::is,d::ds,_,h=>Qdc.Qd7 is ds (h.set i d)
def Qdc.bind{t:Tg}{d:D}{ρ ρ':En}(h:Qdc ρ)(e:QbF t d ρ=some ρ'):Qdc ρ':=by
 cases t with
 | nm i=>cases e;exact h.set i d
 | tp is=>
  cases d with
  | tup xs=>
   simp only[QbF]at e;split at e
   .cases e;exact h.Qd7 is xs
   .cases e
  | lst xs=>
   simp only[QbF]at e;split at e
   .cases e;exact h.Qd7 is xs
   .cases e
  | _=>simp only[QbF]at e;cases e
def QjS(cap:List (Option Nat))(ρ:En):Qdc (QeM cap ρ):=λj d e=>by
 unfold QeM at e;rw[Zy]at e;cases q:cap[j]? with
 | none=>rw[q]at e;cases e
 | some o=>
  rw[q]at e;cases o with
  | none=>cases e
  | some i=>
   simp only[ZN,Za,Option.some.injEq]at e;split at e
   .have e1:=Option.some.inj e;have h1:=congrArg Prod.fst e1;have h2:=congrArg Prod.snd e1;dsimp only at h1 h2;rw[← h1];exact h2
   .cases e
def QmF{cap:List (Option Nat)}{ρ:En}{j:Nat}{d:D}{b:Bool}(e:(QeM cap ρ)[j]? =some (some (d,b))):∃i b',cap[j]? =some (some i)/\ρ[i]? =some (some (d,b')):=by
 unfold QeM at e;rw[Zy]at e;cases q:cap[j]? with
 | none=>rw[q]at e;cases e
 | some o=>
  rw[q]at e;cases o with
  | none=>cases e
  | some i=>
   simp only[ZN,Za,Option.some.injEq]at e;split at e
   .rename_i d' b' hi;have e1:=Option.some.inj e;have h1:d'=d:=congrArg Prod.fst e1;subst h1;exact⟨i,b',rfl,hi⟩
   .cases e
def Qoh(X:Cx)(ifs:List Expr)(f:DT):Prop:=∀H0 A0,PTs X ifs (tVT X.K H0 A0 f)
noncomputable def Qag:DT:=λ_=>some true
def QtF{X:Cx}:Qoh X [] Qag:=λH0 A0 pins s U H Q I=>exK λρ hs F b rel e q=>by
 cases e;exact QxD pins s U H Q I (q H (QE.refl _))
def Qu5{X:Cx}{c:Expr}{f:DT}(h:ST X c f):Qoh X [c] f:=λH0 A0=>Qxr (h H0 A0)
structure Qnl (X:Cx) (N':List Str) (scope:Scope) (cap:List (Option Nat)) (tgs:List Nat):Prop where
 len:cap.length=N'.length
 get:∀(j i:Nat),cap[j]? =some (some i)->∃x,N'[j]? =some x/\scope.names.lookup x=some .free/\X.N[i]? =some x/\(X.env.kindOf x=some .cell∨X.env.kindOf x=some .free)
 apart:∀(j i:Nat),cap[j]? =some (some i)->j∉tgs
def join_some{α:Type}{o:Option (Option α)}{v:α}(h:o.join=some v):o=some (some v):=by
 cases o with
 | none=>cases h
 | some p=>cases p with
  | none=>cases h
  | some x=>exact h▸rfl
def QmR{X:Cx}{N':List Str}{scope:Scope}{fi:DI}{t:Tg}{cap:List (Option Nat)}{ft:DT}{fe:DE}{H0:Hp}{A0:LAd}{U:L2.St}{H:Hp}{Q:VK}(hc:Qnl X N' scope cap t.slots):
  tV X.K H0 A0 (QR fi t cap ft fe) U H Q->Qnb (tI X.K H0 A0 fi) (QkV X N' scope) (tG X.K (λ_=>none) [] t) (tVT X.K (λ_=>none) [] ft) (tV X.K (λ_=>none) [] fe) U H Q:=exK λρ hs F r rel e q=>by
 refine Qf e λir e1 e=>?_;obtain⟨⟨xs,f⟩,ef,e⟩:=Zb.mp e;subst e;refine⟨ρ,hs,F,ir,rel,e1,λJ H1 ts s1 wk hts ow hz=>?_⟩;refine⟨cap.map λo=>o.bind λi=>U[i]?.join,⟨by simp[hc.len],λj x v hN hv=>?_⟩,λDl hD=>?_⟩
 .rw[Zy]at hv;cases qc:cap[j]? with
  | none=>rw[qc]at hv;cases hv
  | some o=>
   rw[qc]at hv;cases o with
   | none=>cases hv
   | some i=>
    simp only[ZN,Za,Option.some.injEq]at hv;obtain⟨y,h1,h2,h3,h4⟩:=hc.get j i qc;rw[hN]at h1;cases h1;exact⟨h2,i,h3,join_some hv,h4⟩
 generalize hUc:(cap.map λo=>o.bind λi=>U[i]?.join)=Uc;generalize hρc:QeM cap ρ=ρc at ef
 have hF0:∃Fc:Nat->List Addr,Fc=λj=>match cap[j]? with
  | some (some i)=>(match ρ[i]? with
   | some (some _)=>F i
   | _=>[])
  | _=>[]:=⟨_,rfl⟩
 obtain⟨Fc,hFc⟩:=hF0;have rel1:=rel.ext s1;have relC:∀H2,QE H1 H2->Rel X.K (λ_=>none) [] [] ρc Fc Uc H2:=λH2 s2=>by
  refine⟨by rw[← hρc,← hUc];simp[QeM],λj d b e=>?_,λj d e=>?_,λj d b e a ha=> .inl rfl,λt ht=>(by simp at ht),λb o z=>(by cases z)⟩
  .rw[← hρc]at e;obtain⟨i,b',h1,h2⟩:=QmF e;obtain⟨v,h3,h4⟩:=(rel1.ext s2).val i d b' h2;refine⟨v,?_,?_⟩
   .rw[← hUc,Zy,h1];simp only[ZN,Za,h3,Option.join_some]
   .rw[hFc];simp only[h1,h2];exact h4
  .have hf:d.flat=true:=QjS cap ρ j d (by rw[hρc];exact e);have:Fc j=[]:=by
    rw[← hρc]at e;obtain⟨i,b',h1,h2⟩:=QmF e;obtain⟨v,h3,h4⟩:=rel1.val i d b' h2;rw[hFc];simp only[h1,h2];exact h4.Qcm hf
   rw[this];exact⟨(Qc9 d hf).symm,Zad,λa ha=>(by simp at ha),λ_ _ _ _ _ a ha=>(by simp at ha),λt ht=>(by simp at ht)⟩
 have shC:∀G,Shr (λ_=>none) [] ρc Fc G:=λG a ha=>⟨.inl rfl,λj d e hj=>by
  have h0:=(relC H1 (QE.refl _)).own j d e;have hf:d.flat=true:=QjS cap ρ j d (by rw[hρc];exact e);have:(Fc j).length=0:=by rw[h0.1,Qc9 d hf]
  rw[Zap this]at hj;simp at hj⟩
 have hSh:Qdc ρc:=by rw[← hρc];exact QjS cap ρ
 have heldOf:∀H2,QE H1 H2->QlQ X.K H2 ts:=λH2 s2 t ht=>(hts t ht).1.same s2;have oldOf:∀a,((∃t∈ts,a∈t.2.2)∨∃j,a∈Fc j)->(∃u,H1 a=some u)/\(H a=none∨∃(i:Nat) (d:D) (b:Bool),ρ[i]? =some (some (d,b))/\a∈F i/\(b=true->i∈ir.M++Qrb cap ρ)):=λa ha=>by
  rcases ha with⟨t,ht,ha⟩ | ⟨j,ha⟩
  .refine⟨(hts t ht).1.mem a ha,?_⟩;rcases(hts t ht).2 a ha with z | ⟨i,d,b,e,m,w⟩
   .exact .inl z
   .exact .inr ⟨i,d,b,e,m,λhb=>Ze _ (w hb)⟩
  .have ha0:=ha;rw[hFc]at ha;dsimp only at ha;split at ha
   .rename_i i hi;split at ha
    .rename_i db hdb;obtain⟨d,b⟩:=db;obtain⟨v,h3,h4⟩:=rel1.val i d b hdb;refine⟨h4.mem a ha,.inr ⟨i,d,b,hdb,ha,λhb=>Zd _ ?_⟩⟩;unfold Qrb;refine ZaN.mpr ⟨some i,Zak hi,?_⟩;simp only[Za,hdb];have hnf:d.flat=false:=by
      cases hf:d.flat with
      | false=>rfl
      | true=>rw[h4.Qcm hf]at ha;simp at ha
     rw[hb,hnf];rfl
    .simp at ha
   .simp at ha
 have fresh5:∀H2,QE H1 H2->∀a,H2 a=none->H1 a=none:=λH2 s2 a h=>s2.free h
 refine⟨λi m acc H2=>m=ir.items.length-i/\i<=ir.items.length/\QE H1 H2/\H2 Dl=some (.lst acc)/\∃(ys:List D) (g:Bool) (G:LAd),(ir.items.drop i).foldlM (QfS t ft fe ρc) (ys,g)=some (xs,f)/\Rps X.K H2 ys acc G/\ys.length<=i∧
  (∀a∈G,a≠Dl/\(H1 a=none∨(∃t∈ts,a∈t.2.2)∨∃j,a∈Fc j))/\(g=true->G.length=nls ys/\∀a,G.count a<=nw H1 a),⟨ir.items.length,rfl,ZS _,QbD hD,Qat,[],true,[],by simpa using ef,by simp[Rps],Zk _,λa ha=>(by simp at ha),λ_=>⟨rfl,λa=>⋯⟩⟩,?_⟩
 rintro i m acc H2 ⟨rfl,hi,s2,eD,ys,g,G,hfold,rps,hlen,hG,hcnt⟩;by_cases hlt:i<ir.items.length
 .refine .inr ⟨wk.go i H2 hlt (heldOf H2 s2),λx H3 hy=>?_⟩;obtain⟨s3,G0,rp0,hG0⟩:=wk.yld i ir.items[i] H2 x H3 (by simp[hlt]) (heldOf H2 s2) hy;rw[ZT hlt,ZbC]at hfold;refine Qf hfold λacc1 hstep hrest=>?_;unfold QfS at hstep;refine Qf hstep λρ1 eb hstep=>?_;refine Qf hstep λc ec hstep=>?_;have sh1:Qdc ρ1:=hSh.bind eb;refine⟨ρc,[],Fc,ir.items[i],G0,ρ1,relC H3 (s2.trans s3),rp0,shC G0,eb,λU2 F2 rel2 keep mem2=>⟨λj v hv=>?_,ρ1,[],F2,c,rel2,ec,λH5 s5=>?_⟩⟩
  .have hj:j∉t.slots:=λhj=>by
    rw[← hUc,Zy]at hv;cases qc:cap[j]? with
    | none=>rw[qc]at hv;cases hv
    | some o=>
     cases o with
     | none=>rw[qc]at hv;cases hv
     | some k=>exact hc.apart j k qc hj
   rw[keep j hj];exact hv
  have s15:QE H1 H5:=(s2.trans s3).trans s5;have eD5:H5 Dl=some (.lst acc):=s5 _ _ (s3 _ _ eD);cases c with
  | false=>
   rw[if_neg ZO]at hstep;refine Qq4 ?_;cases hstep;exact⟨_,⋯,rfl,hlt,s15,eD5,ys,g,G,hrest,rps.same (s3.trans s5),⋯,hG,hcnt⟩
  | true=>
   rw[if_pos rfl]at hstep;refine Qom ?_;obtain⟨rr,er,hstep⟩:=Zb.mp hstep;subst hstep;refine⟨ρ1,[],F2,rr,rel2.ext s5,er,λy H6 Ge pe=>?_⟩;have eD6:H6 Dl=some (.lst acc):=pe.same _ _ eD5;have s16:=s15.trans pe.same;refine⟨eD6,?_,_,⋯,rfl,hlt,?_⟩
   .rw[← rps.length];exact Nat.lt_of_le_of_lt hlen (Zx hlt hz)
   have hGe:∀a∈Ge,a≠Dl/\(H1 a=none∨(∃t∈ts,a∈t.2.2)∨∃j,a∈Fc j):=λa ha=>by
    rcases pe.src a ha with z | ⟨j,d,b,ej,hj,_⟩
    .exact⟨λw=>(by rw[w,eD5]at z;cases z),.inl (s15.free z)⟩
    .have h1:(∃t∈ts,a∈t.2.2)∨∃j,a∈Fc j:=by
      rcases mem2 j a hj with w | w
      .exact .inr ⟨j,w⟩
      .exact .inl (hG0 a w)
     obtain⟨⟨vs,w⟩,_⟩:=oldOf a h1;exact⟨λw'=>(by rw[w',hD]at w;cases w),.inr h1⟩
   have nD:Dl∉G:=λh=>(hG _ h).1 rfl;have nDe:Dl∉Ge:=λh=>(hGe _ h).1 rfl;have sU:QE H1 (L2.upd H6 Dl (.lst (acc++[y]))):=λb o hb=>by rw[QM (Qb8 hb hD)];exact s16 b o hb
   refine⟨sU,Qat,ys++[rr.d],g && rr.norm.fr,G++Ge,hrest,?_,by rw[Zo,Zbd];omega,λa ha=>?_,λhg=>?_⟩
   .refine Rps.append ((rps.same ((s3.trans s5).trans pe.same)).upd eD6 nD) ?_;simp only[Rps];exact⟨y,[],Ge,[],rfl,⋯,pe.rp.upd eD6 nDe,rfl,rfl⟩
   .rcases Zr.mp ha with h | h
    .exact hG a h
    .exact hGe a h
   .simp only[Zi]at hg;obtain⟨l1,c1⟩:=hcnt hg.1;have pn:=pe.norm;obtain⟨c2,l2⟩:=pn.cnt hg.2;rw[rr.Qdw]at l2;have nlapp:∀(as bs:List D),nls (as++bs)=nls as+nls bs:=λas bs=>by
     induction as with
     | nil=>simp[nls]
     | cons a as ih=>simp only[ZbB,nls,ih];omega
    refine⟨by rw[Zo,l1,l2,nlapp];simp[nls],λa=>?_⟩;have fl:((rr.norm.M.map F2).flatten).count a=0:=by
     rw[ZM];intro hm;obtain⟨l,hl,hal⟩:=Zbe.mp hm;obtain⟨j,hj,rfl⟩:=Zac.mp hl;obtain⟨d,ej⟩:=pn.own j hj;have hf:=sh1 j d ej;obtain⟨v,_,rv⟩:=rel2.val j d true ej;rw[rv.Qcm hf]at hal;simp at hal
    have h1:=c1 a;have h2:=c2 a;rw[fl]at h2;rw[Zaf];cases q5:H5 a with
    | some o=>rw[QdR q5]at h2;omega
    | none=>
     rw[QaM q5]at h2;have h0:G.count a=0:=ZM.mpr λhm=>by
      obtain⟨vs,w⟩:=rps.mem a hm;rw[s5 _ _ (s3 _ _ w)]at q5;cases q5
     rw[QaM (s15.free q5)];omega
 .have hn:i=ir.items.length:= ⋯
  subst hn;refine .inl ⟨wk.stop H2 (heldOf H2 s2),?_⟩;rw[ZbD]at hfold;have:(ys,g)=(xs,f):=Option.some.inj hfold;cases this;have rp:Rp X.K H2 (.lst xs) (.ref Dl) (Dl::G):=Rp.Qg5 eD rps (ZL hlen hz);have hHD:H Dl=none:=s1.free hD;split at q
  .rename_i hg;have hg:f=true:=hg;obtain⟨l1,c1⟩:=hcnt hg;have hn:∀a∈G,H1 a=none:=λa ha=>by
    have:=c1 a;have h2:0<G.count a:=Zaq.mpr ha;cases w:H1 a with
    | none=>rfl
    | some o=>rw[QdR w]at this;omega
   refine q _ H2 (Dl::G) ⟨s1.trans s2,rp,λa ha=>?_,λ_=>⟨λa=>?_,by simp only[D.nl,Zj,l1]⟩,Qbp.nil⟩
   .rcases Zn.mp ha with rfl | h
    .exact .inl hHD
    .exact .inl (s1.free (hn a h))
   .rw[Zaz];have h1:=c1 a;split
    .rename_i w;have w:Dl=a:=by simpa using w
     subst w;have h0:G.count Dl=0:=ZM.mpr λh=>(hG _ h).1 rfl;rw[QaM hHD];omega
    .cases w:H1 a with
     | none=>rw[QaM w]at h1;rw[QaM (s1.free w)];omega
     | some o=>rw[QdR w]at h1;omega
  .refine q _ H2 (Dl::G) ⟨s1.trans s2,rp,λa ha=>?_,λz=>(by cases z),?_⟩
   .rcases Zn.mp ha with rfl | h
    .exact .inl hHD
    .rcases(hG a h).2 with z | z
     .exact .inl (s1.free z)
     .exact(oldOf a z).2
   .refine ow.append λi hi=>?_;unfold Qrb at hi;obtain⟨o,_,ho⟩:=ZaN.mp hi;cases o with
    | none=>cases ho
    | some k=>
     simp only[Za]at ho;split at ho
     .rename_i d b hk;split at ho
      .rename_i hb;cases ho;simp only[Zi]at hb;rw[hb.1]at hk;exact⟨d,hk⟩
      .cases ho
     .cases ho
section
variable {X:Cx}{tg iter elt:Expr}{ifs:List Expr}{scope:Scope}{N':List Str}{pos:Pos}{fi:DI}{t:Tg}{cap:List (Option Nat)}{ft:DT}{fe:DE}
def Qx6(hcalm:X.calm=true)(S:Qe2 X N' scope)(hi:SI X tg iter fi)(hcap:Qnl X N' scope cap t.slots)
  (hin:∀cl C fp s3 H3,SG (cxc X N' scope cl C fp s3 H3) tg t/\Qoh (cxc X N' scope cl C fp s3 H3) ifs ft/\SE (cxc X N' scope cl C fp s3 H3) elt fe) (hs:∀x,foldedSetIterable iter X.env x=pure x):
  SE X (.ListComp elt [⟨tg,iter,ifs,0⟩] scope pos) (QR fi t cap ft fe):=λH0 A0=>
 (Qp2 hcalm S (hi H0 A0) (λcl C fp s3 H3=>⟨(hin cl C fp s3 H3).1 _ _,(hin cl C fp s3 H3).2.1 _ _,(hin cl C fp s3 H3).2.2 _ _⟩) hs).mono λU H Q h=>QmR hcap h
end
inductive Out where
 | nx (ρ:En)
 | bk (ρ:En)
 | ct (ρ:En)
 | rt (d:D) (fr:Bool)
noncomputable abbrev DS:=En->Option Out
def Fits(K:Fgg)(H0:Hp)(A0:LAd)(hs:List (V×D×List Addr))(E:Ends):Out->Prop
 | .nx ρ=>∀U H F,Rel K H0 A0 hs ρ F U H->E.nx U H
 | .bk ρ=>∀U H F,Rel K H0 A0 hs ρ F U H->E.bk U H
 | .ct ρ=>∀U H F,Rel K H0 A0 hs ρ F U H->E.ct U H
 | .rt d fr=>∀v H G,Ret K H0 A0 d fr v H G->E.rt v H
noncomputable def tS(K:Fgg)(H0:Hp)(A0:LAd)(f:DS):TS:=λE U H=>∃ρ hs F o,Rel K H0 A0 hs ρ F U H/\f ρ=some o/\Fits K H0 A0 hs E o
def S1(X:Cx)(st:Stmt)(f:DS):Prop:=∀H0 A0,PS X st (tS X.K H0 A0 f)
def SS(X:Cx)(sts:List Stmt)(f:DS):Prop:=∀H0 A0,PSs X sts (tS X.K H0 A0 f)
def _root_.L2.PS.mono(h:PS X st t)(m:∀D U H,t' D U H->t D U H):PS X st t':=λpins s U H D I q=>h pins s U H D I (m D U H q)
def _root_.L2.PSs.mono(h:PSs X st t)(m:∀D U H,t' D U H->t D U H):PSs X st t':=λpins s U H D I q=>h pins s U H D I (m D U H q)
noncomputable def Qi:DS:=λρ=>some (.nx ρ)
noncomputable def Qe(f g:DS):DS:=λρ=>(f ρ).bind λo=>match o with
 | .nx ρ'=>g ρ'
 | .bk ρ'=>some (.bk ρ')
 | .ct ρ'=>some (.ct ρ')
 | .rt d fr=>some (.rt d fr)
noncomputable def QuN:DS:=λρ=>some (.bk ρ)
noncomputable def QtD:DS:=λρ=>some (.ct ρ)
noncomputable def Qn(i:Nat)(fa:DE):DS:=λρ=>(fa ρ).bind λr=>some (.nx (asg i r ρ))
noncomputable def QeU(fa:DE):DE:=λρ=>(fa ρ).map λr=>⟨r.d,false,r.M⟩
noncomputable def QW(fa:DE):DS:=λρ=>(fa ρ).bind λr=>some (.rt r.d (r.norm.fr && decide r.norm.M.Nodup))
noncomputable def Qbj(fa:DE):DS:=λρ=>(fa ρ).bind λ_=>some (.nx ρ)
noncomputable def sIf(g:DT)(f1 f2:DS):DS:=λρ=>(g ρ).bind λb=>if b=true then f1 ρ else f2 ρ
noncomputable def Qdb(t:Tg)(fb:DS):List D->DS
 | [],ρ=>some (.nx ρ)
 | d::ds,ρ=>(QbF t d ρ).bind λρ1=>(fb ρ1).bind λo=>match o with
  | .nx ρ2=>Qdb t fb ds ρ2
  | .ct ρ2=>Qdb t fb ds ρ2
  | .bk ρ2=>some (.nx ρ2)
  | .rt d fr=>some (.rt d fr)
noncomputable def Qbm(fi:DI)(t:Tg)(fb:DS):DS:=λρ=>(fi ρ).bind λir=>Qdb t fb ir.items (Qcn ir.M ρ)
noncomputable def Qbh(g:DT)(fb:DS):Nat->DS
 | 0,_=>none
 | n+1,ρ=>(g ρ).bind λb=>if b=true then(fb ρ).bind λo=>match o with
  | .nx ρ2=>Qbh g fb n ρ2
  | .ct ρ2=>Qbh g fb n ρ2
  | .bk ρ2=>some (.nx ρ2)
  | .rt d fr=>some (.rt d fr)
  else some (.nx ρ)
section
def Qlh:SS X [] Qi:=λH0 A0=>QwD.mono λE U H=>exK λρ hs F o rel e q=>by
 cases e;exact q U H F rel
def Qjo(h1:S1 X st f)(h2:SS X sts g):SS X (st::sts) (Qe f g):=λH0 A0=>(QoJ (h1 H0 A0) (h2 H0 A0)).mono λE U H=>exK λρ hs F o rel e q=>by
 refine Qf e λo1 e1 e=>?_;refine⟨ρ,hs,F,o1,rel,e1,?_⟩;cases o1 with
 | nx ρ'=>exact λU' H' F' rel'=>⟨ρ',hs,F',o,rel',e,q⟩
 | bk ρ'=>cases e;exact q
 | ct ρ'=>cases e;exact q
 | rt d fr=>cases e;exact q
def QwT:S1 X (.Pass pos) Qi:=λH0 A0=>Qwr.mono λE U H=>exK λρ hs F o rel e q=>by
 cases e;exact q U H F rel
def Qvz:S1 X (.Break pos) QuN:=λH0 A0=>Qt8.mono λE U H=>exK λρ hs F o rel e q=>by
 cases e;exact q U H F rel
def Qw6:S1 X (.Continue pos) QtD:=λH0 A0=>Qpg.mono λE U H=>exK λρ hs F o rel e q=>by
 cases e;exact q U H F rel
def Qot(h:SE X e fa):SE X e (QeU fa):=λH0 A0=>(h H0 A0).mono λU H Q=>exK λρ hs F r rel e q=>by
 obtain⟨r',e1,rfl⟩:=Zb.mp e;exact⟨ρ,hs,F,r',rel,e1,λv H' G p=>q v H' G ⟨p.same,p.rp,p.src,λz=>(by cases z),p.own⟩⟩
def Qiz(h:∀H0 A0,PS X st (QoW (tV X.K H0 A0 fa) (Qjg i))):S1 X st (Qn i fa):=λH0 A0=>(h H0 A0).mono λE U H=>exK λρ hs F o rel e q=>by
 refine Qf e λr e1 e=>?_;cases e;refine⟨ρ,hs,F,r,rel,e1,λv H' G p=>?_⟩;obtain⟨F',rel'⟩:=rel.asg (i:=i) p;exact q _ _ F' rel'
def QxQ(h:PS X st (Qns (tV X.K H0 A0 fa))):PS X st (tS X.K H0 A0 (Qbj fa)):=h.mono λE U H=>exK λρ hs F o rel e q=>by
 refine Qf e λr e1 e=>?_;cases e;exact⟨ρ,hs,F,r,rel,e1,λv H' G p=>q U H' F (rel.ext p.same)⟩
def Rel.ret(rel:Rel K H0 A0 hs ρ F U H)(p:Q9 K ρ F H H' r v G):Ret K H0 A0 r.d (r.norm.fr && decide r.norm.M.Nodup) v H' G where
 same:=rel.same.trans p.same
 rp:=p.rp
 src:=λa ha=>by
  rcases p.src a ha with z | ⟨i,d,b,e,m,_⟩
  .exact .inl (rel.same.free z)
  .exact rel.src i d b e a m
 cnt:=λh=>by
  simp only[Zi,decide_eq_true_eq]at h;have p':=p.norm;obtain⟨h1,h2⟩:=p'.fresh rel h.1 h.2;have h3:=(p'.cnt h.1).2;rw[r.Qdw]at h3;exact⟨h1,h3,λa ha=>(h2 a ha).1⟩
def Qnx(he:SE X e fa):S1 X (.Return (some e) pos) (QW fa):=λH0 A0=>(Qkt (he H0 A0)).mono λE U H=>exK λρ hs F o rel e q=>by
 refine Qf e λr e1 e=>?_;cases e;exact⟨ρ,hs,F,r,rel,e1,λv H' G p=>q v H' G (rel.ret p)⟩
def Qv7(hc:ST X c gc)(ha:SS X a f)(hb:SS X b g):S1 X (.If c a b pos) (sIf gc f g):=λH0 A0=>(QvY (hc H0 A0) (ha H0 A0) (hb H0 A0)).mono λE U H=>exK λρ hs F o rel e q=>by
 refine Qf e λc e1 e=>?_;refine⟨ρ,hs,F,c,rel,e1,λH1 s1=>?_⟩;cases c with
 | true=>exact Qom ⟨ρ,hs,F,o,rel.ext s1,e,q⟩
 | false=>exact Qq4 ⟨ρ,hs,F,o,rel.ext s1,e,q⟩
def Qz0(hp:PassesOwn (model X.prog X.w) X.A X.env X.xe)(hc:X.calm=true)(hi:SI X tg iter fi)(hg:SG X tg t)(hb:SS X body f)(hs:∀x,foldedSetIterable iter X.env x=pure x):
  S1 X (.For tg iter body [] pos) (Qbm fi t f):=λH0 A0=>(QsW hp hc (hi H0 A0) (hg H0 A0) (hb H0 A0) hs).mono λE U H=>exK λρ hs F o rel e q=>by
 refine Qf e λir e1 e=>?_;refine⟨ρ,hs,F,ir,rel,e1,λJ H1 ts s1 wk hts ow hz=>?_⟩;have rel1:Rel X.K H0 A0 (ts++hs) (Qcn ir.M ρ) F U H1:=((rel.ext s1).weak (QcH ir.M ρ)).hold λt ht=>⟨(hts t ht).1,Shr.of rel (hts t ht).2⟩;refine⟨λi m U' H'=>m=ir.items.length-i/\i<=ir.items.length/\∃ρi Fi,Rel X.K H0 A0 (ts++hs) ρi Fi U' H'/\Qdb t f (ir.items.drop i) ρi=some o,⟨_,rfl,ZS _,_,F,rel1,by simpa using e⟩,?_⟩;rintro i m U' H' ⟨rfl,hi',ρi,Fi,reli,ei⟩;have held:QlQ X.K H' ts:=λt ht=>(reli.held t (Ze _ ht)).1;by_cases hlt:i<ir.items.length
 .rw[ZT hlt]at ei;unfold Qdb at ei;refine Qf ei λρ1 eb ei=>?_;refine Qf ei λo1 eo ei=>?_;refine .inr ⟨wk.go i H' hlt held,λU2 H2=>∃ρ2 F2,Rel X.K H0 A0 (ts++hs) ρ2 F2 U2 H2/\Qdb t f (ir.items.drop (i+1)) ρ2=some o,λU2 H2 ⟨ρ2,F2,rel2,e2⟩=>⟨_,⋯,rfl,hlt,ρ2,F2,rel2,e2⟩,λx H2 hy=>?_⟩;obtain⟨s2,G0,rp0,hG0⟩:=wk.yld i ir.items[i] H' x H2 (by simp[hlt]) held hy;have shr:Shr H0 A0 ρi Fi G0:=λa ha=>by
   obtain⟨t,ht,hat⟩:=hG0 a ha;exact⟨(reli.held t (Ze _ ht)).2 a hat,λj d ej hj=>(reli.own j d ej).2.2.2.2 t (Ze _ ht) a hj hat⟩
  refine⟨ρi,ts++hs,Fi,ir.items[i],G0,ρ1,reli.ext s2,rp0,shr,eb,λU3 F3 rel3 _ _=>⟨ρ1,ts++hs,F3,o1,rel3,eo,?_⟩⟩;cases o1 with
  | nx ρ2=>exact λU4 H4 F4 rel4=>⟨ρ2,F4,rel4,ei⟩
  | ct ρ2=>exact λU4 H4 F4 rel4=>⟨ρ2,F4,rel4,ei⟩
  | bk ρ2=>cases ei;exact λU4 H4 F4 rel4=>q U4 H4 F4 rel4.QnF
  | rt d fr=>cases ei;exact q
 .have hn:i=ir.items.length:= ⋯
  subst hn;rw[ZbD]at ei;cases ei;exact .inl ⟨wk.stop H' held,q U' H' Fi reli.QnF⟩
def Qt5(hp:PassesOwn (model X.prog X.w) X.A X.env X.xe)(hc:ST X c gc)(hb:SS X body f):S1 X (.While c body [] pos) (Qbh gc f n):=λH0 A0=>(Qov hp (hc H0 A0) (hb H0 A0)).mono λE U H=>exK λρ hs F o rel e q=>by
 refine⟨λm U' H'=>∃ρi Fi,Rel X.K H0 A0 hs ρi Fi U' H'/\Qbh gc f m ρi=some o,⟨n,ρ,F,rel,e⟩,?_⟩;rintro m U' H' ⟨ρi,Fi,reli,ei⟩;cases m with
 | zero=>cases ei
 | succ m=>
  unfold Qbh at ei;refine Qf ei λb eb ei=>?_;refine⟨ρi,hs,Fi,b,reli,eb,λH1 s1=>?_⟩;cases b with
  | false=>
   rw[if_neg ZO]at ei;cases ei;exact Qq4 (q U' H1 Fi (reli.ext s1))
  | true=>
   rw[if_pos rfl]at ei;refine Qf ei λo1 eo ei=>?_;refine Qom ⟨λU2 H2=>∃ρ2 F2,Rel X.K H0 A0 hs ρ2 F2 U2 H2/\Qbh gc f m ρ2=some o,λU2 H2 h=>⟨m,Zar _,h⟩,ρi,hs,Fi,o1,reli.ext s1,eo,?_⟩;cases o1 with
   | nx ρ2=>exact λU4 H4 F4 rel4=>⟨ρ2,F4,rel4,ei⟩
   | ct ρ2=>exact λU4 H4 F4 rel4=>⟨ρ2,F4,rel4,ei⟩
   | bk ρ2=>cases ei;exact λU4 H4 F4 rel4=>q U4 H4 F4 rel4
   | rt d fr=>cases ei;exact q
def Rel.QB2(rel:Rel K H0 A0 hs ρ F U H)(rp:Rp K H d v [])(hf:d.flat=true):
  ∃F',Rel K H0 A0 hs (ρ.set i (some (d,true))) F' (U.set i (some v)) H:=by
 have:=rel.QqA (i:=i) rp (λa ha=>by simp at ha);rw[hf]at this;exact⟨_,this⟩
end
end HS
namespace HS
open PySem PySem.Spec L2 PyProof.Rows
end HS
namespace HS
open PySem PySem.Spec L2
section
variable {K:Fgg}{H H':Hp}
def Rps.split:∀{ds:List D}{vs:List V}{F:LAd}{j:Nat}{d:D},Rps K H ds vs F->ds[j]? =some d→
  ∃F1 G F2 v,F=F1++(G++F2)/\vs[j]? =some v/\Rps K H (ds.take j) (vs.take j) F1/\Rp K H d v G/\Rps K H (ds.drop (j+1)) (vs.drop (j+1)) F2
 | [],_,_,_,_,_,e=>by simp at e
 | d::ds,_,_,0,_,h,e=>by
  simp only[Rps]at h;obtain⟨v,ws,F1,F2,rfl,rfl,r,q⟩:=h;simp at e;subst e;exact⟨[],F1,F2,v,rfl,⋯,by simp[Rps],r,by simpa using q⟩
 | d::ds,_,_,j+1,_,h,e=>by
  simp only[Rps]at h;obtain⟨v,ws,F1,F2,rfl,rfl,r,q⟩:=h;obtain⟨G1,G,G2,v',h1,h2,h3,h4,h5⟩:=Rps.split q (by simpa using e);refine⟨F1++G1,G,G2,v',by rw[h1,Zau],by simpa using h2,?_,h4,by simpa using h5⟩;simp only[List.take_succ_cons,Rps];exact⟨v,_,F1,G1,rfl,rfl,r,h3⟩
def Rps.join{ds:List D}{vs:List V}{F1 G F2:LAd}{j:Nat}{d:D}{v:V}(h1:Rps K H (ds.take j) (vs.take j) F1)(hd:Rp K H d v G)(h2:Rps K H (ds.drop (j+1)) (vs.drop (j+1)) F2)(hj:j<ds.length)(hv:vs[j]? =some v):
  Rps K H (ds.set j d) vs (F1++(G++F2)):=by
 have e1:ds.set j d=ds.take j++d::ds.drop (j+1):=ZaI .. |>.trans (by rw[if_pos hj]);have hjv:j<vs.length:=(Zg.mp hv).1;have hve:vs[j]=v:=(Zg.mp hv).2;have e2:vs=vs.take j++v::vs.drop (j+1):=by
  rw[← hve,← ZT hjv,ZaR]
 rw[e1,e2];refine h1.append ?_;simp only[Rps];refine⟨v,_,G,F2,rfl,rfl,hd,h2⟩
def Rps.Qv8{ds:List D}{vs:List V}{F1 G F2:LAd}{j:Nat}{d:D}{v:V}(h1:Rps K H (ds.take j) (vs.take j) F1)(hd:Rp K H d v G)(h2:Rps K H (ds.drop (j+1)) (vs.drop (j+1)) F2)(hj:j<ds.length)(hv:j<vs.length):
  Rps K H (ds.set j d) (vs.set j v) (F1++(G++F2)):=by
 have e1:ds.set j d=ds.take j++d::ds.drop (j+1):=ZaI .. |>.trans (by rw[if_pos hj]);have e2:vs.set j v=vs.take j++v::vs.drop (j+1):=ZaI .. |>.trans (by rw[if_pos hv]);rw[e1,e2];refine h1.append ?_;simp only[Rps];exact⟨v,_,G,F2,rfl,rfl,hd,h2⟩
def Focus(K:Fgg)(H:Hp):List Int->D->V->List Addr->D->V->List Addr->Prop
 | [],d,v,F,dm,w,Gm=>dm=d/\w=v/\Gm=F/\Rp K H d v F
 | i::is,d,v,F,dm,w,Gm=>∃(ds:List D) (a:Addr) (vs:List V) (j:Nat) (F1 G F2:LAd) (d':D) (v':V),v= .ref a/\ixN ds.length i=some j∧
   ((d= .lst ds/\ds.length<=sizeLine/\((F=a::(F1++(G++F2))/\H a=some (.lst vs))∨(F=F1++(G++F2)/\Fix K H a vs)))∨(d= .tup ds/\F=F1++(G++F2)/\SqT K H a vs))∧
   Rps K H (ds.take j) (vs.take j) F1/\Rps K H (ds.drop (j+1)) (vs.drop (j+1)) F2/\ds[j]? =some d'/\vs[j]? =some v'/\ds.length=vs.length/\Focus K H is d' v' G dm w Gm
def Focus.same(s:QE H H'):∀{is:List Int}{d:D}{v:V}{F:LAd}{dm:D}{w:V}{Gm:LAd},Focus K H is d v F dm w Gm->Focus K H' is d v F dm w Gm
 | [],_,_,_,_,_,_,h=>⟨h.1,h.2.1,h.2.2.1,h.2.2.2.same s⟩
 | i::is,_,_,_,_,_,_,h=>by
  obtain⟨ds,a,vs,j,F1,G,F2,d',v',h1,h2,h3,h4,h5,h6,h7,h8,h9⟩:=h;refine⟨ds,a,vs,j,F1,G,F2,d',v',h1,h2,?_,h4.same s,h5.same s,h6,h7,h8,h9.same s⟩;rcases h3 with⟨e,z,q⟩ | ⟨e,eF,q⟩
  .refine .inl ⟨e,z,?_⟩;rcases q with⟨eF,q⟩ | ⟨eF,q⟩
   .exact .inl ⟨eF,s _ _ q⟩
   .exact .inr ⟨eF,Qo0 s q⟩
  .exact .inr ⟨e,eF,Qop s q⟩
def Focus.rp:∀{is:List Int}{d:D}{v:V}{F:LAd}{dm:D}{w:V}{Gm:LAd},Focus K H is d v F dm w Gm->Rp K H dm w Gm
 | [],_,_,_,_,_,_,h=>by
  obtain⟨rfl,rfl,rfl,r⟩:=h;exact r
 | i::is,_,_,_,_,_,_,h=>by
  obtain⟨ds,a,vs,j,F1,G,F2,d',v',h1,h2,h3,h4,h5,h6,h7,h8,h9⟩:=h;exact h9.rp
def Focus.QrQ:∀{is:List Int}{d:D}{v:V}{F:LAd}{dm:D}{w:V}{Gm:LAd},Focus K H is d v F dm w Gm->Rp K H d v F
 | [],_,_,_,_,_,_,h=>h.2.2.2
 | i::is,_,_,_,_,_,_,h=>by
  obtain⟨ds,a,vs,j,F1,G,F2,d',v',rfl,h2,h3,h4,h5,h6,h7,h8,h9⟩:=h;have hjl:j<ds.length:=(Zg.mp h6).1;have hdj:ds[j]=d':=(Zg.mp h6).2;have j1:=Rps.join h4 h9.QrQ h5 hjl h7;rw[show ds.set j d'=ds by rw[← hdj];exact List.set_getElem_self hjl]at j1;rcases h3 with⟨rfl,hz,⟨rfl,q⟩ | ⟨rfl,q⟩⟩ | ⟨rfl,rfl,q⟩
  .exact Rp.Qg5 q j1 hz
  .simp only[Rp];exact⟨hz,a,vs,rfl,.inr ⟨q,j1⟩⟩
  .simp only[Rp];exact⟨a,vs,rfl,q,j1⟩
def Focus.one(r:Rp K H d v F)(hd:d.items=some ds)(hi:atI ds i=some d'):
  ∃a vs v' G,v= .ref a/\((d= .lst ds/\SqL K H a vs)∨(d= .tup ds/\SqT K H a vs))/\atI vs i=some v'/\Focus K H [i] d v F d' v' G:=by
 unfold atI at hi;cases hj:ixN ds.length i with
 | none=>rw[hj]at hi;cases hi
 | some j=>
  rw[hj]at hi;have hdj:ds[j]? =some d':=hi;have fin:∀(vs:List V) (L:LAd),Rps K H ds vs L->∃v' G F1 F2,L=F1++(G++F2)/\vs[j]? =some v'/\atI vs i=some v'/\Rps K H (ds.take j) (vs.take j) F1/\Rp K H d' v' G/\Rps K H (ds.drop (j+1)) (vs.drop (j+1)) F2/\ds.length=vs.length:=λvs L rl=>by
   obtain⟨F1,G,F2,v',h1,h2,h3,h4,h5⟩:=rl.split hdj;refine⟨v',G,F1,F2,h1,h2,?_,h3,h4,h5,rl.length⟩;unfold atI;rw[← rl.length,hj];exact h2
  cases d with
  | lst xs=>
   cases hd;simp only[Rp]at r;obtain⟨hz,a,vs,rfl,⟨L,rfl,q,rl⟩ | ⟨q,rl⟩⟩:=r
   .obtain⟨v',G,F1,F2,h1,h2,h3,h4,h5,h6,h7⟩:=fin vs L rl;exact⟨a,vs,v',G,rfl,.inl ⟨rfl,SqL.of q⟩,h3,ds,a,vs,j,F1,G,F2,d',v',rfl,hj,.inl ⟨rfl,hz,.inl ⟨by rw[h1],q⟩⟩,h4,h6,hdj,h2,h7,rfl,rfl,rfl,h5⟩
   .obtain⟨v',G,F1,F2,h1,h2,h3,h4,h5,h6,h7⟩:=fin vs _ rl;exact⟨a,vs,v',G,rfl,.inl ⟨rfl,q.sq⟩,h3,ds,a,vs,j,F1,G,F2,d',v',rfl,hj,.inl ⟨rfl,hz,.inr ⟨h1,q⟩⟩,h4,h6,hdj,h2,h7,rfl,rfl,rfl,h5⟩
  | tup xs=>
   cases hd;obtain⟨a,vs,rfl,q,rl⟩:=r.Qa2;obtain⟨v',G,F1,F2,h1,h2,h3,h4,h5,h6,h7⟩:=fin vs _ rl;exact⟨a,vs,v',G,rfl,.inr ⟨rfl,q⟩,h3,ds,a,vs,j,F1,G,F2,d',v',rfl,hj,.inr ⟨rfl,h1,q⟩,h4,h6,hdj,h2,h7,rfl,rfl,rfl,h5⟩
  | _=>cases hd
def Focus.snoc:∀{is:List Int}{d:D}{v:V}{F:LAd}{dm:D}{w:V}{Gm:LAd}{i:Int}{d':D}{v':V}{G:LAd},Focus K H is d v F dm w Gm->Focus K H [i] dm w Gm d' v' G->Focus K H (is++[i]) d v F d' v' G
 | [],_,_,_,_,_,_,_,_,_,_,h,g=>by
  obtain⟨rfl,rfl,rfl,r⟩:=h;exact g
 | k::is,_,_,_,_,_,_,_,_,_,_,h,g=>by
  obtain⟨ds,a,vs,j,F1,G,F2,d',v',h1,h2,h3,h4,h5,h6,h7,h8,h9⟩:=h;exact⟨ds,a,vs,j,F1,G,F2,d',v',h1,h2,h3,h4,h5,h6,h7,h8,h9.snoc g⟩
noncomputable def Qcg:D->List Int->Option D
 | d,[]=>some d
 | d,i::is=>(d.items).bind λds=>(atI ds i).bind λd'=>Qcg d' is
def Qkq:∀{is:List Int}{d:D}{i:Int}{d':D},Qcg d (is++[i])=some d'->∃dm ds,Qcg d is=some dm/\dm.items=some ds/\atI ds i=some d'
 | [],d,i,d',h=>by
  refine Qf h λds h1 h=>?_;refine Qf h λd'' h2 h=>?_;cases h;exact⟨d,ds,rfl,h1,h2⟩
 | k::is,d,i,d',h=>by
  refine Qf h λds h1 h=>?_;refine Qf h λd'' h2 h=>?_;obtain⟨dm,es,h3,h4,h5⟩:=Qkq h;refine⟨dm,es,?_,h4,h5⟩;simp only[Qcg,h1,h2,Za,h3]
noncomputable def QbB:List Int->D->D->D
 | [],_,new=>new
 | i::is,.lst ds,new=>match ixN ds.length i with
  | some j=> .lst (ds.set j (QbB is (ds.getD j .non) new))
  | none=> .lst ds
 | i::is,.tup ds,new=>match ixN ds.length i with
  | some j=> .tup (ds.set j (QbB is (ds.getD j .non) new))
  | none=> .tup ds
 | _::_,d,_=>d
def Qg4:∀{ds:List D}{j:Nat}{d e:D},ds[j]? =some d->nls (ds.set j e)+d.nl=nls ds+e.nl
 | [],_,_,_,h=>by simp at h
 | x::ds,0,d,e,h=>by simp at h;subst h;simp only[List.set_cons_zero,nls];omega
 | x::ds,j+1,d,e,h=>by
  have:=Qg4 (e:=e) (by simpa using h);simp only[List.set_cons_succ,nls];omega
def Qcz:∀(as bs:List D),nls (as++bs)=nls as+nls bs
 | [],bs=>by simp[nls]
 | a::as,bs=>by simp only[ZbB,nls,Qcz as bs];omega
def Focus.mut:∀{is:List Int}{d:D}{v:V}{F:LAd}{Gm:LAd},Focus K H is d v F (.lst dsm) (.ref p) Gm->F.Nodup->F.length=d.nl→
  ∃vsm Gp,H p=some (.lst vsm)/\Gm=p::Gp/\Rps K H dsm vsm Gp/\Gp.length=nls dsm/\p∈F/\(∀a∈Gp,a∈F)/\p∉Gp∧
   (Rps K (upd H p (.lst vs')) ds' vs' G'->ds'.length<=sizeLine->G'.length=nls ds'→
    ∃F',Rp K (upd H p (.lst vs')) (QbB is d (.lst ds')) v F'/\F'.length=(QbB is d (.lst ds')).nl/\∀a,F'.count a+Gp.count a=F.count a+G'.count a)
 | [],d,v,F,Gm,h,nd,hl=>by
  obtain⟨rfl,rfl,rfl,r⟩:=h;simp only[Rp]at r;obtain⟨hz,a,vs,e,h⟩:=r;cases e;rcases h with⟨L,rfl,q,rl⟩ | ⟨q,rl⟩
  .obtain⟨n1,n2⟩:=ZV.mp nd;have hl':L.length=nls dsm:=by simp only[D.nl,Zj]at hl;omega
   refine⟨vs,L,q,rfl,rl,hl',Zf,λa ha=>Zc _ ha,n1,λr' hz' hl2=>⟨p::G',Rp.Qg5 Qat r' hz',?_,λa=>?_⟩⟩
   .simp only[QbB,D.nl,Zj,hl2]
   .rw[Zaz,Zaz];omega
  .have:=rl.Qaw;simp only[D.nl]at hl;omega
 | i::is,d,v,F,Gm,h,nd,hl=>by
  obtain⟨ds,a,vs,j,F1,G,F2,d',v',rfl,hj,h3,h4,h5,h6,h7,h8,h9⟩:=h;have hjl:j<ds.length:=(Zg.mp h6).1;have gd:ds.getD j .non=d':=by rw[ZD,h6];rfl
  have l1:=h4.Qaw;have l2:=h5.Qaw;have l3:=h9.QrQ.Qaw;have nlsplit:nls (ds.take j)+(d'.nl+nls (ds.drop (j+1)))=nls ds:=by
   have e1:ds=ds.take j++d'::ds.drop (j+1):=by
    have:ds[j]=d':=(Zg.mp h6).2;rw[← this,← ZT hjl,ZaR]
   have e2:=congrArg nls e1;rw[Qcz]at e2;simp only[nls]at e2;exact e2.symm
  have core:(F1++(G++F2)).Nodup->(F1++(G++F2)).length=nls ds->_:=λnd' hl'=>by
   simp only[Zo]at hl';have hG:G.length=d'.nl:= ⋯
   have ndG:G.Nodup:=(ZF.mp (ZF.mp nd').2.1).1;exact(h9.mut (vs':=vs') (ds':=ds') (G':=G') ndG hG)
  have apart:(F1++(G++F2)).Nodup->p∈G->p∉F1/\p∉F2:=λnd' hp=>by
   have n1:=ZF.mp nd';have n2:=ZF.mp n1.2.1;exact⟨λh=>n1.2.2 p h p (Ze _ hp) rfl,λh=>n2.2.2 p hp p h rfl⟩
  have cnt:∀(G'' Gp:LAd),(∀a,G''.count a+Gp.count a=G.count a+G'.count a)->∀a,(F1++(G''++F2)).count a+Gp.count a=(F1++(G++F2)).count a+G'.count a:=λG'' Gp hc a=>by
   have:=hc a;simp only[Zaf];omega
  rcases h3 with⟨rfl,hz,⟨rfl,q⟩ | ⟨rfl,q⟩⟩ | ⟨rfl,rfl,q⟩
  ·
   obtain⟨n1,n2⟩:=ZV.mp nd;have hl':(F1++(G++F2)).length=nls ds:=by simp only[D.nl,Zj]at hl;omega
   obtain⟨vsm,Gp,e1,e2,e3,e4,e5,e6,e7,e8⟩:=core n2 hl';have ap:=apart n2 e5;have hap:a≠p:=λz=>n1 (by rw[z];exact Zd _ (Ze _ e5));refine⟨vsm,Gp,e1,e2,e3,e4,Zc _ (Zd _ (Ze _ e5)),λb hb=>Zc _ (Zd _ (Ze _ (e6 b hb))),e7,λr' hz' hl2=>?_⟩;obtain⟨G'',f1,f2,f3⟩:=e8 r' hz' hl2;have j1:=Rps.join (h4.upd e1 ap.1) f1 (h5.upd e1 ap.2) hjl h7;refine⟨a::(F1++(G''++F2)),?_,?_,λb=>?_⟩
   .simp only[QbB,hj,gd];exact Rp.Qg5 (by rw[QM hap];exact q) j1 (by rw[Zay];exact hz)
   .have:=Qg4 (e:=QbB is d' (.lst ds')) h6;simp only[QbB,hj,gd,D.nl,Zj,Zo,f2]at hl' ⊢;omega
   .have:=cnt G'' Gp f3 b;rw[Zaz,Zaz];omega
  .have:(F1++(G++F2)).length<=nls ds:=by simp only[Zo];omega
   simp only[D.nl]at hl;omega
  ·
   have hl':(F1++(G++F2)).length=nls ds:=by simpa only[D.nl]using hl
   obtain⟨vsm,Gp,e1,e2,e3,e4,e5,e6,e7,e8⟩:=core nd hl';have ap:=apart nd e5;refine⟨vsm,Gp,e1,e2,e3,e4,Zd _ (Ze _ e5),λb hb=>Zd _ (Ze _ (e6 b hb)),e7,λr' hz' hl2=>?_⟩;obtain⟨G'',f1,f2,f3⟩:=e8 r' hz' hl2;have j1:=Rps.join (h4.upd e1 ap.1) f1 (h5.upd e1 ap.2) hjl h7;refine⟨F1++(G''++F2),?_,?_,cnt G'' Gp f3⟩
   .simp only[QbB,hj,gd,Rp];exact⟨a,vs,rfl,QpK e1 q,j1⟩
   .have:=Qg4 (e:=QbB is d' (.lst ds')) h6;simp only[QbB,hj,gd,D.nl,Zo,f2]at hl' ⊢;omega
end
section
def Rel.mut(rel:Rel K H0 A0 hs ρ F U H)(p:Q9 K ρ F H H1 r vn Gn)(hf:r.fr=true)(nd:r.M.Nodup)(s12:QE H1 H2)(hx:ρ[x]? =some (some (d,true)))(hxM:x∉r.M)(hv0:U[x]? =some (some v0))
  {dnew:D}{q:Addr}{F':LAd}{vsm vs':List V}(e1:H2 q=some (.lst vsm)) (e5:q∈F x) (f1:Rp K (upd H2 q (.lst vs')) dnew v0 F') (f2:F'.length=dnew.nl) (cF:∀a,F'.count a<=(F x).count a+Gn.count a):
  ∃F',Rel K H0 A0 hs ((kill r.M ρ).set x (some (dnew,true))) F' U (upd H2 q (.lst vs')):=by
 obtain⟨ol,on,o0,oap,oh⟩:=rel.own x d hx;obtain⟨gn,gs⟩:=p.fresh rel hf nd;have rel2:=(rel.ext p.same).ext s12;have relk:=rel2.weak (Qb4 r.M ρ);have apn:∀a∈Gn,a∉F x:=λa ha hax=>by
  rcases(gs a ha).2 with z | ⟨k,d',hk,ek,hak⟩
  .obtain⟨vs,w⟩:=rel.mem hx hax;rw[z]at w;cases w
  .have:k≠x:=λz=>hxM (z▸hk);exact oap k d' true this ek a hax hak
 have memF:∀a∈F',a∈F x∨a∈Gn:=λa ha=>by
  have h1:=cF a;have h2:0<F'.count a:=Zaq.mpr ha;by_cases h:a∈F x
  .exact .inl h
  .rw[ZM.mpr h]at h1;exact .inr (Zaq.mp ⋯)
 have apart:∀(j:Nat) d' b,j≠x->(kill r.M ρ)[j]? =some (some (d',b))->∀a∈F',a∉F j:=λj d' b hj e a ha haj=>by
  obtain⟨b',e',_⟩:=(Qb4 r.M ρ).2 j d' b e;rcases memF a ha with h | h
  .exact oap j d' b' hj e' a h haj
  .rcases(gs a h).2 with z | ⟨k,d'',hk,ek,hak⟩
   .obtain⟨vs,w⟩:=rel.mem e' haj;rw[z]at w;cases w
   .have hjk:j≠k:=λz=>by subst z;exact Qf7 r.M ρ j d' b hk e
    exact(rel.own k d'' ek).2.2.2.1 j d' b' hjk e' a hak haj
 have apartH:∀t∈hs,∀a∈F',a∉t.2.2:=λt ht a ha hat=>by
  rcases memF a ha with h | h
  .exact oh t ht a h hat
  .rcases(gs a h).2 with z | ⟨k,d'',hk,ek,hak⟩
   .obtain⟨vs,w⟩:=(rel.held t ht).1.mem a hat
    rw[z]at w;cases w
   .exact(rel.own k d'' ek).2.2.2.2 t ht a hak hat
 have nqj:∀(j:Nat) d' b,j≠x->ρ[j]? =some (some (d',b))->q∉F j:=λj d' b hj e h=>oap j d' b hj e q e5 h;have nF':F'.Nodup:=ZZ.mpr λa=>by
  have h1:=cF a;have h2:=ZZ.mp on a;have h3:=ZZ.mp gn a;by_cases h:a∈Gn
  .rw[ZM.mpr (apn a h)]at h1;omega
  .rw[ZM.mpr h]at h1;omega
 have lt:∀{j:Nat}{z:Option (D×Bool)}{y:D×Bool},((kill r.M ρ).set j z)[j]? =some (some y)->j<(kill r.M ρ).length:=λ{j z y} e=>by
  by_cases hl:j<(kill r.M ρ).length
  .exact hl
  .rw[Zw (by simp;omega)]at e;cases e
 refine⟨λj=>if j=x then F' else F j,by simp[relk.len],λj d' b e=>?_,λj d' e=>?_,λj d' b e a ha=>?_,λt ht=>⟨(relk.held t ht).1.upd e1 λh=>oh t ht q e5 h,(relk.held t ht).2⟩,λb o hb=>?_⟩
 .by_cases hj:j=x
  .subst hj;have hl:=lt e;rw[Zm hl]at e;cases e;exact⟨v0,hv0,by rw[if_pos rfl];exact f1⟩
  .rw[Zh (Ne.symm hj)]at e;obtain⟨w,h1,h2⟩:=relk.val j d' b e;obtain⟨b',e',_⟩:=(Qb4 r.M ρ).2 j d' b e;exact⟨w,h1,by rw[if_neg hj];exact h2.upd e1 (nqj j d' b' hj e')⟩
 .by_cases hj:j=x
  .subst hj;have hl:=lt e;rw[Zm hl]at e;cases e;rw[if_pos rfl];refine⟨f2,nF',λa ha=>?_,λk d'' b hk ek a ha=>?_,apartH⟩
   .rcases memF a ha with h | h
    .exact o0 a h
    .exact(gs a h).1
   .rw[Zh (Ne.symm hk)]at ek;rw[if_neg hk];exact apart k d'' b hk ek a ha
  .rw[Zh (Ne.symm hj)]at e;obtain⟨h1,h2,h3,h4,h5⟩:=relk.own j d' e;rw[if_neg hj];refine⟨h1,h2,h3,λk d'' b hk ek a ha=>?_,h5⟩;by_cases hki:k=x
   .subst hki;rw[if_pos rfl];exact λhG=>apart j d' true hj e a hG ha
   .rw[Zh (Ne.symm hki)]at ek;rw[if_neg hki];exact h4 k d'' b hk ek a ha
 .by_cases hj:j=x
  .subst hj;rw[if_pos rfl]at ha;rcases memF a ha with h | h
   .exact .inl (o0 a h)
   .exact .inl (gs a h).1
  .rw[Zh (Ne.symm hj)]at e;rw[if_neg hj]at ha;exact relk.src j d' b e a ha
 .have hbq:b≠q:=λz=>by rw[z,o0 q e5]at hb;cases hb
  rw[QM hbq];exact relk.same b o hb
end
noncomputable abbrev DP:=En->Option (List Int)
noncomputable def QaP:DP:=λ_=>some []
noncomputable def Qi7(p:DP)(fb:DE):DP:=λρ=>(p ρ).bind λis=>(fb ρ).bind λr=>match r.d with
 | .int i=>some (is++[i])
 | _=>none
noncomputable def tP(K:Fgg)(H0:Hp)(A0:LAd)(x:Nat)(pf:DP):TE:=λU H Q=>∃ρ hs F d b is dm,Rel K H0 A0 hs ρ F U H/\ρ[x]? =some (some (d,b))/\pf ρ=some is/\Qcg d is=some dm∧
 ∀v0 v H' Gm,QE H H'->U[x]? =some (some v0)->Focus K H' is d v0 (F x) dm v Gm->Q v H'
def SPa(X:Cx)(e:Expr)(x:Nat)(pf:DP):Prop:=∀H0 A0,PE X e (tP X.K H0 A0 x pf)
section
def QuE(h:PE X (.Name y pos) (Qhk x)):SPa X (.Name y pos) x QaP:=λH0 A0=>h.mono λU H Q Z=>by
 obtain⟨ρ,hs,F,d,b,is,dm,rel,hx,hp,hd,q⟩:=Z;cases hp;cases hd;obtain⟨v,h1,h2⟩:=rel.val x d b hx;exact⟨v,h1,q v v H (F x) (QE.refl _) h1 ⟨rfl,rfl,rfl,h2⟩⟩
def Qwp(ha:SPa X a x pf)(hb:SE X b fb)(hs:QiV b):SPa X (.Subscript a b pos) x (Qi7 pf fb):=λH0 A0=>
 (QvH (Qqi.or Qsj) (ha H0 A0) (hb H0 A0) hs).mono λU H Q Z=>by
  obtain⟨ρ,hs,F,d,b',is,dm,rel,hx,hp,hd,q⟩:=Z;refine Qf hp λis' e1 hp=>?_;refine Qf hp λr e2 hp=>?_;cases hr:r.d with
  | int i=>
   rw[hr]at hp;cases hp;obtain⟨dn,ds,g1,g2,g3⟩:=Qkq hd;refine⟨ρ,hs,F,d,b',is',dn,rel,hx,e1,g1,λv0 w H1 Gm s1 hv fo=>⟨ρ,hs,F,r,rel.ext s1,e2,λu H2 G p2=>?_⟩⟩;have rp:=p2.rp;rw[hr]at rp;rw[rp.int_inv];have fo2:=fo.same p2.same;obtain⟨c,vs,v',G',rfl,hc,h3,h4⟩:=Focus.one fo2.rp g2 g3;have fin:=q v0 v' H2 G' (s1.trans p2.same) hv (fo2.snoc h4);rcases hc with⟨_,hc⟩ | ⟨_,hc⟩
   .exact .inl ⟨c,vs,i,v',rfl,rfl,hc,h3,fin⟩
   .exact .inr ⟨c,vs,i,v',rfl,rfl,hc,h3,fin⟩
  | _=>rw[hr]at hp;cases hp
noncomputable def QfF(x:Nat)(pf:DP)(fi fa:DE):DS:=λρ=>(fa ρ).bind λr0=>match ρ[x]? with
 | some (some (d,true))=>(pf ρ).bind λis=>(fi ρ).bind λri=>match ri.d,Qcg d is with
  | .int k,some (.lst ds)=>(ixN ds.length k).bind λj=>if r0.norm.fr && decide r0.norm.M.Nodup && !r0.norm.M.contains x then some (.nx ((kill r0.norm.M ρ).set x (some (QbB is d (.lst (ds.set j r0.d)),true))))else
   none
  | _,_=>none
 | _=>none
def set_mk(hq:H2 q=some (.lst vsm))(rs:Rps K H2 dsm vsm Gp)(hl:Gp.length=nls dsm)(nq:q∉Gp)(nqn:q∉Gn)(hn:Rp K H2 dn vn Gn)(hnl:Gn.length=dn.nl)(hj:j<dsm.length):
  ∃G',Rps K (upd H2 q (.lst (vsm.set j vn))) (dsm.set j dn) (vsm.set j vn) G'/\G'.length=nls (dsm.set j dn)/\∀a,G'.count a<=Gp.count a+Gn.count a:=by
 obtain⟨F1,G,F2,v,e1,e2,h1,h2,h3⟩:=rs.split (j:=j) (d:=dsm[j]) (by simp[hj]);subst e1;have hjv:j<vsm.length:=by rw[← rs.length];exact hj
 have n1:q∉F1:=λh=>nq (Ze _ h);have n2:q∉F2:=λh=>nq (Zd _ (Zd _ h));refine⟨F1++(Gn++F2),Rps.Qv8 (h1.upd hq n1) (hn.upd hq nqn) (h3.upd hq n2) hj hjv,?_,λa=>?_⟩
 .have:=Qg4 (ds:=dsm) (j:=j) (d:=dsm[j]) (e:=dn) (by simp[hj]);have l1:=h1.Qaw;have l2:=h2.Qaw;have l3:=h3.Qaw;have e1:nls (dsm.take j)+((dsm[j]).nl+nls (dsm.drop (j+1)))=nls dsm:=by
   have e2:=congrArg nls (ZaR j dsm);rw[Qcz,ZT hj]at e2;simpa only[nls]using e2
  simp only[Zo]at hl ⊢;omega
 .simp only[Zaf];omega
def Q9.QvT(p:Q9 K ρ F H H1 r v G)(s:QE H1 H2):Q9 K ρ F H H2 r v G:=⟨p.same.trans s,p.rp.same s,p.src,p.cnt,p.own⟩
def QyS(hv:SE X e fa)(ho:SPa X a x pf)(hi:SE X i fi)
  (h:∀te to ti,PE X e te->PE X a to->PE X i ti->PS X (.Assign [.Subscript a i pos'] e pos) (QoW te (L2.QaW to ti Qv3))):S1 X (.Assign [.Subscript a i pos'] e pos) (QfF x pf fi fa):=λH0 A0=>
 (h _ _ _ (hv H0 A0) (ho H0 A0) (hi H0 A0)).mono λE U H=>exK λρ hs F o rel e q=>by
  refine Qf e λr0 e1 e=>?_;split at e
  .rename_i d hx;refine Qf e λis e2 e=>?_;refine Qf e λri e3 e=>?_;split at e
   .rename_i k ds hk hp;refine Qf e λj e4 e=>?_;split at e
    .rename_i hc;cases e;simp only[Zi,decide_eq_true_eq,ZW]at hc;obtain⟨⟨c1,c2⟩,c3⟩:=hc;have c3:x∉r0.norm.M:=λh=>by rw[ZI.mpr h]at c3;cases c3
     refine⟨ρ,hs,F,r0,rel,e1,λvn H1 Gn p=>⟨ρ,hs,F,d,true,is,.lst ds,rel.ext p.same,hx,e2,hp,λv0 w H2 Gm s2 hv0 fo=>⟨ρ,hs,F,ri,(rel.ext p.same).ext s2,e3,λu H3 Gi pi=>?_⟩⟩⟩;have p':=(p.norm.QvT s2).QvT pi.same;have fo3:=fo.same pi.same;have rpi:=pi.rp;rw[hk]at rpi;rw[rpi.int_inv];obtain⟨l,ws,L,rfl,_⟩:=fo3.rp.lst_inv;obtain⟨ol,on,_,oap,_⟩:=rel.own x d hx;have hjl:=(Qjs e4).2.1;obtain⟨gn,gs⟩:=p'.fresh rel c1 c2;have rn:=p'.rp;rw[r0.Qdw]at rn;have hnl:=(p'.cnt c1).2;rw[r0.Qdw]at hnl;obtain⟨vsm,_,f1,_⟩:=fo3.mut (vs':=[]) (ds':=[]) (G':=[]) on ol;obtain⟨_,_,_,_,_,_,zl,_⟩:=fo3.rp.lst_inv;have key:∃F',Rp X.K (upd H3 l (.lst (vsm.set j vn))) (QbB is d (.lst (ds.set j r0.d))) v0 F'/\F'.length=(QbB is d (.lst (ds.set j r0.d))).nl/\l∈F x/\ds.length=vsm.length/\∀a,F'.count a<=(F x).count a+Gn.count a:=by
      have own5:∀G',_:=λG'=>fo3.mut (vs':=vsm.set j vn) (ds':=ds.set j r0.d) (G':=G') on ol;obtain⟨vs1,Gp,g1,g2,g3,g4,g5,g6,g7,_⟩:=own5 [];rw[f1]at g1;cases g1;have hq:l∉Gn:=λh=>by
       rcases(gs l h).2 with z | ⟨k',d',hk',ek,hak⟩
       .obtain⟨vs,w⟩:=rel.mem hx g5;rw[z]at w;cases w
       .exact oap k' d' true (λz=>c3 (z▸hk')) ek l g5 hak
      obtain⟨G',m1,m2,m3⟩:=set_mk f1 g3 g4 g7 hq rn hnl hjl;obtain⟨vs2,Gp2,k1,k2,k3,k4,k5,k6,k7,k8⟩:=own5 G';have eG:Gp2=Gp:=by rw[g2]at k2;exact(List.cons.inj k2).2.symm
      subst eG;obtain⟨F',h1,h2,h3⟩:=k8 m1 (by rw[Zay];exact zl) m2;exact⟨F',h1,h2,g5,g3.length,λa=>by have:=h3 a;have:=m3 a;omega⟩
     obtain⟨F',k1,k2,k3,k4,k5⟩:=key;refine⟨l,vsm,k,j,rfl,rfl,f1,by rw[← k4];exact e4,?_⟩;obtain⟨F'',rel'⟩:=rel.mut p' c1 c2 (QE.refl _) hx c3 hv0 f1 k3 k1 k2 k5;exact q _ _ F'' rel'
    ·
      cases e
   .cases e
  .cases e
end
section
variable {K:Fgg}{H0 H H1 H2 H3:Hp}{A0:LAd}{hs:List (V×D×List Addr)}{ρ:En}{F:Nat->List Addr}{U:L2.St}
def Rel.write(rel:Rel K H0 A0 hs ρ F U H)(p:Q9 K ρ F H H3 r vn Gn)(hf:r.fr=true)(nd:r.M.Nodup)(hx:ρ[x]? =some (some (d,true)))(hxM:x∉r.M)(hv0:U[x]? =some (some v0))
  {is:List Int}{ds:List D}{Gm:LAd}(fo:Focus K H3 is d v0 (F x) (.lst ds) w Gm):
  ∃l vsm Gp,w= .ref l/\H3 l=some (.lst vsm)/\Rps K H3 ds vsm Gp/\Gp.length=nls ds/\l∉Gp/\l∉Gn/\ds.length<=sizeLine∧
   ∀ds' vs' G',Rps K (upd H3 l (.lst vs')) ds' vs' G'->ds'.length<=sizeLine->G'.length=nls ds'->(∀a,G'.count a<=Gp.count a+Gn.count a)→
    ∃F',Rel K H0 A0 hs ((kill r.M ρ).set x (some (QbB is d (.lst ds'),true))) F' U (upd H3 l (.lst vs')):=by
 obtain⟨l,ws,L,rfl,_,_,zl,_⟩:=fo.rp.lst_inv;obtain⟨ol,on,_,oap,_⟩:=rel.own x d hx;obtain⟨gn,gs⟩:=p.fresh rel hf nd;obtain⟨vsm,Gp,g1,g2,g3,g4,g5,g6,g7,_⟩:=fo.mut (vs':=[]) (ds':=[]) (G':=[]) on ol;have hq:l∉Gn:=λh=>by
  rcases(gs l h).2 with z | ⟨k',d',hk',ek,hak⟩
  .obtain⟨vs,w⟩:=rel.mem hx g5;rw[z]at w;cases w
  .exact oap k' d' true (λz=>hxM (z▸hk')) ek l g5 hak
 refine⟨l,vsm,Gp,rfl,g1,g3,g4,g7,hq,zl,λds' vs' G' m1 m2 m3 m4=>?_⟩;obtain⟨vs2,Gp2,k1,k2,k3,k4,k5,k6,k7,k8⟩:=fo.mut (vs':=vs') (ds':=ds') (G':=G') on ol;have eG:Gp2=Gp:=by rw[g2]at k2;exact(List.cons.inj k2).2.symm
 subst eG;obtain⟨F',h1,h2,h3⟩:=k8 m1 m2 m3;exact rel.mut p hf nd (QE.refl _) hx hxM hv0 g1 g5 h1 h2 λa=>by have:=h3 a;have:=m4 a;omega
end
section
variable {X:Cx}{a b e:Expr}{fa fb:DE}{pf:DP}{x:Nat}{pos apos:Pos}
noncomputable def QkB(r:R)(x:Nat):Bool:=r.norm.fr && decide r.norm.M.Nodup && !r.norm.M.contains x
def QsF(h:QkB r x=true):r.norm.fr=true/\r.norm.M.Nodup/\x∉r.norm.M:=by
 unfold QkB at h;simp only[Zi,decide_eq_true_eq,ZW]at h;exact⟨h.1.1,h.1.2,λz=>by rw[ZI.mpr z]at h;cases h.2⟩
noncomputable def Qeo(x:Nat)(pf:DP)(fa:DE):DS:=λρ=>match ρ[x]? with
 | some (some (d,true))=>(pf ρ).bind λis=>(fa ρ).bind λr0=>match Qcg d is with
  | some (.lst ds)=>if QkB r0 x && decide (ds.length<sizeLine)then some (.nx ((kill r0.norm.M ρ).set x (some (QbB is d (.lst (ds++[r0.d])),true))))else none
  | _=>none
 | _=>none
def Qua{H0:Hp}{A0:LAd}{E:Ends}{U:L2.St}{H:Hp}:tS X.K H0 A0 (Qeo x pf fa) E U H->Qns (tBM X.K "list" QpW (tP X.K H0 A0 x pf) (QkC (tV X.K H0 A0 fa) QlK)) E U H:=exK λρ hs F o rel e q=>by
 unfold Qeo at e;split at e
 .rename_i d hx;refine Qf e λis e2 e=>?_;refine Qf e λr0 e1 e=>?_;split at e
  .rename_i ds hp;split at e
   .rename_i hc;simp only[Zi,decide_eq_true_eq]at hc;obtain⟨c1,c2,c3⟩:=QsF hc.1;cases e;refine⟨ρ,hs,F,d,true,is,.lst ds,rel,hx,e2,hp,λv0 w H2 Gm s2 hv0 fo=>?_⟩;have ty:tyV X.K "list" w H2:=by
     obtain⟨l,ws,L,rfl,hl,_⟩:=fo.rp.lst_inv;exact .inl ⟨rfl,ws,Qah hl⟩
    refine⟨ty,ρ,hs,F,r0,rel.ext s2,e1,λvn H3 Gn p=>?_⟩;have p':=p.norm;obtain⟨l,vsm,Gp,rfl,g1,g2,g3,g4,g5,g6,g7⟩:=(rel.ext s2).write p' c1 c2 hx c3 hv0 (fo.same p.same);refine⟨l,vsm,vn,rfl,rfl,g1,by rw[← g2.length];exact hc.2,?_⟩;have rn:=p'.rp;rw[r0.Qdw]at rn;have hnl:=(p'.cnt c1).2;rw[r0.Qdw]at hnl;have rw1:Rps X.K (upd H3 l (.lst (vsm++[vn]))) [r0.d] [vn] Gn:=by
     simp only[Rps];exact⟨vn,[],Gn,[],rfl,⋯,rn.upd g1 g5,rfl,rfl⟩
    obtain⟨F',rel'⟩:=g7 (ds++[r0.d]) (vsm++[vn]) (Gp++Gn) ((g2.upd g1 g4).append rw1) (by rw[Zo,Zbd];omega) (by rw[Zo,Qcz,g3,hnl];simp[nls]) (λa=>by rw[Zaf];omega);exact q _ _ F' rel'
   .cases e
  .cases e
 .cases e
noncomputable def QjU(x:Nat)(pf:DP)(fa:DE):DS:=λρ=>match ρ[x]? with
 | some (some (d,true))=>(pf ρ).bind λis=>(fa ρ).bind λr0=>match Qcg d is,r0.d with
  | some (.lst ds),.lst es=>if Qak es && decide (ds.length+es.length<=sizeLine)then some (.nx (ρ.set x (some (QbB is d (.lst (ds++es)),true))))else none
  | _,_=>none
 | _=>none
def Qv1(K:Fgg):V->List V->Hp->VK->Prop:=λx vs H Q=>∃l b xs zs,x= .ref l/\vs=[.ref b]/\H l=some (.lst xs)/\(H b=some (.lst zs)∨Fix K H b zs)/\xs.length+zs.length<=sizeLine/\Q .non (upd H l (.lst (xs++zs)))
open PyProof.Rows in
def QsI:Qzc X (QyR X.K):=by
 intro pins s U H o i ov iv Q I ro ri h;obtain⟨p,xs,k,v,rfl,rfl,hq,ha,q⟩:=h;cases ro;obtain⟨t,rfl⟩:=ri;obtain⟨its,r,pl,hz⟩:=I.list hq;obtain⟨j,h1,h2,h3,h4,h5⟩:=Ql6 ha;obtain⟨w,ew,rw'⟩:=r.get h2;have hl:=r.length;have hn:=QgM;by_cases h0:0<=k
 .refine wpAny_getItem_list pl.isList h0 ⋯ (x:=w) ?_ ⟨v,H,I,rw',q⟩;have:k.toNat=j:=by
   rw[seqIndex_of h0 h5]at h1;exact Option.some.inj h1
  rw[this];simpa using ew
 .refine wpAny_getItem_list_neg pl.isList ⋯ (by rw[Zv]<;>omega) ⋯ (x:=w) ?_ ⟨v,H,I,rw',q⟩;have hj:(k+(its.toArray.size:Int)).toNat=j:=by
   rw[seqIndex_neg ⋯ h4]at h1;rw[Zv,← hl];exact Option.some.inj h1
  rw[hj];simpa using ew
noncomputable def Qd6(g:D->D->Option D)(x:Nat)(pf:DP)(fi fa:DE):DS:=λρ=>match ρ[x]? with
 | some (some (d,true))=>(pf ρ).bind λis=>(fi ρ).bind λri=>match ri.d,Qcg d is with
  | .int k,some (.lst ds)=>(ixN ds.length k).bind λj=>(ds[j]?).bind λold=>(fa ρ).bind λr=>(g old r.d).map λnew=> .nx (ρ.set x (some (QbB is d (.lst (ds.set j new)),true)))
  | _,_=>none
 | _=>none
def QxG(ho:OpR X (inplaceOp op) r)(hg:Qcw X.K g r)(hv:SE X e fa)(hp:SPa X a x pf)(hi:SE X i fi)
  (ha:∀ov iv new,augStore i ov iv new=(do holding [new,ov,iv] (setItem ov iv new);release [new,ov,iv] [];pure .next)):S1 X (.AugAssign (.Subscript a i pos') op e pos) (Qd6 g x pf fi fa):=λH0 A0=>
 (QxN (hp H0 A0) (hi H0 A0) QsI (hv H0 A0) (λpins s U H x y v u Q I rx ry q=>QBu ho I rx ry q) set_list ha).mono λE U H=>exK λρ hs F o rel e q=>by
  unfold Qd6 at e;split at e
  .rename_i d hx;refine Qf e λis e2 e=>?_;refine Qf e λri e3 e=>?_;split at e
   .rename_i k ds hk hp';refine Qf e λj e4 e=>?_;refine Qf e λold e5 e=>?_;refine Qf e λrv e6 e=>?_;obtain⟨new,e7,e⟩:=Zb.mp e;subst e;have hjl:=(Qjs e4).2.1;refine⟨ρ,hs,F,d,true,is,.lst ds,rel,hx,e2,hp',λv0 w H2 Gm s2 hv0 fo=>⟨ρ,hs,F,ri,rel.ext s2,e3,λu H3 Gi pi=>?_⟩⟩;have fo3:=fo.same pi.same;have rpi:=pi.rp;rw[hk]at rpi;rw[rpi.int_inv];have at3:atI ds k=some old:=by unfold atI;rw[e4];exact e5
    obtain⟨l,vs,v',Go,rfl,hc,h3,h4⟩:=Focus.one fo3.rp rfl at3;have hc:SqL X.K H3 l vs:=by
     rcases hc with⟨_,hc⟩ | ⟨hc,_⟩
     .exact hc
     .cases hc
    refine⟨l,vs,k,v',rfl,rfl,hc,h3,ρ,hs,F,rv,(rel.ext s2).ext pi.same,e6,λy H4 G4 p4=>?_⟩;have fo4:=fo3.same p4.same;have ro:=h4.rp.same p4.same;refine(hg _ _ _ e7).2 H4 v' y Go G4 _ ro p4.rp λz hz=>?_;have rel4:=((rel.ext s2).ext pi.same).ext p4.same;have pz:Q9 X.K ρ F H4 H4 ⟨new,true,[]⟩ z []:= .flat (QE.refl _) (hz H4) (hg _ _ _ e7).1;obtain⟨l',vsm,Gp,el,g1,g2,g3,g4,g5,g6,g7⟩:=rel4.write pz rfl Zad hx ⋯ hv0 fo4;cases el;refine⟨l,vsm,k,j,rfl,rfl,g1,by rw[← g2.length];exact e4,?_⟩;obtain⟨G',m1,m2,m3⟩:=set_mk g1 g2 g3 g4 g5 (hz H4) (Qc9 new (hg _ _ _ e7).1).symm hjl;obtain⟨F',rel'⟩:=g7 _ _ G' m1 (by rw[Zay];exact g6) m2 m3;exact q _ _ F' rel'
   .cases e
  .cases e
end
end HS
namespace HS
open PySem PySem.Spec L2 PyProof.Rows
noncomputable def D.QvP:D->Option Int
 | .int i=>some i
 | _=>none
noncomputable def Qed:List D->Option (List Int)
 | []=>some []
 | d::ds=>(d.QvP).bind λi=>(Qed ds).map λr=>i::r
def QcY:∀{ds:List D}{ns:List Int},Qed ds=some ns->ds=ns.map .int
 | [],_,h=>by cases h;rfl
 | d::ds,ns,h=>by
  unfold Qed at h;refine Qf h λi h1 h=>?_;obtain⟨r,h2,rfl⟩:=Zb.mp h;cases d with
  | int j=>cases h1;rw[QcY h2];rfl
  | _=>cases h1
def QfI:∀(ns:List Int),Qed (ns.map D.int)=some ns
 | []=>rfl
 | n::ns=>by simp[Qed,QfI ns,D.QvP]
def Rps.ints{K:Fgg}{H:Hp}:∀{ns:List Int}{vs:List V}{F:LAd},Rps K H (ns.map .int) vs F->vs=ns.map .int
 | [],_,_,h=>by simp only[List.map_nil,Rps]at h;rw[h.1];rfl
 | n::ns,_,_,h=>by
  simp only[ZA,Rps]at h;obtain⟨v,ws,F1,F2,rfl,rfl,r,q⟩:=h;rw[r.int_inv,Rps.ints q];rfl
def Qb0(h:QB (ns.map V.int) us):IntsAre us ns:=intsAre_of h
section
variable {X:Cx}{a b e:Expr}{es:List Expr}{fa fb:DE}{fs:DA}{pos p2:Pos}
def Qyt(he:PE X e te)(hk:PE X k tk):PE X (.Subscript e (.Slice none none (some k) p2) pos)
  (λU H Q=>te U H λx H1=>tk U H1 λy H2=>∃a xs,x= .ref a/\y= .int (-1)/\SqL X.K H2 a xs/\∀p,H2 p=none->Q (.ref p) (upd H2 p (.lst xs.reverse))):=by
 intro pins s U H Q I h;refine PyProof.Rows.Subscript_ (thn (he pins s U H _ I h) λv s1=>exJ λx H1 I1 r1 q1=>?_);refine wpAny_Slice ?_;rw[evalPart_none];refine wpAny_pure (wpAny_pure ?_);rw[evalPart_some];refine thn (hk pins s1 U H1 _ I1 q1) λvk s3=>exJ λy H3 I3 r3 q3=>?_;obtain⟨c,xs,rfl,rfl,hq,q⟩:=q3;cases r1;obtain⟨t,rfl⟩:=r3;have I4:Inv X pins U H3 {s3 with heap:=s3.heap.push {cls:= .type "slice",data:= .fields #[.none,.none,.int (-1) t]}}:=I3.kept (t':=s3.toks) λb ob q=>Zq _ q;obtain⟨its,r,ht,hz⟩:=I4.list hq;have hlen:=r.length;refine tail_any ht.isList.typeIs slot_list_getitem.lookup ?_ (by with_unfolding_all rfl);refine wpAny_getItem_list_slice ht.isList (Heap.IsSliceOf.new ..) .none .none (.int (-1) t) ⋯ ?_ (by rw[Zv]<;>omega);rw[PySem.W.krv_pick];refine⟨.ref _,_,I4.laid (t':=s3.toks) (λb ob q=>Zq _ q) (Zk _) ?_,rfl,q _ (I4.hok.fresh (Zk _))⟩;exact⟨by rw[Zbo];exact hz,its.reverse,0,r.reverse,ZG _ rfl⟩
def Rps.rev{K:Fgg}{H:Hp}:∀{ds:List D}{vs:List V}{F:LAd},Rps K H ds vs F->∃G,Rps K H ds.reverse vs.reverse G/\∀a∈G,a∈F
 | [],_,_,h=>by simp only[Rps]at h;rw[h.1,h.2];exact⟨[],by simp[Rps],λ_ h=>h⟩
 | d::ds,_,_,h=>by
  simp only[Rps]at h;obtain⟨v,ws,F1,F2,rfl,rfl,r,q⟩:=h;obtain⟨G,h1,h2⟩:=Rps.rev q;refine⟨G++F1,?_,λa ha=>?_⟩
  .rw[ZaT,ZaT];refine h1.append ?_;simp only[Rps];exact⟨v,[],F1,[],rfl,⋯,r,rfl,rfl⟩
  .rcases Zr.mp ha with z | z
   .exact Zd _ (h2 a z)
   .exact Ze _ z
noncomputable def QoE(fa fk:DE):DE:=λρ=>(fa ρ).bind λra=>(fk ρ).bind λrk=>match ra.d,rk.d with
 | .lst xs,.int (-1)=>some (QaR xs.reverse ra.M)
 | _,_=>none
def Qyc{k:Expr}{fk:DE}(ha:SE X a fa)(hk:SE X k fk):SE X (.Subscript a (.Slice none none (some k) p2) pos) (QoE fa fk):=λH0 A0=>
 (Qyt (ha H0 A0) (hk H0 A0)).mono λU H Q=>exK λρ hs F r' rel e q=>by
  refine Qf e λra e1 e=>?_;refine Qf e λrk e2 e=>?_;refine two rel e1 e2 λx y H1 H2 G1 G2 p1 p2=>?_;split at e
  .rename_i xs hra hrk;cases e;have rp:=p1.rp.same p2.same;have rk':=p2.rp;rw[hra]at rp;rw[hrk]at rk';obtain⟨c,vs,L,rfl,hc,rl,zl,el⟩:=rp.lst_inv;refine⟨c,vs,rfl,rk'.int_inv,Qah hc,λp hp=>?_⟩;obtain⟨G,h1,h2⟩:=rl.rev;refine q _ _ (p::G) (Q9.QaR (p1.same.trans p2.same) hp h1 (by rw[Zbo];exact zl) (λz hz=>p1.src z ?_) p1.own);rcases el with rfl | rfl
   .exact Zc _ (h2 z hz)
   .exact h2 z hz
  .cases e
def QqQ(K:Fgg)(C:List Int->Int->Prop):List V->Hp->VK->Prop:=λxs H Q=>∃(p:Addr) (ns:List Int),xs=[.ref p]/\(SqL K H p (ns.map V.int)∨SqT K H p (ns.map V.int))/\ns≠[]/\∀M,C ns M->Q (.int M) H
def QkN(ns:List Int)(M:Int):Prop:=M∈ns/\∀a∈ns,M<=a
def isMax(ns:List Int)(M:Int):Prop:=M∈ns/\∀a∈ns,a<=M
def Qdn(hi:IntsAre us ns):∃xs:Array (Int×Tok),us.toArray=intItems xs/\ns=xs.toList.map (·.1):=by
 obtain⟨xs,e⟩:=hi.allInts.items;exact⟨xs,e,by rw[← hi.numsOf,← nums_intItems,← e]⟩
def Qn2(hh:A.handled=none)(hl:s.heap.IsTuple l (intItems xs))(hne:0<xs.size)
  (h:∀v h' tk,(intItems xs)[argBest (λi j=>decide (numAt xs i<numAt xs j)) (xs.size-1)]? =some v->(∀b o,s.heap.get? b=some o->h'.get? b=some o)->Q v {s with heap:=h',toks:=tk}):
  wpAny (model prog w) A (call (.builtin "min") [.ref l]) Q E s:=by
 have hlt:l<s.heap.objs.size:=by obtain⟨_,e,_⟩:=hl;exact Zt e
 refine call_min_walk (wpAny_pyIter_tuple hl ?_);refine⟨_,[_,l],[_],_,_,_,_,rfl,Walks.tuple (A:=A.in1) hh _ l (ZK hlt) (intItems xs),⟨⟨_,ZG _ rfl,rfl,rfl⟩,hl.push _⟩,λb hb=>?_,by simpa[intItems]using hne,CmpOf.ints_lt (numAt xs) (λ_ _=>intItems_at),λv h' tk hP hk=>?_⟩
 .show b<(s.heap.push _).objs.size;rw[Zax];rcases Zn.mp hb with rfl | hb
  .exact Zar _
  .rcases Zn.mp hb with rfl | hb
   .exact ZaK hlt
   .cases hb
 .refine h v h' tk (by simpa[intItems]using hP) λb o e=>?_;refine hk b o (λhm=>?_) (Zq _ e);rcases Zn.mp hm with e1 | hm
  .exact absurd (e1▸Zt e) (ZU _)
  .cases hm
def QrL(hc:X.calm=true):Qdl X (.builtin "min") (QqQ X.K QkN):=by
 intro pins s U H xs us Q I r h;obtain⟨p,ns,rfl,hq,hne,q⟩:=h;obtain⟨u,rfl,rx⟩:=vals1 r;cases rx;rcases hq with hq | hq
 .obtain⟨its,r',pl,hz⟩:=I.list hq;obtain⟨ys,e,hns⟩:=Qdn (Qb0 r');have hl:=pl.isList;rw[e]at hl;have hsz:0<ys.size:=by
   rcases ZaZ ys.size with z | z
   .exact absurd (by rw[hns,ZaW];exact Zap (by simpa using z)) hne
   .exact z
  refine min_intList (I.ok.hd hc) hl hsz λv h' tk hv hk=>?_;obtain⟨t,rfl⟩:=intItems_at hv;obtain⟨h1,h2⟩:=argBest_lt (numAt ys) (ys.size-1);refine⟨.int _,H,I.kept hk,⟨t,rfl⟩,q _ ⟨?_,λa ha=>?_⟩⟩
  .rw[hns,numAt_eq];exact getD_mem (by rw[Zp,Zaa];omega)
  .rw[hns]at ha;obtain⟨j,hj,rfl⟩:=mem_getD ha;rw[Zp,Zaa]at hj;rw[← numAt_eq];exact h2 j ⋯
 .obtain⟨its,r',pl,hz⟩:=I.tuple hq;obtain⟨ys,e,hns⟩:=Qdn (Qb0 r');have hl:=pl;rw[e]at hl;have hsz:0<ys.size:=by
   rcases ZaZ ys.size with z | z
   .exact absurd (by rw[hns,ZaW];exact Zap (by simpa using z)) hne
   .exact z
  refine Qn2 (I.ok.hd hc) hl hsz λv h' tk hv hk=>?_;obtain⟨t,rfl⟩:=intItems_at hv;obtain⟨h1,h2⟩:=argBest_lt (numAt ys) (ys.size-1);refine⟨.int _,H,I.kept hk,⟨t,rfl⟩,q _ ⟨?_,λa ha=>?_⟩⟩
  .rw[hns,numAt_eq];exact getD_mem (by rw[Zp,Zaa];omega)
  .rw[hns]at ha;obtain⟨j,hj,rfl⟩:=mem_getD ha;rw[Zp,Zaa]at hj;rw[← numAt_eq];exact h2 j ⋯
def Qn3(hh:A.handled=none)(hl:s.heap.IsTuple l (intItems xs))(hne:0<xs.size)
  (h:∀v h' tk,(intItems xs)[argBest (λi j=>decide (numAt xs i>numAt xs j)) (xs.size-1)]? =some v->(∀b o,s.heap.get? b=some o->h'.get? b=some o)->Q v {s with heap:=h',toks:=tk}):
  wpAny (model prog w) A (call (.builtin "max") [.ref l]) Q E s:=by
 have hlt:l<s.heap.objs.size:=by obtain⟨_,e,_⟩:=hl;exact Zt e
 refine call_max_walk (wpAny_pyIter_tuple hl ?_);refine⟨_,[_,l],[_],_,_,_,_,rfl,Walks.tuple (A:=A.in1) hh _ l (ZK hlt) (intItems xs),⟨⟨_,ZG _ rfl,rfl,rfl⟩,hl.push _⟩,λb hb=>?_,by simpa[intItems]using hne,CmpOf.ints_gt (numAt xs) (λ_ _=>intItems_at),λv h' tk hP hk=>?_⟩
 .show b<(s.heap.push _).objs.size;rw[Zax];rcases Zn.mp hb with rfl | hb
  .exact Zar _
  .rcases Zn.mp hb with rfl | hb
   .exact ZaK hlt
   .cases hb
 .refine h v h' tk (by simpa[intItems]using hP) λb o e=>?_;refine hk b o (λhm=>?_) (Zq _ e);rcases Zn.mp hm with e1 | hm
  .exact absurd (e1▸Zt e) (ZU _)
  .cases hm
def Qtp(hc:X.calm=true):Qdl X (.builtin "max") (QqQ X.K isMax):=by
 intro pins s U H xs us Q I r h;obtain⟨p,ns,rfl,hq,hne,q⟩:=h;obtain⟨u,rfl,rx⟩:=vals1 r;cases rx;rcases hq with hq | hq
 .obtain⟨its,r',pl,hz⟩:=I.list hq;obtain⟨ys,e,hns⟩:=Qdn (Qb0 r');have hl:=pl.isList;rw[e]at hl;have hsz:0<ys.size:=by
   rcases ZaZ ys.size with z | z
   .exact absurd (by rw[hns,ZaW];exact Zap (by simpa using z)) hne
   .exact z
  refine max_intList (I.ok.hd hc) hl hsz λv h' tk hv hk=>?_;obtain⟨t,rfl⟩:=intItems_at hv;obtain⟨h1,h2⟩:=argBest_gt (numAt ys) (ys.size-1);refine⟨.int _,H,I.kept hk,⟨t,rfl⟩,q _ ⟨?_,λa ha=>?_⟩⟩
  .rw[hns,numAt_eq];exact getD_mem (by rw[Zp,Zaa];omega)
  .rw[hns]at ha;obtain⟨j,hj,rfl⟩:=mem_getD ha;rw[Zp,Zaa]at hj;rw[← numAt_eq];exact h2 j ⋯
 .obtain⟨its,r',pl,hz⟩:=I.tuple hq;obtain⟨ys,e,hns⟩:=Qdn (Qb0 r');have hl:=pl;rw[e]at hl;have hsz:0<ys.size:=by
   rcases ZaZ ys.size with z | z
   .exact absurd (by rw[hns,ZaW];exact Zap (by simpa using z)) hne
   .exact z
  refine Qn3 (I.ok.hd hc) hl hsz λv h' tk hv hk=>?_;obtain⟨t,rfl⟩:=intItems_at hv;obtain⟨h1,h2⟩:=argBest_gt (numAt ys) (ys.size-1);refine⟨.int _,H,I.kept hk,⟨t,rfl⟩,q _ ⟨?_,λa ha=>?_⟩⟩
  .rw[hns,numAt_eq];exact getD_mem (by rw[Zp,Zaa];omega)
  .rw[hns]at ha;obtain⟨j,hj,rfl⟩:=mem_getD ha;rw[Zp,Zaa]at hj;rw[← numAt_eq];exact h2 j ⋯
def QoM(hh:A.handled=none)(hl:s.heap.IsTuple l (intItems xs))
  (h:∀h' tk t',(∀b o,s.heap.get? b=some o->h'.get? b=some o)->Q (.int (preSum (numAt xs) xs.size) t') {s with heap:=h',toks:=tk}):
  wpAny (model prog w) A (call (.builtin "sum") [.ref l]) Q E s:=by
 have hlt:l<s.heap.objs.size:=by obtain⟨_,e,_⟩:=hl;exact Zt e
 refine call_sum_walkG (wpAny_pyIter_tuple hl ?_);refine⟨_,[_,l],[_],_,_,_,numAt xs,rfl,Walks.tuple (A:=A.in1) hh _ l (ZK hlt) (intItems xs),⟨⟨_,ZG _ rfl,rfl,rfl⟩,hl.push _⟩,λb hb=>?_,(λ_ _=>intItems_at),λh' tk t' hk=>?_⟩
 .show b<(s.heap.push _).objs.size;rw[Zax];rcases Zn.mp hb with rfl | hb
  .exact Zar _
  .rcases Zn.mp hb with rfl | hb
   .exact ZaK hlt
   .cases hb
 .have:=h h' tk t' λb o e=>by
   refine hk b o (λhm=>?_) (Zq _ e);rcases Zn.mp hm with e1 | hm
   .exact absurd (e1▸Zt e) (ZU _)
   .cases hm
  simpa[intItems]using this
def QyW(K:Fgg):List V->Hp->VK->Prop:=λxs H Q=>∃(p:Addr) (ns:List Int),xs=[.ref p]/\(SqL K H p (ns.map V.int)∨SqT K H p (ns.map V.int))/\Q (.int ns.sum) H
def QrW(hc:X.calm=true):Qdl X (.builtin "sum") (QyW X.K):=by
 intro pins s U H xs us Q I r h;obtain⟨p,ns,rfl,hq,q⟩:=h;obtain⟨u,rfl,rx⟩:=vals1 r;cases rx;rcases hq with hq | hq
 .obtain⟨its,r',pl,hz⟩:=I.list hq;obtain⟨ys,e,hns⟩:=Qdn (Qb0 r');have hl:=pl.isList;rw[e]at hl;refine sum_intListG (I.ok.hd hc) hl λh' tk t' hk=>?_;refine⟨.int ns.sum,H,I.kept hk,⟨t',?_⟩,q⟩;rw[preSum_eq,ZaO ⋯,hns]
 .obtain⟨its,r',pl,hz⟩:=I.tuple hq;obtain⟨ys,e,hns⟩:=Qdn (Qb0 r');have hl:=pl;rw[e]at hl;refine QoM (I.ok.hd hc) hl λh' tk t' hk=>?_;refine⟨.int ns.sum,H,I.kept hk,⟨t',?_⟩,q⟩;rw[preSum_eq,ZaO ⋯,hns]
noncomputable def Qkd:List Int->Option Int
 | []=>none
 | [n]=>some n
 | n::r=>(Qkd r).map λm=>if m<n then m else n
noncomputable def Qj7:List Int->Option Int
 | []=>none
 | [n]=>some n
 | n::r=>(Qj7 r).map λm=>if n<m then m else n
def Qjp:∀{ns:List Int}{m:Int},Qkd ns=some m->QkN ns m
 | [],_,h=>by cases h
 | [n],_,h=>by cases h;exact⟨⋯,λa ha=>by simp at ha;omega⟩
 | n::k::r,m,h=>by
  simp only[Qkd]at h;obtain⟨m',h1,rfl⟩:=Zb.mp h;obtain⟨h2,h3⟩:=Qjp h1;constructor
  .split
   .exact Zc _ h2
   .exact Zf
  .intro a ha;rcases Zn.mp ha with rfl | ha
   .split<;>omega
   .have:=h3 a ha;split<;>omega
def Qi9:∀{ns:List Int}{m:Int},Qj7 ns=some m->isMax ns m
 | [],_,h=>by cases h
 | [n],_,h=>by cases h;exact⟨⋯,λa ha=>by simp at ha;omega⟩
 | n::k::r,m,h=>by
  simp only[Qj7]at h;obtain⟨m',h1,rfl⟩:=Zb.mp h;obtain⟨h2,h3⟩:=Qi9 h1;constructor
  .split
   .exact Zc _ h2
   .exact Zf
  .intro a ha;rcases Zn.mp ha with rfl | ha
   .split<;>omega
   .have:=h3 a ha;split<;>omega
def QmE{ns:List Int}{a b:Int}(h:QkN ns a)(g:QkN ns b):a=b:=by have:=h.2 b g.1;have:=g.2 a h.1;omega
def QmB{ns:List Int}{a b:Int}(h:isMax ns a)(g:isMax ns b):a=b:=by have:=h.2 b g.1;have:=g.2 a h.1;omega
noncomputable def QeC:List D->Option D
 | [.lst xs]=>(Qed xs).bind λns=>(Qkd ns).map .int
 | [.tup xs]=>(Qed xs).bind λns=>(Qkd ns).map .int
 | _=>none
noncomputable def QhI:List D->Option D
 | [.lst xs]=>(Qed xs).bind λns=>(Qj7 ns).map .int
 | [.tup xs]=>(Qed xs).bind λns=>(Qj7 ns).map .int
 | _=>none
noncomputable def Qcj:List D->Option D
 | [.lst xs]=>(Qed xs).map λns=> .int ns.sum
 | [.tup xs]=>(Qed xs).map λns=> .int ns.sum
 | _=>none
def Qx1{K:Fgg}:QfA K QeC (QqQ K QkN):=λds d e=>by
 unfold QeC at e;split at e
 .refine Qf e λns h1 e=>?_;obtain⟨m,h2,rfl⟩:=Zb.mp e;refine⟨rfl,λH vs F Q r q=>?_⟩;obtain⟨v,rfl,rp⟩:=r.one;obtain⟨l,ws,L,rfl,hl,rl,zl,el⟩:=rp.lst_inv;rw[QcY h1]at rl;rw[rl.ints]at hl;exact⟨l,ns,rfl,.inl (Qah hl),λz=>(by rw[z]at h2;cases h2),λM hM=>by rw[QmE hM (Qjp h2)];exact q _ λ_=> .int_mk⟩
 .refine Qf e λns h1 e=>?_;obtain⟨m,h2,rfl⟩:=Zb.mp e;refine⟨rfl,λH vs F Q r q=>?_⟩;obtain⟨v,rfl,rp⟩:=r.one;obtain⟨l,ws,rfl,hl,rl⟩:=rp.Qa2;rw[QcY h1]at rl;rw[rl.ints]at hl;exact⟨l,ns,rfl,.inr hl,λz=>(by rw[z]at h2;cases h2),λM hM=>by rw[QmE hM (Qjp h2)];exact q _ λ_=> .int_mk⟩
 .cases e
def Qwh{K:Fgg}:QfA K QhI (QqQ K isMax):=λds d e=>by
 unfold QhI at e;split at e
 .refine Qf e λns h1 e=>?_;obtain⟨m,h2,rfl⟩:=Zb.mp e;refine⟨rfl,λH vs F Q r q=>?_⟩;obtain⟨v,rfl,rp⟩:=r.one;obtain⟨l,ws,L,rfl,hl,rl,zl,el⟩:=rp.lst_inv;rw[QcY h1]at rl;rw[rl.ints]at hl;exact⟨l,ns,rfl,.inl (Qah hl),λz=>(by rw[z]at h2;cases h2),λM hM=>by rw[QmB hM (Qi9 h2)];exact q _ λ_=> .int_mk⟩
 .refine Qf e λns h1 e=>?_;obtain⟨m,h2,rfl⟩:=Zb.mp e;refine⟨rfl,λH vs F Q r q=>?_⟩;obtain⟨v,rfl,rp⟩:=r.one;obtain⟨l,ws,rfl,hl,rl⟩:=rp.Qa2;rw[QcY h1]at rl;rw[rl.ints]at hl;exact⟨l,ns,rfl,.inr hl,λz=>(by rw[z]at h2;cases h2),λM hM=>by rw[QmB hM (Qi9 h2)];exact q _ λ_=> .int_mk⟩
 .cases e
def Qx3{K:Fgg}:QfA K Qcj (QyW K):=λds d e=>by
 unfold Qcj at e;split at e
 .obtain⟨ns,h1,rfl⟩:=Zb.mp e;refine⟨rfl,λH vs F Q r q=>?_⟩;obtain⟨v,rfl,rp⟩:=r.one;obtain⟨l,ws,L,rfl,hl,rl,zl,el⟩:=rp.lst_inv;rw[QcY h1]at rl;rw[rl.ints]at hl;exact⟨l,ns,rfl,.inl (Qah hl),q _ λ_=> .int_mk⟩
 .obtain⟨ns,h1,rfl⟩:=Zb.mp e;refine⟨rfl,λH vs F Q r q=>?_⟩;obtain⟨v,rfl,rp⟩:=r.one;obtain⟨l,ws,rfl,hl,rl⟩:=rp.Qa2;rw[QcY h1]at rl;rw[rl.ints]at hl;exact⟨l,ns,rfl,.inr hl,q _ λ_=> .int_mk⟩
 .cases e
end
section
variable {X:Cx}{a b c e tg:Expr}{es:List Expr}{fa fb fc:DE}{fs:DA}{pos p2:Pos}
noncomputable def Itd(hi:Int)(n:Nat):It:=⟨λi _=>i<n,λi H x H'=>H'=H/\x= .int (hi-i),λi _=>n<=i⟩
def Qpu{P:Program}{w:World}{K:Fgg}{tg:Expr}(it:Addr)(lo:Int)(n:Nat):Turn P w K tg (Itd lo n) [it] it (λi h=>IsRangeIter h it (lo+(i:Nat)*(-1)) ((n:Int)-(i:Nat)) (-1)) where
 mem:= ⋯
 obj:=λi h st b hb=>by
  have e:b=it:=by simpa using hb
  subst e;exact⟨_,st,λv z=>by
   have z':Data.fields _=Data.cell v:=z;cases z'⟩
 keep:=λi h h' st k=>k it ⋯ _ st
 item:=by
  intro X hP hw hK hc i pins s U H E I hf st hg;subst hP hw hK;obtain⟨f0,f1,f2,f3,f4,f5⟩:=hf it ⋯;have W:=Walks.range (prog:=X.prog) (w:=X.w) (I.ok.hd hc) it lo (-1) n;refine W.item i s _ _ hg st λv h' tk hv st' kk=>?_;obtain⟨t,rfl⟩:=hv;have I1:Inv X pins U H {s with heap:=h',toks:=tk}:=I.turned (λb o hb e=>kk b o (by simpa using hb) e) f0 f1 f3 f4 f5;refine⟨_,rfl,Qnk st' rfl rfl ∅ ⟨.int (lo-i),H,I1,⟨t,?_⟩,⟨rfl,rfl⟩,st',λb hb=>(hf b hb).1⟩⟩;rw[show lo+(i:Int)* -1=lo-i by omega]
 done:=by
  intro X hP hw hK hc i pins s U H E I hf st hg;subst hP hw hK;obtain⟨f0,f1,f2,f3,f4,f5⟩:=hf it ⋯;exact wpAny_pyNext_range_end (I.ok.hd hc) st (by have:n<=i:=hg;omega) λh' eb=>⟨rfl,I.turned (t':=s.toks) (λb o hb e=>eb b o hb e) f0 f1 f3 f4 f5⟩
 self:=λ_ _ _ _ _ st h=>wpAny_pyIter_rangeiter st h
def Qmx(lo hi:Int):Builtin.Range.rangeSize lo hi (-1)=if lo>hi then lo-hi else 0:=by
 unfold Builtin.Range.rangeSize;rw[if_neg ∅];split
 .rw[show(- -1:Int)=1 by decide,Int.ediv_one];omega
 .rfl
def small_down{lo hi:Int}(h1: -(2^62)<=lo)(h2:lo<2^62)(h3: -(2^62)<=hi)(h4:hi<2^62):Builtin.Range.small lo hi (-1)=true:=by
 unfold Builtin.Range.small;rw[Qmx];simp only[Builtin.Range.rangeFitsLong,Zi,ZbI,decide_eq_true_eq,beq_iff_eq,show ¬((-1:Int)>0) by decide,if_false];split<;>omega
def Qsm{pins:List (Addr×Obj)}{U:L2.St}{H:Hp}{s:Shared}{R:It->Hp->Prop}{E:Value->Shared->Prop}{lo hi:Int}{t u v:Tok}{tk:Nat}(I:Inv X pins U H s)(h1: -(2^62)<=lo)(h2:lo<2^62)(h3: -(2^62)<=hi)(h4:hi<2^62)
  (q:R (Itd lo (lo-hi).toNat) H):wpAny (model X.prog X.w) X.A (pyIter (.ref s.heap.objs.size)) (PIE X pins U tg R) E {s with heap:=s.heap.push {cls:= .type "range",data:= .fields #[.int lo t,.int hi u,.int (-1) v]},toks:=tk}:=by
 refine wpAny_pyIter_range (IsRange.new ..) (small_down h1 h2 h3 h4) ?_;have I1:Inv X pins U H {s with heap:=s.heap.push {cls:= .type "range",data:= .fields #[.int lo t,.int hi u,.int (-1) v]},toks:=tk}:=I.kept λb o e=>Zq _ e
 refine⟨(s.heap.push {cls:= .type "range",data:= .fields #[.int lo t,.int hi u,.int (-1) v]}).objs.size,[(s.heap.push {cls:= .type "range",data:= .fields #[.int lo t,.int hi u,.int (-1) v]}).objs.size],_,_,H,rfl,
  I1.kept (t':=tk) λb o e=>Zq _ e,Qpu _ lo (lo-hi).toNat,?_,λb hb=>?_,q⟩
 .have e1:lo+((0:Nat):Int)*(-1)=lo:= ⋯
  have e2:(((lo-hi).toNat:Nat):Int)-((0:Nat):Int)=Builtin.Range.rangeSize lo hi (-1):=by rw[Qmx];split<;>omega
  show IsRangeIter _ _ (lo+((0:Nat):Int)*(-1)) ((((lo-hi).toNat:Nat):Int)-((0:Nat):Int)) (-1);rw[e1,e2];exact ZG _ rfl
 .have e:b=(s.heap.push {cls:= .type "range",data:= .fields #[.int lo t,.int hi u,.int (-1) v]}).objs.size:=by simpa using hb
  subst e;exact I1.QlZ (Zk _) (I1.hok.fresh (Zk _))
noncomputable def QAo(ta:TA):TI:=λU H R=>ta U H λvs H1=>∃i j:Int,vs=[.int i,.int j,.int (-1)]/\(-(2^62)<=i/\i<2^62/\ -(2^62)<=j/\j<2^62)/\R (Itd i (i-j).toNat) H1
def Qse(hg:Gl X "range")(hm:X.mg "range" =none)(ha:PA X [a,b,c] ta)(hs:starEach [a,b,c] X.env=(false,eval a X.env)::starEach [b,c] X.env)(hs2:(backTo pos (starEach [b,c] X.env)).any (·.1)=false):
  PI X tg (.Call (.Name "range" p) [a,b,c] [] pos) (QAo ta):=by
 intro pins s U H R I h;refine Call_ (Qe1 I hg hm boot_range (Zas (thn (ha pos pins s U H _ I h) λus s1 ⟨vs,H1,I1,r1,q1⟩=>?_) hs hs2));obtain⟨i,j,e,⟨q1,q2,q3,q4⟩,q⟩:=q1;subst e;cases r1 with
 | cons r rr=>
  cases rr with
  | cons r' rr=>
   cases rr with
   | cons r'' rr=>
    cases rr;obtain⟨t,rfl⟩:=r;obtain⟨t',rfl⟩:=r';obtain⟨t'',rfl⟩:=r'';exact call_range_3 ∅ (Qsm I1 q1 q2 q3 q4 q) (.inl (Zbw nofun))
noncomputable def Ql2(hi:Int)(n:Nat):List D:=(List.range n).map λ(k:Nat)=> .int (hi-(k:Int))
def Qvo{lo:Int}{n i:Nat}{d:D}(h:(Ql2 lo n)[i]? =some d):i<n/\d= .int (lo-i):=by
 unfold Ql2 at h;rw[Zy]at h;by_cases hi:i<n
 .rw[ZY hi]at h;cases h;exact⟨hi,rfl⟩
 .rw[Zw (by simp;omega)]at h;cases h
noncomputable def Qeq(fa fb fc:DE):DI:=λρ=>(fa ρ).bind λr=>(fb ρ).bind λr'=>(fc ρ).bind λr''=>match r.d,r'.d,r''.d with
 | .int i,.int j,.int (-1)=>if i-j<=16777216/\ -(2^62)<=i/\i<2^62/\ -(2^62)<=j/\j<2^62 then some ⟨Ql2 i (i-j).toNat,[]⟩else none
 | _,_,_=>none
def QjR{lo:Int}{n:Nat}:(Ql2 lo n).length=n:=by simp[Ql2]
def QpD{K:Fgg}{lo:Int}{n:Nat}:Walk K (Itd lo n) [] (Ql2 lo n) where
 stop:=λH _=>by rw[QjR];exact Zk _
 go:=λi H hi _=>by rw[QjR]at hi;exact hi
 yld:=λi d H x H' e _ y=>by
  obtain⟨h1,rfl⟩:=Qvo e;obtain⟨rfl,rfl⟩:=y;exact⟨QE.refl _,[],.int_mk,λz hz=>by simp at hz⟩
def QrB(hg:Gl X "range")(hm:X.mg "range" =none)(ha:SE X a fa)(hb:SE X b fb)(hc:SE X c fc)(h1:starEach [a,b,c] X.env=(false,eval a X.env)::starEach [b,c] X.env)(h2:starEach [b,c] X.env=(false,eval b X.env)::starEach [c] X.env)(h3:starEach [c] X.env=(false,eval c X.env)::starEach [] X.env):
  SI X tg (.Call (.Name "range" p) [a,b,c] [] pos) (Qeq fa fb fc):=λH0 A0=>
 (Qse hg hm (Qa5 (ha H0 A0) (Qa5 (hb H0 A0) (Qa5 (hc H0 A0) Qdz h3) h2) h1) h1 (by rw[h2,h3];rfl)).mono λU H Rr=>exK λρ hs F ir rel e q=>by
  refine Qf e λr e1 e=>?_;refine Qf e λr' e2 e=>?_;refine Qf e λr'' e3 e=>?_;refine⟨ρ,hs,F,r,rel,e1,λv H1 G pp=>⟨ρ,hs,F,r',rel.ext pp.same,e2,λv' H2 G' pp'=>⟨ρ,hs,F,r'',(rel.ext pp.same).ext pp'.same,e3,λv'' H3 G'' pp''=>?_⟩⟩⟩;split at e
  .rename_i i j hr hr' hr'';split at e
   .rename_i hz;cases e;have rp:=(pp.rp.same pp'.same).same pp''.same;have rp':=pp'.rp.same pp''.same;have rp'':=pp''.rp;rw[hr]at rp;rw[hr']at rp';rw[hr'']at rp'';rw[rp.int_inv,rp'.int_inv,rp''.int_inv];refine⟨i,j,rfl,hz.2,q _ H3 [] ((pp.same.trans pp'.same).trans pp''.same) QpD (λt ht=>by simp at ht) Qbp.nil ?_⟩;rw[QjR,Qqy];omega
   .cases e
  .cases e
def Qxh:MtR X "int.bit_length" (λx vs H Q=>∃i,x= .int i/\vs=[]/\Q (.int (Builtin.Int.intBits i)) H):=by
 intro pins s U H x vs v us Q I rx rv h;obtain⟨i,rfl,rfl,q⟩:=h;obtain⟨t,rfl⟩:=rx;have hus:=rv.zero;subst hus;exact call_int_bit_length ⟨.int _,H,I.tok _,⟨_,rfl⟩,q⟩
noncomputable def Qi2(fa:DE):DE:=λρ=>(fa ρ).bind λr=>match r.d with
 | .int i=>some ⟨.int (Builtin.Int.intBits i),true,[]⟩
 | _=>none
def QwP(ha:SE X a fa)(hb:attributeBase a "bit_length" X.env (eval a X.env)=eval a X.env)(hl:(apos.endLine == cpos.line)=true):SE X (.Call (.Attribute a "bit_length" apos) [] [] cpos) (Qi2 fa):=λH0 A0=>
 (Qz7 PySem.F.plainAttrs_int PySem.F.slot_int_bit_length PySem.F.type_int_bit_length Qxh (ha H0 A0) hb hl).mono λU H Q=>exK λρ hs F r' rel e q=>by
  refine Qf e λra e1 e=>?_;refine⟨ρ,hs,F,ra,rel,e1,λv H1 G p1=>?_⟩;cases hd:ra.d with
  | int i=>
   rw[hd]at e;cases e;have rp:=p1.rp;rw[hd]at rp;rw[rp.int_inv];exact⟨rfl,i,rfl,rfl,q _ _ [] (.flat p1.same .int_mk)⟩
  | _=>rw[hd]at e;cases e
end
section
variable {X:Cx}{e:Expr}{es:List Expr}{fs:DA}{pos:Pos}
def Qx9{p:Pos}(hcl:X.calm=true)(hg:Gl X "list")(hm:X.mg "list" =none)(ha:SA X (e::es) fs)(he:starEach (e::es) X.env=(false,eval e X.env)::starEach es X.env)(hpl:(backTo pos (starEach es X.env)).any (·.1)=false):
    SE X (.Call (.Name "list" p) (e::es) [] pos) (dList fs):=λH0 A0=>
 (QrU QnJ hg hm ZbH (ha H0 A0) ∅ ∅ he hpl).mono λU H Q=>exK λρ hs F r' rel e q=>by
    refine Qf e λra e1 e=>?_;refine⟨ρ,hs,F,ra,rel,e1,λvs H1 G p1=>?_⟩;have rp:=p1.rp;have src:=p1.src;split at e
    · rename_i xs hds
      cases e;rw[hds]at rp;obtain⟨v,rfl,rq⟩:=rp.one;obtain⟨l,ws,L,rfl,hl,rl,zl,el⟩:=rq.lst_inv;refine⟨l,ws,rfl,.inl (Qah hl),λc hc=>q _ _ (c::L) (Q9.QaR p1.same hc rl zl (λz hz=>src z ?_) p1.own)⟩;rcases el with rfl | rfl
      · exact Zc _ hz
      · exact hz
    · rename_i xs hds
      split at e
      · rename_i hz
        cases e;rw[hds]at rp;obtain⟨v,rfl,rq⟩:=rp.one;obtain⟨l,ws,rfl,hl,rl⟩:=rq.Qa2;exact⟨l,ws,rfl,.inr hl,λc hc=>q _ _ (c::G) (Q9.QaR p1.same hc rl hz src p1.own)⟩
      · cases e
    · cases e
end
end HS
namespace HS
open PySem L2
end HS
namespace HS
open PySem
section
variable {t:SetTable}
end
section
variable {mask:Nat}{owner:Array (Option Nat)}
end
end HS
namespace HS
open PySem L2 PyProof.Rows
section
variable {prog:Program}{w:World}{A:Around}{E:Value->Shared->Prop}{s:Shared}
end
section
variable {prog:Program}{w:World}{A:Around}{R:Result->Shared->Prop}{I:Addr}{fp wr:LAd}{G:Array GenState->Array GenState->Prop}{n:Nat}{P:Nat->Value->Prop}{St:Nat->Shared->Prop}
end
section
variable {prog:Program}{w:World}{A:Around}{E:Value->Shared->Prop}{s:Shared}
end
section
variable {prog:Program}{w:World}
end
section
variable {prog:Program}{w:World}{A:Around}{E:Value->Shared->Prop}{s:Shared}
end
section
variable {prog:Program}{w:World}{A:Around}{E:Value->Shared->Prop}{s:Shared}
end
section
variable {prog:Program}{w:World}{A:Around}{E:Value->Shared->Prop}{s:Shared}
end
end HS
namespace HS
open PySem PySem.Spec L2 PyProof.Rows
section
variable {X:Cx}{a:Expr}{fa:DE}{pos:Pos}
end
end HS
namespace HS
open PySem PySem.Spec PyProof.Rows L2
section
variable {X:Cx}{a b c:Expr}{fa fb fc:DE}{pos:Pos}
end
end HS
namespace HS
open PySem PySem.Spec L2
noncomputable abbrev Cn:=Int
noncomputable abbrev cnD(i:Cn):D:= .int i
noncomputable abbrev cnV(i:Cn)(t:Tok):Value:= .int i t
structure FnR where
 n:Nat
 dfl:List D
 den:Den
structure Th where
 N:List Str
 sc:List (Str×NameKind)
 Γ:List (Str×FnR)
 cs:List (Str×Cn)
 tr:Stmt->Option DS:=λ_=>none
 te:Expr->Option DE:=λ_=>none
noncomputable def posOf(x:Str):List Str->Option Nat
 | []=>none
 | y::ys=>if x=y then some 0 else(posOf x ys).map (· +1)
def QfW:∀{x:Str}{ys:List Str}{i:Nat},posOf x ys=some i->ys[i]? =some x
 | x,[],i,h=>by cases h
 | x,y::ys,i,h=>by
  unfold posOf at h;split at h
  .rename_i e;cases h;subst e;rfl
  .obtain⟨j,hj,rfl⟩:=Zb.mp h;simpa using QfW hj
noncomputable def look{α:Type}(x:Str):List (Str×α)->Option α
 | []=>none
 | (y,a)::r=>if x=y then some a else look x r
def Qa7{α:Type}:∀{x:Str}{l:List (Str×α)},look x l=l.lookup x
 | x,[]=>rfl
 | x,(y,a)::r=>by
  unfold look;rw[Zu];by_cases h:x=y
  .subst h;simp
  .rw[if_neg h,Qa7];have:(x == y)=false:=by simpa using h
   rw[this]
noncomputable def QvQ:NameKind->Bool
 | .local =>true | .cell=>true | .free=>true | _=>false
noncomputable def QvU:NameKind->Bool
 | .local =>true | .cell=>true | _=>false
noncomputable def QBX:NameKind->Bool
 | .globalImplicit=>true | _=>false
noncomputable def isFree:NameKind->Bool
 | .free=>true | _=>false
noncomputable def odd(x:Str):Bool:=decide (x= "__debug__") || decide (x= "__classdict__") || decide (x= "__name__")
noncomputable def Th.slot(J:Th)(x:Str):Option Nat:=if((look x J.sc).map QvQ).getD false && !odd x then posOf x J.N else none
noncomputable def Th.Qb1(J:Th)(x:Str):Option Nat:=if((look x J.sc).map QvU).getD false && !odd x then posOf x J.N else none
noncomputable def Th.gl(J:Th)(x:Str):Bool:=((look x J.sc).map QBX).getD false && !odd x
def QwH(X:Cx)(x:Str)(r:FnR):Prop:=∃k f fd ps,Qau X.prog X.w X.K X.mg X.base CX0 k f fd ps (spV X.K r.n r.den)/\Qao k X.A/\X.mg x=some (.ref f)/\PySem.W.keepIn X.K (.ref f)=true∧
 ∀m,m<=r.dfl.length->∃ds dvs,Binds X.K fd ps ds/\QB dvs ds/\∀H,Rps X.K H (r.dfl.drop (r.dfl.length-m)) dvs []
noncomputable def QoI:List Str:=["range","enumerate","zip","len","list","min","max","sum","abs","isinstance","int","bool","tuple","str","divmod","sorted","any","all","set"]
structure CtxB (X:Cx) (J:Th):Prop where
 N:X.N=J.N
 nd:J.N.Nodup
 lc:∀x,look x J.sc=some .local ->X.env.scope.names.lookup x=some .local
 ce:∀x,look x J.sc=some .cell->X.env.scope.names.lookup x=some .cell/\X.fn x=true
 fe:∀x,look x J.sc=some .free->X.env.scope.names.lookup x=some .cell∨X.env.scope.names.lookup x=some .free
 gl:∀x,look x J.sc=some .globalImplicit->X.env.scope.names.lookup x=some .globalImplicit
 units:X.A.units+64<cLine
 mg:∀x∈QoI,X.mg x=none
 cs:∀x i,look x J.cs=some i->∃t,X.mg x=some (cnV i t)
structure QJ (X:Cx) (J:Th):Prop extends CtxB X J where
 calm:X.calm=true
 pass:PassesOwn (model X.prog X.w) X.A X.env X.xe
 fns:∀x r,look x J.Γ=some r->QwH X x r
 tr:∀st f,J.tr st=some f->S1 X st f
 te:∀e f,J.te e=some f->SE X e f
section
def Qqt(h:odd x=false):(x == ("__debug__" :Str))=false/\(x == ("__classdict__" :Str))=false/\x≠ "__name__" :=by
 unfold odd at h;simp only[Bool.or_eq_false_iff,decide_eq_false_iff_not]at h;exact⟨by simpa using h.1.1,by simpa using h.1.2,h.2⟩
def QdM(ok:CtxB X J)(h:J.slot x=some i):PE X (.Name x pos) (Qhk i):=by
 unfold Th.slot at h;split at h
 .rename_i hc;simp only[Zi,ZW]at hc;obtain⟨h1,h2,_⟩:=Qqt hc.2;refine Qz5 (by rw[ok.N];exact QfW h) ?_ h1 h2;cases q:look x J.sc with
  | none=>rw[q]at hc;cases hc.1
  | some k=>
   rw[q]at hc;cases k with
   | «local» =>exact .inl (ok.lc x q)
   | cell=>exact .inr (.inl (ok.ce x q).1)
   | free=>exact .inr (ok.fe x q)
   | _=>cases hc.1
 .cases h
def Qce(ok:CtxB X J)(h:J.Qb1 x=some i):X.N[i]? =some x/\Loc X.env.scope x/\(X.fn x=true∨X.env.scope.names.lookup x=some .local):=by
 unfold Th.Qb1 at h;split at h
 .rename_i hc;simp only[Zi,ZW]at hc;refine⟨by rw[ok.N];exact QfW h,?_⟩;cases q:look x J.sc with
  | none=>rw[q]at hc;cases hc.1
  | some k=>
   rw[q]at hc;cases k with
   | «local» =>exact⟨.inl (ok.lc x q),.inr (ok.lc x q)⟩
   | cell=>exact⟨.inr (ok.ce x q).1,.inl (ok.ce x q).2⟩
   | _=>cases hc.1
 .cases h
def Qb7(ok:CtxB X J)(h:J.gl x=true):Gl X x/\(x == ("__debug__" :Str))=false/\x≠ "__name__" :=by
 unfold Th.gl at h;simp only[Zi,ZW]at h;obtain⟨h1,h2,h3⟩:=Qqt h.2;refine⟨?_,h1,h3⟩;cases q:look x J.sc with
 | none=>rw[q]at h;cases h.1
 | some k=>
  rw[q]at h;cases k with
  | globalImplicit=>exact ok.gl x q
  | _=>cases h.1
end
noncomputable def isTup:Expr->Bool
 | .Tuple .. =>true
 | _=>false
noncomputable def Qal:Expr->Option Str
 | .Name x _=>some x
 | _=>none
noncomputable def Qj8(J:Th):Expr->Option Tg
 | .Name x _=>(J.Qb1 x).map .nm
 | .Tuple es _ _=>((es.mapM Qal).bind λxs=>xs.mapM J.Qb1).map .tp
 | _=>none
noncomputable def Qpe:CmpOp->Option (D->D->Option D)
 | .Eq=>some gEq | .NotEq=>some gNe | .Lt=>some gLt | .LtE=>some gLe | .Gt=>some gGt | .GtE=>some gGe
 | .Is=>none | .IsNot=>none
 | .In=>some (gIn false) | .NotIn=>some (gIn true)
noncomputable def Qud(x:Str):Option String:=
 if x= "int" then some "int" else if x= "bool" then some "bool" else if x= "list" then some "list" else if x= "tuple" then some "tuple" else if x= "str" then some "str" else none
noncomputable def inner(J:Th)(scope:Scope):Th:={N:=(scope.names.filter λy=>QvQ y.2).map (·.1),sc:=scope.names,Γ:=J.Γ,cs:=J.cs}
noncomputable def Qjl(J:Th)(scope:Scope):List (Option Nat):=(inner J scope).N.map λx=>if((look x scope.names).map isFree).getD false then posOf x J.N else none
noncomputable def Qlf(J:Th)(scope:Scope)(t:Tg):Bool:=(scope.kind == .function) && decide (inner J scope).N.Nodup &&
 (scope.names.all λy=>match y.2 with
  | .cell=>decide (look y.1 scope.names=some .cell)
  | .local =>decide (look y.1 scope.names=some .local)
  | .free=>match look y.1 J.sc with
   | some .cell=>true
   | some .free=>true
   | _=>false
  | _=>true) &&
 t.slots.all λj=>match (Qjl J scope)[j]? with
  | some (some _)=>false
  | _=>true
noncomputable def QAp:List Expr->Bool
 | []=>true | [_]=>true | _=>false
noncomputable def bf1(x:Str)(fa:DE):Option DE:=
 if x= "len" then some (dBf QaQ (Qa fa Qc))else
 if x= "list" then some (dList (Qa fa Qc))else
 if x= "min" then some (dBf QeC (Qa fa Qc))else
 if x= "max" then some (dBf QhI (Qa fa Qc))else
 if x= "sum" then some (dBf Qcj (Qa fa Qc))else
 none
noncomputable def bf2(x:Str)(fa fb:DE):Option DE:=
 if x= "min" then some (dBf Qla (Qa fa (Qa fb Qc)))else
 if x= "max" then some (dBf Qks (Qa fa (Qa fb Qc)))else
 none
mutual
noncomputable def Qs(n:Nat)(J:Th)(e:Expr):Option DE:=match n with
 | 0=>none
 | n+1=>match e with
  | .Name x _=>match J.slot x with
   | some i=>some (Qd i)
   | none=>if J.gl x then(look x J.cs).map λi=>dC (cnD i)else none
  | .Constant (.int i) _ _=>some (dC (.int i))
  | .Constant (.bool b) _ _=>some (dC (.bl b))
  | .Constant .none _ _=>some (dC .non)
  | .Constant (.str x) _ _=>some (dC (.str x))
  | .BinOp a op b _=>(Qs n J a).bind λfa=>(Qs n J b).bind λfb=>match op with
   | .Add=>some (Qx fa fb)
   | .Mult=>some (Qac fa fb)
   | .Sub=>some (dOp QaW fa fb)
   | .FloorDiv=>some (dOp QbU fa fb)
   | .Mod=>some (dOp QN fa fb)
   | .RShift=>some (dOp Qiq fa fb)
   | _=>none
  | .UnaryOp .USub a _=>(Qs n J a).map QcW
  | .UnaryOp .Not a _=>(Qs n J a).map Qvd
  | .BoolOp .And [a] _=>Qs n J a
  | .BoolOp .And (a::b::r) p=>(Qs n J a).bind λfa=>(Qs n J (.BoolOp .And (b::r) p)).map λfb=>QcZ fa fb
  | .BoolOp .Or [a] _=>Qs n J a
  | .BoolOp .Or (a::b::r) p=>(Qs n J a).bind λfa=>(Qs n J (.BoolOp .Or (b::r) p)).map λfb=>dOr fa fb
  | .Compare a [op] [b] _=>(Qs n J a).bind λfa=>(Qs n J b).bind λfb=>(Qpe op).map λg=>dOp g fa fb
  | .IfExp c a b _=>(Qa1 n J c).bind λg=>(Qs n J a).bind λfa=>(Qs n J b).map λfb=>dIf g fa fb
  | .Tuple es _ _=>(Qbx n J es).map Qbs
  | .List es _=>(Qbx n J es).map QH
  | .Subscript a (.Slice lo hi none _) _=>(Qs n J a).bind λfa=>(Qln n J lo).bind λfl=>(Qln n J hi).map λfh=>QcR fa fl fh
  | .Subscript a (.Slice none none (some k) _) _=>(Qs n J a).bind λfa=>(Qs n J k).map λfk=>QoE fa fk
  | .Subscript a b _=>(Qs n J a).bind λfa=>(Qs n J b).map λfb=>Qz fa fb
  | .Attribute o m p=>J.te (.Attribute o m p)
  | .Call (.Name x p) args [] q=>if J.gl x then(match look x J.Γ with
    | some r=>if r.n<=args.length+r.dfl.length/\args.length<=r.n then(Qbx n J args).map λfs=>Qj r.n r.den (r.dfl.drop (r.dfl.length-(r.n-args.length))) fs else none
    | none=>match J.te (.Call (.Name x p) args [] q)with
     | some f=>some f
     | none=>Qnm n J x args)else none
  | .Call (.Attribute (.Name x p) m apos) [] [] cpos=>if m= "bit_length" /\(apos.endLine == cpos.line)=true then(Qs n J (.Name x p)).map Qi2 else none
  | .ListComp elt [⟨tg,iter,ifs,0⟩] scope _=>(Qj8 (inner J scope) tg).bind λt=>if Qlf J scope t && QAp ifs then
    (Qhr n J tg iter).bind λfi=>(Qgx n (inner J scope) ifs).bind λft=>(Qs n (inner J scope) elt).map λfe=>QR fi t (Qjl J scope) ft fe else none
  | _=>none
noncomputable def Qnm(n:Nat)(J:Th)(x:Str)(args:List Expr):Option DE:=match n with
  | 0=>none
  | n+1=>match args with
    | [a]=>
         (Qs n J a).bind λfa=>bf1 x fa
    | [a,b]=>if x= "isinstance" then(Qs n J a).bind λfa=>match b with
        | .Name y _=>if J.gl y then(Qud y).map λT=>Qev T fa else none
        | _=>none
      else(Qs n J a).bind λfa=>(Qs n J b).bind λfb=>bf2 x fa fb
    | _=>none
noncomputable def Qa1(n:Nat)(J:Th)(e:Expr):Option DT:=match n with
 | 0=>none
 | n+1=>match e with
  | .UnaryOp .Not a _=>(Qa1 n J a).map QbO
  | .BoolOp .And [a] _=>Qa1 n J a
  | .BoolOp .And (a::b::r) p=>(Qa1 n J a).bind λfa=>(Qa1 n J (.BoolOp .And (b::r) p)).map λfb=>Qer fa fb
  | .BoolOp .Or [a] _=>Qa1 n J a
  | .BoolOp .Or (a::b::r) p=>(Qa1 n J a).bind λfa=>(Qa1 n J (.BoolOp .Or (b::r) p)).map λfb=>bOr fa fb
  | .Compare a [op] [b] _=>(Qs n J a).bind λfa=>(Qs n J b).bind λfb=>(Qpe op).map λg=>Qv (dOp g fa fb)
  | .BoolOp _ _ _=>none
  | .IfExp _ _ _ _=>none
  | .Compare _ _ _ _=>none
  | e=>(Qs n J e).map Qv
noncomputable def Qgx(n:Nat)(J:Th)(es:List Expr):Option DT:=match n with
 | 0=>none
 | n+1=>match es with
  | []=>some Qag
  | [c]=>Qa1 n J c
  | _=>none
noncomputable def Qbx(n:Nat)(J:Th)(es:List Expr):Option DA:=match n with
 | 0=>none
 | n+1=>match es with
  | []=>some Qc
  | e::es=>(Qs n J e).bind λfa=>(Qbx n J es).map λfs=>Qa fa fs
noncomputable def Qln(n:Nat)(J:Th)(e:Option Expr):Option DO:=match n with
 | 0=>none
 | n+1=>match e with
  | none=>some QcB
  | some e=>(Qs n J e).map Qbu
noncomputable def Qhr(n:Nat)(J:Th)(tg e:Expr):Option DI:=match n with
 | 0=>none
 | n+1=>match e with
  | .Call (.Name x _) args [] _=>if J.gl x && (look x J.Γ).isNone then(match args with
    | [a]=>if x= "range" then(Qs n J a).map Qbe else
     if x= "enumerate" then(if isTup tg then(Qs n J a).map Qc0 else none)else
     (Qs n J e).map Qan
    | [a,b,c]=>
     if x= "range" then(Qs n J a).bind λfa=>(Qs n J b).bind λfb=>(Qs n J c).map λfc=>Qeq fa fb fc else
     (Qs n J e).map Qan
    | [a,b]=>
     if x= "zip" then(if isTup tg then(Qs n J a).bind λfa=>(Qs n J b).map λfb=>QaD fa fb else none)else
     (Qs n J e).map Qan
    | _=>(Qs n J e).map Qan)else(Qs n J e).map Qan
  | e=>(Qs n J e).map Qan
end
def Qb3{α β γ:Type}{x:Option α}{y:α->Option β}{k:α->β->γ}{r:γ}(e:(x.bind λa=>(y a).map λb=>k a b)=some r):∃a b,x=some a/\y a=some b/\k a b=r:=by
 refine Qf e λa h1 e=>?_;obtain⟨b,h2,e⟩:=Zb.mp e;exact⟨a,b,h1,h2,e⟩
def bindR{α β γ:Type}{x:Option α}{y:α->Option β}{k:α->β->γ}{r:γ}{M:γ->Prop}(e:(x.bind λa=>(y a).map λb=>k a b)=some r)(g:∀a b,x=some a->y a=some b->M (k a b)):M r:=by
 obtain⟨a,b,h1,h2,rfl⟩:=Qb3 e;exact g a b h1 h2
def Qbf(h:Qs n J e=some f)(es:List Expr)(env:Env):starEach (e::es) env=(false,eval e env)::starEach es env:=by
 cases n with
 | zero=>exact nn h
 | succ n=>cases e<;>first | rfl | (exact nn h)
def QlJ:∀{n:Nat}{J:Th}{es:List Expr}{f:DA},Qbx n J es=some f->∀(pos:Pos) (env:Env),(backTo pos (starEach es env)).any (·.1)=false
 | 0,_,_,_,h,_,_=>by simp[Qbx]at h
 | n+1,_,[],_,h,_,_=>rfl
 | n+1,_,e::es,_,h,pos,env=>by
  simp only[Qbx]at h;obtain⟨fa,fs,h1,h2,_⟩:=Qb3 h;rw[Qbf h1];have:=QlJ h2 pos env;simpa[backTo]using this
def Qqh(h:Qs n J b=some f):QiV b:=by
 cases n with
 | zero=>exact nn h
 | succ n=>cases b<;>first | (intro o i;rfl) | (exact nn h)
def QyT(h:Qs n J e=some f)(env:Env):∀x,foldedSetIterable e env x=pure x:=by
 cases n with
 | zero=>exact nn h
 | succ n=>cases e<;>first | (intro x;rfl) | (exact nn h)
def Qoy(h:Qs n J e=some f)(op:CmpOp):behindInMarks op e=false:=by
 cases n with
 | zero=>exact nn h
 | succ n=>cases e<;>first | rfl | (exact nn h)
def Qeh{env:Env}:∀{names:List (Str×NameKind)}{x:Str},names.lookup x=some .cell→
  (names.map λ(n,k)=>if(k == NameKind.free && env.scope.kind == .function && env.kindOf n == some .cell)then(n,NameKind.cell)else(n,k)).lookup x=some .cell
 | [],_,h=>by simp at h
 | (n,k)::r,x,h=>by
  have ih:= @Qeh env r x;rw[ZA];cases hx:x == n with
  | true=>
   simp only[Zu,hx]at h;cases h;dsimp only;split<;>simp[Zu,hx]
  | false=>
   simp only[Zu,hx]at h;dsimp only;split<;>(simp only[Zu,hx];exact ih h)
def QoQ{X:Cx}{J:Th}{scope:Scope}{t:Tg}(ok:QJ X J)(h:Qlf J scope t=true):Qe2 X (inner J scope).N scope/\Qnl X (inner J scope).N scope (Qjl J scope) t.slots/\∀cl C fp s3 H3,QJ (cxc X (inner J scope).N scope cl C fp s3 H3) (inner J scope):=by
 unfold Qlf at h;simp only[Zi,decide_eq_true_eq]at h;obtain⟨⟨⟨h1,h2⟩,h3⟩,h4⟩:=h;have hk:scope.kind= .function:=by simpa using h1
 have each:∀y∈scope.names,(y.2= .cell->scope.names.lookup y.1=some .cell)/\(y.2= .local ->scope.names.lookup y.1=some .local)/\(y.2= .free->X.env.kindOf y.1=some .cell∨X.env.kindOf y.1=some .free):=λy hy=>by
  have:=Zam.mp h3 y hy;obtain⟨y,k⟩:=y;cases k with
  | cell=>exact⟨λ_=>(by rw[← Qa7];simpa using this),λz=>(by cases z),λz=>(by cases z)⟩
  | «local» =>exact⟨λz=>(by cases z),λ_=>by rw[← Qa7];simpa using this,λz=>by cases z⟩
  | free=>
   refine⟨λz=>(by cases z),λz=>(by cases z),λ_=>?_⟩;dsimp only at this;split at this
   .rename_i q;exact .inl (ok.ce _ q).1
   .rename_i q;exact ok.fe _ q
   .cases this
  | _=>exact⟨λz=>(by cases z),λz=>(by cases z),λz=>(by cases z)⟩
 have S:Qe2 X (inner J scope).N scope:=⟨hk,λy hy=>(each y hy).1,λy hy=>(each y hy).2.1,λy hy=>(each y hy).2.2⟩;refine⟨S,⟨by unfold Qjl;simp,λj i e=>?_,λj i e hj=>?_⟩,λcl C fp s3 H3=>⟨⟨rfl,h2,λx e=>?_,λx e=>?_,λx e=>?_,λx e=>?_,ok.units,ok.mg,ok.cs⟩,ok.calm,PassesOwn.never,ok.fns,λ_ _ e=>(nomatch e),λ_ _ e=>(nomatch e)⟩⟩
 .unfold Qjl at e;rw[Zy]at e;cases q:(inner J scope).N[j]? with
  | none=>rw[q]at e;cases e
  | some x=>
   rw[q]at e;simp only[ZN,Option.some.injEq]at e;split at e
   .rename_i hf;cases hl:look x scope.names with
    | none=>rw[hl]at hf;cases hf
    | some k=>
     rw[hl]at hf;cases k with
     | free=>
      rw[Qa7]at hl;exact⟨x,rfl,hl,by rw[ok.N];exact QfW e,(each (x,.free) (Zab hl)).2.2 rfl⟩
     | _=>cases hf
   .cases e
 .have:=Zam.mp h4 j hj;rw[e]at this;cases this
 .have e':scope.names.lookup x=some .local :=by rw[← Qa7];exact e
  exact lookup_relabel_local e'
 .have e':scope.names.lookup x=some .cell:=by rw[← Qa7];exact e
  exact⟨Qeh e',decide_eq_true e'⟩
 .have e':scope.names.lookup x=some .free:=by rw[← Qa7];exact e
  exact QcS e'
 .have e':scope.names.lookup x=some .globalImplicit:=by rw[← Qa7];exact e
  show(relabel scope X.env).names.lookup x=some .globalImplicit;unfold relabel
  have gen:∀{names:List (Str×NameKind)},names.lookup x=some .globalImplicit→
    (names.map λ(n,k)=>if(k == NameKind.free && X.env.scope.kind == .function && X.env.kindOf n == some .cell)then(n,NameKind.cell)else(n,k)).lookup x=some .globalImplicit:=by
   intro names
   induction names with
   | nil=>intro z;simp at z
   | cons y r ih=>
    intro z;obtain⟨n,k⟩:=y;rw[ZA];cases hx:x == n with
    | true=>
     simp only[Zu,hx]at z;cases z;simp[Zu,hx]
    | false=>
     simp only[Zu,hx]at z;dsimp only;split<;>(simp only[Zu,hx];exact ih z)
  exact gen e'
def Qnr(ok:QJ X J)(h:Qj8 J tg=some t):SG X tg t:=by
 have hN:X.N.Nodup:=by rw[ok.N];exact ok.nd
 cases tg with
 | Name x pos=>
  change Option.map _ _=_ at h;refine mapR h λi hi=>?_;obtain⟨h1,h2,h3⟩:=Qce ok.toCtxB hi;exact QxH (Qqm hN h1 h2 h3)
 | Tuple es k pos=>
  change Option.map _ _=_ at h;refine mapR h λis hi=>?_;refine Qf hi λxs h1 h2=>?_;have key:∀(es:List Expr) (xs:List Str) (is:List Nat),es.mapM Qal=some xs->xs.mapM J.Qb1=some is->PGs X es (Qli is)/\(assignEach es X.env).length=is.length/\(assignEach es X.env).findIdx? (·.1)=none:=by
   intro es
   induction es with
   | nil=>
    intro xs is h1 h2;cases h1;cases h2;exact⟨Qxl,rfl,rfl⟩
   | cons e es ih=>
    intro xs is h1 h2;rw[List.mapM_cons]at h1;refine Qf h1 λx hx h1=>?_;refine Qf h1 λys hy h1=>?_;cases h1;rw[List.mapM_cons]at h2;refine Qf h2 λi hi h2=>?_;refine Qf h2 λjs hj h2=>?_;cases h2;obtain⟨a1,a2,a3⟩:=ih ys js hy hj;cases e with
    | Name y p=>
     cases hx;obtain⟨g1,g2,g3⟩:=Qce ok.toCtxB hi;refine⟨QuL (Qqm hN g1 g2 g3) a1 rfl,?_,?_⟩
     .show(assignEach es X.env).length+1=_;rw[a2];rfl
     .show List.findIdx? (·.1) ((false,assign (.Name x p) X.env)::assignEach es X.env)=none;rw[List.findIdx?_cons];simp only[a3];rfl
    | _=>cases hx
  obtain⟨a1,a2,a3⟩:=key es xs is h1 h2;exact QzE ok.calm a1 a2 a3
 | _=>exact nn h
def Qrl{f:Int->Int->Bool}:∀a b d,gI (λi j=>some (.bl (f i j))) a b=some d->∃k,d= .bl k:=λa b d h=>by
 obtain⟨i,j,_,_,e⟩:=QsY h;cases e;exact⟨_,rfl⟩
def Qor(ok:QJ X J)(h:Qpe op=some g):∃r,OpR X (compareOp op) r/\Qcw X.K g r/\∀a b d,g a b=some d->∃k,d= .bl k:=by
 cases op<;>cases h
 .exact⟨_,QzA ok.units,QAr,λa b d h=>by unfold gEq at h;split at h<;>cases h;exact⟨_,rfl⟩⟩
 .exact⟨_,Qzr ok.units,QAS,λa b d h=>by unfold gNe at h;split at h<;>cases h;exact⟨_,rfl⟩⟩
 .exact⟨_,QAF,QA0,Qrl⟩
 .exact⟨_,QBe,QA7,Qrl⟩
 .exact⟨_,QAR,QA9,Qrl⟩
 .exact⟨_,QA1,QAO,Qrl⟩
 .exact⟨_,Qzw ok.units,QvZ,Qr7⟩
 .exact⟨_,Qtu ok.units,QvZ,Qr7⟩
structure Qkz (n:Nat):Prop where
 E:∀X J e f,QJ X J->Qs n J e=some f->SE X e f
 B:∀X J x args f p pos,QJ X J->J.gl x=true->Qnm n J x args=some f->SE X (.Call (.Name x p) args [] pos) f
 T:∀X J e f,QJ X J->Qa1 n J e=some f->ST X e f
 Ts:∀X J e f,QJ X J->Qgx n J e=some f->Qoh X e f
 A:∀X J e f,QJ X J->Qbx n J e=some f->SA X e f
 O:∀X J e f,QJ X J->Qln n J e=some f->SO X e f
 I:∀X J tg e f,QJ X J->Qhr n J tg e=some f->SI X tg e f/\∀x,foldedSetIterable e X.env x=pure x
def callArgs{X:Cx}{n:Nat}{J:Th}{es:List Expr}{fs:DA}(h:Qbx n J es=some fs){e:Expr}{es':List Expr}(he:es=e::es')(pos:Pos):starEach (e::es') X.env=(false,eval e X.env)::starEach es' X.env/\(backTo pos (starEach es' X.env)).any (·.1)=false:=by
 subst he;cases n with
 | zero=>simp[Qbx]at h
 | succ n=>
  simp only[Qbx]at h;obtain⟨fa,fs',h1,h2,_⟩:=Qb3 h;exact⟨Qbf h1 es' X.env,QlJ h2 pos X.env⟩
def QAP(ih:Qkz n):∀X J e f,QJ X J->Qs (n+1) J e=some f->SE X e f:=by
  intro X J e f ok h;cases e with
  | Name x pos=>
    (conv at h=>lhs;whnf)
    cases q:J.slot x with
    | some i=>rw[q]at h;cases h;exact Qn6 (QdM ok.toCtxB q)
    | none=>
      rw[q]at h;dsimp only at h;split at h
      · rename_i hg
        refine mapR h λi hi=>?_;obtain⟨g1,g2,g3⟩:=Qb7 ok.toCtxB hg;obtain⟨t,hm⟩:=ok.cs x i hi;exact QlO (v:= .int i) (Qx7 g1 hm ⟨t,rfl⟩ g2) (λ_ _=> .int_mk) rfl
      · cases h
  | Constant c k pos=>
    cases c with
    | int i=>(conv at h=>lhs;whnf);cases h;exact QlO Qyx (λ_ _=> .int_mk) rfl
    | bool b=>(conv at h=>lhs;whnf);cases h;exact QlO QvM (λ_ _=> .Qdg) rfl
    | none=>(conv at h=>lhs;whnf);cases h;exact QlO QyN (λ_ _=> .QfJ) rfl
    | str x=>(conv at h=>lhs;whnf);cases h;exact QlO QzM (λ_ _=> .str_mk) rfl
    | _=>exact nn h
  | BinOp a op b pos=>
    (conv at h=>lhs;whnf)
    refine Qf h λfa h1 h=>?_;refine Qf h λfb h2 h=>?_;have ha:=ih.E X J a fa ok h1;have hb:=ih.E X J b fb ok h2;cases op with
    | Add=>cases h;exact QsB ha hb
    | Mult=>cases h;exact Qze ha hb
    | Sub=>cases h;exact Qm7 QyQ Qsd ha hb
    | FloorDiv=>cases h;exact Qm7 QxK QyB ha hb
    | Mod=>cases h;exact Qm7 Qxf Qzq ha hb
    | RShift=>cases h;exact Qm7 Qyu QzI ha hb
    | _=>cases h
  | UnaryOp op a pos=>
    cases op with
    | USub=>
      (conv at h=>lhs;whnf)
      refine mapR h λfa h1=>?_;exact Qyi (ih.E X J a fa ok h1)
    | Not=>
      (conv at h=>lhs;whnf)
      refine mapR h λfa h1=>?_;exact Qsz (ih.E X J a fa ok h1)
    | _=>exact nn h
  | BoolOp op es pos=>
    cases op with
    | And=>
      match es,h with
      | [],h=>exact nn h
      | [a],h=>(conv at h=>lhs;whnf);exact Qnt (ih.E X J a f ok h)
      | a::b::r,h=>
        (conv at h=>lhs;whnf)
        refine bindR h λfa fb h1 h2=>?_;exact Qsb (ih.E X J a fa ok h1) (ih.E X J _ fb ok h2)
    | Or=>
      match es,h with
      | [],h=>exact nn h
      | [a],h=>(conv at h=>lhs;whnf);exact Qnt (ih.E X J a f ok h)
      | a::b::r,h=>
        (conv at h=>lhs;whnf)
        refine bindR h λfa fb h1 h2=>?_;exact QvW (ih.E X J a fa ok h1) (ih.E X J _ fb ok h2)
  | Compare a ops bs pos=>
    match ops,bs,h with
    | [op],[b],h=>
      (conv at h=>lhs;whnf)
      refine Qf h λfa h1 h=>?_;refine bindR h λfb g h2 h3=>?_;obtain⟨r,o1,o2,_⟩:=Qor ok h3;exact Qyz o1 o2 (ih.E X J a fa ok h1) (ih.E X J b fb ok h2) (Qoy h2 op)
    | [],_,h=>exact nn h
    | [_],[],h=>exact nn h
    | [_],_::_::_,h=>exact nn h
    | _::_::_,_,h=>exact nn h
  | IfExp c a b pos=>
    (conv at h=>lhs;whnf)
    refine Qf h λg h1 h=>?_;refine bindR h λfa fb h2 h3=>?_;exact QAq (ih.T X J c g ok h1) (ih.E X J a fa ok h2) (ih.E X J b fb ok h3)
  | Tuple es k pos=>
    (conv at h=>lhs;whnf)
    refine mapR h λfs h1=>?_;exact QzP (ih.A X J es fs ok h1)
  | List es pos=>
    (conv at h=>lhs;whnf)
    refine mapR h λfs h1=>?_;exact Qtk (ih.A X J es fs ok h1)
  | Subscript a b pos=>
    by_cases hb:∃lo hi p2,b= .Slice lo hi none p2
    · obtain⟨lo,hi,p2,rfl⟩:=hb
      (conv at h=>lhs;whnf)
      refine Qf h λfa h1 h=>?_;refine bindR h λfl fh h2 h3=>?_;exact QyI (ih.E X J a fa ok h1) (ih.O X J lo fl ok h2) (ih.O X J hi fh ok h3)
    · by_cases hk:∃k p2,b= .Slice none none (some k) p2
      · obtain⟨k,p2,rfl⟩:=hk
        (conv at h=>lhs;whnf)
        refine bindR h λfa fk h1 h2=>?_;exact Qyc (ih.E X J a fa ok h1) (ih.E X J k fk ok h2)
      · have h':((Qs n J a).bind λfa=>(Qs n J b).map λfb=>Qz fa fb)=some f:=by
          cases b<;>first
            | (exact h)
            | (rename_i lo hi st p2;cases lo<;>cases hi<;>cases st<;>first | (exact absurd ⟨_,_,_,rfl⟩ hb) | (exact absurd ⟨_,_,rfl⟩ hk) | (exact h))
        refine bindR h' λfa fb h1 h2=>?_;exact QyM (ih.E X J a fa ok h1) (ih.E X J b fb ok h2) (Qqh h2)
  | Call fn args kws pos=>
    cases fn with
    | Name x p=>
     cases kws with
     | cons k ks=>exact nn h
     | nil=>
      have h:(if J.gl x then(match look x J.Γ with | some r=>if r.n<=args.length+r.dfl.length/\args.length<=r.n then(Qbx n J args).map λfs=>Qj r.n r.den (r.dfl.drop (r.dfl.length-(r.n-args.length))) fs else none | none=>match J.te (.Call (.Name x p) args [] pos)with | some f=>some f | none=>Qnm n J x args)else none)=some f:=h;split at h
      · rename_i hg
        obtain⟨g1,g2,g3⟩:=Qb7 ok.toCtxB hg;split at h
        · rename_i r hr
          split at h
          · rename_i hn
            refine mapR h λfs h1=>?_;obtain⟨k,fa,fd,ps,F1,F2,F3,F4,F5⟩:=ok.fns x r hr;obtain⟨ds,dvs,b1,b2,b3⟩:=F5 (r.n-args.length) ⋯;cases args with
            | nil=>
              cases n with
              | zero=>simp[Qbx]at h1
              | succ n=>
                simp only[Qbx]at h1;cases h1;exact Qur F1 F2 g1 F3 F4 b1 b2 b3 g2
            | cons e es=>
              obtain⟨s1,s2⟩:=callArgs (X:=X) h1 rfl pos;exact Qxk F1 F2 g1 F3 F4 b1 b2 b3 (ih.A X J _ fs ok h1) g2 s1 s2
          · cases h
        · split at h
          · rename_i g hg2
            cases h;exact ok.te _ _ hg2
          · exact ih.B X J x args f p pos ok hg h
      · cases h
    | Attribute o m apos=>
      cases o with
      | Name x p=>
        cases args with
        | nil=>
          cases kws with
          | nil=>
            have h:(if m= "bit_length" /\(apos.endLine == pos.line)=true then(Qs n J (.Name x p)).map Qi2 else none)=some f:=h;split at h
            · rename_i hc
              refine mapR h λfa h1=>?_;obtain⟨rfl,hl⟩:=hc;exact QwP (ih.E X J _ fa ok h1) rfl hl
            · cases h
          | cons _ _=>exact nn h
        | cons _ _=>exact nn h
      | _=>exact nn h
    | _=>exact nn h
  | Attribute o m p=>exact ok.te _ _ h
  | ListComp elt gens scope pos=>
    match gens,h with
    | [⟨tg,iter,ifs,k⟩],h=>
      by_cases hk:k=0
      · subst hk
        (conv at h=>lhs;whnf)
        refine Qf h λt ht h=>?_;split at h
        · rename_i hc
          simp only[Zi]at hc;refine Qf h λfi h1 h=>?_;refine bindR h λft fe h2 h3=>?_;obtain⟨S,cap,inn⟩:=QoQ ok hc.1;obtain⟨i1,i2⟩:=ih.I X J tg iter fi ok h1;exact Qx6 ok.calm S i1 cap (λcl C fp s3 H3=>⟨Qnr (inn cl C fp s3 H3) ht,ih.Ts _ _ ifs ft (inn cl C fp s3 H3) h2,ih.E _ _ elt fe (inn cl C fp s3 H3) h3⟩) i2
        · cases h
      · exfalso
        cases k with
        | ofNat k=>
          cases k with
          | zero=>exact hk rfl
          | succ k=>exact nn h
        | negSucc k=>exact nn h
    | [],h=>exact nn h
    | ⟨_,_,_,.ofNat 0⟩::_::_,h=>exact nn h
    | ⟨_,_,_,.ofNat (k+1)⟩::_::_,h=>exact nn h
    | ⟨_,_,_,.negSucc k⟩::_::_,h=>exact nn h
  | _=>exact nn h
def Qzh(ok:QJ X J)(g1:Gl X x)(sa:SA X [a] (Qa fa Qc))(st:starEach [a] X.env=(false,eval a X.env)::starEach [] X.env)(h:bf1 x fa=some f):SE X (.Call (.Name x p) [a] [] pos) f:=by
 unfold bf1 at h;by_cases e:x= "len"
 .rw[if_pos e]at h;cases h;subst e;have hm:=ok.mg "len" nofun;exact QiW QsS QyL g1 hm PySem.boot_len sa ∅ ∅ st rfl
 rw[if_neg e]at h;clear e;by_cases e:x= "list"
 .rw[if_pos e]at h;cases h;subst e;have hm:=ok.mg "list" nofun;exact Qx9 ok.calm g1 hm sa st rfl
 rw[if_neg e]at h;clear e;by_cases e:x= "min"
 .rw[if_pos e]at h;cases h;subst e;have hm:=ok.mg "min" nofun;exact QiW (QrL ok.calm) Qx1 g1 hm PyProof.Rows.boot_min sa ∅ ∅ st rfl
 rw[if_neg e]at h;clear e;by_cases e:x= "max"
 .rw[if_pos e]at h;cases h;subst e;have hm:=ok.mg "max" nofun;exact QiW (Qtp ok.calm) Qwh g1 hm PyProof.Rows.boot_max sa ∅ ∅ st rfl
 rw[if_neg e]at h;clear e;by_cases e:x= "sum"
 .rw[if_pos e]at h;cases h;subst e;have hm:=ok.mg "sum" nofun;exact QiW (QrW ok.calm) Qx3 g1 hm PyProof.Rows.boot_sum sa ∅ ∅ st rfl
 rw[if_neg e]at h;clear e;cases h
def QzB(ok:QJ X J)(g1:Gl X x)(sa:SA X [a,b] (Qa fa (Qa fb Qc)))(st:starEach [a,b] X.env=(false,eval a X.env)::starEach [b] X.env)(pl:(backTo pos (starEach [b] X.env)).any (·.1)=false)(h:bf2 x fa fb=some f):SE X (.Call (.Name x p) [a,b] [] pos) f:=by
 unfold bf2 at h;by_cases e:x= "min"
 .rw[if_pos e]at h;cases h;subst e;have hm:=ok.mg "min" nofun;exact QiW (Qs9 ok.calm) QwL g1 hm PyProof.Rows.boot_min sa ∅ ∅ st pl
 rw[if_neg e]at h;clear e;by_cases e:x= "max"
 .rw[if_pos e]at h;cases h;subst e;have hm:=ok.mg "max" nofun;exact QiW (Qte ok.calm) Qws g1 hm PyProof.Rows.boot_max sa ∅ ∅ st pl
 rw[if_neg e]at h;clear e;cases h
def QA8(ih:Qkz n):∀X J x args f p pos,QJ X J->J.gl x=true->Qnm (n+1) J x args=some f->SE X (.Call (.Name x p) args [] pos) f:=by
 intro X J x args f p pos ok hg h;obtain⟨g1,g2,g3⟩:=Qb7 ok.toCtxB hg
 match args,h with
 | [],h=>exact nn h
 | [a],h=>
  change((Qs n J a).bind λfa=>bf1 x fa)=some f at h;refine Qf h λfa h1 h=>?_;have ha:=ih.E X J a fa ok h1;have st:=Qbf h1 [] X.env;exact Qzh ok g1 (QgV ha QkP st) st h
 | [a,b],h=>
  change(if x= "isinstance" then(Qs n J a).bind λfa=>(match b with | .Name y _=>if J.gl y then(Qud y).map λT=>Qev T fa else none | _=>none)else(Qs n J a).bind λfa=>(Qs n J b).bind λfb=>bf2 x fa fb)=some f at h;split at h
  .rename_i e;refine Qf h λfa h1 h=>?_;have ha:=ih.E X J a fa ok h1;split at h
   .rename_i y p2;split at h
    .rename_i hy;refine mapR h λT hT=>?_;obtain⟨y1,y2,y3⟩:=Qb7 ok.toCtxB hy;clear h;subst e;refine Qy9 g1 (ok.mg _ nofun) ha ?_ (Qbf h1 _ X.env);unfold Qud at hT;split at hT
     .rename_i e;cases hT;subst e;exact Qg1 y1 (ok.mg _ nofun) PyProof.Rows.boot_int rfl
     .split at hT
      .rename_i e;cases hT;subst e;exact Qg1 y1 (ok.mg _ nofun) PyProof.Rows.boot_bool rfl
      .split at hT
       .rename_i e;cases hT;subst e;exact Qg1 y1 (ok.mg _ nofun) ZbH rfl
       .split at hT
        .rename_i e;cases hT;subst e;exact Qg1 y1 (ok.mg _ nofun) PyProof.Rows.boot_tuple rfl
        .split at hT
         .rename_i e;cases hT;subst e;exact Qg1 y1 (ok.mg _ nofun) PyProof.Rows.boot_str rfl
         .cases hT
    .cases h
   .cases h
  .refine Qf h λfa h1 h=>?_;refine Qf h λfb h2 h=>?_;have ha:=ih.E X J a fa ok h1;have hb:=ih.E X J b fb ok h2;have sb:SA X [b] (Qa fb Qc):=QgV hb QkP (Qbf h2 [] X.env);have sa:SA X [a,b] (Qa fa (Qa fb Qc)):=QgV ha sb (Qbf h1 [b] X.env);have pl:(backTo pos (starEach [b] X.env)).any (·.1)=false:=by rw[Qbf h2 [] X.env];rfl
   exact QzB ok g1 sa (Qbf h1 [b] X.env) pl h
 | _::_::_::_,h=>exact nn h
def QA3{n:Nat}(ih:Qkz n):∀X J e f,QJ X J->Qa1 (n+1) J e=some f->ST X e f:=by
 intro X J e f ok h;have dflt:(Qs n J e).map Qv=some f->(∀whole,isTrue e X.env whole=(do let v ← whole;standAt e.pos;holding [v] (truthy v)))->ST X e f:=λh he=>by
  refine mapR h λfa h1=>?_;exact Qtt (ih.E X J e fa ok h1) he
 cases e with
 | UnaryOp op a pos=>
  cases op with
  | Not=>
   change(Qa1 n J a).map QbO=some f at h;refine mapR h λfa h1=>?_;exact Qsc (ih.T X J a fa ok h1)
  | _=>exact dflt h λ_=>rfl
 | BoolOp op es pos=>
  cases op with
  | And=>
   match es,h with
   | [],h=>exact nn h
   | [a],h=>exact(Qxe (ih.T X J a f ok h)).st
   | a::b::r,h=>
    change((Qa1 n J a).bind λfa=>(Qa1 n J (.BoolOp .And (b::r) pos)).map λfb=>Qer fa fb)=some f at h;refine bindR h λfa fb h1 h2=>?_;have hb:=ih.T X J _ fb ok h2;exact(Qzb (ih.T X J a fa ok h1) (λH0 A0 wh pins s U H Q I q=>by have:=hb H0 A0 pins s U H Q I q;exact this)).st
  | Or=>
   match es,h with
   | [],h=>exact nn h
   | [a],h=>exact(Qto (ih.T X J a f ok h)).st
   | a::b::r,h=>
    change((Qa1 n J a).bind λfa=>(Qa1 n J (.BoolOp .Or (b::r) pos)).map λfb=>bOr fa fb)=some f at h;refine bindR h λfa fb h1 h2=>?_;have hb:=ih.T X J _ fb ok h2;exact(Qv5 (ih.T X J a fa ok h1) (λH0 A0 wh pins s U H Q I q=>by have:=hb H0 A0 pins s U H Q I q;exact this)).st
 | Compare a ops bs pos=>
  match ops,bs,h with
  | [op],[b],h=>
   change((Qs n J a).bind λfa=>(Qs n J b).bind λfb=>(Qpe op).map λg=>Qv (dOp g fa fb))=some f at h;refine Qf h λfa h1 h=>?_;refine bindR h λfb g h2 h3=>?_;obtain⟨r,o1,o2,o3⟩:=Qor ok h3;exact Qyy o1 o2 o3 (ih.E X J a fa ok h1) (ih.E X J b fb ok h2) (Qoy h2 op)
  | [],_,h=>exact nn h
  | [_],[],h=>exact nn h
  | [_],_::_::_,h=>exact nn h
  | _::_::_,_,h=>exact nn h
 | IfExp c a b pos=>exact nn h
 | _=>exact dflt h λ_=>rfl
def QBg(ih:Qkz n):∀X J tg e f,QJ X J->Qhr (n+1) J tg e=some f->SI X tg e f/\∀x,foldedSetIterable e X.env x=pure x:=by
 intro X J tg e f ok h;have dflt:(Qs n J e).map Qan=some f->SI X tg e f/\∀x,foldedSetIterable e X.env x=pure x:=λh=>by
  obtain⟨fa,h1,rfl⟩:=Zb.mp h;exact⟨QAi (ih.E X J e fa ok h1),QyT h1 X.env⟩
 cases e with
 | Call fn args kws pos=>
  cases fn with
  | Name x p=>
   cases kws with
   | cons k ks=>exact dflt h
   | nil=>
    change @ite _ _ _ _ _=_ at h;split at h
    .rename_i hg;simp only[Zi]at hg;obtain⟨g1,g2,g3⟩:=Qb7 ok.toCtxB hg.1
     match args,h with
     | [],h=>exact dflt h
     | [a],h=>
      dsimp only at h;by_cases er:x= "range"
      .rw[if_pos er]at h;obtain⟨fa,h1,rfl⟩:=Zb.mp h;subst er;exact⟨Qsg g1 (ok.mg _ nofun) (ih.E X J a fa ok h1) (Qbf h1 [] X.env),λ_=>rfl⟩
      rw[if_neg er]at h;by_cases ez:x= "enumerate"
      .rw[if_pos ez]at h;split at h
       .rename_i ht;obtain⟨fa,h1,rfl⟩:=Zb.mp h;subst ez;cases tg with
        | Tuple es k tp=>exact⟨Qx5 g1 (ok.mg _ nofun) (ih.E X J a fa ok h1) (Qbf h1 [] X.env),λ_=>rfl⟩
        | _=>exact nomatch (show false=true from ht)
       .cases h
      rw[if_neg ez]at h;exact dflt h
     | [a,b],h=>
      dsimp only at h;by_cases ez:x= "zip"
      .rw[if_pos ez]at h;split at h
       .rename_i ht;obtain⟨fa,fb,h1,h2,rfl⟩:=Qb3 h;subst ez;cases tg with
        | Tuple es k tp=>exact⟨QzU g1 (ok.mg _ nofun) (ih.E X J a fa ok h1) (ih.E X J b fb ok h2) (by rw[Qbf h1 [b] X.env,Qbf h2 [] X.env];rfl) (Qbf h2 [] X.env),λ_=>rfl⟩
        | _=>exact nomatch (show false=true from ht)
       .cases h
      rw[if_neg ez]at h;exact dflt h
     | [a,b,c],h=>
      dsimp only at h;by_cases er:x= "range"
      .rw[if_pos er]at h;refine Qf h λfa h1 h=>?_;obtain⟨fb,fc,h2,h3,rfl⟩:=Qb3 h;subst er;exact⟨QrB g1 (ok.mg _ nofun) (ih.E X J a fa ok h1) (ih.E X J b fb ok h2) (ih.E X J c fc ok h3) (Qbf h1 [b,c] X.env) (Qbf h2 [c] X.env) (Qbf h3 [] X.env),λ_=>rfl⟩
      rw[if_neg er]at h;exact dflt h
     | _::_::_::_::_,h=>exact dflt h
    .exact dflt h
  | _=>exact dflt h
 | _=>exact dflt h
def Qav:∀n,Qkz n
 | 0=>⟨λ_ _ _ _ _ h=>(nn h),λ_ _ _ _ _ _ _ _ _ h=>(nn h),λ_ _ _ _ _ h=>(nn h),λ_ _ _ _ _ h=>(nn h),λ_ _ _ _ _ h=>(nn h),
  λ_ _ _ _ _ h=>(nn h),λ_ _ _ _ _ _ h=>(nn h)⟩
 | n+1=>by
  have ih:=Qav n
  refine⟨QAP ih,QA8 ih,QA3 ih,λX J e f ok h=>?_,λX J e f ok h=>?_,
   λX J e f ok h=>?_,QBg ih⟩
  .match e,h with
   | [],h=>simp only[Qgx]at h;cases h;exact QtF
   | [c],h=>simp only[Qgx]at h;exact Qu5 (ih.T X J c f ok h)
   | _::_::_,h=>simp only[Qgx]at h;cases h
  .match e,h with
   | [],h=>simp only[Qbx]at h;cases h;exact QkP
   | e::es,h=>
    simp only[Qbx]at h;refine bindR h λfa fs h1 h2=>?_;exact QgV (ih.E X J e fa ok h1) (ih.A X J es fs ok h2) (Qbf h1 es X.env)
  .match e,h with
   | none,h=>simp only[Qln]at h;cases h;exact QxC
   | some e,h=>
    simp only[Qln]at h;refine mapR h λfa h1=>?_;exact Qwy (ih.E X J e fa ok h1)
section
noncomputable def QD:DS:=λ_=>none
def QtY:S1 X st QD:=λH0 A0=>QtH.mono λE U H ⟨ρ,hs,F,o,rel,e,q⟩=>by cases e
def Qg8:∀{n:Nat}{ρ:En}{o:Out},Qbh g fb n ρ=some o->Qbh g fb (n+1) ρ=some o
 | 0,_,_,h=>by cases h
 | n+1,ρ,o,h=>by
  unfold Qbh at h ⊢;refine Qf h λb hb h=>?_;rw[hb];cases b with
  | false=>exact h
  | true=>
   rw[if_pos rfl]at h;refine Qf h λo1 ho h=>?_;rw[Za,if_pos rfl,ho];cases o1 with
   | nx ρ2=>exact Qg8 h
   | ct ρ2=>exact Qg8 h
   | bk ρ2=>exact h
   | rt d fr=>exact h
def QnD(h:Qbh g fb n ρ=some o)(hm:n<=m):Qbh g fb m ρ=some o:=by
 induction hm with
 | refl=>exact h
 | step _ ih=>exact Qg8 ih
open Classical in
noncomputable def Qbq(g:DT)(fb:DS):DS:=λρ=>if h:∃n,(Qbh g fb n ρ).isSome=true then Qbh g fb h.choose ρ else none
def Qdk:Qbq g fb ρ=some o↔∃n,Qbh g fb n ρ=some o:=by
 unfold Qbq;constructor
 .intro h;split at h
  .exact⟨_,h⟩
  .cases h
 .rintro⟨n,h⟩;have hx:∃n,(Qbh g fb n ρ).isSome=true:=⟨n,by rw[h];rfl⟩;rw[dif_pos hx];obtain⟨o',ho'⟩:=ZaX.mp hx.choose_spec;have h1:=QnD h (Nat.le_max_left n hx.choose);have h2:=QnD ho' (Nat.le_max_right n hx.choose);rw[h1]at h2;rw[ho',← h2]
def QsD(hp:PassesOwn (model X.prog X.w) X.A X.env X.xe)(hc:ST X c gc)(hb:SS X body f):S1 X (.While c body [] pos) (Qbq gc f):=λH0 A0 pins s U H D I h=>by
 obtain⟨ρ,hs,F,o,rel,e,q⟩:=h;obtain⟨n,hn⟩:=Qdk.mp e;exact Qt5 (n:=n) hp hc hb H0 A0 pins s U H D I ⟨ρ,hs,F,o,rel,hn,q⟩
def QmL(g:DT)(fb:DS)(ρ:En):Qbq g fb ρ=(g ρ).bind λb=>if b=true then(fb ρ).bind λo=>match o with
  | .nx ρ2=>Qbq g fb ρ2
  | .ct ρ2=>Qbq g fb ρ2
  | .bk ρ2=>some (.nx ρ2)
  | .rt d fr=>some (.rt d fr)
  else some (.nx ρ):=by
 apply Option.ext;intro o;rw[Qdk];constructor
 .rintro⟨n,h⟩;cases n with
  | zero=>cases h
  | succ n=>
   unfold Qbh at h;refine Qf h λb hb h=>?_;rw[hb];cases b with
   | false=>exact h
   | true=>
    rw[if_pos rfl]at h;refine Qf h λo1 ho h=>?_;rw[Za,if_pos rfl,ho];cases o1 with
    | nx ρ2=>exact Qdk.mpr ⟨n,h⟩
    | ct ρ2=>exact Qdk.mpr ⟨n,h⟩
    | bk ρ2=>exact h
    | rt d fr=>exact h
 .intro h;refine Qf h λb hb h=>?_;cases b with
  | false=>exact⟨1,by unfold Qbh;rw[hb];exact h⟩
  | true=>
   rw[if_pos rfl]at h;refine Qf h λo1 ho h=>?_;cases o1 with
   | nx ρ2=>
    obtain⟨n,hn⟩:=Qdk.mp h;exact⟨n+1,by unfold Qbh;rw[hb];rw[Za,if_pos rfl,ho];exact hn⟩
   | ct ρ2=>
    obtain⟨n,hn⟩:=Qdk.mp h;exact⟨n+1,by unfold Qbh;rw[hb];rw[Za,if_pos rfl,ho];exact hn⟩
   | bk ρ2=>exact⟨1,by unfold Qbh;rw[hb];rw[Za,if_pos rfl,ho];exact h⟩
   | rt d fr=>exact⟨1,by unfold Qbh;rw[hb];rw[Za,if_pos rfl,ho];exact h⟩
def Qxo(hN:X.N.Nodup)(hx1:X.N[i]? =some x)(hx:Loc X.env.scope x)(hf:X.fn x=true∨X.env.scope.names.lookup x=some .local)
  (hcalm:X.calm=true) (S:Qe2 X N' scope) (hi:SI X tg iter fi) (hcap:Qnl X N' scope cap t.slots)
  (hin:∀cl C fp s3 H3,SG (cxc X N' scope cl C fp s3 H3) tg t/\Qoh (cxc X N' scope cl C fp s3 H3) ifs ft/\SE (cxc X N' scope cl C fp s3 H3) elt fe) (hs:∀x,foldedSetIterable iter X.env x=pure x):
  S1 X (.Assign [.Name x pos'] (.ListComp elt [⟨tg,iter,ifs,0⟩] scope pos) spos) (Qn i (QR fi t cap ft fe)):=
 Qiz λH0 A0=>(QxO hN hx1 hx hf hcalm S (hi H0 A0) (λcl C fp s3 H3=>⟨(hin cl C fp s3 H3).1 _ _,(hin cl C fp s3 H3).2.1 _ _,(hin cl C fp s3 H3).2.2 _ _⟩) hs).mono λE U H h=>QmR hcap h
end
end HS
namespace HS
open PySem PySem.Spec L2 PyProof.Rows
section
variable {X:Cx}{a b e:Expr}{fa fb:DE}{pf:DP}{x:Nat}{pos apos:Pos}
def QxM{X:Cx}{H:Hp}{ds:List D}{w:V}{Gm:LAd}(h:Rp X.K H (.lst ds) w Gm):tyV X.K "list" w H:=by
 obtain⟨l,ws,L,rfl,hl,_⟩:=h.lst_inv;exact .inl ⟨rfl,ws,Qah hl⟩
def Q9.unit{K:Fgg}{ρ:En}{F:Nat->List Addr}{H:Hp}:Q9 K ρ F H H ⟨.non,true,[]⟩ .non []:= .flat (QE.refl _) .QfJ
def Qwf:MtM X "list.extend" (Qv1 X.K):=by
 intro pins s U H x vs v us Q I rx rv h;obtain⟨l,b,xs,zs,rfl,rfl,hH,hb,hz,q⟩:=h;cases rx;obtain⟨u,rfl,ru⟩:=rv.one;cases ru;obtain⟨z,its,n,r,hl,e⟩:=I.Qub hH;obtain⟨z2,its2,n2,r2,hl2,e2⟩:=I.QlT hb;have hsz:its.toArray.size+its2.toArray.size<=sizeLine:=by rw[Zv,Zv];omega
 have hlong:¬(!its.toArray.isEmpty && Builtin.List.listTooLong (its.toArray.size+its2.toArray.size))=true:=by
  rw[Qnw hsz,Zbr];exact ZO
 refine call_meets F.slot_list_extend ⟨_,e,rfl⟩ F.entry_list_extend (F.args_list_extend_2 _ _)
  (AutoSeq1.list_extend_list_list_0 l its.toArray n b its2.toArray n2 hlong (by rw[Zv];omega) ⋯) ⟨e,e2,?_⟩
 refine⟨.non,_,I.Qz3 (its':=its++its2) hH e ⋯ (r.append r2) ?_,rfl,q⟩;rw[Zo];omega
def Qu9{H0:Hp}{A0:LAd}{E:Ends}{U:L2.St}{H:Hp}:tS X.K H0 A0 (QjU x pf fa) E U H->Qns (tBM X.K "list" (Qv1 X.K) (tP X.K H0 A0 x pf) (QkC (tV X.K H0 A0 fa) QlK)) E U H:=exK λρ hs F o rel e q=>by
 unfold QjU at e;split at e
 .rename_i d hx;refine Qf e λis e2 e=>?_;refine Qf e λr0 e1 e=>?_;split at e
  .rename_i ds es hp hr;split at e
   .rename_i hc;simp only[Zi,decide_eq_true_eq]at hc;cases e;refine⟨ρ,hs,F,d,true,is,.lst ds,rel,hx,e2,hp,λv0 w H2 Gm s2 hv0 fo=>⟨QxM fo.rp,ρ,hs,F,r0,rel.ext s2,e1,λvn H3 Gn p=>?_⟩⟩;have rel3:=(rel.ext s2).ext p.same;obtain⟨l,vsm,Gp,rfl,g1,g2,g3,g4,g5,g6,g7⟩:=rel3.write .unit rfl Zad hx ⋯ hv0 (fo.same p.same);have rn:=p.rp;rw[hr]at rn;obtain⟨b,zs,L,rfl,hb,rl,zl,el⟩:=rn.lst_inv;have eL:=rl.Qcm hc.1;subst eL;have n1:=g2.length;have n2:=rl.length;refine⟨l,b,vsm,zs,rfl,rfl,g1,hb,⋯,?_⟩;obtain⟨F',rel'⟩:=g7 (ds++es) (vsm++zs) (Gp++[]) ((g2.upd g1 g4).append (rl.upd g1 ⋯)) (by rw[Zo];exact hc.2) (by rw[Zs,Qcz,g3,Qhe es hc.1];rfl) (λa=>by rw[Zs];omega);exact q _ _ F' rel'
   .cases e
  .cases e
 .cases e
end
noncomputable def Qfm:Expr->Bool
 | .ListComp .. =>false
 | .SetComp .. =>false
 | .DictComp .. =>false
 | _=>true
def Qca(h:Qfm e=true):swapsWith e t l env=pure false:=by
 cases e<;>first | rfl | cases h
noncomputable def Qd2(n:Nat)(J:Th)(e:Expr):Option (Nat×DP):=match n with
 | 0=>none
 | n+1=>match e with
  | .Name x _=>(J.slot x).map λi=>(i,QaP)
  | .Subscript a b _=>(Qd2 n J a).bind λq=>(Qs n J b).map λfb=>(q.1,Qi7 q.2 fb)
  | _=>none
def QhF:∀(n:Nat) (X:Cx) (J:Th) (e:Expr) (q:Nat×DP),QJ X J->Qd2 n J e=some q->SPa X e q.1 q.2/\attributeBase e=λ_ env w=>w
 | 0,_,_,_,_,_,h=>(nn h)
 | n+1,X,J,e,q,ok,h=>by
  cases e with
  | Name x pos=>
   change Option.map _ _=_ at h;obtain⟨i,hi,rfl⟩:=Zb.mp h;exact⟨QuE (QdM ok.toCtxB hi),by funext a b c;rfl⟩
  | Subscript a b pos=>
   change Option.bind _ _=_ at h;obtain⟨q',fb,h1,h2,rfl⟩:=Qb3 h;exact⟨Qwp (QhF n X J a q' ok h1).1 ((Qav n).E X J b fb ok h2) (Qqh h2),by funext a b c;rfl⟩
  | _=>exact nn h
noncomputable def Qjd:Expr->Bool
 | .Name .. =>true
 | .Subscript _ (.Slice ..) _=>false
 | .Subscript (.Call ..) _ _=>false
 | .Subscript .. =>true
 | _=>false
noncomputable def Qt1:Operator->Option (D->D->Option D)
 | .Add=>some (gI λi j=>some (.int (i+j)))
 | .Sub=>some QaW
 | _=>none
def QyC(h:Qt1 op=some g):∃r,OpR X (inplaceOp op) r/\Qcw X.K g r:=by
 cases op<;>cases h
 .exact⟨_,Qw4,Qhu (λi j d e=>by cases e;rfl) λi j d e H Q q=>by cases e;exact⟨i,j,rfl,rfl,q _ λ_=> .int_mk⟩⟩
 .exact⟨_,Qx8,Qsd⟩
noncomputable def QxF:Expr->Bool
 | .Slice .. =>true
 | _=>false
noncomputable def Qlk(n:Nat)(J:Th)(o:Expr)(m:Str)(args:List Expr):Option DS:=match args with
  | []=>(Qd2 n J o).bind λq=>
    none
  | [e]=>if m= "append" then
     ((Qd2 n J o).bind λq=>(Qs n J e).map λfa=>Qeo q.1 q.2 fa)
    else
    if m= "extend" then(Qd2 n J o).bind λq=>(Qs n J e).map λfa=>QjU q.1 q.2 fa else
    none
  | _=>none
def QtU(ok:QJ X J)(h:Qlk n J o m args=some f)(hl:(apos.endLine == cpos.line)=true):
  S1 X (.Expr (.Call (.Attribute o m apos) args [] cpos) pos) f:=by
 have base:∀{q:Nat×DP},Qd2 n J o=some q->SPa X o q.1 q.2/\attributeBase o m X.env (eval o X.env)=eval o X.env:=λ{q} h1=>by
  obtain⟨sp,ab⟩:=QhF n X J o _ ok h1;exact⟨sp,by rw[ab]⟩
 have app:∀{e:Expr}{f:DS},m= "append" ->((Qd2 n J o).bind λq=>(Qs n J e).map λfa=>Qeo q.1 q.2 fa)=some f->S1 X (.Expr (.Call (.Attribute o m apos) [e] [] cpos) pos) f:=λ{e f} em h=>by
  obtain⟨q,fa,h1,h2,rfl⟩:=Qb3 h;obtain⟨sp,hb⟩:=base h1;subst em;have he:=(Qav n).E X J e fa ok h2;have st:=Qbf h2 [] X.env;have sa:∀H0 A0,PA X [e] (QkC (tV X.K H0 A0 fa) QlK):=λH0 A0=>Qa5 (he H0 A0) Qdz st;exact λH0 A0=>(Qjf (Qv6 ZbE PySem.F.slot_list_append PySem.F.type_list_append Qmt (sp H0 A0) (sa H0 A0) hb (by rw[st];rfl) hl st rfl) rfl).mono λE U H q=>Qua q
 match args,h with
 | [],h=>
  unfold Qlk at h;dsimp only at h;obtain⟨⟨x,pf⟩,h1,h⟩:=bind1 h;obtain⟨sp,hb⟩:=base h1;cases h
 | [e],h=>
  unfold Qlk at h;dsimp only at h;by_cases em:m= "append"
  .rw[if_pos em]at h;exact app em h
  rw[if_neg em]at h;clear em;clear app;by_cases em:m= "extend"
  .rw[if_pos em]at h;obtain⟨q,fa,h1,h2,rfl⟩:=Qb3 h;obtain⟨sp,hb⟩:=base h1;subst em;have he:=(Qav n).E X J e fa ok h2;have st:=Qbf h2 [] X.env;have sa:∀H0 A0,PA X [e] (QkC (tV X.K H0 A0 fa) QlK):=λH0 A0=>Qa5 (he H0 A0) Qdz st;exact λH0 A0=>(Qjf (Qv6 ZbE PySem.F.slot_list_extend PySem.F.type_list_extend Qwf (sp H0 A0) (sa H0 A0) hb (by rw[st];rfl) hl st rfl) rfl).mono λE U H q=>Qu9 q
  rw[if_neg em]at h;clear em;cases h
 | _::_::_,h=>exact nn h
end HS
namespace HS
open PySem PySem.Spec L2
end HS
namespace HS
open PySem PySem.Spec L2 PyProof.Rows
section
variable {K:Fgg}{H0 H H':Hp}{A0:LAd}{hs:List (V×D×List Addr)}{ρ:En}{F:Nat->List Addr}{U:L2.St}{x i j:Nat}{ds es:List D}{a:Addr}{vs:List V}{v vn:V}{dn:D}
end
mutual
noncomputable def Qld(n:Nat)(J:Th)(st:Stmt):Option DS:=match n with
 | 0=>none
 | n+1=>match st with
  | .Pass _=>some Qi
  | .Break _=>some QuN
  | .Continue _=>some QtD
  | .Raise _ _ _=>some QD
  | .Return (some e) _=>(Qs n J e).map QW
  | .Expr (.Constant (.str _) _ _) _=>some Qi
  | .Expr (.Call (.Attribute o m apos) args [] cpos) _=>if(apos.endLine == cpos.line)=true then Qlk n J o m args else none
  | .Expr (.Call (.Name x p) args [] cpos) _=>(Qs n J (.Call (.Name x p) args [] cpos)).map Qbj
  | .Assign [.Name x _] e _=>(J.Qb1 x).bind λi=>(Qs n J e).map λfa=>Qn i (if Qjd e=true then QeU fa else fa)
  | .Assign [.Subscript a i _] e _=>(Qd2 n J a).bind λq=>(Qs n J i).bind λfi=>(Qs n J e).map λfa=>QfF q.1 q.2 fi fa
  | .AugAssign (.Subscript a i _) op e _=>(Qd2 n J a).bind λq=>(Qs n J i).bind λfi=>(Qt1 op).bind λg=>(Qs n J e).map λfa=>Qd6 g q.1 q.2 fi fa
  | .If c a b _=>(Qa1 n J c).bind λg=>(Q5 n J a).bind λf1=>(Q5 n J b).map λf2=>sIf g f1 f2
  | .For tg iter body [] _=>(Qj8 J tg).bind λt=>(Qhr n J tg iter).bind λfi=>(Q5 n J body).map λfb=>Qbm fi t fb
  | .While c body [] _=>(Qa1 n J c).bind λg=>(Q5 n J body).map λfb=>Qbq g fb
  | .Try a b c d p=>J.tr (.Try a b c d p)
  | _=>none
noncomputable def Q5(n:Nat)(J:Th)(sts:List Stmt):Option DS:=match n with
  | 0=>none
  | n+1=>match sts with
    | []=>some Qi
    | st::r=>
     match J.tr st with
     | some f=>(Q5 n J r).map λg=>Qe f g
     | none=>
       (Qld n J st).bind λf=>(Q5 n J r).map λg=>Qe f g
end
def QpR(h:Qs n J e=some f):QxF e=false:=by
 cases n with
 | zero=>exact nn h
 | succ n=>cases e<;>first | rfl | (exact nn h)
def QwX(h:Qs n J (.ListComp elt gens scope pos)=some f):∃m tg iter ifs t fi ft fe,n=m+1/\gens=[⟨tg,iter,ifs,0⟩]/\Qj8 (inner J scope) tg=some t/\Qlf J scope t=true∧
  Qhr m J tg iter=some fi/\Qgx m (inner J scope) ifs=some ft/\Qs m (inner J scope) elt=some fe/\f=QR fi t (Qjl J scope) ft fe:=by
 cases n with
 | zero=>exact nn h
 | succ n=>
  match gens,h with
  | [⟨tg,iter,ifs,k⟩],h=>
   by_cases hk:k=0
   .subst hk
    (conv at h=>lhs;whnf)
    refine Qf h λt ht h=>?_;split at h
    .rename_i hc;simp only[Zi]at hc;refine Qf h λfi h1 h=>?_;obtain⟨ft,fe,h2,h3,rfl⟩:=Qb3 h;exact⟨n,tg,iter,ifs,t,fi,ft,fe,rfl,rfl,ht,hc.1,h1,h2,h3,rfl⟩
    .cases h
   .exfalso;cases k with
    | ofNat k=>
     cases k with
     | zero=>exact hk rfl
     | succ k=>exact nn h
    | negSucc k=>exact nn h
  | [],h=>exact nn h
  | ⟨_,_,_,.ofNat 0⟩::_::_,h=>exact nn h
  | ⟨_,_,_,.ofNat (k+1)⟩::_::_,h=>exact nn h
  | ⟨_,_,_,.negSucc k⟩::_::_,h=>exact nn h
def Qw7(ok:QJ X J)(hx:J.Qb1 x=some i)(h:Qs n J e=some fa):S1 X (.Assign [.Name x p] e pos) (Qn i fa):=by
 have hN:X.N.Nodup:=by rw[ok.N];exact ok.nd
 obtain⟨h1,h2,h3⟩:=Qce ok.toCtxB hx;by_cases hc:Qfm e=true
 .have he:=(Qav n).E X J e fa ok h;exact Qiz λH0 A0=>QeR hN h1 h2 (he H0 A0) (Qca hc) h3
 .cases e with
  | ListComp elt gens scope cpos=>
   obtain⟨m,tg,iter,ifs,t,fi,ft,fe,rfl,rfl,ht,hco,g1,g2,g3,rfl⟩:=QwX h;obtain⟨S,cap,inn⟩:=QoQ ok hco;obtain⟨i1,i2⟩:=(Qav m).I X J tg iter fi ok g1;exact Qxo hN h1 h2 h3 ok.calm S i1 cap (λcl C fp s3 H3=>⟨Qnr (inn cl C fp s3 H3) ht,(Qav m).Ts _ _ ifs ft (inn cl C fp s3 H3) g2,(Qav m).E _ _ elt fe (inn cl C fp s3 H3) g3⟩) i2
  | SetComp _ _ _ _=>cases n<;>exact nn h
  | DictComp _ _ _ _ _=>cases n<;>exact nn h
  | _=>exact absurd rfl hc
def QuG(ok:QJ X J)(hx:J.Qb1 x=some i)(h:Qs n J e=some fa)(ha:Qjd e=true):S1 X (.Assign [.Name x p] e pos) (Qn i (QeU fa)):=by
 have hN:X.N.Nodup:=by rw[ok.N];exact ok.nd
 obtain⟨h1,h2,h3⟩:=Qce ok.toCtxB hx;have hc:Qfm e=true:=by cases e<;>first | rfl | cases ha
 have he:=Qot ((Qav n).E X J e fa ok h);exact Qiz λH0 A0=>QeR hN h1 h2 (he H0 A0) (Qca hc) h3
def QsJ:swapsWithSole [.Subscript a i p] e l env=pure false:=by
 cases e<;>rfl
structure Qy5 (n:Nat):Prop where
 S:∀X J st f,QJ X J->Qld n J st=some f->S1 X st f
 Ss:∀X J sts f,QJ X J->Q5 n J sts=some f->SS X sts f
def QzS(ih:Qy5 n):∀X J st f,QJ X J->Qld (n+1) J st=some f->S1 X st f:=by
 intro X J st f ok h;have hN:X.N.Nodup:=by rw[ok.N];exact ok.nd
 have E:=Qav n;cases st with
 | Pass pos=>change some Qi=some f at h;cases h;exact QwT
 | Break pos=>change some QuN=some f at h;cases h;exact Qvz
 | Continue pos=>change some QtD=some f at h;cases h;exact Qw6
 | Raise a b pos=>change some QD=some f at h;cases h;exact QtY
 | Return e pos=>
  cases e with
  | none=>exact nn h
  | some e=>
   change(Qs n J e).map QW=some f at h;obtain⟨fa,h1,rfl⟩:=Zb.mp h;exact Qnx (E.E X J e fa ok h1)
 | Expr e pos=>
  cases e with
  | Constant c k p=>
   cases c with
   | str x=>
    change some Qi=some f at h;cases h;exact λH0 A0=>Qye.mono λE U H ⟨ρ,hs,F,o,rel,e,q⟩=>by cases e;exact q U H F rel
   | _=>exact nn h
  | Call fn args kws cpos=>
   cases fn with
   | Attribute o m apos=>
    cases kws with
    | nil=>
     change(if(apos.endLine == cpos.line)=true then Qlk n J o m args else none)=some f at h;split at h
     .rename_i hl;exact QtU ok h hl
     .cases h
    | cons _ _=>exact nn h
   | Name x p=>
    cases kws with
    | nil=>
     change(Qs n J (.Call (.Name x p) args [] cpos)).map Qbj=some f at h;obtain⟨fa,h1,rfl⟩:=Zb.mp h;exact λH0 A0=>QxQ (Qjf (E.E X J _ fa ok h1 H0 A0) rfl)
    | cons _ _=>exact nn h
   | _=>exact nn h
  | _=>exact nn h
 | Assign ts e pos=>
  match ts,h with
  | [t],h=>
   cases t with
   | Name x p=>
    change((J.Qb1 x).bind λi=>(Qs n J e).map λfa=>Qn i (if Qjd e=true then QeU fa else fa))=some f at h;obtain⟨i,fa,h1,h2,rfl⟩:=Qb3 h;split
    .rename_i ha;exact QuG ok h1 h2 ha
    .exact Qw7 ok h1 h2
   | Subscript a i p=>
    change((Qd2 n J a).bind λq=>(Qs n J i).bind λfi=>(Qs n J e).map λfa=>QfF q.1 q.2 fi fa)=some f at h;refine Qf h λq h1 h=>?_;obtain⟨fi,fa,h2,h3,rfl⟩:=Qb3 h;obtain⟨sp,_⟩:=QhF n X J a q ok h1;have ns:=QpR h2;refine QyS (E.E X J e fa ok h3) sp (E.E X J i fi ok h2) λte to ti he ho hi=>Qzn he (Qy8 ho hi set_list ?_) QsJ ?_ rfl
    .intro v;cases i<;>first | rfl | (cases ns)
    .cases e<;>rfl
   | _=>exact nn h
  | [],h=>exact nn h
  | t::_::_,h=>cases t<;>exact nn h
 | AugAssign t op e pos=>
  cases t with
  | Subscript a i p=>
   change((Qd2 n J a).bind λq=>(Qs n J i).bind λfi=>(Qt1 op).bind λg=>(Qs n J e).map λfa=>Qd6 g q.1 q.2 fi fa)=some f at h;refine Qf h λq h1 h=>?_;refine Qf h λfi h2 h=>?_;obtain⟨g,fa,h3,h4,rfl⟩:=Qb3 h;obtain⟨r,o1,o2⟩:=QyC (X:=X) h3;obtain⟨sp,_⟩:=QhF n X J a q ok h1;have ns:=QpR h2;exact QxG o1 o2 (E.E X J e fa ok h4) sp (E.E X J i fi ok h2) λov iv new=>by cases i<;>first | rfl | (cases ns)
  | _=>exact nn h
 | If c a b pos=>
  change((Qa1 n J c).bind λg=>(Q5 n J a).bind λf1=>(Q5 n J b).map λf2=>sIf g f1 f2)=some f at h;refine Qf h λg h1 h=>?_;obtain⟨f1,f2,h2,h3,rfl⟩:=Qb3 h;exact Qv7 (E.T X J c g ok h1) (ih.Ss X J a f1 ok h2) (ih.Ss X J b f2 ok h3)
 | For tg iter body els pos=>
  cases els with
  | nil=>
   change((Qj8 J tg).bind λt=>(Qhr n J tg iter).bind λfi=>(Q5 n J body).map λfb=>Qbm fi t fb)=some f at h;refine Qf h λt h1 h=>?_;obtain⟨fi,fb,h2,h3,rfl⟩:=Qb3 h;obtain⟨i1,i2⟩:=E.I X J tg iter fi ok h2;exact Qz0 ok.pass ok.calm i1 (Qnr ok h1) (ih.Ss X J body fb ok h3) i2
  | cons _ _=>exact nn h
 | While c body els pos=>
  cases els with
  | nil=>
   change((Qa1 n J c).bind λg=>(Q5 n J body).map λfb=>Qbq g fb)=some f at h;obtain⟨g,fb,h1,h2,rfl⟩:=Qb3 h;exact QsD ok.pass (E.T X J c g ok h1) (ih.Ss X J body fb ok h2)
  | cons _ _=>exact nn h
 | Try a b c d pos=>exact ok.tr _ _ h
 | _=>exact nn h
def QeD:∀n,Qy5 n
 | 0=>⟨λ_ _ _ _ _ h=>(nn h),λ_ _ _ _ _ h=>(nn h)⟩
 | n+1=>by
  have ih:=QeD n;refine⟨QzS ih,λX J sts f ok h=>?_⟩
  match sts,h with
  | [],h=>change some Qi=some f at h;cases h;exact Qlh
  | st::r,h=>
   change(match J.tr st with
    | some f=>(Q5 n J r).map λg=>Qe f g
    | none=>_)=some f at h
   split at h
   .rename_i f0 hf0;exact mapR (M:=λf=>SS X (st::r) f) h λg hg=>Qjo (ok.tr st f0 hf0) (ih.Ss X J r g ok hg)
   change((Qld n J st).bind λf=>(Q5 n J r).map λg=>Qe f g)=some f at h;obtain⟨fs,fr,h1,h2,rfl⟩:=Qb3 h;exact Qjo (ih.S X J st fs ok h1) (ih.Ss X J r fr ok h2)
noncomputable def QiB(n:Nat)(J:Th)(st:Stmt):Option DS:=match J.tr st with
 | some f=>some f
 | none=>Qld n J st
def Qmo{X:Cx}{J:Th}{n:Nat}{st:Stmt}{f:DS}(ok:QJ X J)(h:QiB n J st=some f):S1 X st f:=by
 unfold QiB at h;split at h
 .rename_i g hg;cases h;exact ok.tr st _ hg
 .exact(QeD n).S X J st f ok h
noncomputable def Qab(k:Nat)(ds:List D):En:=ds.map (λd=>some (d,d.flat))++List.replicate (k-ds.length) none
noncomputable def outD:Out->Option (D×Bool)
 | .rt d fr=>some (d,fr)
 | .nx _=>some (.non,true)
 | _=>none
noncomputable def Qu(k:Nat)(f:DS):Den:=λds=>(f (Qab k ds)).bind outD
def Rps.parts{K:Fgg}{H:Hp}:∀{ds:List D}{vs:List V}{F:LAd},Rps K H ds vs F→
  ∃Fs:List (List Addr),(∀L∈Fs,∀a∈L,a∈F)/\∀(i:Nat) (d:D),ds[i]? =some d->∃v,vs[i]? =some v/\Rp K H d v (Fs.getD i [])
 | [],_,_,h=>⟨[],λL hL=>by simp at hL,λi d e=>by simp at e⟩
 | d::ds,_,_,h=>by
  simp only[Rps]at h;obtain⟨v,ws,F1,F2,rfl,rfl,r,q⟩:=h;obtain⟨Fs,h1,h2⟩:=Rps.parts q;refine⟨F1::Fs,λL hL a ha=>?_,λi d' e=>?_⟩
  .rcases Zn.mp hL with rfl | hL
   .exact Ze _ ha
   .exact Zd _ (h1 L hL a ha)
  .cases i with
   | zero=>simp at e;subst e;exact⟨v,⋯,by simpa using r⟩
   | succ i=>obtain⟨w,hw,hr⟩:=h2 i d' (by simpa using e);exact⟨w,by simpa using hw,by simpa using hr⟩
def Qgd{k:Nat}{ds:List D}{i:Nat}{d:D}{b:Bool}(h:(Qab k ds)[i]? =some (some (d,b))):ds[i]? =some d/\b=d.flat:=by
 unfold Qab at h;by_cases hi:i<ds.length
 .rw[Zan (by simpa using hi),Zy]at h;cases e:ds[i]? with
  | none=>rw[e]at h;cases h
  | some a=>rw[e]at h;cases h;exact⟨rfl,rfl⟩
 .rw[Zat (by simpa using hi),Zbz]at h;split at h<;>cases h
def QeT{K:Fgg}{H:Hp}{ds:List D}{vs:List V}{F:LAd}{N:List Str}(r:Rps K H ds vs F):∃F0,Rel K H F [] (Qab N.length ds) F0 (start N vs) H:=by
 obtain⟨Fs,h1,h2⟩:=r.parts;have hl:=r.length;have src:∀i a,a∈Fs.getD i []->a∈F:=λi a ha=>by
  by_cases hi:i<Fs.length
  .have:Fs.getD i []∈Fs:=by rw[ZD,Zz hi];exact ZbF hi
   exact h1 _ this a ha
  .rw[ZD,Zw ⋯]at ha;simp at ha
 refine⟨λi=>Fs.getD i [],?_,λi d b e=>?_,λi d e=>?_,λi d b e a ha=> .inr (src i a ha),λt ht=>absurd ht ⋯,QE.refl _⟩
 .unfold Qab L2.start;simp[hl]
 .obtain⟨e1,_⟩:=Qgd e;obtain⟨v,hv,hr⟩:=h2 i d e1;refine⟨v,?_,hr⟩;have hi:i<vs.length:=(Zg.mp hv).1;unfold L2.start;rw[Zan (by simpa using hi),Zy,hv];rfl
 .obtain⟨e1,e2⟩:=Qgd e;obtain⟨v,hv,hr⟩:=h2 i d e1;have z:Fs.getD i []=[]:=hr.Qcm e2.symm;simp only[z];exact⟨(Qc9 d e2.symm).symm,Zad,λa ha=>by simp at ha,λ_ _ _ _ _ a ha=>by simp at ha,λ_ _ a ha=>by simp at ha⟩
section
variable (P:Program) (w:World) (K:Fgg) (mg:Str->Option Value) (base:Heap)
def Known(k:Nat)(x:Str)(r:FnR):Prop:=∃f fd ps,Qau P w K mg base CX0 k f fd ps (spV K r.n r.den)/\mg x=some (.ref f)/\PySem.W.keepIn K (.ref f)=true∧
 ∀m,m<=r.dfl.length->∃ds dvs,Binds K fd ps ds/\QB dvs ds/\∀H,Rps K H (r.dfl.drop (r.dfl.length-m)) dvs []
def QaK(k:Nat)(Γ:List (Str×FnR)):Prop:=∀x r,look x Γ=some r->Known P w K mg base k x r
structure QbR (cs:List (Str×Cn)):Prop where
 bn:∀x∈QoI,mg x=none
 cs:∀x i,look x cs=some i->∃t,mg x=some (cnV i t)
end
section
variable {P:Program}{w:World}{K:Fgg}{mg:Str->Option Value}{base:Heap}
def QaK.nil{k:Nat}:QaK P w K mg base k []:=λx r h=>by cases h
def Known.mono{j k:Nat}{x:Str}{r:FnR}(h:Known P w K mg base j x r)(hk:j<=k):Known P w K mg base k x r:=by
 obtain⟨f,fd,ps,h1,h2⟩:=h;exact⟨f,fd,ps,h1.mono hk,h2⟩
def QaK.cons{k:Nat}{Γ:List (Str×FnR)}{x:Str}{r:FnR}(t:QaK P w K mg base k Γ)(h:Known P w K mg base (k+1) x r):QaK P w K mg base (k+1) ((x,r)::Γ):=λy q e=>by
 unfold look at e;split at e
 .rename_i z;cases e;subst z;exact h
 .exact(t y q e).mono (ZaD _)
noncomputable def namesOf(sc:Scope):List Str:=(sc.names.filter λy=>QvU y.2).map (·.1)
noncomputable def Qbo(st:Stmt)(Γ:List (Str×FnR))(cs:List (Str×Cn)):Th:=⟨namesOf (Qg st),(Qg st).names,Γ,cs,λ_=>none,λ_=>none⟩
def Qmf{CX:CXT}{xe:Value->Shared->Prop}{st:Stmt}{ps:List Str}{qual:Str}{f:Addr}{cdv:Value}{A:Around}{outer:List Env}{s:Shared}{H:Hp}{E:XK}{k:Nat}{Γ:List (Str×FnR)}{cs:List (Str×Cn)}(S:Qar (namesOf (Qg st)) ps (Qg st))(M:QbR mg cs)(tab:QaK P w K mg base k Γ)
  (hr:Qao k (A.deeper (envOfC qual (Qg st) s.heap.objs.size f cdv))) (hp:PassesOwn (model P w) (A.deeper (envOfC qual (Qg st) s.heap.objs.size f cdv)) (envOfC qual (Qg st) s.heap.objs.size f cdv) xe):
  QJ ((QbP CX P w K mg base (namesOf (Qg st)) qual (Qg st) f cdv A outer s H E).QfE xe) (Qbo st Γ cs) where
 N:=rfl
 nd:=S.nd
 lc:=λx h=>by rw[Qa7]at h;exact h
 ce:=λx h=>by rw[Qa7]at h;exact⟨h,rfl⟩
 fe:=λx h=>by rw[Qa7]at h;exact absurd rfl (S.nofree _ (Zab h))
 gl:=λx h=>by rw[Qa7]at h;exact h
 calm:=decide_eq_true hr.hd
 pass:=hp
 tr:=λ_ _ h=>by cases h
 te:=λ_ _ h=>by cases h
 units:=hr.units
 mg:=M.bn
 fns:=λx r h=>by
  obtain⟨f',fd,ps',h1,h2,h3,h4⟩:=tab x r h;exact⟨k,f',fd,ps',h1,hr,h2,h3,h4⟩
 cs:=M.cs
def QiQ{st:Stmt}{ps:List Str}{qual:Str}{f:Addr}{cdv:Value}{A:Around}{outer:List Env}{s:Shared}{H:Hp}{E:XK}{k:Nat}{Γ:List (Str×FnR)}{cs:List (Str×Cn)}(S:Qar (namesOf (Qg st)) ps (Qg st))(M:QbR mg cs)(tab:QaK P w K mg base k Γ)
  (hr:Qao k (A.deeper (envOfC qual (Qg st) s.heap.objs.size f cdv))):QJ (QbP CX0 P w K mg base (namesOf (Qg st)) qual (Qg st) f cdv A outer s H E).nox (Qbo st Γ cs):=Qmf S M tab hr PassesOwn.never
def Qzy{x qual:Str}{st:Stmt}{f:Addr}{fd:FuncData}{ps:List Str}{k n:Nat}{Γ:List (Str×FnR)}{cs:List (Str×Cn)}{g:DS}(F:Fun K x qual st f fd)(S:Qar (namesOf (Qg st)) ps (Qg st))(M:QbR mg cs)(tab:QaK P w K mg base k Γ)
  (hc:Q5 n (Qbo st Γ cs) (QY st)=some g):Qau P w K mg base CX0 (k+1) f fd ps (spV K ps.length (Qu (namesOf (Qg st)).length g)):=by
 refine F.ok S (Qjb rfl) λcdv A outer s H vs Q E hr h=>?_;obtain⟨ds,L,d,fr,rps,hl,hd,q⟩:=h;refine⟨_,(QeD n).Ss _ _ _ g (QiQ S M tab hr) hc H L,?_⟩;obtain⟨F0,rel⟩:=QeT (N:=namesOf (Qg st)) rps;unfold Qu at hd;refine Qf hd λo ho hd=>?_;refine⟨_,[],F0,o,rel,ho,?_⟩;cases o with
 | nx ρ=>
  cases hd;exact λU H' F' rel'=>q .non H' [] ⟨rel'.same,.QfJ,λa ha=>by simp at ha,λ_=>⟨Zad,rfl,λa ha=>by simp at ha⟩⟩
 | bk ρ=>cases hd
 | ct ρ=>cases hd
 | rt d' fr'=>
  cases hd;exact λv H' G r=>q v H' G r
structure Fact (K:Fgg) (x:Str) (st:Stmt):Prop where
 ex:∃f fd,Fun K x x st f fd/\PySem.W.nsIn K mainGlobals x=some (some (.ref f))
def fact_mk{x:Str}{st:Stmt}{f:Addr}{oc:Value}{od an:Option Addr}{osl:Array (Option Value)}{kV doc pm cdv ct:Value}(a:PySem.W.nsIn K mainGlobals x=some (some (.ref f)))(l:K.lookup f=some ⟨oc,od,.func (PySem.W.fnOf x x (QdU st) (QY st) (Qg st) .none kV doc pm an cdv ct),osl⟩)
  (c:PySem.W.codeIn K cdv x=true) (k:PySem.W.keepIn K (.ref f)=true):Fact K x st:=⟨f,_,QrF l c k,a⟩
def l0{α:Type}{P:List α->Prop}(h:P []):∀l:List α,l.length=0->P l:=λl e=>(List.length_eq_zero_iff.mp e).symm▸h
def lc{α:Type}{n:Nat}{P:List α->Prop}(h:∀a,∀l:List α,l.length=n->P (a::l)):∀l:List α,l.length=n+1->P l
 | a::l,e=>h a l (Nat.succ.inj e)
def Q3(x:Str)(st:Stmt)(ps:List Str):Prop:=∀(kV doc pm:Value) (an:Option Addr) (cdv ct:Value) (us:List Value),us.length=ps.length->bindArgs (PySem.W.fnOf x x (QdU st) (QY st) (Qg st) .none kV doc pm an cdv ct) ⟨us,[]⟩=pure (ps.zip us)
def QdG{h:Heap}{x:Str}{st:Stmt}{ps:List Str}{k n:Nat}{Γ:List (Str×FnR)}{cs:List (Str×Cn)}{g:DS}(X:K.In h)(G:h.Ns mainGlobals mg)(F:Fact K x st)(S:Qar (namesOf (Qg st)) ps (Qg st))(B:Q3 x st ps)(M:QbR mg cs)(tab:QaK P w K mg base k Γ)
  (hc:Q5 n (Qbo st Γ cs) (QY st)=some g):Known P w K mg base (k+1) x ⟨ps.length,[],Qu (namesOf (Qg st)).length g⟩:=by
 obtain⟨f,fd,Fn,a⟩:=F.ex;refine⟨f,fd,ps,Qzy Fn S M tab hc,Zai X G a,Fn.kp,λm hm=>⟨[],[],Fn.binds (B ·),.nil,λH=>by simp[Rps]⟩⟩
end
end HS
namespace HS
open PySem PySem.Spec L2 PyProof.Rows
def Quo{l:PySem.W.OpenLaw}{k:Nat}{q:Program}{loose:List Str}{XP:(Str->Option Value)->Heap->Prop}{YP:World->Heap->Prop}{d:DefRec}{K:Params->PySem.W.Frag}{den:Den}{x:Str}
  (hn:l.most=some 63) (hdf:d.params.defaults=[]) (hr:Qao k callerA) (hY:∀(w:World) (h:Heap),YP w h->(K w.params).In h)
  (hden:∀ns:List Int,ns.length<=63->∃fr,den [.lst (ns.map .int)]=some (.bl true,fr))
  (F:∀(w:World) (mg:Str->Option Value) (fa:Addr) (h:Heap),(K w.params).In h->h.Ns mainGlobals mg->mg d.name=some (.ref fa)→
   ∃fd:FuncData,(∀(s:Shared) (u:Value),BindsTo s fd ⟨[u],[]⟩ [(x,u)])∧
    ∀base:Heap,(K w.params).In base->base.Ns mainGlobals mg->Qau l.prog w (K w.params) mg base CX0 k fa fd [x] (spV (K w.params) 1 den)):
  PySem.W.WalkO q loose XP YP l.row.toRowW d [] (λf vs=>PySem.call f vs):=by
 refine Att.Qpz hn hdf λw s₀ s₁ mg mb fa o pm cd doc a vs ns G Y ho hd hcd hmg hobj hints hlen hg=>?_;have KX:=hY w _ Y;obtain⟨fd,hb,hF⟩:=F w mg fa _ KX G.T.g hmg;have h63:(63:Nat)<=sizeLine:= ∅
 refine QuZ KX G.T.g G.T.b G.T.builtins G.T.nolimit hg hobj hints (ZL hlen h63) hr hF hb (λH hO hS=>?_) λH e s' z=>z;have fx:Fix (K w.params) H a (ns.map V.int):=by
  rcases hS with(h | ⟨o,h⟩) | ⟨o,its,n,hk,hc,hdn,hda,hz,rv⟩
  .rcases hO a with z | ⟨o,xs,z⟩<;>rw[h]at z<;>cases z
  .exact .inl ⟨o,h⟩
  .have e:=KX a o hk;rw[hobj]at e;cases e;cases hda;exact .inr ⟨vs,_,hk,by rw[Zp];exact ZL hlen h63,by simpa using rv⟩
 obtain⟨fr,hfr⟩:=hden ns hlen;have rp:Rp (K w.params) H (.lst (ns.map .int)) (.ref a) []:=by
  simp only[Rp];refine⟨by rw[Zp];exact ZL hlen h63,a,_,rfl,.inr ⟨fx,?_⟩⟩;have gen:∀ns:List Int,Rps (K w.params) H (ns.map .int) (ns.map .int) []:=by
   intro ns
   induction ns with
   | nil=>simp[Rps]
   | cons n ns ih=>simp only[ZA,Rps];exact⟨_,_,[],[],rfl,rfl,.int_mk,ih⟩
  exact gen ns
 refine⟨[.lst (ns.map .int)],[],.bl true,fr,?_,rfl,hfr,λv H' G r=>r.rp.QgJ⟩;simp only[Rps];exact⟨_,_,[],[],rfl,rfl,rp,rfl,rfl⟩
end HS
namespace HS
open PySem PySem.Spec PyProof.Rows L2
section
variable {P:Program}{w:World}{K:Fgg}{mg:Str->Option Value}{base:Heap}
end
end HS
namespace HS
open PySem PySem.Spec L2 PyProof.Rows
noncomputable def hide(H:Hp)(P:LAd):Hp:=λa=>if a∈P then none else H a
def Qe7:Option HO->Prop
 | some (.lst _)=>True
 | some (.ins _ _ _)=>True
 | some (.dT _)=>True
 | _=>False
section
variable {K:Fgg}{H H':Hp}{P:LAd}
def Qi4{a:Addr}(h:a∈P):hide H P a=none:=if_pos h
def QhH{a:Addr}(h:a∉P):hide H P a=H a:=if_neg h
def QiG{a:Addr}(h:hide H P a=none):a∈P∨H a=none:=by
 by_cases q:a∈P
 .exact .inl q
 .rw[QhH q]at h;exact .inr h
def QmJ:QE (hide H P) H:=λb o h=>by
 by_cases q:b∈P
 .rw[Qi4 q]at h;cases h
 .rw[QhH q]at h;exact h
def QbA(s:QE (hide H P) H'){a:Addr}{u:HO}(h:H a=some u)(n:a∉P):H' a=some u:=s a u (by rw[QhH n];exact h)
def Qje(hm:∀a∈P,Qe7 (H a)){a:Addr}{u:HO}(h:H a=some u)(n:¬Qe7 (some u)):a∉P:=λz=>n (h▸hm a z)
def QcT.mut{v:V}{vs:List V}{A:LAd}:∀{o:Ob},QcT K H v vs A o->∀a∈A,Qe7 (H a)
 | .ins _ _,⟨a,C,dx,e1,e2,e3,e4,e5⟩,b,hb=>by rw[e2]at hb;rw[Zl.mp hb,e4];exact True.intro
 | .pin _,⟨_,_,e⟩,b,hb=>by rw[e]at hb;simp at hb
 | .pair,⟨e,_⟩,b,hb=>by rw[e]at hb;simp at hb
def QcT.but(s:QE (hide H P) H'){v:V}{vs:List V}{A:LAd}:∀{o:Ob},QcT K H v vs A o->(∀a∈A,a∉P)->QcT K H' v vs A o
 | .ins _ _,⟨a,C,dx,e1,e2,e3,e4,e5⟩,hn=>⟨a,C,dx,e1,e2,e3,QbA s e4 (hn a (by rw[e2];exact List.mem_singleton_self a)),e5⟩
 | .pin _,h,_=>h
 | .pair,h,_=>h
mutual
def Rp.mut:∀{d:D}{v:V}{F:LAd},Rp K H d v F->∀a∈F,Qe7 (H a)
 | .non,_,_,h,a,ha=>by simp only[Rp]at h;rw[h.2]at ha;simp at ha
 | .bl _,_,_,h,a,ha=>by simp only[Rp]at h;rw[h.2]at ha;simp at ha
 | .int _,_,_,h,a,ha=>by simp only[Rp]at h;rw[h.2]at ha;simp at ha
 | .str _,_,_,h,a,ha=>by simp only[Rp]at h;rw[h.2]at ha;simp at ha
 | .exc _,_,_,h,a,ha=>by simp only[Rp]at h;rw[h.2]at ha;simp at ha
 | .dk _,_,_,h,a,ha=>by simp only[Rp]at h;obtain⟨b,e,eF,q⟩:=h;subst eF;rw[Zl.mp ha,q];exact True.intro
 | .obj _ _,_,_,h,a,ha=>by
  simp only[Rp]at h;obtain⟨vs,A,G,eF,q,r⟩:=h;subst eF;exact(Zr.mp ha).elim (q.mut a) (Rps.mut r a)
 | .tup ds,_,_,h,a,ha=>by
  simp only[Rp]at h;obtain⟨_,vs,e,q,r⟩:=h;exact Rps.mut r a ha
 | .lst ds,_,_,h,a,ha=>by
  simp only[Rp]at h;obtain⟨_,b,vs,e,⟨G,eF,q,r⟩ | ⟨q,r⟩⟩:=h
  .subst eF;rcases Zn.mp ha with z | z
   .rw[z,q];exact True.intro
   .exact Rps.mut r a z
  .exact Rps.mut r a ha
def Rps.mut:∀{ds:List D}{vs:List V}{F:LAd},Rps K H ds vs F->∀a∈F,Qe7 (H a)
 | [],_,_,h,a,ha=>by simp only[Rps]at h;rw[h.2]at ha;simp at ha
 | d::ds,_,_,h,a,ha=>by
  simp only[Rps]at h;obtain⟨v,ws,F1,F2,e,eF,r,q⟩:=h;subst eF;exact(Zr.mp ha).elim (Rp.mut r a) (Rps.mut q a)
end
def QxW(hm:∀a∈P,Qe7 (H a))(s:QE (hide H P) H'){a:Addr}{vs:List V}(h:SqT K H a vs):SqT K H' a vs:=by
 rcases h with(h | ⟨o,h⟩) | h
 .exact .inl (.inl (QbA s h (Qje hm h λz=>z)))
 .exact .inl (.inr ⟨o,QbA s h (Qje hm h λz=>z)⟩)
 .exact .inr h
def QwA(hm:∀a∈P,Qe7 (H a))(s:QE (hide H P) H'){a:Addr}{vs:List V}(h:Fix K H a vs):Fix K H' a vs:=by
 rcases h with⟨o,h⟩ | h
 .exact .inl ⟨o,QbA s h (Qje hm h λz=>z)⟩
 .exact .inr h
mutual
def Rp.but(hm:∀a∈P,Qe7 (H a))(s:QE (hide H P) H'):∀{d:D}{v:V}{F:LAd},Rp K H d v F->(∀a∈F,a∉P)->Rp K H' d v F
 | .exc _,_,_,h,_=>by
  simp only[Rp]at h ⊢;obtain⟨⟨a,e,C,q1,q2⟩,z⟩:=h;exact⟨⟨a,e,C,q1,QbA s q2 (Qje hm q2 λz=>z)⟩,z⟩
 | .dk _,_,_,h,hn=>by
  simp only[Rp]at h ⊢;obtain⟨a,e,eF,q⟩:=h;subst eF;exact⟨a,e,rfl,QbA s q (hn a (List.mem_singleton_self a))⟩
 | .obj _ _,_,_,h,hn=>by
  simp only[Rp]at h ⊢;obtain⟨vs,A,G,eF,q,r⟩:=h;subst eF;exact⟨vs,A,G,rfl,q.but s λa z=>hn a (Ze _ z),Rps.but hm s r λa z=>hn a (Zd _ z)⟩
 | .non,_,_,h,_=>h
 | .bl _,_,_,h,_=>h
 | .int _,_,_,h,_=>h
 | .str _,_,_,h,_=>h
 | .tup ds,_,_,h,hn=>by
  simp only[Rp]at h ⊢;obtain⟨a,vs,e,q,r⟩:=h;exact⟨a,vs,e,QxW hm s q,Rps.but hm s r hn⟩
 | .lst ds,_,_,h,hn=>by
  simp only[Rp]at h ⊢;obtain⟨hz,a,vs,e,⟨G,eF,q,r⟩ | ⟨q,r⟩⟩:=h
  .subst eF;exact⟨hz,a,vs,e,.inl ⟨G,rfl,QbA s q (hn a Zf),Rps.but hm s r λb z=>hn b (Zc _ z)⟩⟩
  .exact⟨hz,a,vs,e,.inr ⟨QwA hm s q,Rps.but hm s r hn⟩⟩
def Rps.but(hm:∀a∈P,Qe7 (H a))(s:QE (hide H P) H'):∀{ds:List D}{vs:List V}{F:LAd},Rps K H ds vs F->(∀a∈F,a∉P)->Rps K H' ds vs F
 | [],_,_,h,_=>h
 | d::ds,_,_,h,hn=>by
  simp only[Rps]at h ⊢;obtain⟨v,ws,F1,F2,e,eF,r,q⟩:=h;subst eF;exact⟨v,ws,F1,F2,e,rfl,Rp.but hm s r λb z=>hn b (Ze _ z),Rps.but hm s q λb z=>hn b (Zd _ z)⟩
end
end
def Qme(H0:Hp)(hs:List (V×D×List Addr))(ρ:En)(F:Nat->List Addr)(i:Nat)(a:Addr):Prop:=
 H0 a=none/\(∀(j:Nat) d b,ρ[j]? =some (some (d,b))->j≠i->a∉F j)/\∀t∈hs,a∉t.2.2
section
variable {K:Fgg}{H0 H H':Hp}{A0:LAd}{hs:List (V×D×List Addr)}{ρ:En}{F:Nat->List Addr}{U:L2.St}{i:Nat}{d d':D}{v:V}{G:LAd}
def Rel.Qoe(r:Rel K H0 A0 hs ρ F U H)(e:ρ[i]? =some (some (d,true))){a:Addr}(h:a∈F i∨H a=none):Qme H0 hs ρ F i a:=by
 rcases h with h | h
 .obtain⟨_,_,h3,h4,h5⟩:=r.own i d e;exact⟨h3 a h,λj d' b' ej hj=>h4 j d' b' hj ej a h,λt ht=>h5 t ht a h⟩
 .refine⟨r.same.free h,λj d' b' ej hj z=>?_,λt ht z=>?_⟩
  .obtain⟨u,q⟩:=r.mem ej z;rw[h]at q;cases q
  .obtain⟨u,q⟩:=(r.held t ht).1.mem a z;rw[h]at q;cases q
def Rel.io(r:Rel K H0 A0 hs ρ F U H)(e:ρ[i]? =some (some (d,true)))(hv:U[i]? =some (some v))(s:QE (hide H (F i)) H')(rp:Rp K H' d' v G)(nd:G.Nodup)(nl:G.length=d'.nl)(sub:∀a∈G,Qme H0 hs ρ F i a):
  Rel K H0 A0 hs (ρ.set i (some (d',true))) (λj=>if j=i then G else F j) U H':=by
 obtain⟨o1,o2,o3,o4,o5⟩:=r.own i d e;obtain⟨w,hw,rpi⟩:=r.val i d true e;have hm:∀a∈F i,Qe7 (H a):=rpi.mut;have hl:i<ρ.length:=(Zg.mp e).1;refine⟨by rw[Zay];exact r.len,λj d2 b ej=>?_,λj d2 ej=>?_,λj d2 b ej a ha=>?_,λt ht=>⟨(r.held t ht).1.but hm s λa ha z=>o5 t ht a z ha,(r.held t ht).2⟩,λb u hb=>?_⟩
 .by_cases hj:j=i
  .subst hj;rw[Zm hl]at ej;cases ej;exact⟨v,hv,by rw[if_pos rfl];exact rp⟩
  .rw[Zh (Ne.symm hj)]at ej;obtain⟨v2,h1,h2⟩:=r.val j d2 b ej;exact⟨v2,h1,by rw[if_neg hj];exact h2.but hm s λa ha z=>o4 j d2 b hj ej a z ha⟩
 .by_cases hj:j=i
  .subst hj;rw[Zm hl]at ej;cases ej;rw[if_pos rfl];refine⟨nl,nd,λa ha=>(sub a ha).1,λk d3 b3 hk ek a ha=>?_,λt ht a ha=>(sub a ha).2.2 t ht⟩;rw[Zh (Ne.symm hk)]at ek;rw[if_neg hk];exact(sub a ha).2.1 k d3 b3 ek hk
  .rw[Zh (Ne.symm hj)]at ej;obtain⟨p1,p2,p3,p4,p5⟩:=r.own j d2 ej;rw[if_neg hj];refine⟨p1,p2,p3,λk d3 b3 hk ek a ha=>?_,p5⟩;by_cases hki:k=i
   .subst hki;rw[if_pos rfl];exact λz=>(sub a z).2.1 j d2 true ej hj ha
   .rw[Zh (Ne.symm hki)]at ek;rw[if_neg hki];exact p4 k d3 b3 hk ek a ha
 .by_cases hj:j=i
  .subst hj;rw[if_pos rfl]at ha;exact .inl (sub a ha).1
  .rw[Zh (Ne.symm hj)]at ej;rw[if_neg hj]at ha;exact r.src j d2 b ej a ha
 .exact QbA s (r.same b u hb) λz=>by rw[o3 b z]at hb;cases hb
def Rel.new(r:Rel K H0 A0 hs ρ F U H)(rp:Rp K H d v G)(nd:G.Nodup)(nl:G.length=d.nl)(sub:∀a∈G,Qme H0 hs ρ F i a):
  Rel K H0 A0 hs (ρ.set i (some (d,true))) (λj=>if j=i then G else F j) (U.set i (some v)) H:=by
 have lt:∀{y:D×Bool},(ρ.set i (some (d,true)))[i]? =some (some y)->i<ρ.length:=λ{y} e=>by
  by_cases hl:i<ρ.length
  .exact hl
  .rw[Zw (by simp;omega)]at e;cases e
 refine⟨by simp[r.len],λj d2 b ej=>?_,λj d2 ej=>?_,λj d2 b ej a ha=>?_,r.held,r.same⟩
 .by_cases hj:j=i
  .subst hj;have hl:=lt ej;rw[Zm hl]at ej;cases ej;exact⟨v,by rw[Zm (by rw[← r.len];exact hl)],by rw[if_pos rfl];exact rp⟩
  .rw[Zh (Ne.symm hj)]at ej;obtain⟨v2,h1,h2⟩:=r.val j d2 b ej;exact⟨v2,by rw[Zh (Ne.symm hj)];exact h1,by rw[if_neg hj];exact h2⟩
 .by_cases hj:j=i
  .subst hj;have hl:=lt ej;rw[Zm hl]at ej;cases ej;rw[if_pos rfl];refine⟨nl,nd,λa ha=>(sub a ha).1,λk d3 b3 hk ek a ha=>?_,λt ht a ha=>(sub a ha).2.2 t ht⟩;rw[Zh (Ne.symm hk)]at ek;rw[if_neg hk];exact(sub a ha).2.1 k d3 b3 ek hk
  .rw[Zh (Ne.symm hj)]at ej;obtain⟨p1,p2,p3,p4,p5⟩:=r.own j d2 ej;rw[if_neg hj];refine⟨p1,p2,p3,λk d3 b3 hk ek a ha=>?_,p5⟩;by_cases hki:k=i
   .subst hki;rw[if_pos rfl];exact λz=>(sub a z).2.1 j d2 true ej hj ha
   .rw[Zh (Ne.symm hki)]at ek;rw[if_neg hki];exact p4 k d3 b3 hk ek a ha
 .by_cases hj:j=i
  .subst hj;rw[if_pos rfl]at ha;exact .inl (sub a ha).1
  .rw[Zh (Ne.symm hj)]at ej;rw[if_neg hj]at ha;exact r.src j d2 b ej a ha
end
end HS
namespace HS
open PySem PySem.Spec L2 PyProof.Rows
inductive QaX (K:Fgg) (ρ:En) (F:Nat->List Addr) (U:L2.St) (i:Nat):Hp->Hp->List (Option R)->List V->List (List Addr)->Prop
 | nil {H:Hp}:QaX K ρ F U i H H [] [] []
 | val {H H1 H2:Hp}{r:R}{v:V}{G:LAd}{rs:List (Option R)}{vs:List V}{Gs:List (List Addr)}(p:Q9 K ρ F H H1 r v G) (t:QaX K ρ F U i H1 H2 rs vs Gs):QaX K ρ F U i H H2 (some r::rs) (v::vs) (G::Gs)
 | slot {H H2:Hp}{v:V}{rs:List (Option R)}{vs:List V}{Gs:List (List Addr)}(e:U[i]? =some (some v)) (t:QaX K ρ F U i H H2 rs vs Gs):QaX K ρ F U i H H2 (none::rs) (v::vs) (F i::Gs)
noncomputable def evs:List (Option DE)->En->Option (List (Option R))
 | [],_=>some []
 | some f::fs,ρ=>(f ρ).bind λr=>(evs fs ρ).map λrs=>some r::rs
 | none::fs,ρ=>(evs fs ρ).map λrs=>none::rs
noncomputable def tVL(K:Fgg)(H0:Hp)(A0:LAd)(i:Nat)(fs:List (Option DE)):TA:=λU H Q=>∃ρ hs F rs,Rel K H0 A0 hs ρ F U H/\evs fs ρ=some rs/\(none∈fs->∃v,U[i]? =some (some v))/\∀vs H' Gs,QaX K ρ F U i H H' rs vs Gs->Q vs H'
def Qm6(X:Cx)(i:Nat)(e:Expr):Option DE->Prop
 | some f=>SE X e f
 | none=>PE X e (Qhk i)
inductive Qba (X:Cx) (i:Nat):List Expr->List (Option DE)->Prop
 | nil:Qba X i [] []
 | cons {e:Expr}{f:Option DE}{es:List Expr}{fs:List (Option DE)}(h:Qm6 X i e f) (s:∀es env,starEach (e::es) env=(false,eval e env)::starEach es env) (t:Qba X i es fs):Qba X i (e::es) (f::fs)
section
variable {X:Cx}{i:Nat}{es:List Expr}{fs:List (Option DE)}
def Qba.any(h:Qba X i es fs)(pos:Pos)(env:Env):(backTo pos (starEach es env)).any (·.1)=false:=by
 induction h with
 | nil=>rfl
 | cons h s t ih=>rw[s];simpa[backTo]using ih
def Qo8(h:Qba X i es fs)(H0:Hp)(A0:LAd):PA X es (tVL X.K H0 A0 i fs):=by
 induction h with
 | nil=>exact Qdz.mono λU H Q ⟨ρ,hs,F,rs,rel,e,hv,q⟩=>by cases e;exact q _ _ _ .nil
 | @cons e f es fs h s t ih=>
  cases f with
  | some f=>
   refine(Qa5 ((show SE X e f from h) H0 A0) ih (s _ _)).mono λU H Q Z=>?_;obtain⟨ρ,hs,F,rs,rel,e,hv,q⟩:=Z;refine Qf e λr e1 e=>?_;obtain⟨rs',e2,rfl⟩:=Zb.mp e;exact⟨ρ,hs,F,r,rel,e1,λv H1 G p=>⟨ρ,hs,F,rs',rel.ext p.same,e2,λz=>hv (Zc _ z),λvs H' Gs pl=>q _ _ _ (.val p pl)⟩⟩
  | none=>
   refine(Qa5 (show PE X e (Qhk i)from h) ih (s _ _)).mono λU H Q Z=>?_;obtain⟨ρ,hs,F,rs,rel,e,hv,q⟩:=Z;obtain⟨rs',e2,rfl⟩:=Zb.mp e;obtain⟨v,ev⟩:=hv Zf;exact⟨v,ev,ρ,hs,F,rs',rel,e2,λz=>hv (Zc _ z),λvs H' Gs pl=>q _ _ _ (.slot ev pl)⟩
end
structure QkE (K:Fgg) (H:Hp) (Fp:LAd) (d dp:D) (vp v:V) (H':Hp) (G Gp:LAd):Prop where
 same:QE (hide H Fp) H'
 rp:Rp K H' d v G
 rpp:Rp K H' dp vp Gp
 nd:(G++Gp).Nodup
 len:G.length=d.nl
 lenp:Gp.length=dp.nl
 fr:∀a∈G++Gp,a∈Fp∨H a=none
noncomputable abbrev Qcd:=List D->Option (D×D)
noncomputable def QfB(K:Fgg)(n p:Nat)(den:Qcd):Sp:=λvs H Q _=>∃(ds:List D) (F:Nat->List Addr) (a:Addr) (d dp:D),ds.length=n/\vs.length=n/\(∀j dj,ds[j]? =some dj->∃v,vs[j]? =some v/\Rp K H dj v (F j))/\p<n/\vs[p]? =some (.ref a)∧
 (F p).Nodup/\(F p).length=(ds.getD p .non).nl/\(∀j,j<n->j≠p->∀b∈F p,b∉F j)/\den ds=some (d,dp)/\∀v H' G Gp,QkE K H (F p) d dp (.ref a) v H' G Gp->Q v H'
noncomputable def QaF(k p:Nat)(a:Addr)(ds:List D):En:=(Qab k ds).set p (some (.obj (.pin a) [ds.getD p .non],true))
noncomputable def Qi0(p:Nat)(a:Addr):Out->Option (D×D)
 | .rt (.obj .pair [d,.obj (.pin b) [dp]]) true=>if b=a then some (d,dp)else none
 | .nx ρ=>match ρ[p]? with
  | some (some (.obj (.pin b) [dp],true))=>if b=a then some (.non,dp)else none
  | _=>none
 | _=>none
def UIO(k p:Nat)(g:DS)(den:Qcd):Prop:=∀ds q,den ds=some q->∀a,∃o,g (QaF k p a ds)=some o/\Qi0 p a o=some q
section
variable {K:Fgg}{H H':Hp}
def Rps.Qxs{d:D}{v:V}{F:LAd}(h:Rps K H [d] [v] F):Rp K H d v F:=by
 simp only[Rps]at h;obtain⟨u,ws,F1,F2,e,eF,r,e2,e3⟩:=h;cases e;rw[eF,e3,Zs];exact r
def Rps.QsL{d:D}{v:V}{F:LAd}(h:Rp K H d v F):Rps K H [d] [v] F:=by
 simp only[Rps];exact⟨v,[],F,[],rfl,(Zs F).symm,h,rfl,rfl⟩
def Rp.Qc6{a:Addr}{d:D}{v:V}{F:LAd}(h:Rp K H (.obj (.pin a) [d]) v F):v= .ref a/\Rp K H d v F:=by
 simp only[Rp]at h;obtain⟨vs,A,G,eF,⟨e1,e2,e3⟩,r⟩:=h;subst e2 e3;rw[eF,ZaY];exact⟨e1,r.Qxs⟩
def Rp.QkM{a:Addr}{d:D}{F:LAd}(h:Rp K H d (.ref a) F):Rp K H (.obj (.pin a) [d]) (.ref a) F:=by
 simp only[Rp];exact⟨[.ref a],[],F,rfl,⟨rfl,rfl,rfl⟩,Rps.QsL h⟩
def Rp.Qu2{d e:D}{v:V}{F:LAd}(h:Rp K H (.obj .pair [d,e]) v F):∃u F1 F2,F=F1++F2/\Rp K H d v F1/\Rp K H e u F2:=by
 simp only[Rp]at h;obtain⟨vs,A,G,eF,⟨e1,_,u,e2⟩,r⟩:=h;subst e1 e2;simp only[Rps]at r;obtain⟨v',ws,F1,F2,e1,e2,r1,u',ws',F3,F4,e3,e4,r2,e5,e6⟩:=r;cases e1;cases e3;subst e6;exact⟨u,F1,F3,by rw[eF,e2,e4,Zs,ZaY],r1,r2⟩
def Rp.Qxx{d e:D}{v u:V}{F1 F2:LAd}(h1:Rp K H d v F1)(h2:Rp K H e u F2)(hn:v≠ .non):Rp K H (.obj .pair [d,e]) v (F1++F2):=by
 simp only[Rp];refine⟨[v,u],[],F1++F2,rfl,⟨rfl,hn,u,rfl⟩,?_⟩;simp only[Rps];exact⟨v,[u],F1,F2,rfl,rfl,h1,u,[],F2,[],rfl,(Zs F2).symm,h2,rfl,rfl⟩
def Qdv(a:Addr)(d:D):(D.obj (.pin a) [d]).nl=d.nl:=by simp only[D.nl,nls,Ob.n];omega
def Qqw(d e:D):(D.obj .pair [d,e]).nl=d.nl+e.nl:=by simp only[D.nl,nls,Ob.n];omega
end
section
variable {P:Program}{w:World}{K:Fgg}{mg:Str->Option Value}{base:Heap}
def QeB{k p:Nat}{a:Addr}{ds:List D}{j:Nat}{d:D}{b:Bool}(h:(QaF k p a ds)[j]? =some (some (d,b))):(j=p/\d= .obj (.pin a) [ds.getD p .non]/\b=true)∨(j≠p/\ds[j]? =some d/\b=d.flat):=by
 unfold QaF at h;by_cases hj:j=p
 .subst hj;by_cases hl:j<(Qab k ds).length
  .rw[Zm hl]at h;cases h;exact .inl ⟨rfl,rfl,rfl⟩
  .rw[Zw (by simp;omega)]at h;cases h
 .rw[Zh (Ne.symm hj)]at h;obtain⟨h1,h2⟩:=Qgd h;exact .inr ⟨hj,h1,h2⟩
def Qgo{H:Hp}{ds:List D}{vs:List V}{F:Nat->List Addr}{N:List Str}{n p:Nat}{a:Addr}(hl:ds.length=n)(hvl:vs.length=n)(hv:∀j dj,ds[j]? =some dj->∃v,vs[j]? =some v/\Rp K H dj v (F j))(hp:p<n)(ha:vs[p]? =some (.ref a))
  (nd:(F p).Nodup) (ln:(F p).length=(ds.getD p .non).nl) (ap:∀j,j<n->j≠p->∀b∈F p,b∉F j):Rel K (hide H (F p)) ((List.range n).flatMap F) [] (QaF N.length p a ds) F (start N vs) H:=by
 have at_:∀{j:Nat}{v:V},vs[j]? =some v->(start N vs)[j]? =some (some v):=λ{j v} e=>by
  have hi:j<vs.length:=(Zg.mp e).1;unfold L2.start;rw[Zan (by simpa using hi),Zy,e];rfl
 have hd:ds[p]? =some (ds.getD p .non):=by rw[ZD,Zz ⋯];rfl
 obtain⟨v0,e0,r0⟩:=hv p _ hd;rw[ha]at e0;cases e0;have inA:∀{j:Nat}{b:Addr},j<n->b∈F j->b∈(List.range n).flatMap F:=λ{j b} h1 h2=>List.mem_flatMap.mpr ⟨j,ZR.mpr h1,h2⟩;refine⟨by unfold QaF Qab L2.start;simp[hl,hvl],λj d b e=>?_,λj d e=>?_,λj d b e c hc=>?_,λt ht=>absurd ht ⋯,QmJ⟩
 .rcases QeB e with⟨rfl,rfl,rfl⟩ | ⟨hj,e1,_⟩
  .exact⟨_,at_ ha,Rp.QkM r0⟩
  .obtain⟨v,h1,h2⟩:=hv j d e1;exact⟨v,at_ h1,h2⟩
 .rcases QeB e with⟨rfl,rfl,_⟩ | ⟨hj,e1,ef⟩
  .refine⟨by rw[Qdv];exact ln,nd,λc hc=>Qi4 hc,λk d' b' hk ek c hc=>?_,λt ht=>absurd ht ⋯⟩;rcases QeB ek with⟨z,_⟩ | ⟨_,e2,_⟩
   .exact absurd z hk
   .have:k<ds.length:=(Zg.mp e2).1;exact ap k ⋯ hk c hc
  .obtain⟨v,h1,h2⟩:=hv j d e1;have z:F j=[]:=h2.Qcm ef.symm;rw[z];exact⟨(Qc9 d ef.symm).symm,Zad,λa ha=>by simp at ha,λ_ _ _ _ _ a ha=>by simp at ha,λ_ _ a ha=>by simp at ha⟩
 .rcases QeB e with⟨rfl,_⟩ | ⟨_,e1,_⟩
  .exact .inl (Qi4 hc)
  .have:j<ds.length:=(Zg.mp e1).1;exact .inr (inA ⋯ hc)
def Qvr{n p:Nat}{den:Qcd}{ps:List Str}(hn:ps.length=n):∀vs H Q E,QfB K n p den vs H Q E->vs.length=ps.length:=λvs H Q E ⟨ds,F,a,d,dp,h1,h2,_⟩=>by rw[hn,h2]
def Qxn{H:Hp}{F:Nat->List Addr}{p:Nat}{a:Addr}{A0:LAd}{o:Out}{d dp:D}{Q:VK}(ho:Qi0 p a o=some (d,dp))(q:∀v H' G Gp,QkE K H (F p) d dp (.ref a) v H' G Gp->Q v H'):
  Fits K (hide H (F p)) A0 [] {nx:=λ_ H'=>Q .non H',rt:=Q} o:=by
 unfold Qi0 at ho;split at ho
 .rename_i d' b dp';split at ho
  .rename_i hb;cases ho;subst hb;refine λv H' G rt=>?_;obtain⟨u,G1,G2,eG,r1,r2⟩:=rt.rp.Qu2;obtain⟨e,r3⟩:=r2.Qc6;subst e eG;obtain⟨n1,n2,n3⟩:=rt.cnt rfl;rw[Qqw,Qdv,Zo]at n2;have l1:=r1.Qaw;have l2:=r3.Qaw;exact q v H' G1 G2 ⟨rt.same,r1,r3,n1,⋯,⋯,λc hc=>QiG (n3 c hc)⟩
  .cases ho
 .rename_i ρ;split at ho
  .rename_i b dp' hρ;split at ho
   .rename_i hb;cases ho;subst hb;refine λU H' F' rel=>?_;obtain⟨v,e,rp⟩:=rel.val p _ _ hρ;obtain⟨e,r3⟩:=rp.Qc6;subst e;obtain⟨o1,o2,o3,_,_⟩:=rel.own p _ hρ;rw[Qdv]at o1;exact q .non H' [] (F' p) ⟨rel.same,.QfJ,r3,by simpa using o2,rfl,o1,λc hc=>QiG (o3 c (by simpa using hc))⟩
   .cases ho
  .cases ho
 .cases ho
def QAl{x qual:Str}{st:Stmt}{f:Addr}{fd:FuncData}{ps:List Str}{k n p:Nat}{J:Th}{g:DS}{den:Qcd}(F:Fun K x qual st f fd)(S:Qar (namesOf (Qg st)) ps (Qg st))
  (hJ:∀(cdv:Value) (A:Around) (outer:List Env) (s:Shared) (H:Hp) (E:XK),Qao k (A.deeper (envOfC qual (Qg st) s.heap.objs.size f cdv))->QJ (QbP CX0 P w K mg base (namesOf (Qg st)) qual (Qg st) f cdv A outer s H E).nox J)
  (hc:Q5 n J (QY st)=some g) (hU:UIO (namesOf (Qg st)).length p g den):Qau P w K mg base CX0 (k+1) f fd ps (QfB K ps.length p den):=by
 refine F.ok S (Qvr rfl) λcdv A outer s H vs Q E hr h=>?_;obtain⟨ds,L,a,d,dp,h1,h2,h3,h4,h5,h6,h7,h8,h9,q⟩:=h;refine⟨_,(QeD n).Ss _ _ _ g (hJ cdv A outer s H E hr) hc (hide H (L p)) ((List.range ps.length).flatMap L),?_⟩;obtain⟨o,e1,e2⟩:=hU ds _ h9 a;exact⟨_,[],L,o,Qgo h1 h2 h3 h4 h5 h6 h7 h8,e1,Qxn e2 q⟩
end
noncomputable def QeG(p:Nat)(fa:DE):DS:=λρ=>(fa ρ).bind λr=>match ρ[p]? with
 | some (some (dp,true))=>if(r.norm.fr && decide r.norm.M.Nodup && !r.norm.M.contains p && !r.d.Qq9)=true then some (.rt (.obj .pair [r.d,dp]) true)else none
 | _=>none
section
variable {X:Cx}{e:Expr}{fa:DE}{pos:Pos}{p:Nat}
def Qxz(he:SE X e fa):S1 X (.Return (some e) pos) (QeG p fa):=λH0 A0=>(Qkt (he H0 A0)).mono λE U H=>exK λρ hs F o rel e q=>by
 refine Qf e λr e1 e=>?_;split at e
 .rename_i dp hρ;split at e
  .rename_i hc;cases e;simp only[Zi,decide_eq_true_eq,ZW]at hc;obtain⟨⟨⟨c1,c2⟩,c3⟩,c4⟩:=hc;refine⟨ρ,hs,F,r,rel,e1,λv H' G p1=>q v H' (G++F p) ?_⟩;have p':=p1.norm;obtain⟨g1,g2⟩:=p'.fresh rel c1 c2;have g3:=(p'.cnt c1).2;rw[r.Qdw]at g3;obtain⟨u,eu,ru⟩:=rel.val p dp true hρ;obtain⟨o1,o2,o3,o4,o5⟩:=rel.own p dp hρ;refine⟨rel.same.trans p1.same,Rp.Qxx p1.rp (ru.same p1.same) ?_,λa ha=>?_,λ_=>⟨ZF.mpr ⟨g1,o2,λa ha b hb hab=>?_⟩,by rw[Qqw,Zo,g3,o1],λa ha=>?_⟩⟩
   .have:=Qxm p1.rp;rw[c4]at this;exact of_decide_eq_false this
   .rcases Zr.mp ha with z | z
    .exact .inl (g2 a z).1
    .exact .inl (o3 a z)
   .subst hab;rcases(g2 a ha).2 with z | ⟨i,d,hi,ei,mi⟩
    .obtain⟨w,hw⟩:=ru.mem a hb;rw[z]at hw;cases hw
    .have hne:i≠p:=λz=>by
      subst z;have:r.norm.M.contains i=true:=ZI.mpr hi;rw[this]at c3;cases c3
     exact o4 i d true hne ei a hb mi
   .rcases Zr.mp ha with z | z
    .exact(g2 a z).1
    .exact o3 a z
  .cases e
 .cases e
end
noncomputable abbrev ClT:=List (Str×List Str)
def Qf1(K:Fgg)(T:ClT):Prop:=∀x fs,look x T=some fs->∀C,PySem.W.nsIn K mainGlobals x=some (some (.ref C))->Cls K C/\∀f∈fs,Qct K C f
noncomputable def unp:D->D
 | .obj (.pin _) [d]=>d
 | d=>d
noncomputable def Qlz(T:ClT)(f:Str)(d:D):Option D:=match unp d with
 | .obj (.ins x ns) ds=>(look x T).bind λfs=>if fs.contains f=true then(posOf f ns).bind λj=>ds[j]? else none
 | _=>none
noncomputable def Qew(T:ClT)(f:Str)(fa:DE):DE:=λρ=>(fa ρ).bind λr=>(Qlz T f r.d).map λd=>R.norm ⟨d,r.fr,r.M⟩
section
variable {K:Fgg}{H H':Hp}
def Rp.unp{d:D}{v:V}{F:LAd}(h:Rp K H d v F):Rp K H (HS.unp d) v F/\(HS.unp d).nl=d.nl:=by
 unfold HS.unp;split
 .exact⟨h.Qc6.2,(Qdv _ _).symm⟩
 .exact⟨h,rfl⟩
def Rp.QgU{x:Str}{ns:List Str}{ds:List D}{v:V}{F:LAd}(h:Rp K H (.obj (.ins x ns) ds) v F):
  ∃a C dx vs G,v= .ref a/\F=a::G/\PySem.W.nsIn K mainGlobals x=some (some (.ref C))/\H a=some (.ins C dx (ns.zip vs))/\ns.length=vs.length/\Rps K H ds vs G:=by
 simp only[Rp]at h;obtain⟨vs,A,G,eF,⟨a,C,dx,e1,e2,e3,e4,e5⟩,r⟩:=h;subst e2;exact⟨a,C,dx,vs,G,e1,eF,e3,e4,e5,r⟩
def Rp.Qkx{x:Str}{ns:List Str}{ds:List D}{a C dx:Addr}{vs:List V}{G:LAd}(e3:PySem.W.nsIn K mainGlobals x=some (some (.ref C)))(e4:H a=some (.ins C dx (ns.zip vs)))(e5:ns.length=vs.length)(r:Rps K H ds vs G):Rp K H (.obj (.ins x ns) ds) (.ref a) (a::G):=by
 simp only[Rp];exact⟨vs,[a],G,rfl,⟨a,C,dx,rfl,rfl,e3,e4,e5⟩,r⟩
def Qhp{f:Str}:∀{ns:List Str}{vs:List V}{j:Nat}{v:V},posOf f ns=some j->vs[j]? =some v->(ns.zip vs).lookup f=some v
 | [],_,_,_,h,_=>by cases h
 | g::ns,[],_,_,_,e=>by simp at e
 | g::ns,u::vs,j,v,h,e=>by
  unfold posOf at h;split at h
  .rename_i hg;cases h;subst hg;simp at e;subst e;simp[Zu]
  .rename_i hg;obtain⟨k,hk,rfl⟩:=Zb.mp h;rw[ZaG,Zu,beq_eq_false_iff_ne.mpr hg];exact Qhp hk (by simpa using e)
def QfP{f:Str}:∀{ns:List Str}{vs:List V},f∉ns->(ns.zip vs).lookup f=none
 | [],_,_=>rfl
 | g::ns,[],_=>rfl
 | g::ns,u::vs,h=>by
  have h1:f≠g:=λz=>h (by rw[z];exact Zf);rw[ZaG,Zu,beq_eq_false_iff_ne.mpr h1];exact QfP λz=>h (Zc _ z)
def QnB{f:Str}{y:V}:∀{ns:List Str}{vs:List V}{j:Nat},posOf f ns=some j->ns.length=vs.length->QbC f y (ns.zip vs)=ns.zip (vs.set j y)
 | [],_,_,h,_=>by cases h
 | g::ns,[],_,_,e=>by simp at e
 | g::ns,u::vs,j,h,e=>by
  unfold posOf at h;split at h
  .rename_i hg;cases h;subst hg;simp[QbC]
  .rename_i hg;obtain⟨k,hk,rfl⟩:=Zb.mp h;rw[ZaG,QbC,if_neg (Ne.symm hg),QnB hk (by simpa using e)];rfl
def QnQ{f:Str}{y:V}:∀{ns:List Str}{vs:List V},posOf f ns=none->ns.length=vs.length->QbC f y (ns.zip vs)=(ns++[f]).zip (vs++[y])
 | [],[],_,_=>rfl
 | [],_::_,_,e=>by simp at e
 | g::ns,[],_,e=>by simp at e
 | g::ns,u::vs,h,e=>by
  unfold posOf at h;split at h
  .cases h
  .rename_i hg;have hk:posOf f ns=none:=by
    cases q:posOf f ns with
    | none=>rfl
    | some k=>rw[q]at h;cases h
   rw[ZaG,QbC,if_neg (Ne.symm hg),QnQ hk (by simpa using e)];rfl
end
section
variable {X:Cx}{T:ClT}{f:Str}{e:Expr}{fa:DE}{pos:Pos}
def Qy4(hT:Qf1 X.K T)(he:SE X e fa)(hb:attributeBase e f X.env (eval e X.env)=eval e X.env):SE X (.Attribute e f pos) (Qew T f fa):=λH0 A0=>(QyH (he H0 A0) hb).mono λU H Q=>exK λρ hs F r rel e q=>by
 refine Qf e λra e1 e=>?_;obtain⟨d,e2,rfl⟩:=Zb.mp e;refine⟨ρ,hs,F,ra,rel,e1,λv H1 G p=>?_⟩;unfold Qlz at e2;obtain⟨ru,rn⟩:=p.rp.unp;split at e2
 .rename_i x ns ds hu;rw[hu]at ru rn;refine Qf e2 λfs h1 e2=>?_;split at e2
  .rename_i hf;refine Qf e2 λj h2 e2=>?_;obtain⟨a,C,dx,vs,G0,ev,eG,e3,e4,e5,rs⟩:=ru.QgU;obtain⟨c1,c2⟩:=hT x fs h1 C e3;obtain⟨u,F1,G1,F2,g1,g2,g3,g4⟩:=rs.get e2;refine⟨a,C,dx,_,u,ev,e4,c1,c2 f (ZI.mp hf),Qhp h2 g1,q u H1 G1 (p.sub g3 (λb=>?_) λhl=>g4 ?_).norm⟩
   .rw[eG,g2,Zaz,Zaf,Zaf];omega
   .rw[eG,Zj,← rn]at hl;simp only[D.nl,Ob.n]at hl;omega
  .cases e2
 .cases e2
end
noncomputable def putD(T:ClT)(f:Str)(y:D)(d:D):Option D:=match d with
 | .obj (.ins x ns) ds=>(look x T).bind λfs=>if(fs.contains f && decide (ns.length<1000))=true then(match posOf f ns with
  | some j=>if j<ds.length then some (.obj (.ins x ns) (ds.set j y))else none
  | none=>some (.obj (.ins x (ns++[f])) (ds++[y])))else none
 | _=>none
noncomputable def QiA(g:D->Option D)(d:D):Option D:=match d with
 | .obj (.pin a) [e]=>(g e).map λz=> .obj (.pin a) [z]
 | d=>g d
section
variable {K:Fgg}{H0 H H':Hp}{A0:LAd}{hs:List (V×D×List Addr)}{ρ:En}{F:Nat->List Addr}{U:L2.St}{i:Nat}{d d' dy:D}{v y:V}{G:LAd}{T:ClT}{f:Str}
def Qmq{a:Addr}{u:HO}{P:LAd}(h:a∈P):QE (hide H P) (upd H a u):=λb o e=>by
 by_cases q:b∈P
 .rw[Qi4 q]at e;cases e
 .rw[QhH q]at e;rw[QM (λz:b=a=>q (by rw[z];exact h))];exact e
def QwU{a:Addr}{L:LAd}(hT:Qf1 K T)(rp:Rp K H d v L)(nd:L.Nodup)(ln:L.length=d.nl)(ry:Rp K H dy y G)(gn:G.Nodup)(gl:G.length=dy.nl)(ap:∀b∈G,b∉L)(e:putD T f dy d=some d'):
  ∃a C dx fs,v= .ref a/\H a=some (.ins C dx fs)/\Cls K C/\Qct K C f/\fs.length<1000/\a∈L/\∃L',Rp K (upd H a (.ins C dx (QbC f y fs))) d' v L'/\L'.Nodup/\L'.length=d'.nl/\∀b∈L',b∈L∨b∈G:=by
 unfold putD at e;split at e
 .rename_i x ns ds;refine Qf e λfs h1 e=>?_;split at e
  .rename_i hc;simp only[Zi,decide_eq_true_eq]at hc;obtain⟨a,C,dx,vs,G0,ev,eL,e3,e4,e5,rs⟩:=rp.QgU;obtain⟨c1,c2⟩:=hT x fs h1 C e3;subst eL;obtain⟨na,n0⟩:=ZV.mp nd;have hm:∀b∈[a],Qe7 (H b):=λb hb=>by rw[Zl.mp hb,e4];exact True.intro
   have sm:∀u,QE (hide H [a]) (upd H a u):=λu=>Qmq (List.mem_singleton_self a);have keep:∀{b:Addr},b∈G0->b∉[a]:=λ{b} hb z=>na (by rw[Zl.mp z]at hb;exact hb);have keepG:∀{b:Addr},b∈G->b∉[a]:=λ{b} hb z=>ap b hb (by rw[Zl.mp z];exact Zf);have l0:G0.length=nls ds:=by
    rw[Zj]at ln;simp only[D.nl,Ob.n]at ln;omega
   refine⟨a,C,dx,_,ev,e4,c1,c2 f (ZI.mp hc.1),by rw[List.length_zip];omega,Zf,?_⟩;subst ev;split at e
   .rename_i j hj;split at e
    .rename_i hlt;cases e;have hd:ds[j]? =some ds[j]:=Zz hlt;obtain⟨F1,Gj,F2,w,eG,ew,r1,r2,r3⟩:=rs.split hd;have hvl:j<vs.length:=(Zg.mp ew).1;have i1:∀b∈F1,b∈G0:=λb hb=>by rw[eG];exact Ze _ hb
     have i2:∀b∈F2,b∈G0:=λb hb=>by rw[eG];exact Zd _ (Zd _ hb)
     have ij:∀b∈Gj,b∈G0:=λb hb=>by rw[eG];exact Zd _ (Ze _ hb)
     rw[eG]at n0;obtain⟨m1,m2,m3⟩:=ZF.mp n0;obtain⟨m4,m5,m6⟩:=ZF.mp m2;refine⟨a::(F1++(G++F2)),Rp.Qkx e3 (by rw[Qat,QnB hj e5]) (by rw[Zay];exact e5) (Rps.Qv8 (r1.but hm (sm _) λb hb=>keep (i1 b hb)) (ry.but hm (sm _) λb hb=>keepG hb) (r3.but hm (sm _) λb hb=>keep (i2 b hb)) hlt hvl),?_,?_,λb hb=>?_⟩
     .refine ZV.mpr ⟨λz=>?_,ZF.mpr ⟨m1,ZF.mpr ⟨gn,m5,λb hb c hcc hbc=>?_⟩,λb hb c hcc hbc=>?_⟩⟩
      .rcases Zr.mp z with z | z
       .exact na (i1 a z)
       .rcases Zr.mp z with z | z
        .exact ap a z Zf
        .exact na (i2 a z)
      .subst hbc;exact ap b hb (Zc _ (i2 b hcc))
      .subst hbc;rcases Zr.mp hcc with z | z
       .exact ap b z (Zc _ (i1 b hb))
       .exact m3 b hb b (Zd _ z) rfl
     .have k1:=Qg4 (e:=dy) hd;have k2:=r2.Qaw;have k3:=congrArg List.length eG;simp only[Zo]at k3;have k4:=r1.Qaw;have k5:=r3.Qaw;have k6:nls ds=nls (ds.take j)+(ds[j].nl+nls (ds.drop (j+1))):=by
       have:ds=ds.take j++ds[j]::ds.drop (j+1):=by rw[← ZT hlt,ZaR]
       have h':=congrArg nls this;rw[Qcz]at h';exact h'
      simp only[D.nl,Ob.n,Zj,Zo];omega
     .rcases Zn.mp hb with z | z
      .exact .inl (by rw[z];exact Zf)
      .rcases Zr.mp z with z | z
       .exact .inl (Zc _ (i1 b z))
       .rcases Zr.mp z with z | z
        .exact .inr z
        .exact .inl (Zc _ (i2 b z))
    .cases e
   .rename_i hj;cases e;refine⟨a::(G0++G),Rp.Qkx e3 (by rw[Qat,QnQ hj e5]) (by rw[Zo,Zo,e5];rfl) ((rs.but hm (sm _) λb hb=>keep hb).append (Rps.QsL (ry.but hm (sm _) λb hb=>keepG hb))),?_,?_,λb hb=>?_⟩
    .refine ZV.mpr ⟨λz=>?_,ZF.mpr ⟨n0,gn,λb hb c hcc hbc=>?_⟩⟩
     .rcases Zr.mp z with z | z
      .exact na z
      .exact ap a z Zf
     .subst hbc;exact ap b hcc (Zc _ hb)
    .simp only[D.nl,Ob.n,Zj,Zo,Qcz,nls];omega
    .rcases Zn.mp hb with z | z
     .exact .inl (by rw[z];exact Zf)
     .rcases Zr.mp z with z | z
      .exact .inl (Zc _ z)
      .exact .inr z
  .cases e
 .cases e
def QtG{g:D->Option D}{d d':D}(h:QiA g d=some d'):(∃a e z,d= .obj (.pin a) [e]/\g e=some z/\d'= .obj (.pin a) [z])∨g d=some d':=by
 unfold QiA at h;split at h
 .rename_i a e;obtain⟨z,h1,h2⟩:=Zb.mp h;exact .inl ⟨a,e,z,rfl,h1,h2.symm⟩
 .exact .inr h
def Rel.Qyo(hT:Qf1 K T)(r:Rel K H0 A0 hs ρ F U H)(e:ρ[i]? =some (some (d,true)))(ry:Rp K H dy y G)(gn:G.Nodup)(gl:G.length=dy.nl)(gs:∀b∈G,Qme H0 hs ρ F i b/\b∉F i)(hp:QiA (putD T f dy) d=some d'):
  ∃v a C dx fs,U[i]? =some (some v)/\v= .ref a/\H a=some (.ins C dx fs)/\Cls K C/\Qct K C f/\fs.length<1000/\∃F',Rel K H0 A0 hs (ρ.set i (some (d',true))) F' U (upd H a (.ins C dx (QbC f y fs))):=by
 obtain⟨v,hv,rp⟩:=r.val i d true e;obtain⟨o1,o2,o3,o4,o5⟩:=r.own i d e
 have core:∀{e0 z:D},Rp K H e0 v (F i)->(F i).length=e0.nl->putD T f dy e0=some z->(∀{H'':Hp}{L':LAd},Rp K H'' z v L'->Rp K H'' d' v L')->z.nl=d'.nl→
   ∃v a C dx fs,U[i]? =some (some v)/\v= .ref a/\H a=some (.ins C dx fs)/\Cls K C/\Qct K C f/\fs.length<1000/\∃F',Rel K H0 A0 hs (ρ.set i (some (d',true))) F' U (upd H a (.ins C dx (QbC f y fs))):=λ{e0 z} r0 l0 hz up hn=>by
  obtain⟨a,C,dx,fs,ev,ha,c1,c2,c3,hm,L',rl,nl',ll,sub⟩:=QwU (a:=0) hT r0 o2 l0 ry gn gl (λb hb=>(gs b hb).2) hz;refine⟨v,a,C,dx,fs,hv,ev,ha,c1,c2,c3,_,r.io e hv (Qmq hm) (up rl) nl' (by rw[ll,hn]) λb hb=>?_⟩;rcases sub b hb with q | q
  .exact r.Qoe e (.inl q)
  .exact(gs b q).1
 rcases QtG hp with⟨a,e0,z,rfl,hz,rfl⟩ | hz
 .obtain⟨ea,r0⟩:=rp.Qc6;subst ea;exact core r0 (by rw[o1,Qdv]) hz (λh=>Rp.QkM h) (Qdv _ _).symm
 .exact core rp o1 hz (λh=>h) rfl
def Qif:∀(M:List Nat) (ρ:En) (i:Nat),i∉M->(kill M ρ)[i]? =ρ[i]?
 | [],ρ,i,_=>rfl
 | j::M,ρ,i,h=>by
  unfold kill;rw[Qif M _ i (λz=>h (Zc _ z)),Zh (λz=>h (by rw[z];exact Zf))]
def Q9.Qoe{rr:R}{v:V}(r:Rel K H0 A0 hs ρ F U H)(p:Q9 K ρ F H H' rr v G)(hf:rr.fr=true)(nd:rr.M.Nodup)(hi:i∉rr.M)(e:ρ[i]? =some (some (d,true))):∀b∈G,Qme H0 hs (kill rr.M ρ) F i b/\b∉F i:=by
 obtain⟨gn,gs⟩:=p.fresh r hf nd;have apart:∀(j:Nat) d b,(kill rr.M ρ)[j]? =some (some (d,b))->∀a∈G,a∉F j:=λj d b e a ha hj=>by
  obtain⟨b',e',_⟩:=(Qb4 rr.M ρ).2 j d b e;rcases(gs a ha).2 with q | ⟨k,d',hk,ek,hak⟩
  .obtain⟨vs,w⟩:=r.mem e' hj;rw[q]at w;cases w
  .have hjk:j≠k:=λz=>by subst z;exact Qf7 rr.M ρ j d b hk e
   exact(r.own k d' ek).2.2.2.1 j d b' hjk e' a hak hj
 refine λb hb=>⟨⟨(gs b hb).1,λj d' b' ej hj=>apart j d' b' ej b hb,λt ht hj=>?_⟩,apart i d true (by rw[Qif _ _ _ hi];exact e) b hb⟩;rcases(gs b hb).2 with q | ⟨k,d',hk,ek,hak⟩
 .obtain⟨vs,w⟩:=(r.held t ht).1.mem b hj;rw[q]at w;cases w
 .exact(r.own k d' ek).2.2.2.2 t ht b hak hj
end
noncomputable def QiY(T:ClT)(i:Nat)(f:Str)(fa:DE):DS:=λρ=>(fa ρ).bind λr=>match ρ[i]? with
 | some (some (d,true))=>if(r.norm.fr && decide r.norm.M.Nodup && !r.norm.M.contains i)=true then(QiA (putD T f r.d) d).map λd'=> .nx ((kill r.norm.M ρ).set i (some (d',true)))else none
 | _=>none
noncomputable def Qja(T:ClT)(i:Nat)(f:Str)(fa:DE):DS:=λρ=>match ρ[i]? with
 | some (some (d,true))=>(Qlz T f d).bind λx=>match x with
  | .int k=>(fa ρ).bind λr=>match r.d with
   | .int m=>(QiA (putD T f (.int (k+m))) d).map λd'=> .nx (ρ.set i (some (d',true)))
   | _=>none
  | _=>none
 | _=>none
section
variable {X:Cx}{T:ClT}{f:Str}{o e:Expr}{fa:DE}{pos pos':Pos}{i:Nat}
def QwZ(hT:Qf1 X.K T)(ho:PE X o (Qhk i))(he:SE X e fa)(hs:swapsWith e (some (.Attribute o f pos')) pos.line X.env=pure false):S1 X (.Assign [.Attribute o f pos'] e pos) (QiY T i f fa):=λH0 A0=>(QyD ho (he H0 A0) hs).mono λE U H=>exK λρ hs F out rel e q=>by
 refine Qf e λr e1 e=>?_;split at e
 .rename_i d hρ;split at e
  .rename_i hc;simp only[Zi,decide_eq_true_eq,ZW]at hc;obtain⟨⟨c1,c2⟩,c3⟩:=hc;have hi:i∉r.norm.M:=λz=>by rw[ZI.mpr z]at c3;cases c3
   obtain⟨d',e2,rfl⟩:=Zb.mp e;refine⟨ρ,hs,F,r,rel,e1,λy H1 G p=>?_⟩;have p':=p.norm;obtain⟨gn,_⟩:=p'.fresh rel c1 c2;have gl:=(p'.cnt c1).2;have lo:=p'.Qoe rel c1 c2 hi hρ;rw[r.Qdw]at gl;have r1:=(rel.ext p.same).weak (Qb4 r.norm.M ρ);obtain⟨v,a,C,dx,fs,hv,ev,ha,k1,k2,k3,F',rel'⟩:=r1.Qyo hT (by rw[Qif _ _ _ hi];exact hρ) p.rp gn gl lo e2;exact⟨v,hv,a,C,dx,fs,ev,ha,k1,k2,k3,q _ _ F' rel'⟩
  .cases e
 .cases e
def QwE(hT:Qf1 X.K T)(ho:PE X o (Qhk i))(he:SE X e fa):S1 X (.AugAssign (.Attribute o f pos') .Add e pos) (Qja T i f fa):=λH0 A0=>(Qs3 ho (he H0 A0) Qyr).mono λE U H=>exK λρ hs F out rel e q=>by
 unfold Qja at e;split at e
 .rename_i d hρ;refine Qf e λx hx e=>?_;split at e
  .rename_i k;refine Qf e λr e1 e=>?_;split at e
   .rename_i m hm;obtain⟨d',e2,rfl⟩:=Zb.mp e;obtain⟨v,hv,rp⟩:=rel.val i d true hρ;unfold Qlz at hx;obtain⟨ru,rn⟩:=rp.unp;split at hx
    .rename_i x ns ds hu;rw[hu]at ru rn;refine Qf hx λfs h1 hx=>?_;split at hx
     .rename_i hf;refine Qf hx λj h2 hx=>?_;obtain⟨a,C,dx,vs,G0,ev,eG,e3,e4,e5,rs⟩:=ru.QgU;obtain⟨c1,c2⟩:=hT x fs h1 C e3;obtain⟨u,F1,G1,F2,g1,g2,g3,g4⟩:=rs.get hx;have eu:=g3.int_inv;subst eu;refine⟨v,hv,a,C,dx,_,_,ev,e4,c1,c2 f (ZI.mp hf),Qhp h2 g1,ρ,hs,F,r,rel,e1,λy H1 G p=>?_⟩;have ey:=(hm▸p.rp:Rp X.K H1 (.int m) y G).int_inv;subst ey;obtain⟨v',a',C',dx',fs',hv',ev',ha',k1,k2,k3,F',rel'⟩:=(rel.ext p.same).Qyo (y:= .int (k+m)) (G:=[]) hT hρ .int_mk Zad rfl (λb hb=>by simp at hb) e2;rw[hv]at hv';cases hv';subst ev;cases ev';have hh:=p.same _ _ e4;rw[ha']at hh;cases hh;exact⟨k,m,rfl,rfl,dx,_,ha',k3,q _ _ F' rel'⟩
     .cases hx
    .cases hx
   .cases e
  .cases e
 .cases e
end
structure IoR where
 n:Nat
 p:Nat
 den:Qcd
noncomputable abbrev MeT:=List (Str×List (Str×IoR))
def Qtw(X:Cx)(T:MeT):Prop:=∀x ms m r,look x T=some ms->look m ms=some r->∀C,PySem.W.nsIn X.K mainGlobals x=some (some (.ref C))->∃k f fd ps,Cls X.K C/\QlG X.K C m f/\Qau X.prog X.w X.K X.mg X.base CX0 k f fd ps (QfB X.K r.n 0 r.den)/\Qao k X.A/\Binds X.K fd ps []
noncomputable def ioM(T:MeT)(m:Str)(ds:List D)(d:D):Option (D×D):=match d with
 | .obj (.ins x ns) es=>(look x T).bind λms=>(look m ms).bind λr=>if(!ns.contains m && decide (r.n=ds.length+1))=true then r.den (.obj (.ins x ns) es::ds)else none
 | _=>none
noncomputable def Qgt(g:D->Option (D×D))(d:D):Option (D×D):=match d with
 | .obj (.pin a) [e]=>(g e).map λq=>(q.1,.obj (.pin a) [q.2])
 | d=>g d
section
variable {K:Fgg}{H0 H H':Hp}{A0:LAd}{hs:List (V×D×List Addr)}{ρ:En}{F:Nat->List Addr}{U:L2.St}{i x:Nat}{d d2 dp:D}{v v2:V}{G Gp:LAd}
def QoT{g:D->Option (D×D)}{d:D}{q:D×D}(h:Qgt g d=some q):∃e z,g e=some (q.1,z)/\((∃a,d= .obj (.pin a) [e]/\q.2= .obj (.pin a) [z])∨(d=e/\q.2=z)):=by
 unfold Qgt at h;split at h
 .rename_i a e;obtain⟨z,h1,h2⟩:=Zb.mp h;subst h2;exact⟨e,z.2,h1,.inl ⟨a,rfl,rfl⟩⟩
 .exact⟨d,q.2,h,.inr ⟨rfl,rfl⟩⟩
def Rel.Qv9(r:Rel K H0 A0 hs ρ F U H)(e:ρ[i]? =some (some (d,true)))(hv:U[i]? =some (some v))(ip:QkE K H (F i) d2 dp v v2 H' G Gp){dq:D}(up:Rp K H' dp v Gp->Rp K H' dq v Gp)(un:dq.nl=dp.nl)(hx:x≠i):
  ∃F',Rel K H0 A0 hs ((ρ.set i (some (dq,true))).set x (some (d2,true))) F' (U.set x (some v2)) H':=by
 obtain⟨n1,n2,n3⟩:=ZF.mp ip.nd;have lo:∀b∈G++Gp,Qme H0 hs ρ F i b:=λb hb=>r.Qoe e (ip.fr b hb);have r1:=r.io e hv ip.same (up ip.rpp) n2 (by rw[un];exact ip.lenp) λb hb=>lo b (Zd _ hb);refine⟨_,r1.new (i:=x) ip.rp n1 ip.len λb hb=>⟨(lo b (Ze _ hb)).1,λj d' b' ej hj=>?_,(lo b (Ze _ hb)).2.2⟩⟩;by_cases hji:j=i
 .subst hji;dsimp only;rw[if_pos rfl];exact λz=>n3 b hb b z rfl
 .dsimp only;rw[if_neg hji];rw[Zh (Ne.symm hji)]at ej;exact(lo b (Ze _ hb)).2.1 j d' b' ej hji
end
noncomputable def QeH(T:MeT)(x i:Nat)(m:Str)(fs:DA):DS:=λρ=>(fs ρ).bind λr=>match ρ[i]? with
 | some (some (d,true))=>if(decide (x≠i) && !r.M.contains i)=true then(Qgt (ioM T m r.ds) d).map λq=> .nx ((ρ.set i (some (q.2,true))).set x (some (q.1,true)))else none
 | _=>none
section
variable {X:Cx}{T:MeT}{m nm:Str}{o e:Expr}{es:List Expr}{fs:DA}{pos cpos apos p:Pos}{i x:Nat}
def Qos{K:Fgg}{H:Hp}{ds:List D}{vs:List V}{G:LAd}(h:Rps K H ds vs G):∃F:Nat->List Addr,(∀j b,b∈F j->b∈G)/\∀j d,ds[j]? =some d->∃v,vs[j]? =some v/\Rp K H d v (F j):=by
 obtain⟨Fs,h1,h2⟩:=h.parts;refine⟨λj=>Fs.getD j [],λj b hb=>?_,h2⟩;dsimp only at hb;rw[ZD]at hb;by_cases hj:j<Fs.length
 .rw[Zz hj]at hb;exact h1 _ (ZbF hj) b hb
 .rw[Zw ⋯]at hb;simp at hb
def Qx0{pl:Sem Bool}(hN:X.N.Nodup)(hx1:X.N[x]? =some nm)(hx2:Loc X.env.scope nm)(hx3:X.fn nm=true∨X.env.scope.names.lookup nm=some .local)(hM:Qtw X T)(ho:PE X o (Qhk i))(ha:SA X (e::es) fs)
  (hst:starEach (e::es) X.env=(false,eval e X.env)::starEach es X.env) (hpl:(backTo cpos (starEach es X.env)).any (·.1)=false)
  (ht:eval (.Call (.Attribute o m apos) (e::es) [] cpos) X.env=(do
   let ov ← eval o X.env
   standAt apos.atName
   let (f,first) ← holding [ov] (getMethod ov m pl)
   callWith cpos f first (backTo cpos (starEach (e::es) X.env)) (backToKw cpos (keywordEach [] X.env)))):
  S1 X (.Assign [.Name nm p] (.Call (.Attribute o m apos) (e::es) [] cpos) pos) (QeH T x i m fs):=by
 intro H0 A0 pins s U H E I Z;obtain⟨ρ,hs,F,out,rel,e,q⟩:=Z;refine Qf e λr e1 e=>?_;split at e
 .rename_i d hρ;split at e
  .rename_i hc;simp only[Zi,decide_eq_true_eq,ZW]at hc;obtain⟨hxi,hM0⟩:=hc;have hi:i∉r.M:=λz=>by rw[ZI.mpr z]at hM0;cases hM0
   obtain⟨qq,e2,rfl⟩:=Zb.mp e;obtain⟨e0,z,hg,hd⟩:=QoT e2;obtain⟨v,hv,rp⟩:=rel.val i d true hρ;obtain⟨o1,o2,o3,o4,o5⟩:=rel.own i d hρ;have r0:Rp X.K H e0 v (F i)/\e0.nl=d.nl:=by
    rcases hd with⟨a,rfl,_⟩ | ⟨rfl,_⟩
    .exact⟨rp.Qc6.2,(Qdv _ _).symm⟩
    .exact⟨rp,rfl⟩
   have un:qq.2.nl=z.nl:=by
    rcases hd with⟨a,rfl,h2⟩ | ⟨rfl,h2⟩
    .rw[h2,Qdv]
    .rw[h2]
   have up:∀{H'':Hp}{L:LAd},Rp X.K H'' z v L->Rp X.K H'' qq.2 v L:=λ{H'' L} h=>by
    rcases hd with⟨a,rfl,h2⟩ | ⟨rfl,h2⟩
    .obtain⟨ea,_⟩:=rp.Qc6;rw[h2];subst ea;exact Rp.QkM h
    .rw[h2];exact h
   unfold ioM at hg;split at hg
   .rename_i cn ns ds0;refine Qf hg λms h1 hg=>?_;refine Qf hg λio h2 hg=>?_;split at hg
    .rename_i hn;simp only[Zi,decide_eq_true_eq,ZW]at hn;obtain⟨hn1,hn2⟩:=hn;obtain⟨a,C,dx,vs0,G0,ev,eG,k3,k4,k5,rs⟩:=r0.1.QgU;obtain⟨k,f,fd,ps,c1,c2,c3,c4,c5⟩:=hM cn ms m io h1 h2 C k3;subst ev;refine(QeR hN hx1 hx2 (Qwd ho c1 c2 c3 c4 c5 .nil Qfc (ha H0 A0) hst hpl ht) (Qca rfl) hx3) pins s U H E I ⟨_,hv,a,dx,_,rfl,k4,QfP λz=>?_,ρ,hs,F,r,rel,e1,λvs H1 G p1=>?_⟩
     .rw[ZI.mpr z]at hn1;cases hn1
     .obtain⟨Fs,f1,f2⟩:=Qos p1.rp;have hlen:=p1.rp.length;have ap:∀b∈F i,b∉G:=λb hb hbG=>by
       rcases p1.src b hbG with w | ⟨j,d',b',ej,mj,hj⟩
       .obtain⟨u,hu⟩:=rp.mem b hb;rw[w]at hu;cases hu
       .by_cases hji:j=i
        .subst hji;rw[hρ]at ej;cases ej;exact hi (hj rfl)
        .exact o4 j d' b' hji ej b hb mj
      refine⟨.obj (.ins cn ns) ds0::r.ds,λj=>match j with | 0=>F i | j+1=>Fs j,a,qq.1,z,by rw[Zj,hn2],by rw[Zs,Zj,← hlen,hn2],λj dj ej=>?_,⋯,rfl,o2,?_,λj hj hj0 b hb=>?_,hg,λv2 H2 G2 Gp ip=>?_⟩
      .cases j with
       | zero=>simp at ej;subst ej;exact⟨_,rfl,r0.1.same p1.same⟩
       | succ j=>
        obtain⟨u,g1,g2⟩:=f2 j dj (by simpa using ej);exact⟨u,by simpa using g1,g2⟩
      .show(F i).length=_;rw[o1,← r0.2];rfl
      .cases j with
       | zero=>exact absurd rfl hj0
       | succ j=>exact λw=>ap b hb (f1 j b w)
      .obtain⟨F',rel'⟩:=(rel.ext p1.same).Qv9 hρ hv ip (up (H'':=H2)) un hxi;exact q _ _ F' rel'
    .cases hg
   .cases hg
  .cases e
 .cases e
end
noncomputable def rsD:List (Option R)->D->List D
 | [],_=>[]
 | some r::rs,d=>r.d::rsD rs d
 | none::rs,d=>d::rsD rs d
noncomputable def rsM:List (Option R)->List Nat
 | []=>[]
 | some r::rs=>r.M++rsM rs
 | none::rs=>rsM rs
noncomputable def isRef:D->Bool
 | .obj (.ins _ _) _=>true
 | .lst _=>true
 | _=>false
def Rp.Qig{K:Fgg}{H:Hp}{d:D}{v:V}{L:LAd}(h:Rp K H d v L)(hr:isRef d=true):∃a,v= .ref a:=by
 unfold isRef at hr;split at hr
 .obtain⟨a,C,dx,vs,G,e,_⟩:=h.QgU;exact⟨a,e⟩
 .obtain⟨a,vs,G,e,_⟩:=h.lst_inv;exact⟨a,e⟩
 .cases hr
noncomputable def oneAt:List (Option DE)->Nat->Bool
 | [],_=>false
 | none::fs,0=>fs.all Option.isSome
 | some _::fs,p+1=>oneAt fs p
 | _,_=>false
noncomputable def Qoj(r:IoR)(x i:Nat)(fs:List (Option DE)):DS:=λρ=>(evs fs ρ).bind λrs=>match ρ[i]? with
 | some (some (d,true))=>if(decide (x≠i) && !(rsM rs).contains i && oneAt fs r.p && decide (fs.length=r.n))=true then(Qgt (λe=>if isRef e=true then r.den (rsD rs e)else none) d).map λq=> .nx ((ρ.set i (some (q.2,true))).set x (some (q.1,true)))else none
 | _=>none
section
variable {K:Fgg}{H0 H H':Hp}{A0:LAd}{hs:List (V×D×List Addr)}{ρ:En}{F:Nat->List Addr}{U:L2.St}{i:Nat}{rs:List (Option R)}{vs:List V}{Gs:List (List Addr)}
def QaX.same(h:QaX K ρ F U i H H' rs vs Gs):QE H H':=by
 induction h with
 | nil=>exact QE.refl _
 | val p t ih=>exact p.same.trans ih
 | slot e t ih=>exact ih
def QaX.len(h:QaX K ρ F U i H H' rs vs Gs):vs.length=rs.length:=by
 induction h with
 | nil=>rfl
 | val p t ih=>rw[Zj,Zj,ih]
 | slot e t ih=>rw[Zj,Zj,ih]
def Qdm:∀(rs:List (Option R)) (d:D),(rsD rs d).length=rs.length
 | [],_=>rfl
 | some r::rs,d=>by rw[rsD,Zj,Zj,Qdm rs d]
 | none::rs,d=>by rw[rsD,Zj,Zj,Qdm rs d]
def Qeu:∀{fs:List (Option DE)}{ρ:En}{rs:List (Option R)},evs fs ρ=some rs->rs.length=fs.length
 | [],_,_,h=>by cases h;rfl
 | some f::fs,_,_,h=>by
  refine Qf h λr h1 h=>?_;obtain⟨rs',h2,rfl⟩:=Zb.mp h;rw[Zj,Zj,Qeu h2]
 | none::fs,_,_,h=>by
  obtain⟨rs',h2,rfl⟩:=Zb.mp h;rw[Zj,Zj,Qeu h2]
def QaX.each(h:QaX K ρ F U i H H' rs vs Gs){e0:D}{v:V}(hv:U[i]? =some (some v))(r0:Rp K H e0 v (F i)):∀j dj,(rsD rs e0)[j]? =some dj->∃u,vs[j]? =some u/\Rp K H' dj u (Gs.getD j []):=by
 induction h with
 | nil=>intro j dj e;simp[rsD]at e
 | val p t ih=>
  intro j dj e;cases j with
  | zero=>simp[rsD]at e;subst e;exact⟨_,rfl,by simpa using p.rp.same t.same⟩
  | succ j=>
   obtain⟨u,g1,g2⟩:=ih (r0.same p.same) j dj (by simpa[rsD]using e);exact⟨u,by simpa using g1,by simpa using g2⟩
 | slot e1 t ih=>
  intro j dj e;cases j with
  | zero=>
   simp[rsD]at e;subst e;rw[hv]at e1;cases e1;exact⟨_,rfl,by simpa using r0.same t.same⟩
  | succ j=>
   obtain⟨u,g1,g2⟩:=ih r0 j dj (by simpa[rsD]using e);exact⟨u,by simpa using g1,by simpa using g2⟩
def QaX.apart(rel:Rel K H0 A0 hs ρ F U H)(h:QaX K ρ F U i H H' rs vs Gs){d:D}(hρ:ρ[i]? =some (some (d,true)))(hM:i∉rsM rs):∀j,(∃r,rs[j]? =some (some r))->∀b∈F i,b∉Gs.getD j []:=by
 induction h with
 | nil=>intro j ⟨r,e⟩;simp at e
 | val p t ih=>
  intro j hj b hb;cases j with
  | zero=>
   simp only[List.getD_cons_zero];intro hbG;obtain⟨o1,o2,o3,o4,o5⟩:=rel.own i d hρ;rcases p.src b hbG with w | ⟨j,d',b',ej,mj,hj'⟩
   .obtain⟨u,hu⟩:=rel.mem hρ hb;rw[w]at hu;cases hu
   .by_cases hji:j=i
    .subst hji;rw[hρ]at ej;cases ej;exact hM (Ze _ (hj' rfl))
    .exact o4 j d' b' hji ej b hb mj
  | succ j=>
   obtain⟨r',e⟩:=hj;simp only[List.getD_cons_succ];exact ih (rel.ext p.same) (λz=>hM (Zd _ z)) j ⟨r',by simpa using e⟩ b hb
 | slot e1 t ih=>
  intro j hj b hb;obtain⟨r',e⟩:=hj;cases j with
  | zero=>simp at e
  | succ j=>
   simp only[List.getD_cons_succ];exact ih rel hM j ⟨r',by simpa using e⟩ b hb
def QaX.Qlr(h:QaX K ρ F U i H H' rs vs Gs):∀j,rs[j]? =some none->Gs.getD j []=F i/\∃v,U[i]? =some (some v)/\vs[j]? =some v:=by
 induction h with
 | nil=>intro j e;simp at e
 | val p t ih=>
  intro j e;cases j with
  | zero=>simp at e
  | succ j=>
   obtain⟨g1,v,g2,g3⟩:=ih j (by simpa using e);exact⟨by simpa using g1,v,g2,by simpa using g3⟩
 | slot e1 t ih=>
  intro j e;cases j with
  | zero=>exact⟨⋯,_,e1,⋯⟩
  | succ j=>
   obtain⟨g1,v,g2,g3⟩:=ih j (by simpa using e);exact⟨by simpa using g1,v,g2,by simpa using g3⟩
def Qdh:∀{fs:List (Option DE)}{ρ:En}{rs:List (Option R)},evs fs ρ=some rs->fs.all Option.isSome=true->∀j,j<rs.length->∃r,rs[j]? =some (some r)
 | [],_,_,h,_,j,hj=>by cases h;simp at hj
 | some f::fs,_,_,h,ha,j,hj=>by
  refine Qf h λr h1 h=>?_;obtain⟨rs',h2,rfl⟩:=Zb.mp h;cases j with
  | zero=>exact⟨r,rfl⟩
  | succ j=>
   obtain⟨r',e⟩:=Qdh h2 (by simpa using ha) j (by simpa using hj);exact⟨r',by simpa using e⟩
 | none::fs,_,_,h,ha,j,hj=>by simp at ha
def QfZ:∀{fs:List (Option DE)}{p:Nat}{ρ:En}{rs:List (Option R)},oneAt fs p=true->evs fs ρ=some rs->rs[p]? =some none/\none∈fs/\∀j,j<rs.length->j≠p->∃r,rs[j]? =some (some r)
 | [],_,_,_,h,_=>by cases h
 | none::fs,0,_,_,h,e=>by
  obtain⟨rs',h2,rfl⟩:=Zb.mp e;refine⟨rfl,Zf,λj hj h0=>?_⟩;cases j with
  | zero=>exact absurd rfl h0
  | succ j=>
   obtain⟨r,e⟩:=Qdh h2 h j (by simpa using hj);exact⟨r,by simpa using e⟩
 | none::fs,p+1,_,_,h,_=>by cases h
 | some f::fs,0,_,_,h,_=>by cases h
 | some f::fs,p+1,_,_,h,e=>by
  refine Qf e λr h1 e=>?_;obtain⟨rs',h2,rfl⟩:=Zb.mp e;obtain⟨g1,g2,g3⟩:=QfZ (fs:=fs) (p:=p) h h2;refine⟨by simpa using g1,Zc _ g2,λj hj h0=>?_⟩;cases j with
  | zero=>exact⟨r,rfl⟩
  | succ j=>
   obtain⟨r',e⟩:=g3 j (by simpa using hj) (λz=>h0 (by rw[z]));exact⟨r',by simpa using e⟩
def QiL:∀{rs:List (Option R)}{p:Nat}{e:D},rs[p]? =some none->(rsD rs e).getD p .non=e
 | [],_,_,h=>by simp at h
 | none::rs,0,e,h=>rfl
 | some r::rs,0,e,h=>by simp at h
 | none::rs,p+1,e,h=>by rw[rsD,List.getD_cons_succ];exact QiL (by simpa using h)
 | some r::rs,p+1,e,h=>by rw[rsD,List.getD_cons_succ];exact QiL (by simpa using h)
end
def Qvy(X:Cx)(x:Str)(r:IoR):Prop:=∃k f fd ps,Qau X.prog X.w X.K X.mg X.base CX0 k f fd ps (QfB X.K r.n r.p r.den)/\Qao k X.A/\X.mg x=some (.ref f)/\PySem.W.keepIn X.K (.ref f)=true/\Binds X.K fd ps []
section
variable {X:Cx}{nm g:Str}{e:Expr}{es:List Expr}{f:Option DE}{fs:List (Option DE)}{pos cpos np p:Pos}{i x:Nat}{r:IoR}
def Qzd(hN:X.N.Nodup)(hx1:X.N[x]? =some nm)(hx2:Loc X.env.scope nm)(hx3:X.fn nm=true∨X.env.scope.names.lookup nm=some .local)(hF:Qvy X g r)(hg:Gl X g)(hdb:(g == ("__debug__" :Str))=false)
  (ha:Qba X i (e::es) fs) (hst:starEach (e::es) X.env=(false,eval e X.env)::starEach es X.env) (hpl:(backTo cpos (starEach es X.env)).any (·.1)=false):
  S1 X (.Assign [.Name nm p] (.Call (.Name g np) (e::es) [] cpos) pos) (Qoj r x i fs):=by
 intro H0 A0 pins s U H E I Z;obtain⟨ρ,hs,F,out,rel,e,q⟩:=Z;refine Qf e λrs e1 e=>?_;split at e
 .rename_i d hρ;split at e
  .rename_i hc;simp only[Zi,decide_eq_true_eq,ZW]at hc;obtain⟨⟨⟨hxi,hM0⟩,hone⟩,hlen⟩:=hc;have hi:i∉rsM rs:=λz=>by rw[ZI.mpr z]at hM0;cases hM0
   obtain⟨qq,e2,rfl⟩:=Zb.mp e;obtain⟨e0,z,hgd,hd⟩:=QoT e2;obtain⟨v,hv,rp⟩:=rel.val i d true hρ;obtain⟨o1,o2,o3,o4,o5⟩:=rel.own i d hρ;have r0:Rp X.K H e0 v (F i)/\e0.nl=d.nl:=by
    rcases hd with⟨a,rfl,_⟩ | ⟨rfl,_⟩
    .exact⟨rp.Qc6.2,(Qdv _ _).symm⟩
    .exact⟨rp,rfl⟩
   have un:qq.2.nl=z.nl:=by
    rcases hd with⟨a,rfl,h2⟩ | ⟨rfl,h2⟩
    .rw[h2,Qdv]
    .rw[h2]
   have up:∀{H'':Hp}{L:LAd},Rp X.K H'' z v L->Rp X.K H'' qq.2 v L:=λ{H'' L} h=>by
    rcases hd with⟨a,rfl,h2⟩ | ⟨rfl,h2⟩
    .obtain⟨ea,_⟩:=rp.Qc6;rw[h2];subst ea;exact Rp.QkM h
    .rw[h2];exact h
   obtain⟨k,f,fd,ps,c3,c4,c6,c7,c5⟩:=hF;obtain⟨s1,s2,s3⟩:=QfZ hone e1;refine(QeR hN hx1 hx2 (QgD c3 c4 hg c6 c7 c5 .nil Qfc (Qo8 ha H0 A0) hdb hst hpl) (Qca rfl) hx3) pins s U H E I ⟨ρ,hs,F,rs,rel,e1,λ_=>⟨v,hv⟩,λvs H1 Gs pl=>?_⟩;obtain⟨gs1,v',gv,gv2⟩:=pl.Qlr r.p s1;rw[hv]at gv;cases gv;split at hgd
   case isFalse=>cases hgd
   rename_i hir;obtain⟨a,rfl⟩:=r0.1.Qig hir;have hrl:rs.length=r.n:=by rw[Qeu e1,hlen]
   refine⟨rsD rs e0,λj=>Gs.getD j [],a,qq.1,z,by rw[Qdm,hrl],by rw[Zs,pl.len,hrl],λj dj ej=>?_,?_,by rw[Zs];exact gv2,(show(Gs.getD r.p []).Nodup by rw[gs1];exact o2),?_,λj hj hj0 b hb=>?_,hgd,λv2 H2 G2 Gp ip=>?_⟩
   .rw[Zs];exact pl.each hv r0.1 j dj ej
   .have:=(Zg.mp s1).1;omega
   .dsimp only;rw[gs1,o1,QiL s1,r0.2]
   .dsimp only at hb ⊢;rw[gs1]at hb;exact pl.apart rel hρ hi j (s3 j ⋯ hj0) b hb
   .dsimp only at ip;rw[gs1]at ip;obtain⟨F',rel'⟩:=(rel.ext pl.same).Qv9 hρ hv ip (up (H'':=H2)) un hxi;exact q _ _ F' rel'
  .cases e
 .cases e
end
section
variable {K:Fgg}{H0 H H':Hp}{A0:LAd}{hs:List (V×D×List Addr)}{ρ:En}{F:Nat->List Addr}{U:L2.St}{i:Nat}{rs:List (Option R)}{vs:List V}{Gs:List (List Addr)}
def QaX.later(rel:Rel K H0 A0 hs ρ F U H)(h:QaX K ρ F U i H H' rs vs Gs){b:Addr}(hb:∃u,H b=some u)(hf:∀(j:Nat) d c,ρ[j]? =some (some (d,c))->b∉F j):∀j,(∃r,rs[j]? =some (some r))->b∉Gs.getD j []:=by
 induction h with
 | nil=>intro j ⟨r,e⟩;simp at e
 | val p t ih=>
  intro j hj;cases j with
  | zero=>
   simp only[List.getD_cons_zero];intro hbG;rcases p.src b hbG with w | ⟨j,d',b',ej,mj,_⟩
   .obtain⟨u,hu⟩:=hb;rw[w]at hu;cases hu
   .exact hf j d' b' ej mj
  | succ j=>
   obtain⟨r',e⟩:=hj;simp only[List.getD_cons_succ];obtain⟨u,hu⟩:=hb;exact ih (rel.ext p.same) ⟨u,p.same _ _ hu⟩ j ⟨r',by simpa using e⟩
 | slot e1 t ih=>
  intro j hj;obtain⟨r',e⟩:=hj;cases j with
  | zero=>simp at e
  | succ j=>
   simp only[List.getD_cons_succ];exact ih rel hb j ⟨r',by simpa using e⟩
def QaX.Qyv(rel:Rel K H0 A0 hs ρ F U H)(h:QaX K ρ F U i H H' rs vs Gs):∀p r,rs[p]? =some (some r)->r.fr=true->r.M=[]->(Gs.getD p []).Nodup/\(Gs.getD p []).length=r.d.nl/\(∀b∈Gs.getD p [],H b=none)/\∀j,j≠p->(∃r',rs[j]? =some (some r'))->∀b∈Gs.getD p [],b∉Gs.getD j []:=by
 induction h with
 | nil=>intro p r e;simp at e
 | @val H H1 H2 r0 v G rs vs Gs p t ih=>
  intro k r e hf hM;cases k with
  | zero=>
   simp at e;subst e;obtain⟨c,ln⟩:=p.cnt hf;rw[hM]at c;have c1:∀b,G.count b<=nw H b:=λb=>by have:=c b;simpa using this
   have fr:∀b∈G,H b=none:=λb hb=>by
    cases q:H b with
    | none=>rfl
    | some u=>
     have h1:=c1 b;rw[QdR q]at h1;have h2:0<G.count b:=Zaq.mpr hb;omega
   simp only[List.getD_cons_zero];refine⟨ZZ.mpr λb=>?_,ln,fr,λj hj hj' b hb=>?_⟩
   .have h1:=c1 b;have h2:nw H b<=1:=by unfold nw;split<;>omega
    omega
   .cases j with
    | zero=>exact absurd rfl hj
    | succ j=>
     obtain⟨r',e'⟩:=hj';simp only[List.getD_cons_succ];refine t.later (rel.ext p.same) (p.rp.mem b hb) (λk d c ek hk=>?_) j ⟨r',by simpa using e'⟩;obtain⟨u,hu⟩:=rel.mem ek hk;rw[fr b hb]at hu;cases hu
  | succ k=>
   obtain⟨g1,g2,g3,g4⟩:=ih (rel.ext p.same) k r (by simpa using e) hf hM;simp only[List.getD_cons_succ];refine⟨g1,g2,λb hb=>p.same.free (g3 b hb),λj hj hj' b hb=>?_⟩;cases j with
   | zero=>
    simp only[List.getD_cons_zero];intro z;obtain⟨u,hu⟩:=p.rp.mem b z;rw[g3 b hb]at hu;cases hu
   | succ j=>
    obtain⟨r',e'⟩:=hj';simp only[List.getD_cons_succ];exact g4 j (λz=>hj (by rw[z])) ⟨r',by simpa using e'⟩ b hb
 | slot e1 t ih=>
  intro k r e hf hM;cases k with
  | zero=>simp at e
  | succ k=>
   obtain⟨g1,g2,g3,g4⟩:=ih rel k r (by simpa using e) hf hM;simp only[List.getD_cons_succ];refine⟨g1,g2,g3,λj hj hj' b hb=>?_⟩;obtain⟨r',e'⟩:=hj';cases j with
   | zero=>simp at e'
   | succ j=>
    simp only[List.getD_cons_succ];exact g4 j (λz=>hj (by rw[z])) ⟨r',by simpa using e'⟩ b hb
def QaX.Qm9(h:QaX K ρ F U i H H' rs vs Gs):∀j r,rs[j]? =some (some r)->∃u,vs[j]? =some u/\Rp K H' r.d u (Gs.getD j []):=by
 induction h with
 | nil=>intro j r e;simp at e
 | val p t ih=>
  intro j r e;cases j with
  | zero=>simp at e;subst e;exact⟨_,rfl,by simpa using p.rp.same t.same⟩
  | succ j=>
   obtain⟨u,g1,g2⟩:=ih j r (by simpa using e);exact⟨u,by simpa using g1,by simpa using g2⟩
 | slot e1 t ih=>
  intro j r e;cases j with
  | zero=>simp at e
  | succ j=>
   obtain⟨u,g1,g2⟩:=ih j r (by simpa using e);exact⟨u,by simpa using g1,by simpa using g2⟩
def Qek:∀{rs:List (Option R)}{d:D}{j:Nat}{r:R},rs[j]? =some (some r)->(rsD rs d)[j]? =some r.d
 | [],_,_,_,h=>by simp at h
 | some r0::rs,d,0,r,h=>by simp at h;subst h;rfl
 | none::rs,d,0,r,h=>by simp at h
 | some r0::rs,d,j+1,r,h=>by rw[rsD,List.getElem?_cons_succ];exact Qek (by simpa using h)
 | none::rs,d,j+1,r,h=>by rw[rsD,List.getElem?_cons_succ];exact Qek (by simpa using h)
def QwF{H1:Hp}{Fp G Gp:LAd}{d dp:D}{vp v:V}(s:QE H H1)(fr:∀b∈Fp,H b=none)(ip:QkE K H1 Fp d dp vp v H' G Gp):Q9 K ρ F H H' ⟨d,true,[]⟩ v G where
 same:=λb u e=>QbA ip.same (s b u e) λz=>by rw[fr b z]at e;cases e
 rp:=ip.rp
 src:=λa ha=>by
  rcases ip.fr a (Ze _ ha)with z | z
  .exact .inl (fr a z)
  .exact .inl (s.free z)
 cnt:=λ_=>by
  refine⟨λa=>?_,ip.len⟩;have n1:=(ZF.mp ip.nd).1;by_cases ha:a∈G
  .have z:H a=none:=by
    rcases ip.fr a (Ze _ ha)with z | z
    .exact fr a z
    .exact s.free z
   rw[QaM z];have:=ZZ.mp n1 a;omega
  .rw[ZM.mpr ha];exact ZS _
 own:=Qbp.nil
end
noncomputable def QoG(r:IoR)(fs:List (Option DE)):DE:=λρ=>(evs fs ρ).bind λrs=>match rs[r.p]? with
 | some (some rp)=>if(rp.fr && rp.M.isEmpty && isRef rp.d && fs.all Option.isSome && decide (fs.length=r.n))=true then(r.den (rsD rs .non)).map λq=>⟨q.1,true,[]⟩else none
 | _=>none
section
variable {X:Cx}{g:Str}{e:Expr}{es:List Expr}{fs:List (Option DE)}{cpos np:Pos}{r:IoR}
def QiF{fs:List (Option DE)}(h:fs.all Option.isSome=true):none∉fs:=λz=>by
 have:=Zam.mp h none z;cases this
def Qyq(hF:Qvy X g r)(hg:Gl X g)(hdb:(g == ("__debug__" :Str))=false)(ha:Qba X 0 (e::es) fs)(hst:starEach (e::es) X.env=(false,eval e X.env)::starEach es X.env)(hpl:(backTo cpos (starEach es X.env)).any (·.1)=false):
  SE X (.Call (.Name g np) (e::es) [] cpos) (QoG r fs):=by
 intro H0 A0;obtain⟨k,f,fd,ps,c3,c4,c6,c7,c5⟩:=hF;refine(QgD c3 c4 hg c6 c7 c5 .nil Qfc (Qo8 ha H0 A0) hdb hst hpl).mono λU H Q=>exK λρ hs F out rel e q=>?_;refine Qf e λrs e1 e=>?_;split at e
 .rename_i rp hp;split at e
  .rename_i hc;simp only[Zi,decide_eq_true_eq]at hc;obtain⟨⟨⟨⟨c1,c2⟩,c8⟩,c9⟩,c10⟩:=hc;have hM:rp.M=[]:=Zbg.mp c2;obtain⟨qq,e2,rfl⟩:=Zb.mp e;refine⟨ρ,hs,F,rs,rel,e1,λz=>absurd z (QiF c9),λvs H1 Gs pl=>?_⟩;have hrl:rs.length=r.n:=by rw[Qeu e1,c10]
   obtain⟨t1,t2,t3,t4⟩:=pl.Qyv rel r.p rp hp c1 hM;obtain⟨u,u1,u2⟩:=pl.Qm9 r.p rp hp;obtain⟨a,rfl⟩:=u2.Qig c8;have hpl:r.p<rs.length:=(Zg.mp hp).1;refine⟨rsD rs .non,λj=>Gs.getD j [],a,qq.1,qq.2,by rw[Qdm,hrl],by rw[Zs,pl.len,hrl],λj dj ej=>?_,⋯,by rw[Zs];exact u1,t1,?_,λj hj hj0 b hb=>?_,e2,λv2 H2 G2 Gp ip=>?_⟩
   .have hj:j<rs.length:=by have:=(Zg.mp ej).1;rw[Qdm]at this;exact this
    obtain⟨r',er⟩:=Qdh e1 c9 j hj;rw[Qek er]at ej;cases ej;obtain⟨w,w1,w2⟩:=pl.Qm9 j r' er;exact⟨w,by rw[Zs];exact w1,w2⟩
   .dsimp only;rw[t2,ZD,Qek hp];rfl
   .exact t4 j hj0 (Qdh e1 c9 j ⋯) b hb
   .exact q v2 H2 G2 (QwF pl.same t3 ip)
  .cases e
 .cases e
end
noncomputable def Qnd(cn:Str)(r:IoR)(fs:DA):DE:=λρ=>(fs ρ).bind λra=>if r.n=ra.ds.length+1 then(r.den (.obj (.ins cn []) []::ra.ds)).bind λq=>match q.1 with
 | .non=>some ⟨q.2,true,[]⟩
 | _=>none
 else none
noncomputable def QkQ(cn:Str):DE:=λ_=>some ⟨.obj (.ins cn []) [],true,[]⟩
def Qy2(X:Cx)(cn:Str)(r:IoR):Prop:=∃k C f fd ps,PySem.W.nsIn X.K mainGlobals cn=some (some (.ref C))/\Mk X.K C f/\Qau X.prog X.w X.K X.mg X.base CX0 k f fd ps (QfB X.K r.n 0 r.den)/\Qao (k+1) X.A/\X.mg cn=some (.ref C)/\Binds X.K fd ps []
def QvR(X:Cx)(cn:Str):Prop:=∃C,PySem.W.nsIn X.K mainGlobals cn=some (some (.ref C))/\PySem.W.makesIn X.K C=true/\PySem.W.findIn X.K (.ref C) "__init__" =some (some (.builtin "object.__init__"))/\PySem.W.keepIn X.K (.ref C)=true/\X.mg cn=some (.ref C)
section
variable {X:Cx}{g:Str}{e:Expr}{es:List Expr}{fs:DA}{cpos np:Pos}{r:IoR}
def Qxv(hF:Qy2 X g r)(hg:Gl X g)(hdb:(g == ("__debug__" :Str))=false)(ha:SA X (e::es) fs)(hst:starEach (e::es) X.env=(false,eval e X.env)::starEach es X.env)(hpl:(backTo cpos (starEach es X.env)).any (·.1)=false):
  SE X (.Call (.Name g np) (e::es) [] cpos) (Qnd g r fs):=by
 intro H0 A0;obtain⟨k,C,f,fd,ps,cn,c2,c3,c4,c6,c5⟩:=hF;refine(Qwt c2 c3 c4 hg c6 c5 .nil Qfc (ha H0 A0) hdb hst hpl).mono λU H Q=>exK λρ hs F out rel e q=>?_;refine Qf e λra e1 e=>?_;split at e
 .rename_i hn;refine Qf e λqq e2 e=>?_;split at e
  .rename_i hq1;cases e;refine⟨ρ,hs,F,ra,rel,e1,λvs H1 G p1 x dx hx hdx hne=>?_⟩;obtain⟨Fs,f1,f2⟩:=Qos p1.rp;have hlen:=p1.rp.length;have sm:QE H1 (upd (upd H1 dx (.own x)) x (.ins C dx [])):=(QbD hdx).trans (QbD (by rw[QM (Ne.symm hne)];exact hx));have hxx:(upd (upd H1 dx (.own x)) x (.ins C dx [])) x=some (.ins C dx []):=Qat ..;refine⟨.obj (.ins g []) []::ra.ds,λj=>match j with | 0=>[x] | j+1=>Fs j,x,qq.1,qq.2,by rw[Zj,hn],by rw[Zs,Zj,← hlen,hn],λj dj ej=>?_,⋯,rfl,⋯,rfl,λj hj hj0 b hb=>?_,e2,λv2 H2 G2 Gp ip=>?_⟩
   .cases j with
    | zero=>
     simp at ej;subst ej;refine⟨_,rfl,Rp.Qkx (ns:=[]) (vs:=[]) (G:=[]) cn hxx rfl ?_⟩;simp[Rps]
    | succ j=>
     obtain⟨u,g1,g2⟩:=f2 j dj (by simpa using ej);exact⟨u,by simpa using g1,g2.same sm⟩
   .cases j with
    | zero=>exact absurd rfl hj0
    | succ j=>
     intro z;rw[Zl.mp hb]at z;obtain⟨u,hu⟩:=p1.rp.mem x (f1 j x z);rw[hx]at hu;cases hu
   .have hv:v2= .non:=by
     have:=ip.rp;rw[hq1]at this;exact this.QgC
    refine⟨hv,q _ H2 Gp ?_⟩;have fr:∀a∈Gp,H a=none:=λa ha=>by
     rcases ip.fr a (Zd _ ha)with z | z
     .rw[Zl.mp z];exact p1.same.free hx
     .exact p1.same.free (sm.free z)
    refine⟨λb u eb=>QbA ip.same (sm b u (p1.same b u eb)) λz=>?_,ip.rpp,λa ha=> .inl (fr a ha),λ_=>⟨λa=>?_,ip.lenp⟩,Qbp.nil⟩
    .rw[Zl.mp z]at eb;rw[p1.same.free hx]at eb;cases eb
    .by_cases ha:a∈Gp
     .rw[QaM (fr a ha)];have:=ZZ.mp (ZF.mp ip.nd).2.1 a;omega
     .rw[ZM.mpr ha];exact ZS _
  .cases e
 .cases e
def Qvu(hF:QvR X g)(hg:Gl X g)(hdb:(g == ("__debug__" :Str))=false):SE X (.Call (.Name g np) [] [] cpos) (QkQ g):=by
 intro H0 A0 pins s U H Q I Z;obtain⟨ρ,hs,F,out,rel,e,q⟩:=Z;cases e;obtain⟨C,cn,h1,h2,h3,h4⟩:=hF;refine wpAny_Call_Name_kw (QcO I hg h4 ?_ hdb);refine PySem.W.callWith_K0 I.kIn h3 ?_;have hx:=I.hok.fresh (ZaD s.heap.objs.size);have hdx:=I.hok.fresh (Zk s.heap.objs.size);have hne:s.heap.objs.size≠s.heap.objs.size+1:=ZK (Zar _);have I2:=Inv.made (C:=C) I;have sm:QE H (upd (upd H s.heap.objs.size (.own (s.heap.objs.size+1))) (s.heap.objs.size+1) (.ins C s.heap.objs.size [])):=(QbD hdx).trans (QbD (by rw[QM (Ne.symm hne)];exact hx));have hq:EP X pins U Q (.ref (s.heap.objs.size+1)) {s with heap:=(s.heap.push PySem.W.emptyDict).push (PySem.W.instObj C s.heap.objs.size)}:=by
  refine⟨V.ref (s.heap.objs.size+1),_,I2,rfl,q _ _ [s.heap.objs.size+1] ⟨sm,Rp.Qkx (ns:=[]) (vs:=[]) (G:=[]) cn (Qat ..) rfl (by simp[Rps]),λa ha=> .inl (by rw[Zl.mp ha];exact hx),λ_=>⟨λa=>?_,rfl⟩,Qbp.nil⟩⟩;by_cases ha:a=s.heap.objs.size+1
  .rw[ha,QaM hx];simp
  .rw[ZM.mpr (by simpa using ha)];exact ZS _
 have Y:=Zby (M:=model X.prog X.w) I.kIn h1;refine wpAny_call ?_;refine QsT I.kIn h1 h2 (λself=>PySem.W.Looks.of_pure (PySem.W.oi_bind self)) ?_;have e2:((s.heap.push PySem.W.emptyDict).push (PySem.W.instObj C s.heap.objs.size)).get? (s.heap.objs.size+1)=some (PySem.W.instObj C s.heap.objs.size):=by
  have:=ZG (s.heap.push PySem.W.emptyDict) (o:=PySem.W.instObj C s.heap.objs.size) rfl;rwa[Zax]at this
 have t1:PySem.W.Looks (model X.prog X.w) ((s.heap.push PySem.W.emptyDict).push (PySem.W.instObj C s.heap.objs.size)) (typeOf (.ref (s.heap.objs.size+1))) (.ref C):=(PySem.W.Looks.ld e2).andThen .now;have t2:PySem.W.Looks (model X.prog X.w) ((s.heap.push PySem.W.emptyDict).push (PySem.W.instObj C s.heap.objs.size)) (isInstance (.ref (s.heap.objs.size+1)) (.type "object")) true:=t1.andThen (Y.top.keeps λb o e=>Zq _ (Zq _ e));refine codeAny_call_builtin PySem.W.oi_plain PySem.W.entry_oi (@PySem.W.check_slot (model X.prog X.w) _ _ _ "object.__init__" "object" "__init__" (.ref (s.heap.objs.size+1)) [] [] _ PySem.W.oi_kind PySem.W.oi_split t2 (PySem.W.oi_args (.ref (s.heap.objs.size+1))) ?_);rw[PySem.W.oi_run];exact wpAny_pure (And.intro rfl hq)
end
structure ObT where
 cl:ClT
 me:MeT
 io:List (Str×IoR)
 ma:List (Str×IoR)
 mk0:List Str
structure Qh9 (X:Cx) (T:ObT):Prop where
 cl:Qf1 X.K T.cl
 me:Qtw X T.me
 io:∀g r,look g T.io=some r->Qvy X g r
 ma:∀g r,look g T.ma=some r->Qy2 X g r
 mk0:∀g∈T.mk0,QvR X g
noncomputable def te1(n:Nat)(J:Th)(T:ObT)(e:Expr):Option DE:=match e with
 | .Attribute o f _=>(Qal o).bind λx=>(J.slot x).map λi=>Qew T.cl f (Qd i)
 | .Call fn args kw _=>match kw with
  | _::_=>none
  | []=>(Qal fn).bind λx=>if J.gl x=true then(match args with
   | []=>if T.mk0.contains x=true then some (QkQ x)else none
   | a::as=>(look x T.ma).bind λr=>(Qbx n J (a::as)).map λfs=>Qnd x r fs)else none
 | _=>none
noncomputable def Qkp(n:Nat)(J:Th):List Expr->Option (List (Option DE))
 | []=>some []
 | e::es=>(Qs n J e).bind λf=>(Qkp n J es).map λfs=>some f::fs
noncomputable def Qjh(n:Nat)(J:Th):Nat->List Expr->Option (Nat×List (Option DE))
 | _,[]=>none
 | 0,e::es=>(Qal e).bind λx=>(J.slot x).bind λi=>(Qkp n J es).map λfs=>(i,none::fs)
 | p+1,e::es=>(Qs n J e).bind λf=>(Qjh n J p es).map λq=>(q.1,some f::q.2)
noncomputable def te2(n:Nat)(J:Th)(T:ObT)(e:Expr):Option DE:=match te1 n J T e with
 | some f=>some f
 | none=>match e with
  | .Call fn args kw _=>match kw with
   | _::_=>none
   | []=>match args with
    | []=>none
    | a::as=>(Qal fn).bind λx=>if J.gl x=true then(look x T.io).bind λr=>(Qkp n {J with te:=te1 n J T} (a::as)).map λfs=>QoG r fs else none
  | _=>none
noncomputable def QrR:Expr->Bool
 | .Subscript a i _=>match a with
  | .Name _ _=>match i with
   | .Constant _ _ _=>true
   | _=>false
  | _=>false
 | _=>false
noncomputable def QyF(T:MeT)(m:Str):Bool:=T.any λq=>(look m q.2).isSome
noncomputable def Quj(n:Nat)(J:Th)(T:ObT)(p:Option Nat)(st:Stmt):Option DS:=match st with
 | .Assign ts e _=>match ts with
  | []=>none
  | t::ts=>match ts with
   | _::_=>none
   | []=>match t with
    | .Name x _=>match e with
     | .Call fn args kw cp=>match kw with
      | _::_=>none
      | []=>match args with
       | []=>none
       | a::as=>match fn with
        | .Attribute o m ap=>if(QyF T.me m && (ap.endLine == cp.line) && decide (as.length<20))=true then(Qal o).bind λy=>(J.Qb1 x).bind λix=>(J.slot y).bind λi=>(Qbx n J (a::as)).map λfs=>QeH T.me ix i m fs else none
        | .Name g _=>if J.gl g=true then(look g T.io).bind λr=>(J.Qb1 x).bind λix=>(Qjh n J r.p (a::as)).map λq=>Qoj r ix q.1 q.2 else none
        | _=>none
     | .Tuple es k q=>if es.any QrR=true then(J.Qb1 x).bind λix=>(Qs n J (.Tuple es k q)).map λfa=>Qn ix (QeU fa)else none
     | _=>none
    | .Attribute o f _=>if Qfm e=true then(Qal o).bind λy=>(J.slot y).bind λi=>(Qs n J e).map λfa=>QiY T.cl i f fa else none
    | _=>none
 | .AugAssign t op e _=>match t with
  | .Attribute o f _=>match op with
   | .Add=>(Qal o).bind λy=>(J.slot y).bind λi=>(Qs n J e).map λfa=>Qja T.cl i f fa
   | _=>none
  | _=>none
 | .Return v _=>v.bind λe=>p.bind λp=>(Qs n J e).map λfa=>QeG p fa
 | _=>none
def Qr5{o:Expr}{m:Str}{apos cpos:Pos}{es:List Expr}{env:Env}(hb:attributeBase o m env (eval o env)=eval o env)(hl:(apos.endLine == cpos.line)=true)(ha:(backTo cpos (starEach es env)).all (λx=> !x.1)=true)(hn:es.length<29):
  eval (.Call (.Attribute o m apos) es [] cpos) env=(do
   let ov ← eval o env
   standAt apos.atName
   let (f,first) ← holding [ov] (getMethod ov m (do return (← importBound o env).getD true))
   callWith cpos f first (backTo cpos (starEach es env)) (backToKw cpos (keywordEach [] env))):=by
 rw[arm_eval_Call,hb];have hform:methodCallForm (es.length+([]:List Keyword).length) (backTo cpos (starEach es env)) (backToKw cpos (keywordEach [] env))=true:=by
  unfold methodCallForm;rw[ha];have:es.length+([]:List Keyword).length+(if(backToKw cpos (keywordEach [] env)).isEmpty=true then 0 else 1)<30:=by
   split<;>(simp only[List.length_nil];omega)
  simp only[Bool.true_and,Zi,decide_eq_true_eq];exact⟨rfl,this⟩
 have hpos:methodCallPos true o env apos cpos=pure cpos:=by unfold methodCallPos;simp[hl]
 have key:∀ov,methodCall o m apos cpos env ov (es.length+([]:List Keyword).length) (backTo cpos (starEach es env)) (backToKw cpos (keywordEach [] env))=(do
   let (f,first) ← holding [ov] (getMethod ov m (do return (← importBound o env).getD true))
   callWith cpos f first (backTo cpos (starEach es env)) (backToKw cpos (keywordEach [] env))):=by
  intro ov;unfold methodCall;rw[hform,hpos];rfl
 simp only[key]
section
variable {X:Cx}{J:Th}{T:ObT}{n:Nat}
def QJ.QgG{f:Expr->Option DE}(ok:QJ X J)(h:∀e g,f e=some g->SE X e g):QJ X {J with te:=f}:=
 ⟨⟨ok.N,ok.nd,ok.lc,ok.ce,ok.fe,ok.gl,ok.units,ok.mg,ok.cs⟩,ok.calm,ok.pass,ok.fns,ok.tr,h⟩
def QJ.QrN{f:Stmt->Option DS}(ok:QJ X J)(h:∀st g,f st=some g->S1 X st g):QJ X {J with tr:=f}:=
 ⟨⟨ok.N,ok.nd,ok.lc,ok.ce,ok.fe,ok.gl,ok.units,ok.mg,ok.cs⟩,ok.calm,ok.pass,ok.fns,h,ok.te⟩
def Qbk{e:Expr}{x:Str}(h:Qal e=some x):∃p,e= .Name x p:=by
 cases e with
 | Name z p=>cases h;exact⟨p,rfl⟩
 | _=>exact nn h
def QoP(ok:QJ X J)(ob:Qh9 X T):∀e f,te1 n J T e=some f->SE X e f:=by
 intro e f h;cases e with
 | Attribute o fl p=>
  refine Qf (show(Qal o).bind _=some f from h) λx hx h=>?_;refine mapR h λi hi=>?_;obtain⟨np,rfl⟩:=Qbk hx;exact Qy4 ob.cl (Qn6 (QdM ok.toCtxB hi)) rfl
 | Call fn args kw p=>
  cases kw with
  | cons _ _=>exact nn h
  | nil=>
   refine Qf (show(Qal fn).bind _=some f from h) λx hx h'=>?_;clear h;obtain⟨np,rfl⟩:=Qbk hx;have h:=h';clear h';split at h
   .rename_i hg;obtain⟨g1,g2,g3⟩:=Qb7 ok.toCtxB hg;cases args with
    | nil=>
     dsimp only at h;split at h
     .rename_i hc;cases h;exact Qvu (ob.mk0 x (ZI.mp hc)) g1 g2
     .cases h
    | cons a as=>
     refine Qf h λr hr h=>?_;refine mapR h λfs hfs=>?_;obtain⟨s1,s2⟩:=callArgs (X:=X) hfs rfl p;exact Qxv (ob.ma x r hr) g1 g2 ((Qav n).A X J _ fs ok hfs) s1 s2
   .cases h
 | _=>exact nn h
def QhA(ok:QJ X J)(i:Nat):∀{es:List Expr}{fs:List (Option DE)},Qkp n J es=some fs->Qba X i es fs
 | [],fs,h=>by cases h;exact .nil
 | e::es,fs,h=>by
  refine Qf h λf h1 h=>?_;exact mapR (M:=λfs=>Qba X i (e::es) fs) h λfs' h2=> .cons (show Qm6 X i e (some f)from(Qav n).E X J e f ok h1) (λes env=>Qbf h1 es env) (QhA ok i h2)
def QhE(ok:QJ X J):∀{p:Nat}{es:List Expr}{q:Nat×List (Option DE)},Qjh n J p es=some q->Qba X q.1 es q.2
 | p,[],q,h=>by cases p<;>cases h
 | 0,e::es,q,h=>by
  refine Qf (show(Qal e).bind _=some q from h) λx hx h1=>?_;clear h;refine Qf h1 λi hi h=>?_;clear h1;obtain⟨np,rfl⟩:=Qbk hx;exact mapR (M:=λq=>Qba X q.1 (Expr.Name x np::es) q.2) h λfs hf=> .cons (show Qm6 X i (.Name x np) none from QdM ok.toCtxB hi) (λ_ _=>rfl) (QhA ok i hf)
 | p+1,e::es,q,h=>by
  refine Qf (show(Qs n J e).bind _=some q from h) λf h1 h=>?_;exact mapR (M:=λq=>Qba X q.1 (e::es) q.2) h λq' hq=> .cons (show Qm6 X q'.1 e (some f)from(Qav n).E X J e f ok h1) (λes env=>Qbf h1 es env) (QhE ok hq)
def Qba.star{i:Nat}{e:Expr}{es:List Expr}{fs:List (Option DE)}(h:Qba X i (e::es) fs)(pos:Pos):starEach (e::es) X.env=(false,eval e X.env)::starEach es X.env/\(backTo pos (starEach es X.env)).any (·.1)=false:=by
 cases h with
 | cons h s t=>exact⟨s _ _,t.any pos X.env⟩
def Qox(ok:QJ X J)(ob:Qh9 X T):∀e f,te2 n J T e=some f->SE X e f:=by
 intro e f h;unfold te2 at h;split at h
 .rename_i g hg;cases h;exact QoP ok ob e _ hg
 .cases e with
  | Call fn args kw p=>
   cases kw with
   | cons _ _=>exact nn h
   | nil=>
    cases args with
    | nil=>exact nn h
    | cons a as=>
     refine Qf (show(Qal fn).bind _=some f from h) λx hx h'=>?_;clear h;obtain⟨np,rfl⟩:=Qbk hx;have h:=h';clear h';split at h
     .rename_i hg;obtain⟨g1,g2,g3⟩:=Qb7 ok.toCtxB hg;refine Qf h λr hr h=>?_;refine mapR h λfs hfs=>?_;have ha:=QhA (ok.QgG (QoP ok ob)) 0 hfs;obtain⟨s1,s2⟩:=ha.star p;exact Qyq (ob.io x r hr) g1 g2 ha s1 s2
     .cases h
  | _=>exact nn h
def Qp7(ok:QJ X J)(ob:Qh9 X T)(p:Option Nat):∀st f,Quj n J T p st=some f->S1 X st f:=by
 intro st f h;have hN:X.N.Nodup:=by rw[ok.N];exact ok.nd
 cases st with
 | Assign ts e pos=>
  rcases ts with _ | ⟨t,_ | ⟨t2,ts⟩⟩
  .exact nn h
  .cases t with
   | Name x xp=>
    cases e with
    | Call fn args kw cp=>
     cases kw with
     | cons _ _=>exact nn h
     | nil=>
      cases args with
      | nil=>exact nn h
      | cons a as=>
       cases fn with
       | Attribute o m ap=>
        change(if(QyF T.me m && (ap.endLine == cp.line) && decide (as.length<20))=true then _ else none)=some f at h;split at h
        .rename_i hcc;simp only[Zi,decide_eq_true_eq]at hcc;refine Qf h λy hy h=>?_;refine Qf h λix hx h=>?_;refine Qf h λi hi h=>?_;refine mapR h λfs hfs=>?_;obtain⟨np,rfl⟩:=Qbk hy;obtain⟨x1,x2,x3⟩:=Qce ok.toCtxB hx;obtain⟨s1,s2⟩:=callArgs (X:=X) hfs rfl cp;exact Qx0 hN x1 x2 x3 ob.me (QdM ok.toCtxB hi) ((Qav n).A X J _ fs ok hfs) s1 s2 (Qr5 rfl hcc.1.2 (by
          have:=QlJ hfs cp X.env;rw[List.all_eq_not_any_not];simpa using this) (by rw[Zj];omega))
        .cases h
       | Name g gp=>
        change(if J.gl g=true then _ else none)=some f at h;split at h
        .rename_i hg;refine Qf h λr hr h=>?_;refine Qf h λix hx h=>?_;refine mapR h λq hq=>?_;obtain⟨g1,g2,g3⟩:=Qb7 ok.toCtxB hg;obtain⟨x1,x2,x3⟩:=Qce ok.toCtxB hx;have ha:=QhE ok hq;obtain⟨s1,s2⟩:=ha.star cp;exact Qzd hN x1 x2 x3 (ob.io g r hr) g1 g2 ha s1 s2
        .cases h
       | _=>exact nn h
    | Tuple es k q=>
     change(if es.any QrR=true then _ else none)=some f at h;split at h
     .refine Qf h λix hx h=>?_;refine mapR h λfa hfa=>?_;obtain⟨x1,x2,x3⟩:=Qce ok.toCtxB hx;exact Qiz λH0 A0=>QeR hN x1 x2 (Qot ((Qav n).E X J _ fa ok hfa) H0 A0) (Qca rfl) x3
     .cases h
    | _=>exact nn h
   | Attribute o fl ap=>
    change(if Qfm e=true then _ else none)=some f at h;split at h
    .rename_i hc;refine Qf h λy hy h=>?_;refine Qf h λi hi h=>?_;refine mapR h λfa hfa=>?_;obtain⟨np,rfl⟩:=Qbk hy;exact QwZ ob.cl (QdM ok.toCtxB hi) ((Qav n).E X J e fa ok hfa) (Qca hc)
    .cases h
   | _=>exact nn h
  .exact nn h
 | AugAssign t op e pos=>
  cases t with
  | Attribute o fl ap=>
   cases op with
   | Add=>
    refine Qf (show(Qal o).bind _=some f from h) λy hy h=>?_;refine Qf h λi hi h=>?_;refine mapR h λfa hfa=>?_;obtain⟨np,rfl⟩:=Qbk hy;exact QwE ob.cl (QdM ok.toCtxB hi) ((Qav n).E X J e fa ok hfa)
   | _=>exact nn h
  | _=>exact nn h
 | Return v pos=>
  refine Qf (show v.bind _=some f from h) λe he h=>?_;cases he;refine Qf h λp hp h=>?_;exact mapR (M:=λf=>S1 X (.Return (some e) pos) f) h λfa hfa=>Qxz ((Qav n).E X J e fa ok hfa)
 | _=>exact nn h
noncomputable def thO(n:Nat)(J:Th)(T:ObT)(p:Option Nat):Th:={J with te:=te2 n J T,tr:=Quj n {J with te:=te2 n J T} T p}
def QrI(ok:QJ X J)(ob:Qh9 X T)(p:Option Nat):QJ X (thO n J T p):=
 (ok.QgG (Qox ok ob)).QrN (Qp7 (ok.QgG (Qox ok ob)) ob p)
end
section
variable (P:Program) (w:World) (K:Fgg) (mg:Str->Option Value) (base:Heap)
structure Qcx (k:Nat) (T:ObT):Prop where
 cl:Qf1 K T.cl
 me:∀x ms m r,look x T.me=some ms->look m ms=some r->∀C,PySem.W.nsIn K mainGlobals x=some (some (.ref C))->∃f fd ps,Cls K C/\QlG K C m f/\Qau P w K mg base CX0 k f fd ps (QfB K r.n 0 r.den)/\Binds K fd ps []
 io:∀g r,look g T.io=some r->∃f fd ps,Qau P w K mg base CX0 k f fd ps (QfB K r.n r.p r.den)/\mg g=some (.ref f)/\PySem.W.keepIn K (.ref f)=true/\Binds K fd ps []
 ma:∀g r,look g T.ma=some r->∃C f fd ps,PySem.W.nsIn K mainGlobals g=some (some (.ref C))/\Mk K C f/\Qau P w K mg base CX0 k f fd ps (QfB K r.n 0 r.den)/\mg g=some (.ref C)/\Binds K fd ps []
 mk0:∀g∈T.mk0,∃C,PySem.W.nsIn K mainGlobals g=some (some (.ref C))/\PySem.W.makesIn K C=true/\PySem.W.findIn K (.ref C) "__init__" =some (some (.builtin "object.__init__"))/\PySem.W.keepIn K (.ref C)=true/\mg g=some (.ref C)
end
section
variable {P:Program}{w:World}{K:Fgg}{mg:Str->Option Value}{base:Heap}
def Qcx.mono{j k:Nat}{T:ObT}(t:Qcx P w K mg base j T)(h:j<=k):Qcx P w K mg base k T where
 cl:=t.cl
 me:=λx ms m r h1 h2 C h3=>let ⟨f,fd,ps,c1,c2,c3,c4⟩:=t.me x ms m r h1 h2 C h3;⟨f,fd,ps,c1,c2,c3.mono h,c4⟩
 io:=λg r h1=>let ⟨f,fd,ps,c1,c2⟩:=t.io g r h1;⟨f,fd,ps,c1.mono h,c2⟩
 ma:=λg r h1=>let ⟨C,f,fd,ps,c1,c2,c3,c4⟩:=t.ma g r h1;⟨C,f,fd,ps,c1,c2,c3.mono h,c4⟩
 mk0:=t.mk0
def Qcx.ob{k:Nat}{T:ObT}{X:Cx}(t:Qcx X.prog X.w X.K X.mg X.base k T)(hr:Qao (k+1) X.A):Qh9 X T where
 cl:=t.cl
 me:=λx ms m r h1 h2 C h3=>let ⟨f,fd,ps,c1,c2,c3,c4⟩:=t.me x ms m r h1 h2 C h3;⟨k,f,fd,ps,c1,c2,c3,hr.mono (ZaD k),c4⟩
 io:=λg r h1=>let ⟨f,fd,ps,c1,c2,c3,c4⟩:=t.io g r h1;⟨k,f,fd,ps,c1,hr.mono (ZaD k),c2,c3,c4⟩
 ma:=λg r h1=>let ⟨C,f,fd,ps,c1,c2,c3,c4,c5⟩:=t.ma g r h1;⟨k,C,f,fd,ps,c1,c2,c3,hr,c4,c5⟩
 mk0:=t.mk0
def QvN{x qual:Str}{st:Stmt}{f:Addr}{fd:FuncData}{ps:List Str}{k n n' p:Nat}{Γ:List (Str×FnR)}{cs:List (Str×Cn)}{T:ObT}{g:DS}{den:Qcd}(F:Fun K x qual st f fd)(S:Qar (namesOf (Qg st)) ps (Qg st))(M:QbR mg cs)(tab:QaK P w K mg base (k+1) Γ)(tabo:Qcx P w K mg base k T)
  (hc:Q5 n (thO n' (Qbo st Γ cs) T (some p)) (QY st)=some g) (hU:UIO (namesOf (Qg st)).length p g den):Qau P w K mg base CX0 (k+2) f fd ps (QfB K ps.length p den):=by
 refine QAl F S (λcdv A outer s H E hr=>?_) hc hU;have ok:=QiQ (P:=P) (w:=w) (K:=K) (base:=base) (qual:=qual) (f:=f) (cdv:=cdv) (outer:=outer) (s:=s) (H:=H) (E:=E) S M tab hr;exact QrI ok (Qcx.ob (X:=(QbP CX0 P w K mg base (namesOf (Qg st)) qual (Qg st) f cdv A outer s H E).nox) tabo hr) (some p)
structure Qjq (K:Fgg) (c m qual:Str) (st:Stmt):Prop where
 ex:∃C f fd,PySem.W.nsIn K mainGlobals c=some (some (.ref C))/\Cls K C/\QlG K C m f/\Fun K m qual st f fd
def Qhb{c m qual:Str}{st:Stmt}{C f:Addr}{oc:Value}{od an:Option Addr}{osl:Array (Option Value)}{kV doc pm cdv ct:Value}(a:PySem.W.nsIn K mainGlobals c=some (some (.ref C)))
  (c1:PySem.W.plainGet K C Str.empty=true) (c2:PySem.W.hasDictIn K C=true) (c3:PySem.W.plainOver K C=true) (c4:PySem.W.findIn K (.ref C) "__setattr__" =some (some (.builtin "object.__setattr__")))
  (m1:PySem.W.findIn K (.ref C) m=some (some (.ref f))) (m2:PySem.W.isFn K (.ref f)=true) (k:PySem.W.keepIn K (.ref f)=true)
  (l:K.lookup f=some ⟨oc,od,.func (PySem.W.fnOf m qual (QdU st) (QY st) (Qg st) .none kV doc pm an cdv ct),osl⟩) (cd:PySem.W.codeIn K cdv qual=true):Qjq K c m qual st:=
 ⟨C,f,_,a,⟨c1,c2,c3,c4⟩,⟨m1,m2,k⟩,QrF l cd k⟩
end
noncomputable def QfM(k p:Nat)(g:DS):Qcd:=λds=>open Classical in if h:∃q,∀a,∃o,g (QaF k p a ds)=some o/\Qi0 p a o=some q then some h.choose else none
def Qfv{k p:Nat}{g:DS}:UIO k p g (QfM k p g):=λds q e a=>by
 unfold QfM at e;split at e
 .rename_i h;cases e;exact h.choose_spec a
 .cases e
def Qwe{k p:Nat}{g:DS}{ds:List D}{q:D×D}(h:∀a,∃o,g (QaF k p a ds)=some o/\Qi0 p a o=some q):QfM k p g ds=some q:=by
 have hx:∃q,∀a,∃o,g (QaF k p a ds)=some o/\Qi0 p a o=some q:=⟨q,h⟩;unfold QfM;rw[dif_pos hx];obtain⟨o,h1,h2⟩:=h 0;obtain⟨o',h3,h4⟩:=hx.choose_spec 0;rw[h1]at h3;cases h3;rw[h2]at h4;exact h4.symm
section
variable (P:Program) (w:World) (K:Fgg) (mg:Str->Option Value) (base:Heap)
def Qne(C:Addr):List Str->Prop
 | []=>True
 | f::r=>Qct K C f/\Qne C r
def Qko(x:Str)(fs:List Str):Prop:=∃C,PySem.W.nsIn K mainGlobals x=some (some (.ref C))/\Cls K C/\Qne K C fs
def Qrn:ClT->Prop
 | []=>True
 | (x,fs)::r=>Qko K x fs/\Qrn r
def Qnh(x:Str):Prop:=∃C,PySem.W.nsIn K mainGlobals x=some (some (.ref C))/\PySem.W.makesIn K C=true/\PySem.W.findIn K (.ref C) "__init__" =some (some (.builtin "object.__init__"))/\PySem.W.keepIn K (.ref C)=true
def Qnp(x:Str):Prop:=∃C,PySem.W.nsIn K mainGlobals x=some (some (.ref C))/\PySem.W.makesIn K C=true/\PySem.W.keepIn K (.ref C)=true
def Qvk:List Str->Prop
 | []=>True
 | x::r=>Qnh K x/\Qvk r
def Qhn(k:Nat)(x m:Str)(r:IoR):Prop:=∃C f fd ps,PySem.W.nsIn K mainGlobals x=some (some (.ref C))/\Cls K C/\QlG K C m f/\Qau P w K mg base CX0 k f fd ps (QfB K r.n 0 r.den)/\Binds K fd ps []
def Qqz(k:Nat)(x:Str):List (Str×IoR)->Prop
 | []=>True
 | (m,r)::l=>Qhn P w K mg base k x m r/\Qqz k x l
def Qq6(k:Nat):MeT->Prop
 | []=>True
 | (x,ms)::l=>Qqz P w K mg base k x ms/\Qq6 k l
def Qlv(k:Nat)(g:Str)(r:IoR):Prop:=∃f fd ps,Qau P w K mg base CX0 k f fd ps (QfB K r.n r.p r.den)/\mg g=some (.ref f)/\PySem.W.keepIn K (.ref f)=true/\Binds K fd ps []
def Qrz(k:Nat):List (Str×IoR)->Prop
 | []=>True
 | (g,r)::l=>Qlv P w K mg base k g r/\Qrz k l
def QqP(k:Nat):List (Str×IoR)->Prop
 | []=>True
 | (g,r)::l=>(Qnp K g/\Qhn P w K mg base k g "__init__" r)/\QqP k l
def Qia(x qual:Str)(st:Stmt)(ps:List Str):Prop:=∀(kV doc pm:Value) (an:Option Addr) (cdv ct:Value) (us:List Value),us.length=ps.length->bindArgs (PySem.W.fnOf x qual (QdU st) (QY st) (Qg st) .none kV doc pm an cdv ct) ⟨us,[]⟩=pure (ps.zip us)
end
section
variable {P:Program}{w:World}{K:Fgg}{mg:Str->Option Value}{base:Heap}
def Qn8{C:Addr}:∀{fs:List Str},Qne K C fs->∀f∈fs,Qct K C f
 | [],_,f,hf=>by simp at hf
 | g::r,h,f,hf=>by
  rcases Zn.mp hf with rfl | hf
  .exact h.1
  .exact Qn8 h.2 f hf
def QnI:∀{T:ClT},Qrn K T->Qf1 K T
 | [],_,x,fs,h,_,_=>by cases h
 | (y,gs)::r,hc,x,fs,h,C,hC=>by
  unfold look at h;split at h
  .rename_i e;cases h;subst e;obtain⟨C',h1,h2,h3⟩:=hc.1;rw[hC]at h1;cases h1;exact⟨h2,Qn8 h3⟩
  .exact QnI hc.2 x fs h C hC
def QpP{h:Heap}(X:K.In h)(G:h.Ns mainGlobals mg):∀{l:List Str},Qvk K l->∀g∈l,∃C,PySem.W.nsIn K mainGlobals g=some (some (.ref C))/\PySem.W.makesIn K C=true/\PySem.W.findIn K (.ref C) "__init__" =some (some (.builtin "object.__init__"))/\PySem.W.keepIn K (.ref C)=true/\mg g=some (.ref C)
 | [],_,f,hf=>by simp at hf
 | g::r,hh,f,hf=>by
  rcases Zn.mp hf with rfl | hf
  .obtain⟨C,h1,h2,h3,h4⟩:=hh.1;exact⟨C,h1,h2,h3,h4,Zai X G h1⟩
  .exact QpP X G hh.2 f hf
def QnP{k:Nat}{x:Str}:∀{l:List (Str×IoR)},Qqz P w K mg base k x l->∀m r,look m l=some r->Qhn P w K mg base k x m r
 | [],_,m,r,h=>by cases h
 | (y,q)::l,hh,m,r,h=>by
  unfold look at h;split at h
  .rename_i e;cases h;subst e;exact hh.1
  .exact QnP hh.2 m r h
def QnC{k:Nat}:∀{T:MeT},Qq6 P w K mg base k T->∀x ms m r,look x T=some ms->look m ms=some r->Qhn P w K mg base k x m r
 | [],_,x,ms,m,r,h,_=>by cases h
 | (y,q)::l,hh,x,ms,m,r,h,h2=>by
  unfold look at h;split at h
  .rename_i e;cases h;subst e;exact QnP hh.1 m r h2
  .exact QnC hh.2 x ms m r h h2
def Qo4{k:Nat}:∀{l:List (Str×IoR)},Qrz P w K mg base k l->∀g r,look g l=some r->Qlv P w K mg base k g r
 | [],_,m,r,h=>by cases h
 | (y,q)::l,hh,m,r,h=>by
  unfold look at h;split at h
  .rename_i e;cases h;subst e;exact hh.1
  .exact Qo4 hh.2 m r h
def QoB{k:Nat}:∀{l:List (Str×IoR)},QqP P w K mg base k l->∀g r,look g l=some r->Qnp K g/\Qhn P w K mg base k g "__init__" r
 | [],_,m,r,h=>by cases h
 | (y,q)::l,hh,m,r,h=>by
  unfold look at h;split at h
  .rename_i e;cases h;subst e;exact hh.1
  .exact QoB hh.2 m r h
def Qhn.mono{j k:Nat}{x m:Str}{r:IoR}(h:Qhn P w K mg base j x m r)(hk:j<=k):Qhn P w K mg base k x m r:=by
 obtain⟨C,f,fd,ps,c1,c2,c3,c4,c5⟩:=h;exact⟨C,f,fd,ps,c1,c2,c3,c4.mono hk,c5⟩
def Qlv.mono{j k:Nat}{g:Str}{r:IoR}(h:Qlv P w K mg base j g r)(hk:j<=k):Qlv P w K mg base k g r:=by
 obtain⟨f,fd,ps,c1,c2⟩:=h;exact⟨f,fd,ps,c1.mono hk,c2⟩
def QaK.rise{j k:Nat}{Γ:List (Str×FnR)}(t:QaK P w K mg base j Γ)(hk:j<=k):QaK P w K mg base k Γ:=λx r e=>(t x r e).mono hk
def Qlu{h:Heap}{k:Nat}{T:ObT}(X:K.In h)(G:h.Ns mainGlobals mg)(h1:Qrn K T.cl)(h2:Qq6 P w K mg base k T.me)(h3:Qrz P w K mg base k T.io)(h4:QqP P w K mg base k T.ma)(h5:Qvk K T.mk0):Qcx P w K mg base k T where
 cl:=QnI h1
 me:=λx ms m r e1 e2 C hC=>by
  obtain⟨C',f,fd,ps,c1,c2,c3,c4,c5⟩:=QnC h2 x ms m r e1 e2;rw[hC]at c1;cases c1;exact⟨f,fd,ps,c2,c3,c4,c5⟩
 io:=λg r e=>Qo4 h3 g r e
 ma:=λg r e=>by
  obtain⟨⟨C,b1,b2,b3⟩,C',f,fd,ps,c1,c2,c3,c4,c5⟩:=QoB h4 g r e;rw[b1]at c1;cases c1;exact⟨C,f,fd,ps,b1,⟨b2,c3.at_,c3.fn,b3⟩,c4,Zai X G b1,c5⟩
 mk0:=QpP X G h5
def Qno{c m qual:Str}{st:Stmt}{ps:List Str}{k n n':Nat}{Γ:List (Str×FnR)}{cs:List (Str×Cn)}{T:ObT}{g:DS}{den:Qcd}(F:Qjq K c m qual st)(S:Qar (namesOf (Qg st)) ps (Qg st))(B:Qia m qual st ps)(M:QbR mg cs)(tab:QaK P w K mg base (k+1) Γ)(tabo:Qcx P w K mg base k T)
  (hc:Q5 n (thO n' (Qbo st Γ cs) T (some 0)) (QY st)=some g) (hU:UIO (namesOf (Qg st)).length 0 g den):Qhn P w K mg base (k+2) c m ⟨ps.length,0,den⟩:=by
 obtain⟨C,f,fd,c1,c2,c3,Fn⟩:=F.ex;exact⟨C,f,fd,ps,c1,c2,c3,QvN Fn S M tab tabo hc hU,Fn.binds (B ·)⟩
def QAD{h:Heap}{x:Str}{st:Stmt}{ps:List Str}{k n n' p:Nat}{Γ:List (Str×FnR)}{cs:List (Str×Cn)}{T:ObT}{g:DS}{den:Qcd}(X:K.In h)(G:h.Ns mainGlobals mg)(F:Fact K x st)(S:Qar (namesOf (Qg st)) ps (Qg st))(B:Q3 x st ps)(M:QbR mg cs)(tab:QaK P w K mg base (k+1) Γ)(tabo:Qcx P w K mg base k T)
  (hc:Q5 n (thO n' (Qbo st Γ cs) T (some p)) (QY st)=some g) (hU:UIO (namesOf (Qg st)).length p g den):Qlv P w K mg base (k+2) x ⟨ps.length,p,den⟩:=by
 obtain⟨f,fd,Fn,a⟩:=F.ex;exact⟨f,fd,ps,QvN Fn S M tab tabo hc hU,Zai X G a,Fn.kp,Fn.binds (B ·)⟩
def Qka{x:Str}{fs:List Str}{C:Addr}(a:PySem.W.nsIn K mainGlobals x=some (some (.ref C)))(c1:PySem.W.plainGet K C Str.empty=true)(c2:PySem.W.hasDictIn K C=true)(c3:PySem.W.plainOver K C=true)(c4:PySem.W.findIn K (.ref C) "__setattr__" =some (some (.builtin "object.__setattr__")))(n:Qne K C fs):Qko K x fs:=
 ⟨C,a,⟨c1,c2,c3,c4⟩,n⟩
def QnX{x:Str}{C:Addr}(a:PySem.W.nsIn K mainGlobals x=some (some (.ref C)))(c1:PySem.W.makesIn K C=true)(c2:PySem.W.findIn K (.ref C) "__init__" =some (some (.builtin "object.__init__")))(c3:PySem.W.keepIn K (.ref C)=true):Qnh K x:=⟨C,a,c1,c2,c3⟩
def QuF{x:Str}{C:Addr}(a:PySem.W.nsIn K mainGlobals x=some (some (.ref C)))(c1:PySem.W.makesIn K C=true)(c3:PySem.W.keepIn K (.ref C)=true):Qnp K x:=⟨C,a,c1,c3⟩
end
def QtW(x:QbZ P w H h a o):∃u,h.get? a=some u:=by
 cases o with
 | lst xs=>obtain⟨_,_,_,_,e⟩:=x;exact⟨_,e⟩
 | tup xs=>obtain⟨_,_,_,ob,e,_⟩:=x;exact⟨_,e⟩
 | dK kvs=>obtain⟨_,_,_,_,o,_,_,e,_⟩:=x;exact⟨_,e⟩
 | dT kvs=>obtain⟨_,_,_,_,o,_,_,e,_⟩:=x;exact⟨_,e⟩
 | set S n=>obtain⟨o,_,_,_,e,_⟩:=x;exact⟨_,e⟩
 | ins C dx fs=>obtain⟨_,_,_,e,_⟩:=x;exact⟨_,e⟩
 | own y=>exact x
 | xd fs=>obtain⟨_,⟨_,_,_,e,_⟩,_⟩:=x;exact⟨_,e⟩
 | rng lo hi=>obtain⟨_,_,_,e⟩:=x;exact⟨_,e⟩
 | frz ob u=>obtain⟨e,_⟩:=x;exact⟨_,e⟩
 | tbl ps=>exact⟨_,show h.get? a=some _ from x⟩
 | met f y=>exact⟨_,show h.get? a=some _ from x⟩
 | ext φ=>obtain⟨_,e,_⟩:=x;exact e
section
variable {P:Program}{w:World}{H H':Hp}{h0 h h' B:Heap}{fs:LAd}
def Cov(H:Hp)(B:Heap):Prop:=∀b u,H b=some u->∃o,B.get? b=some o
def Qmi(hok:HOk P w H h)(hB:B.StaysIn h)(hB':B.StaysIn h')(cov:Cov H B):HOk P w H h':=λa o e=>
 (hok a o e).Qgj (λc v hc q=>by
  have:∃u,H c=some u:=by
   rcases hc with rfl | hc
   .exact⟨_,e⟩
   .exact⟨_,hc⟩
  obtain⟨u,hu⟩:=this;obtain⟨o',ho'⟩:=cov c u hu;have:=hB _ _ ho';rw[q]at this;cases this;exact hB' _ _ ho') (λ_ q=>q) λ_ _ q=>q
def QoK(u:Un fs [] H H' h0 h)(hB:B.StaysIn h)(hB':B.StaysIn h')(up:h.UpToSlots h')(old:∀b o,h0.get? b=some o->b∉fs->∃o',B.get? b=some o')
  (dat:∀b o,h0.get? b=some o->b∈fs->∀vs,o.data≠ .fields vs) (frf:∀b∈fs,H b=none):Un fs [] H H' h0 h' where
 keep:=λb o e n hb hx=>by
  obtain⟨o',e1⟩:=old b o e hb;have:=hB _ _ e1;rw[u.keep b o e n hb hx]at this;cases this;exact hB' _ _ e1
 slot:=λb o e n hb hx=>by
  obtain⟨sl,e1⟩:=u.slot b o e n hb hx;obtain⟨sl',e2⟩:=up b _ e1 (dat b o e hb);exact⟨sl',e2⟩
 free:=u.free
 there:=λb o e hx=>by
  by_cases hb:b∈fs
  .obtain⟨sl,e1⟩:=u.slot b o e (frf b hb) hb hx;obtain⟨sl',e2⟩:=up b _ e1 (dat b o e hb);exact⟨_,e2⟩
  .obtain⟨o',e1⟩:=old b o e hb;exact⟨_,hB' _ _ e1⟩
 tups:=u.tups
 frzs:=u.frzs
 tbls:=u.tbls
end
noncomputable def CXR(P:Program)(w:World):CXT:=λouter H s E e s'=>∃ea C H' B a0,e=Value.ref ea/\s'.os=s.os/\AllBare s'.gens/\Un (frs outer) [] H H' s.heap s'.heap/\HOk P w H' s'.heap/\Heap.FlyingW B outer ea C a0 s'.heap∧
 Cov H' B/\(∀b o,s.heap.get? b=some o->b∉frs outer->∃o',B.get? b=some o')/\E C none H'
def QgK(X:Cx)(H0:Hp)(A0:LAd)(hs:List (V×D×List Addr))(ρ:En)(C:Value)(ea:Addr)(s':Shared):Prop:=∃pins U H F,Rel X.K H0 A0 hs ρ F U H∧
 ((∃sg args,Inv X pins U H sg/\Heap.MadeExcOf sg.heap s'.heap ea C args/\s'.os=sg.os/\s'.gens=sg.gens)∨
  ∃B a0,Inv X pins U H s'/\Heap.FlyingW B X.stack ea C a0 s'.heap/\Cov H B/\(∀b o,X.s₀.heap.get? b=some o->b∉X.fs->∃o',B.get? b=some o')/\∀p∈X.pn++pins,∃o,B.get? p.1=some o)
def Qpd(I:Inv X pins U H s)(hx:X.ex=[])(e:X.s₀.heap.get? b=some o)(hb:b∉X.fs):(∃o',s.heap.get? b=some o')/\b∉frs X.stack:=by
 refine⟨I.base.there b o e (by rw[hx];simp),λz=>?_⟩;rcases Zn.mp (I.QeS b z)with q | q
 .have h1:=Zt e;have h2:=I.ok.above;rw[q]at h1;exact absurd (Zx h1 h2) (ZU _)
 .exact hb q
def Qkv{X:Cx}(ok:X.Ok){b:Addr}{o:Obj}(e:X.s₀.heap.get? b=some o)(hb:b∈X.fs):∀vs,o.data≠ .fields vs:=by
 obtain⟨_,o',e',h⟩:=ok.QdI.mem hb;rw[e]at e';cases e';exact h
def Qn1(I:Inv X pins U H s)(hx:X.ex=[]):∃B:Heap,B.StaysIn s.heap/\s.heap.FunFrames B X.stack/\Cov H B/\(∀b o,X.s₀.heap.get? b=some o->b∉X.fs->∃o',B.get? b=some o')/\∀p∈X.pn++pins,∃o,B.get? p.1=some o:=by
 refine⟨PySem.W.hideAll s.heap (frs X.stack),λb o e=>PySem.W.of_hideAll _ e,PySem.W.funFrames_hide I.stack λenv he a ha=>ZaN.mpr ⟨env,he,ha⟩,λb u e=>?_,λb o e hb=>?_,λp hp=>?_⟩
 .obtain⟨o,ho⟩:=QtW (I.hok b u e);exact⟨o,ZaV _ ho λz=>by rw[I.Qly b z]at e;cases e⟩
 .obtain⟨⟨o',h1⟩,h2⟩:=Qpd I hx e hb;exact⟨o',ZaV _ h1 h2⟩
 .obtain⟨e,_,ne,nf,_⟩:=I.pin p hp;exact⟨_,ZaV _ e λz=>(Zn.mp (I.QeS _ z)).elim ne nf⟩
def Qie{X:Cx}{P:Program}{w:World}{E:XK}{H0:Hp}{A0:LAd}{hs:List (V×D×List Addr)}{ρ:En}{C:Value}{ea:Addr}{s':Shared}{env:Env}{outer:List Env}{Er:Value->Shared->Prop}
  (hp:X.prog=P) (hw:X.w=w) (hx:X.ex=[]) (hst:X.stack=env::outer) (hfs:X.outer=outer) (hen:X.env=env) (hf:env.frame=some X.env.locals) (T:QgK X H0 A0 hs ρ C ea s')
  (hE:∀H,QE H0 H->E C none H):wpAny (model P w) X.A (leaving env (.ref ea)) (λ_ s''=>CXR P w outer X.H₀ X.s₀ E (.ref ea) s'') Er s':=by
 subst hp hw hfs;obtain⟨pins,U,H,F,rel,⟨sg,args,I,hm,ho,hg⟩ | ⟨B,a0,I,fl,cov,old,_⟩⟩:=T
 .obtain⟨B,b1,b2,cov,old,_⟩:=Qn1 I hx;rw[hst]at b2;have hfr:=I.ok.frames;rw[hst]at hfr;refine wpAny_leaves_madeW hfr hf b1 b2 hm λh' t fl _ _ up=>?_;have up':sg.heap.UpToSlots h':=(Heap.UpToSlots.of_keeps hm.keeps).trans up;have hb:=I.base;rw[hx]at hb;exact⟨ea,C,H,B,_,rfl,ho.trans I.os,hg▸I.bare,QoK hb b1 fl.1 up' old (λb o e hb=>Qkv I.ok e hb) I.ok.frf,Qmi I.hok b1 fl.1 cov,fl,cov,old,hE H rel.same⟩
 .have hfr:=I.ok.frames;rw[hst]at hfr fl;refine wpAny_leaves_onW hfr hf fl λh' fl' up=>?_;have hb:=I.base;rw[hx]at hb;exact⟨ea,C,H,B,_,rfl,I.os,I.bare,QoK hb fl.1 fl'.1 up old (λb o e hb=>Qkv I.ok e hb) I.ok.frf,Qmi I.hok fl.1 fl'.1 cov,fl',cov,old,hE H rel.same⟩
noncomputable abbrev DX:=En->Option (Str×En)
def ClsAt(K:Fgg)(x:Str)(C:Addr):Prop:=PySem.W.nsIn K mainGlobals x=some (some (.ref C))
def cRz(X:Cx)(H0:Hp)(A0:LAd)(fx:DX)(U:L2.St)(H:Hp):Prop:=∃ρ hs F x ρ',Rel X.K H0 A0 hs ρ F U H/\fx ρ=some (x,ρ')/\∀C ea s',ClsAt X.K x C->QgK X H0 A0 hs ρ' (.ref C) ea s'->X.xe (.ref ea) s'
noncomputable def tRz(X:Cx)(H0:Hp)(A0:LAd)(fx:DX):TS:=λ_ U H=>cRz X H0 A0 fx U H
noncomputable def eRz(X:Cx)(H0:Hp)(A0:LAd)(fx:DX):TE:=λU H _=>cRz X H0 A0 fx U H
def Rz(X:Cx)(st:Stmt)(fx:DX):Prop:=∀H0 A0,PS X st (tRz X H0 A0 fx)
def RzS(X:Cx)(sts:List Stmt)(fx:DX):Prop:=∀H0 A0,PSs X sts (tRz X H0 A0 fx)
def RzE(X:Cx)(e:Expr)(fx:DX):Prop:=∀H0 A0,PE X e (eRz X H0 A0 fx)
noncomputable def xNo:DX:=λ_=>none
noncomputable def Qdt(x:Str)(fs:DA):DX:=λρ=>(fs ρ).bind λr=>if r.ds.length<=1 then some (x,ρ)else none
noncomputable def QbH(n:Nat)(xd:List D->Option Str)(fs:DA):DX:=λρ=>(fs ρ).bind λr=>if r.ds.length=n then(xd r.ds).map λc=>(c,ρ)else none
noncomputable def xIf(g:DT)(fa fb:DX):DX:=λρ=>(g ρ).bind λb=>if b=true then fa ρ else fb ρ
noncomputable def QQ(f:DS)(fx fr:DX):DX:=λρ=>match f ρ with
 | some (.nx ρ')=>fr ρ'
 | some _=>none
 | none=>fx ρ
noncomputable def QeA(t:Tg)(fb:DS)(fx:DX):List D->DX
 | [],_=>none
 | d::ds,ρ=>(QbF t d ρ).bind λρ1=>match fb ρ1 with
  | some (.nx ρ2)=>QeA t fb fx ds ρ2
  | some (.ct ρ2)=>QeA t fb fx ds ρ2
  | some _=>none
  | none=>fx ρ1
noncomputable def Qgk(fi:DI)(t:Tg)(fb:DS)(fx:DX):DX:=λρ=>(fi ρ).bind λir=>QeA t fb fx ir.items (Qcn ir.M ρ)
noncomputable def spX(K:Fgg)(n:Nat)(xd:List D->Option Str):Sp:=λvs H _ E=>∃ds L x,Rps K H ds vs L/\ds.length=n/\xd ds=some x/\∀C H',ClsAt K x C->QE H H'->E (.ref C) none H'
def Qwc{K:Fgg}{n:Nat}{xd:List D->Option Str}{ps:List Str}(hn:ps.length=n):∀vs H Q E,spX K n xd vs H Q E->vs.length=ps.length:=λvs H Q E ⟨ds,L,x,r,hl,_⟩=>by rw[hn,← hl,r.length]
section
variable {X:Cx}{st:Stmt}{sts:List Stmt}{e:Expr}{es:List Expr}{fs:DA}{f:DS}{fx fr fy:DX}{g:DT}{pos p np cpos:Pos}{x:Str}{k n:Nat}{fa:Addr}{fd:FuncData}{ps:List Str}{xd:List D->Option Str}
def Qfl:Rz X st xNo:=λH0 A0 pins s U H Dd I ⟨ρ,hs,F,x,ρ',rel,e,q⟩=>by cases e
def Qlq:RzS X [] xNo:=λH0 A0 pins s U H Dd I ⟨ρ,hs,F,x,ρ',rel,e,q⟩=>by cases e
def QgK.hold(h:QgK X H0 A0 (ts++hs) ρ C ea s'):QgK X H0 A0 hs ρ C ea s':=by
 obtain⟨pins,U,H,F,rel,q⟩:=h;exact⟨pins,U,H,F,rel.QnF,q⟩
def QxZ(Fk:Qau X.prog X.w X.K X.mg X.base (CXR X.prog X.w) k fa fd ps (spX X.K n xd))(hr:Qao k X.A)(hg:Gl X x)(hm:X.mg x=some (.ref fa))(hk:PySem.W.keepIn X.K (.ref fa)=true)(hb:Binds X.K fd ps [])(hx:X.ex=[])(hn:ps.length=n)
  (ha:SA X (e::es) fs) (hdb:(x == ("__debug__" :Str))=false) (he:starEach (e::es) X.env=(false,eval e X.env)::starEach es X.env) (hpl:(backTo pos (starEach es X.env)).any (·.1)=false):
  RzE X (.Call (.Name x p) (e::es) [] pos) (QbH n xd fs):=λH0 A0 pins s U H Q I Z=>by
 obtain⟨ρ,hs,F,c,ρ',rel,ex,q⟩:=Z;refine Qf ex λra e1 ex=>?_;split at ex
 .rename_i hl;obtain⟨c',e2,e3⟩:=Zb.mp ex;cases e3;refine wpAny_Call_Name_kw (QcO I hg hm ?_ hdb);refine ZaF (h₀:=X.base) I.ok.mod.kin hk (thn (ha H0 A0 pos pins s U H (λvs H1=>∃G,Qrs X.K ρ F H H1 ra vs G) I ⟨ρ,hs,F,ra,rel,e1,λvs H1 G p1=>⟨G,p1⟩⟩) λus s1 ⟨vs,H1,I1,rv,G,p1⟩=>⟨I1.kIn,?_⟩) he hpl;have hlen:(us++[]).length=ps.length:=by rw[Zs,← rv.length,← p1.rp.length,hl,hn]
  have hbb:=hb s1 us I1.kIn hlen;rw[Zs]at hbb;refine wpAny_call (codeAny_mono (Fk.run X.A X.stack s1 H1 ⟨us,[]⟩ us vs (λ_ _=>False) (λc' _ H'=>∃C,c'= .ref C/\ClsAt X.K c C/\QE H1 H') hr I1.Qpb hbb rv ⟨ra.ds,G,c,p1.rp,hl,e2,λC H' hC sm=>⟨C,rfl,hC,sm⟩⟩) λr s' hq=>?_);cases r with
  | error ev=>
   obtain⟨ea,C',H',B,a0,rfl,os,bare,un,hok,fl,cov,old,C,rfl,hC,sm⟩:=hq;exact q C ea s' hC ⟨pins,U,H',F,(rel.ext p1.same).ext sm,.inr ⟨B,a0,I1.QqG os un hok bare (λb z=>absurd z ⋯),fl,cov,λb o eb hbf=>by
    obtain⟨⟨o',h1⟩,h2⟩:=Qpd I1 hx eb hbf;exact old b o' h1 h2,λp hp=>by
    obtain⟨e,_,ne,nf,_⟩:=I1.pin p hp;exact old _ _ e λz=>(Zn.mp (I1.QeS _ z)).elim ne nf⟩⟩
  | ok fl=>
   cases fl with
   | ret u=>obtain⟨v,H',_,_,_,_,_,z⟩:=hq;exact z.elim
   | next=>exact False.elim hq
   | brk=>exact False.elim hq
   | cont=>exact False.elim hq
 .cases ex
def Qp1(h:RzE X e fx)(hs:swapsWith e none pos.line X.env=pure false):Rz X (.Expr e pos) fx:=λH0 A0=>Qjf (h H0 A0) hs
def Qyw(h:RzE X e fx):Rz X (.Return (some e) pos) fx:=λH0 A0=>Qkt (h H0 A0)
def QzC{i:Nat}(hN:X.N.Nodup)(h1:X.N[i]? =some x)(h2:Loc X.env.scope x)(h3:X.fn x=true∨X.env.scope.names.lookup x=some .local)(h:RzE X e fx)(hs:swapsWith e (some (.Name x p)) pos.line X.env=pure false):Rz X (.Assign [.Name x p] e pos) fx:=λH0 A0=>QeR hN h1 h2 (h H0 A0) hs h3
def QA6(hc:ST X c g)(ha:RzS X a fx)(hb:RzS X b fy):Rz X (.If c a b pos) (xIf g fx fy):=λH0 A0=>(QvY (hc H0 A0) (ha H0 A0) (hb H0 A0)).mono λDd U H Z=>by
 obtain⟨ρ,hs,F,x,ρ',rel,e,q⟩:=Z;refine Qf e λc e1 e=>?_;refine⟨ρ,hs,F,c,rel,e1,λH1 s1=>?_⟩;cases c with
 | true=>exact Qom ⟨ρ,hs,F,x,ρ',rel.ext s1,e,q⟩
 | false=>exact Qq4 ⟨ρ,hs,F,x,ρ',rel.ext s1,e,q⟩
def QAL{t u:TS}(h1:PS X st t)(h2:PS X st u):PS X st (λDd U H=>t Dd U H∨u Dd U H):=λpins s U H Dd I q=>q.elim (h1 pins s U H Dd I) (h2 pins s U H Dd I)
def QsR(h1:PSs X sts t)(h2:PSs X sts u):PSs X sts (λDd U H=>t Dd U H∨u Dd U H):=λpins s U H Dd I q=>q.elim (h1 pins s U H Dd I) (h2 pins s U H Dd I)
def Qkg(h1:S1 X st f)(h2:Rz X st fx)(h3:RzS X sts fr):RzS X (st::sts) (QQ f fx fr):=λH0 A0=>(QoJ (QAL (h1 H0 A0) (h2 H0 A0)) (h3 H0 A0)).mono λDd U H Z=>by
 obtain⟨ρ,hs,F,x,ρ',rel,e,q⟩:=Z;unfold QQ at e;split at e
 .rename_i ρ1 e1;exact .inl ⟨ρ,hs,F,_,rel,e1,λU' H' F' rel'=>⟨ρ1,hs,F',x,ρ',rel',e,q⟩⟩
 .cases e
 .exact .inr ⟨ρ,hs,F,x,ρ',rel,e,q⟩
def QzL(hp:PassesOwn (model X.prog X.w) X.A X.env X.xe)(hc:X.calm=true)(hi:SI X tg iter fi)(hg:SG X tg t)(hb:SS X body f)(hbx:RzS X body fx)(hs:∀x,foldedSetIterable iter X.env x=pure x):
  Rz X (.For tg iter body [] pos) (Qgk fi t f fx):=λH0 A0=>(QsW hp hc (hi H0 A0) (hg H0 A0) (QsR (hb H0 A0) (hbx H0 A0)) hs).mono λDd U H Z=>by
 obtain⟨ρ,hs,F,c,ρ',rel,e,q⟩:=Z;refine Qf e λir e1 e=>?_;refine⟨ρ,hs,F,ir,rel,e1,λJ H1 ts s1 wk hts ow hz=>?_⟩;have rel1:Rel X.K H0 A0 (ts++hs) (Qcn ir.M ρ) F U H1:=((rel.ext s1).weak (QcH ir.M ρ)).hold λt ht=>⟨(hts t ht).1,Shr.of rel (hts t ht).2⟩;refine⟨λi m U' H'=>m=ir.items.length-i/\i<=ir.items.length/\∃ρi Fi,Rel X.K H0 A0 (ts++hs) ρi Fi U' H'/\QeA t f fx (ir.items.drop i) ρi=some (c,ρ'),⟨_,rfl,ZS _,_,F,rel1,by simpa using e⟩,?_⟩;rintro i m U' H' ⟨rfl,hi',ρi,Fi,reli,ei⟩;have held:QlQ X.K H' ts:=λt ht=>(reli.held t (Ze _ ht)).1;by_cases hlt:i<ir.items.length
 .rw[ZT hlt]at ei;unfold QeA at ei;refine Qf ei λρ1 eb ei=>?_;refine .inr ⟨wk.go i H' hlt held,λU2 H2=>∃ρ2 F2,Rel X.K H0 A0 (ts++hs) ρ2 F2 U2 H2/\QeA t f fx (ir.items.drop (i+1)) ρ2=some (c,ρ'),λU2 H2 ⟨ρ2,F2,rel2,e2⟩=>⟨_,⋯,rfl,hlt,ρ2,F2,rel2,e2⟩,λx H2 hy=>?_⟩;obtain⟨s2,G0,rp0,hG0⟩:=wk.yld i ir.items[i] H' x H2 (by simp[hlt]) held hy;have shr:Shr H0 A0 ρi Fi G0:=λa ha=>by
   obtain⟨t,ht,hat⟩:=hG0 a ha;exact⟨(reli.held t (Ze _ ht)).2 a hat,λj d ej hj=>(reli.own j d ej).2.2.2.2 t (Ze _ ht) a hj hat⟩
  refine⟨ρi,ts++hs,Fi,ir.items[i],G0,ρ1,reli.ext s2,rp0,shr,eb,λU3 F3 rel3 _ _=>?_⟩;split at ei
  .rename_i ρ2 eo;exact .inl ⟨ρ1,ts++hs,F3,_,rel3,eo,λU4 H4 F4 rel4=>⟨ρ2,F4,rel4,ei⟩⟩
  .rename_i ρ2 eo;exact .inl ⟨ρ1,ts++hs,F3,_,rel3,eo,λU4 H4 F4 rel4=>⟨ρ2,F4,rel4,ei⟩⟩
  .cases ei
  .exact .inr ⟨ρ1,ts++hs,F3,c,ρ',rel3,ei,λC ea s' hC T=>q C ea s' hC T.hold⟩
 .have hn:i=ir.items.length:= ⋯
  subst hn;rw[ZbD]at ei;cases ei
end
noncomputable abbrev QBs:List Value:=[.type "ValueError",.type "Exception",.type "BaseException",.type "object"]
structure Qg6 (K:Fgg) (x:Str):Prop where
 ex:∃C,ClsAt K x C/\PySem.W.excIn K C QBs "ValueError.__new__" =true
def Qu7{K:Fgg}{C:Addr}{bmB:List Value}{newId:String}(q:PySem.W.excIn K C bmB newId=true){h:Heap}(X:K.In h):∃bm N nm qn bs hdct sn sub ab col dd k0 k1 k2 k3 k5 mN,
  h.get? C=some (excClassObj nm qn C N bs bm hdct sn sub ab col dd k0 k1 k2 k3 k5 newId)/\h.Ns N mN/\mN "__init__" =none/\OwnTail h bmB bm:=by
 rw[PySem.W.excIn.eq_def]at q;split at q
 case h_2=>cases q
 rename_i dd cd sl ho;split at q
 case h_2=>cases q
 rename_i C1 bm k0 k1 k2 k3 nid k5 em es;simp only[Zi,beq_iff_eq,ZW]at q;obtain⟨⟨⟨⟨⟨z1,z2⟩,nodel⟩,tl⟩,okN⟩,noInit⟩:=q;subst z1 z2;have hget:=X _ _ ho;have hsl:sl= #[k0,k1,k2,k3,some (.builtin nid),k5]:=Array.ext' es;rw[hsl]at hget;refine⟨bm,cd.ns,cd.name,cd.qualname,cd.bases,cd.hasDict,cd.slotNames,cd.subclasses,cd.abstract,cd.collection,dd,k0,k1,k2,k3,k5,_,?_,.of_isNs (PySem.W.isNs_of_in X okN),PySem.W.nsMap_none_of_in X okN noInit,PySem.W.tail_of_in X tl⟩;rw[hget];cases cd with
 | mk c1 c2 c3 c4 c5 c6 c7 c8 c9 c10 c11=>
  dsimp only at em nodel;rw[em,nodel]
section
variable {X:Cx}{e:Expr}{fs:DA}{x:Str}{np cpos pos:Pos}
def Qvv(hc:X.calm=true)(hg:Gl X x)(hk:Qg6 X.K x)(hdb:(x == ("__debug__" :Str))=false)(ha:SA X [e] fs)(he:starEach [e] X.env=(false,eval e X.env)::starEach [] X.env):
  Rz X (.Raise (some (.Call (.Name x np) [e] [] cpos)) none pos) (Qdt x fs):=λH0 A0 pins s U H Dd I Z=>by
 obtain⟨ρ,hs,F,c,ρ',rel,ex,q⟩:=Z;refine Qf ex λra e1 e2=>?_;split at e2
 case isFalse=>cases e2
 rename_i hl;cases e2;obtain⟨C,hC,hq⟩:=hk.ex;obtain⟨bm,N,nm,qn,bs,hdct,sn,sub,ab,col,dd,k0,k1,k2,k3,k5,mN,o1,o2,o3,o4⟩:=Qu7 hq I.ok.mod.kin;have hm:X.mg x=some (.ref C):=Zai I.ok.mod.kin I.ok.mod.glob hC
 refine wpAny_Raise_call_subT (C:=C) (nm:=nm) (q:=qn) (N:=N) (bs:=bs) (bm:=bm) (hdct:=hdct) (sn:=sn) (sub:=sub) (ab:=ab) (col:=col) (dd:=dd) (k0:=k0) (k1:=k1) (k2:=k2) (k3:=k3) (k5:=k5)
  PySem.F.excBase_ValueError (mN:=mN) (o4.hasType PySem.F.excBase_ValueError.hasBase) (I.ok.hd hc) (by rw[he];rfl) o3 (QcO I hg hm ⟨rfl,?_⟩ hdb)
 have hargs:=ha H0 A0 cpos pins s U H (λvs H1=>∃G,Qrs X.K ρ F H H1 ra vs G) I ⟨ρ,hs,F,ra,rel,e1,λvs H1 G p1=>⟨G,p1⟩⟩;rw[he]at hargs ⊢;refine Calls.evalArgs_plain (thn hargs λus s2 ⟨vs,H1,I1,rv,G,p1⟩=>⟨rfl,?_,I1.bk _ _ o1,o2.keeps I1.bk,o4.keeps I1.bk,λh' ea hm=>?_⟩)
 .show us.length<=sizeLine;rw[← rv.length,← p1.rp.length];exact ZL hl ∅
 .exact q C ea _ hC ⟨pins,U,H1,F,rel.ext p1.same,.inl ⟨s2,us,I1,hm,rfl,rfl⟩⟩
end
structure ThX where
 Γx:List (Str×(Nat×(List D->Option Str)))
 cls:List Str
structure XOk (X:Cx) (JX:ThX):Prop where
 ex:X.ex=[]
 stk:X.stack=X.env::X.outer
 fr:X.env.frame=some X.env.locals
 fx:∀x r,look x JX.Γx=some r->∃k f fd ps,Qau X.prog X.w X.K X.mg X.base (CXR X.prog X.w) k f fd ps (spX X.K r.1 r.2)/\Qao k X.A/\X.mg x=some (.ref f)/\PySem.W.keepIn X.K (.ref f)=true/\Binds X.K fd ps []/\ps.length=r.1
 cl:∀x∈JX.cls,Qg6 X.K x
noncomputable def xc0(n:Nat)(J:Th)(JX:ThX)(e:Expr):DX:=match e with
 | .Call (.Name x _) (a::as) [] _=>if J.gl x then(match look x JX.Γx with
  | some r=>(match Qbx n J (a::as)with | some fs=>QbH r.1 r.2 fs | none=>xNo)
  | none=>xNo)else xNo
 | _=>xNo
noncomputable abbrev xcE:=xc0
noncomputable def xbE(n:Nat)(J:Th)(JX:ThX)(e:Expr):DX:=
 xcE n J JX e
noncomputable def QuC:List Expr->Option Str
 | [e]=>Qal e
 | _=>none
def Qm5{e:Expr}{x:Str}{G:Expr->Prop}(h:Qal e=some x)(g:∀p,G (.Name x p)):G e:=by
 cases e with
 | Name z p=>cases h;exact g p
 | _=>exact nn h
noncomputable def QAm:Expr->Option (Str×Expr)
 | .Call f as kw _=>match kw with
  | _::_=>none
  | []=>match as with
   | []=>none
   | a::as=>match as with
    | _::_=>none
    | []=>(Qal f).map λx=>(x,a)
 | _=>none
mutual
noncomputable def Qnn(n:Nat)(J:Th)(JX:ThX)(st:Stmt):Option DX:=match n with
 | 0=>none
 | n+1=>match st with
  | .Raise v c _=>match c with
   | some _=>none
   | none=>v.bind λe=>(QAm e).bind λq=>if J.gl q.1 && JX.cls.contains q.1 then(Qbx n J [q.2]).map λfs=>Qdt q.1 fs else none
  | .Expr e _=>some (xcE n J JX e)
  | .Return v _=>match v with
   | none=>some xNo
   | some e=>some (xbE n J JX e)
  | .Assign ts e _=>match QuC ts with
   | none=>some xNo
   | some x=>(J.Qb1 x).map λ_=>xcE n J JX e
  | .If c a b _=>(Qa1 n J c).bind λg=>(Qd1 n J JX a).bind λfa=>(Qd1 n J JX b).map λfb=>xIf g fa fb
  | .For tg iter body els _=>match els with
   | _::_=>some xNo
   | []=>(Qj8 J tg).bind λt=>(Qhr n J tg iter).bind λfi=>(Q5 n J body).bind λfb=>(Qd1 n J JX body).map λfx=>Qgk fi t fb fx
  | _=>some xNo
noncomputable def Qd1(n:Nat)(J:Th)(JX:ThX)(sts:List Stmt):Option DX:=match n with
  | 0=>none
  | n+1=>match sts with
    | []=>some xNo
    | st::r=>
     (QiB n J st).bind λf=>(Qnn n J JX st).bind λfx=>(Qd1 n J JX r).map λfr=>QQ f fx fr
end
section
variable {X:Cx}{J:Th}{JX:ThX}
def QkX{e:Expr}:RzE X e xNo:=λH0 A0 pins s U H Q I ⟨ρ,hs,F,x,ρ',rel,e,q⟩=>by cases e
def QzD{n:Nat}(ok:QJ X J)(xk:XOk X JX)(e:Expr):RzE X e (xc0 n J JX e)/\(xc0 n J JX e≠xNo->∃x p a as pos,e= .Call (.Name x p) (a::as) [] pos):=by
 unfold xc0;split
 .rename_i x p a as pos;refine⟨?_,λ_=>⟨x,p,a,as,pos,rfl⟩⟩;split
  .rename_i hg;obtain⟨g1,g2,g3⟩:=Qb7 ok.toCtxB hg;split
   .rename_i r hr;split
    .rename_i fs hfs;obtain⟨k,f,fd,ps,F1,F2,F3,F4,F5,F6⟩:=xk.fx x r hr;obtain⟨s1,s2⟩:=callArgs (X:=X) hfs rfl pos;exact QxZ F1 F2 g1 F3 F4 F5 xk.ex F6 ((Qav n).A X J _ fs ok hfs) g2 s1 s2
    .exact QkX
   .exact QkX
  .exact QkX
 .exact⟨QkX,λh=>absurd rfl h⟩
def QoC{n:Nat}(ok:QJ X J)(xk:XOk X JX)(e:Expr):RzE X e (xcE n J JX e)/\(xcE n J JX e≠xNo->∃x p a as pos,e= .Call (.Name x p) (a::as) [] pos):=QzD ok xk e
def Qzv{n:Nat}(ok:QJ X J)(xk:XOk X JX)(e:Expr):RzE X e (xbE n J JX e):=
 (QoC ok xk e).1
structure Qyg (n:Nat):Prop where
 X:∀X J JX st f,QJ X J->XOk X JX->Qnn n J JX st=some f->Rz X st f
 Xs:∀X J JX sts f,QJ X J->XOk X JX->Qd1 n J JX sts=some f->RzS X sts f
def QzQ{n:Nat}(ih:Qyg n):∀X J JX st f,QJ X J->XOk X JX->Qnn (n+1) J JX st=some f->Rz X st f:=by
 intro X J JX st f ok xk h;have hN:X.N.Nodup:=by rw[ok.N];exact ok.nd
 cases st with
 | Raise v c pos=>
  cases c with
  | some _=>exact nn h
  | none=>
   refine Qf (show v.bind _=some _ from h) λe he h=>?_;cases he;refine Qf h λq hq h'=>?_;clear h;split at h'
   .rename_i hc;simp only[Zi]at hc;refine mapR h' λfs h1=>?_;clear h';obtain⟨g1,g2,g3⟩:=Qb7 ok.toCtxB hc.1;obtain⟨s1,s2⟩:=callArgs (X:=X) h1 rfl pos;cases e with
    | Call fn as kw cp=>
     rcases kw with _ | ⟨k1,k2⟩
     .rcases as with _ | ⟨a,_ | ⟨a2,as⟩⟩
      .cases hq
      .obtain⟨x,hx,rfl⟩:=Zb.mp (show(Qal fn).map _=some q from hq);exact Qm5 (G:=λt=>Rz X (.Raise (some (.Call t [a] [] cp)) none pos) (Qdt x fs)) hx λnp=>Qvv ok.calm g1 (xk.cl x (by simpa using hc.2)) g2 ((Qav n).A X J _ fs ok h1) s1
      .cases hq
     .cases hq
    | _=>exact nomatch (show(none:Option (Str×Expr))=some _ from hq)
   .cases h'
 | Expr e pos=>
  cases(show some (xcE n J JX e)=some f from h);obtain⟨h1,h2⟩:=QoC (n:=n) ok xk e;by_cases hz:xcE n J JX e=xNo
  .rw[hz];exact Qfl
  .obtain⟨x,p,a,as,pos',rfl⟩:=h2 hz;exact Qp1 h1 rfl
 | Return v pos=>
  cases v with
  | none=>cases(show some xNo=some f from h);exact Qfl
  | some e=>cases(show some (xbE n J JX e)=some f from h);exact Qyw (Qzv (n:=n) ok xk e)
 | Assign ts e pos=>
  rcases ts with _ | ⟨t,_ | ⟨t2,ts⟩⟩
  .cases(show some xNo=some f from h);exact Qfl
  .cases t with
   | Name x p=>
    refine mapR (show(J.Qb1 x).map _=some f from h) λi hi=>?_;obtain⟨g1,g2,g3⟩:=Qce ok.toCtxB hi;obtain⟨h1,h2⟩:=QoC (n:=n) ok xk e;by_cases hz:xcE n J JX e=xNo
    .rw[hz];exact Qfl
    .obtain⟨x,p,a,as,pos',rfl⟩:=h2 hz;exact QzC hN g1 g2 g3 h1 (Qca rfl)
   | _=>cases(show some xNo=some f from h);exact Qfl
  .cases(show some xNo=some f from h);exact Qfl
 | If c a b pos=>
  refine Qf (show(Qa1 n J c).bind _=some f from h) λg h1 h=>?_;exact bindR h λfa fb h2 h3=>QA6 ((Qav n).T X J c g ok h1) (ih.Xs X J JX a fa ok xk h2) (ih.Xs X J JX b fb ok xk h3)
 | For tg iter body els pos=>
  cases els with
  | cons _ _=>cases(show some xNo=some f from h);exact Qfl
  | nil=>
   refine Qf (show(Qj8 J tg).bind _=some f from h) λt h1 h=>?_;refine Qf h λfi h2 h=>?_;refine bindR h λfb fx h3 h4=>?_;obtain⟨i1,i2⟩:=(Qav n).I X J tg iter fi ok h2;exact QzL ok.pass ok.calm i1 (Qnr ok h1) ((QeD n).Ss X J body fb ok h3) (ih.Xs X J JX body fx ok xk h4) i2
 | _=>cases(show some xNo=some f from h);exact Qfl
def Qkr:∀n,Qyg n
 | 0=>⟨λ_ _ _ _ _ _ _ h=>(nn h),λ_ _ _ _ _ _ _ h=>(nn h)⟩
 | n+1=>by
  have ih:=Qkr n;refine⟨QzQ ih,λX J JX sts f ok xk h=>?_⟩;cases sts with
  | nil=>cases(show some xNo=some f from h);exact Qlq
  | cons st r=>
   refine Qf (show(QiB n J st).bind _=some f from h) λfs h1 h=>?_;exact bindR h λfx fr h2 h3=>Qkg (Qmo ok h1) (ih.X X J JX st fx ok xk h2) (ih.Xs X J JX r fr ok xk h3)
end
noncomputable def Qa9(k:Nat)(f:DX):List D->Option Str:=λds=>(f (Qab k ds)).map (·.1)
section
variable (P:Program) (w:World) (K:Fgg) (mg:Str->Option Value) (base:Heap)
def Qgw(k:Nat)(x:Str)(r:Nat×(List D->Option Str)):Prop:=∃f fd ps,Qau P w K mg base (CXR P w) k f fd ps (spX K r.1 r.2)/\mg x=some (.ref f)/\PySem.W.keepIn K (.ref f)=true/\Binds K fd ps []/\ps.length=r.1
def Qep(k:Nat)(Γx:List (Str×(Nat×(List D->Option Str)))):Prop:=∀x r,look x Γx=some r->Qgw P w K mg base k x r
end
section
variable {P:Program}{w:World}{K:Fgg}{mg:Str->Option Value}{base:Heap}
def Qep.nil{k:Nat}:Qep P w K mg base k []:=λx r h=>by cases h
def Qgw.mono{j k:Nat}{x:Str}{r:Nat×(List D->Option Str)}(h:Qgw P w K mg base j x r)(hk:j<=k):Qgw P w K mg base k x r:=by
 obtain⟨f,fd,ps,h1,h2⟩:=h;exact⟨f,fd,ps,h1.mono hk,h2⟩
def Qep.mono{j k:Nat}{Γ:List (Str×(Nat×(List D->Option Str)))}(t:Qep P w K mg base j Γ)(hk:j<=k):Qep P w K mg base k Γ:=λx r e=>(t x r e).mono hk
def Qep.cons{k:Nat}{Γ:List (Str×(Nat×(List D->Option Str)))}{x:Str}{r:Nat×(List D->Option Str)}(t:Qep P w K mg base k Γ)(h:Qgw P w K mg base (k+1) x r):Qep P w K mg base (k+1) ((x,r)::Γ):=λy q e=>by
 unfold look at e;split at e
 .rename_i z;cases e;subst z;exact h
 .exact(t y q e).mono (ZaD _)
def Qfo{h:Heap}{x:Str}{st:Stmt}{ps:List Str}{k n:Nat}{Γ:List (Str×FnR)}{Γx:List (Str×(Nat×(List D->Option Str)))}{cls:List Str}{cs:List (Str×Cn)}{g:DX}(X:K.In h)(G:h.Ns mainGlobals mg)(F:Fact K x st)(S:Qar (namesOf (Qg st)) ps (Qg st))(B:Q3 x st ps)(M:QbR mg cs)(tab:QaK P w K mg base k Γ)(tabx:Qep P w K mg base k Γx)
  (hcl:∀x∈cls,Qg6 K x) (hc:Qd1 n (Qbo st Γ cs) ⟨Γx,cls⟩ (QY st)=some g):Qgw P w K mg base (k+1) x (ps.length,Qa9 (namesOf (Qg st)).length g):=by
 obtain⟨f,fd,Fn,a⟩:=F.ex;refine⟨f,fd,ps,?_,Zai X G a,Fn.kp,Fn.binds (B ·),rfl⟩;obtain⟨oc,od,kV,doc,pm,an,cdv,ct,osl,rfl,lk,hcd⟩:=Fn.ex;refine Qru lk hcd S (Qwc rfl) λA outer s H vs Q E hr hsp=>?_;obtain⟨ds,L,y,rps,hl,hd,hE⟩:=hsp;have ok:QJ (QbP (CXR P w) P w K mg base (namesOf (Qg st)) x (Qg st) f cdv A outer s H E) (Qbo st Γ cs):=Qmf (CX:=CXR P w) (E:=E) S M tab hr PassesOwn.leaving;have xk:XOk (QbP (CXR P w) P w K mg base (namesOf (Qg st)) x (Qg st) f cdv A outer s H E) ⟨Γx,cls⟩:=⟨rfl,rfl,rfl,λz r e=>by
  obtain⟨f',fd',ps',h1,h2,h3,h4,h5⟩:=tabx z r e;exact⟨k,f',fd',ps',h1,hr,h2,h3,h4,h5⟩,hcl⟩
 refine⟨_,(Qkr n).Xs _ _ _ _ g ok xk hc H L,?_⟩;obtain⟨F0,rel⟩:=QeT (N:=namesOf (Qg st)) rps;obtain⟨⟨y',ρ'⟩,e1,e2⟩:=Zb.mp hd;cases e2;exact⟨_,[],F0,y',ρ',rel,e1,λC ea s' hC T=>Qie rfl rfl rfl rfl rfl rfl rfl T λH' sm=>hE C H' hC sm⟩
end
end HS
namespace HS
open PySem PySem.Spec L2 PyProof.Rows
section
variable {X:Cx}{pins:List (Addr×Obj)}{U:L2.St}{H:Hp}{s s':Shared}{B:Heap}
def QmV{h h':Heap}{c:Addr}{v:Option Value}(up:h.UpToSlots h')(z:h.IsCell c v):h'.IsCell c v:=by
 obtain⟨o,e,d⟩:=z;obtain⟨sl,e'⟩:=up c o e λvs q=>by rw[d]at q;cases q
 exact⟨_,e',d⟩
def Qk0(I:Inv X pins U H s)(ho:s'.os=s.os)(hg:AllBare s'.gens)(hx:X.ex=[])(b1:B.StaysIn s.heap)(b2:B.StaysIn s'.heap)(up:s.heap.UpToSlots s'.heap)(cov:Cov H B)
  (old:∀b o,X.s₀.heap.get? b=some o->b∉X.fs->∃o',B.get? b=some o') (pb:∀p∈X.pn++pins,∃o,B.get? p.1=some o):Inv X pins U H s' where
 ok:=I.ok
 os:=ho.trans I.os
 bare:=hg
 base:=by
  have hb:=I.base;rw[hx]at hb ⊢;exact QoK hb b1 b2 up old (λb o e hb=>Qkv I.ok e hb) I.ok.frf
 loc:=by
  obtain⟨m,hn,hl⟩:=I.loc;refine⟨m,up.ns hn,λi x v e1 e2 e3=>?_⟩;obtain⟨u,r,q⟩:=hl i x v e1 e2 e3;refine⟨u,r,?_⟩;rcases q with q | ⟨k,c,e,z⟩
  .exact .inl q
  .exact .inr ⟨k,c,e,QmV up z⟩
 cell:=λx c e=>by
  obtain⟨v,z⟩:=I.cell x c e;exact⟨v,QmV up z⟩
 free:=I.free
 freeC:=I.freeC
 pin:=λp hp=>by
  obtain⟨e,n,ne,nf,d⟩:=I.pin p hp;obtain⟨o,eo⟩:=pb p hp;have:=b1 _ _ eo;rw[e]at this;cases this;exact⟨b2 _ _ eo,n,ne,nf,d⟩
 hok:=Qmi I.hok b1 b2 cov
 len:=I.len
def Qxj{ea C:Addr}{a0:Value}(I:Inv X pins U H s)(hx:X.ex=[])(fl:Heap.FlyingW B X.stack ea (.ref C) a0 s.heap)(cov:Cov H B)(old:∀b o,X.s₀.heap.get? b=some o->b∉X.fs->∃o',B.get? b=some o')
  (pb:∀p∈X.pn++pins,∃o,B.get? p.1=some o):H ea=none/\Inv X pins U (upd H ea (.ext (QdK ea C))) s:=by
 obtain⟨oe,vs,he,hc,hd,_⟩:=fl.first
 have ne:∀{b o},B.get? b=some o->b≠ea:=λ{b o} e z=>by rw[z,fl.2.1]at e;cases e
 have hn:H ea=none:=by
  cases q:H ea with
  | none=>rfl
  | some u=>obtain⟨o,e⟩:=cov ea u q;exact absurd rfl (ne e)
 have nd:∀{b o},s.heap.get? b=some o->(∀vs,o.data≠ .fields vs)->b≠ea:=λ{b o} e h z=>by
  rw[z,he]at e;cases e;exact h vs hd
 have tr:∀b u,H b=some u->upd H ea (.ext (QdK ea C)) b=some u:=λb u e=>by
  obtain⟨o,eo⟩:=cov b u e;rw[QM (ne eo)];exact e
 refine⟨hn,I.ok,I.os,I.bare,⟨I.base.keep,I.base.slot,λb o e n hxx=>?_,I.base.there,λb xs q=>tr _ _ (I.base.tups b xs q),λb o u q=>tr _ _ (I.base.frzs b o u q),λb ps q=>?_⟩,I.loc,I.cell,?_,λx c e=>?_,λp hp=>?_,λb u e=>?_,I.len⟩
 .rw[QM]
  .exact I.base.free b o e n hxx
  .by_cases hb:b∈X.fs
   .obtain⟨sl,e1⟩:=I.base.slot b o e n hb hxx;exact nd e1 λvs q=>Qkv I.ok e hb vs q
   .obtain⟨o',e1⟩:=old b o e hb;exact ne e1
 .obtain⟨more,q⟩:=I.base.tbls b ps q;exact⟨more,tr _ _ q⟩
 .rw[QM]
  .exact I.free
  .obtain⟨m,⟨o,es,ep,e,d,_⟩,_⟩:=I.loc;exact nd e λvs q=>by rw[d]at q;cases q
 .rw[QM]
  .exact I.freeC x c e
  .obtain⟨v,o,eo,d⟩:=I.cell x c e;exact nd eo λvs q=>by rw[d]at q;cases q
 .obtain⟨e,n,ne',nf,d⟩:=I.pin p hp;obtain⟨o,eo⟩:=pb p hp;exact⟨e,by rw[QM (ne eo)];exact n,ne',nf,d⟩
 .by_cases hb:b=ea
  .subst hb;rw[Qat]at e;cases e;refine⟨⟨oe,vs,he,hc,hd⟩,⟨oe,he⟩,λh1 h2 ⟨o,w,e1,e2,e3⟩ k=>⟨o,w,k _ e1,e2,e3⟩⟩
  .rw[QM hb]at e;exact(I.hok b u e).Qgj (λc v _ q=>q) (λc q=>tr _ _ q) λc xs q=>tr _ _ q
def QkL{M:Model}{A:Around}{E:Value->Shared->Prop}{i:Nat}{x:Str}{pos:Pos}{Q:Unit->Shared->Prop}(I:Inv X pins U H s)(hN:X.N.Nodup)(hi:X.N[i]? =some x)(hx:X.env.scope.names.lookup x=some .local)
  (h:∀s',Inv X pins (U.set i none) H s'->Q () s'):wpAny M A (do bindName X.env x .none;unbindBehindTheSuite X.env x pos) Q E s:=by
 refine wpAny_bind (wpAny_bindName (Qhv (v:= .non) I hN hi (.inl hx) rfl (λs1 I1=>?_) (.inr hx)));have hcls:(X.env.scope.kind == .class || (X.env.scope.kind == .module && X.env.locals != X.env.globals))=false:=by rw[I.ok.kind];rfl
 have hiU:i<U.length:=by rw[I.len];exact(Zg.mp hi).1
 obtain⟨m,hn,hl⟩:=id I1.loc;obtain⟨u,_,q⟩:=hl i x .non hi (Zm hiU) (.inl hx);have hm:m x=some u:=by
  rcases q with⟨_,e⟩ | ⟨k,_⟩
  .exact e
  .have hx':X.env.kindOf x=some .local :=hx;rcases k with k | k<;>rw[hx']at k<;>cases k
 unfold unbindBehindTheSuite;refine wpAny_onRaise (wpAny_unbindName_local hx hn hm hcls λh' u' hn' hs=>h _ ?_);have cne:=I1.cne;obtain⟨oL,_,_,hoL,_⟩:=id hn;refine⟨I1.ok,I1.os,I1.bare,⟨λb o e n hb hx=>?_,λb o e n hb hx=>?_,I1.base.free,λb o e hx=>?_,I1.base.tups,I1.base.frzs,I1.base.tbls⟩,⟨_,hn',λj y v' e1 e2 e3=>?_⟩,λy c e=>?_,I1.free,I1.freeC,λp hp=>?_,λb ob e=>?_,by simpa using I1.len⟩
 .exact(hs.2 b (ZK (Zx (Zt e) I.ok.above))).trans (I1.base.keep b o e n hb hx)
 .obtain⟨sl,e1⟩:=I1.base.slot b o e n hb hx;exact⟨sl,(hs.2 b (ZK (Zx (Zt e) I.ok.above))).trans e1⟩
 .obtain⟨o',e1⟩:=I1.base.there b o e hx;exact⟨o',(hs.2 b (ZK (Zx (Zt e) I.ok.above))).trans e1⟩
 .by_cases hj:j=i
  .subst hj;rw[Zm hiU]at e2;cases e2
  .rw[Zh (Ne.symm hj)]at e2;have e2':(U.set i (some V.non))[j]? =some (some v'):=by rw[Zh (Ne.symm hj)];exact e2
   obtain⟨u1,r1,q1⟩:=hl j y v' e1 e2' e3;refine⟨u1,r1,?_⟩;rcases q1 with⟨k,e⟩ | ⟨k,c,e,z⟩
   .refine .inl ⟨k,?_⟩;have:y≠x:=λe=>hj (Qkc hN e1 (e▸hi));simp[this,e]
   .exact .inr ⟨k,c,e,z.sameBut hs (cne y c e)⟩
 .obtain⟨w',z⟩:=I1.cell y c e;exact⟨w',z.sameBut hs (cne y c e)⟩
 .obtain⟨e,n,ne,nf,d⟩:=I1.pin p hp;exact⟨(hs.2 p.1 ne).trans e,n,ne,nf,d⟩
 .refine(I1.hok b ob e).Qgj (λc w' hc q=>(hs.2 c ?_).trans q) (λ_ q=>q) λ_ _ q=>q;rintro rfl;have hfree:=I1.free;rcases hc with rfl | hc
  .rw[hfree]at e;cases e
  .rw[hfree]at hc;cases hc
end
noncomputable abbrev inH(X:Cx)(ea:Addr):Cx:={X with A:=X.A.mark (some (.ref ea)),calm:=false,xe:=λ_ _=>False}
def Fly(X:Cx)(pins:List (Addr×Obj))(H:Hp)(ea C:Addr)(s:Shared):Prop:=∃B a0,Heap.FlyingW B X.stack ea (.ref C) a0 s.heap/\Cov H B/\(∀b o,X.s₀.heap.get? b=some o->b∉X.fs->∃o',B.get? b=some o')/\∀p∈X.pn++pins,∃o,B.get? p.1=some o
section
variable {X:Cx}{pins:List (Addr×Obj)}{U:L2.St}{H:Hp}{s s':Shared}{B:Heap}{ea C:Addr}
def _root_.L2.Inv.inH(I:Inv X pins U H s):Inv (HS.inH X ea) pins U H s:=
 ⟨⟨I.ok.mod,I.ok.kind,I.ok.glob,I.ok.blt,I.ok.above,I.ok.inj,I.ok.has,I.ok.cab,λz=>(by cases z),I.ok.frames,I.ok.stk,I.ok.exf,I.ok.bs,I.ok.bsz,I.ok.noex,I.ok.exfs,I.ok.QdI,I.ok.frf⟩,I.os,I.bare,I.base,I.loc,I.cell,I.free,I.freeC,I.pin,I.hok,I.len⟩
def _root_.L2.Inv.Qgp(ok:X.Ok)(I:Inv (HS.inH X ea) pins U H s):Inv X pins U H s:=⟨ok,I.os,I.bare,I.base,I.loc,I.cell,I.free,I.freeC,I.pin,I.hok,I.len⟩
def Qpw{E:Value->Shared->Prop}{Qk:Shared->Prop}{H0:Hp}{A0:LAd}{hs:List (V×D×List Addr)}{ρ:En}(T:QgK X H0 A0 hs ρ (.ref C) ea s')(hx:X.ex=[])(hst:X.stack=X.env::X.outer)(hf:X.env.frame=some X.env.locals)
  (k:∀pins U H F s'',Rel X.K H0 A0 hs ρ F U H->Inv X pins U H s''->Fly X pins H ea C s''->Qk s''):
  wpAny (model X.prog X.w) X.A (noteFrame (.ref ea) X.env) (λ_ s₂=>wpAny (model X.prog X.w) X.A (setFlight (.ref ea) none) (λ_ s₃=>Qk s₃) E s₂) E s':=by
 obtain⟨pins,U,H,F,rel,⟨sg,args,I,hm,ho,hg⟩ | ⟨B,a0,I,fl,cov,old,pb⟩⟩:=T
 .obtain⟨B,b1,b2,cov,old,pb⟩:=Qn1 I hx;have hfr:=I.ok.frames;rw[hst]at hfr b2;obtain⟨t,he,htn,ht⟩:=hm.there;have fresh:B.get? ea=none:=by
   cases q:B.get? ea with
   | none=>rfl
   | some o=>have:=b1 _ _ q;rw[hm.new]at this;cases this
  have note:∀Q:Unit->Shared->Prop,(∀h',Heap.NotedW B (X.env::X.outer) ea (.ref C) (.ref t) (rawInt X.env.locals) s'.heap h'->Q () {s' with heap:=h'})->wpAny (model X.prog X.w) X.A (noteFrame (.ref ea) X.env) Q E s':=λQ hq=>by
   unfold noteFrame;simp only[hf];refine wpAny_bind (wpAny_field (x:= .none) he rfl rfl ?_);rw[if_neg ∅];exact wpAny_entryW (a0:= .ref t) hfr (b2.of_keeps λb o hb _=>⟨o,hm.keeps b o hb,rfl⟩) hf he (λb o hb=>hm.keeps b o (b1 b o hb)) fresh rfl (by show 1<6;decide) rfl hq
  refine note _ λh1 Z=>?_;obtain⟨n1,n2,n3,n4⟩:=Z;refine wpAny_landsW (s:={s' with heap:=h1}) (L:=X.env.locals) ⟨n1,fresh,n2,n3⟩ λh2 fl up=>?_;have up':sg.heap.UpToSlots h2:=((Heap.UpToSlots.of_keeps hm.keeps).trans n4).trans up;refine k pins U H F _ rel (Qk0 I ho (by show AllBare s'.gens;rw[hg];exact I.bare) hx b1 fl.1 up' cov old pb) ⟨B,_,by rw[hst];exact fl,cov,old,pb⟩
 .have hfr:=I.ok.frames;rw[hst]at hfr fl;refine wpAny_looks_onW hfr hf fl λh1 hd up1=>?_;refine wpAny_landsW (s:={s' with heap:=h1}) hd λh2 fl2 up2=>?_;exact k pins U H F _ rel (Qk0 I rfl I.bare hx fl.1 fl2.1 (up1.trans up2) cov old pb) ⟨B,a0,by rw[hst];exact fl2,cov,old,pb⟩
def Qry(K:Fgg)(sub:Str->Str->Option Bool):Prop:=∀x y b,sub x y=some b->∃C c,ClsAt K x C/\PySem.W.KtsName K y c/\PySem.W.exmOne K (.ref C) c=some b
def Qtv{E:Value->Shared->Prop}{y:Str}{c:Value}{np:Pos}{Q:Value->Shared->Prop}(I:Inv X pins U H s)(hg:Gl X y)(hdb:(y == ("__debug__" :Str))=false)(k:PySem.W.KtsName X.K y c)(h:Q c s):wpAny (model X.prog X.w) X.A (eval (.Name y np) X.env) Q E s:=by
 rcases k with k | ⟨k1,k2,k3⟩
 .exact QcO I hg (Zai I.ok.mod.kin I.ok.mod.glob k) h hdb
 .exact Qe1 I hg (PySem.W.mg_none_of I.ok.mod.kin I.ok.mod.glob k1) k2 h k3 hdb
def QiM{K:Fgg}{x:Str}{C C':Addr}(a:ClsAt K x C)(b:ClsAt K x C'):C=C':=by
 unfold ClsAt at a b;rw[a]at b;exact Value.ref.inj (Option.some.inj (Option.some.inj b))
def Rel.QlV{K:Fgg}{H0:Hp}{A0:LAd}{hs:List (V×D×List Addr)}{ρ:En}{F:Nat->List Addr}{i:Nat}(r:Rel K H0 A0 hs ρ F U H):Rel K H0 A0 hs (ρ.set i none) F (U.set i none) H:=by
 have w:=r.weak (Qmv (ρ:=ρ) i);refine⟨by simpa using r.len,λj d b e=>?_,w.own,w.src,w.held,w.same⟩;obtain⟨v,h1,h2⟩:=w.val j d b e;refine⟨v,?_,h2⟩;by_cases hj:i=j
 .subst hj;exfalso;by_cases hl:i<ρ.length
  .rw[Zm hl]at e;cases e
  .rw[Zw (by simp;omega)]at e;cases e
 .rw[Zh hj];exact h1
noncomputable def QAf(i:Nat):Out->Out
 | .nx ρ=> .nx (ρ.set i none)
 | .bk ρ=> .bk (ρ.set i none)
 | .ct ρ=> .ct (ρ.set i none)
 | .rt d fr=> .rt d fr
noncomputable abbrev Hd:=Str×Option Nat×DS
noncomputable def Qrh(sub:Str->Str->Option Bool)(x:Str)(ρ:En):List Hd->Option Out
 | []=>none
 | h::r=>(sub x h.1).bind λb=>if b=true then(match h.2.1 with
  | none=>h.2.2 ρ
  | some i=>(h.2.2 (ρ.set i (some (.exc x,true)))).map (QAf i))else Qrh sub x ρ r
noncomputable def Qh5(f:DS)(fx:DX)(sub:Str->Str->Option Bool)(hl:List Hd):DS:=λρ=>match f ρ with
 | some o=>some o
 | none=>(fx ρ).bind λq=>Qrh sub q.1 q.2 hl
inductive Qgm (X:Cx):List ExceptHandler->List Hd->Prop
 | nil:Qgm X [] []
 | bare {y:Str}{np pos:Pos}{b₀:Stmt}{suite:List Stmt}{r:List ExceptHandler}{hr:List Hd}{f:DS}(hg:Gl X y) (hdb:(y == ("__debug__" :Str))=false) (hS:∀ea,SS (inH X ea) (b₀::suite) f) (t:Qgm X r hr):
   Qgm X (.ExceptHandler (some (.Name y np)) none (b₀::suite) pos::r) ((y,none,f)::hr)
 | as {y n:Str}{np pos:Pos}{b₀:Stmt}{suite:List Stmt}{r:List ExceptHandler}{hr:List Hd}{f:DS}{i:Nat}(hg:Gl X y) (hdb:(y == ("__debug__" :Str))=false) (hi:X.N[i]? =some n) (hl:X.env.scope.names.lookup n=some .local) (hS:∀ea,SS (inH X ea) (b₀::suite) f) (t:Qgm X r hr):
   Qgm X (.ExceptHandler (some (.Name y np)) (some n) (b₀::suite) pos::r) ((y,some i,f)::hr)
def _root_.L2.SP.Qgp{Dd:Ends}{f:Flow}(ok:X.Ok)(h:SP (HS.inH X ea) pins Dd f s):SP X pins Dd f s:=by
 cases f with
 | next=>obtain⟨U',H',I,q⟩:=h;exact⟨U',H',I.Qgp ok,q⟩
 | brk=>obtain⟨U',H',I,q⟩:=h;exact⟨U',H',I.Qgp ok,q⟩
 | cont=>obtain⟨U',H',I,q⟩:=h;exact⟨U',H',I.Qgp ok,q⟩
 | ret u=>obtain⟨v,U',H',I,r,q⟩:=h;exact⟨v,U',H',I.Qgp ok,r,q⟩
def QrY{sub:Str->Str->Option Bool}{x:Str}{H0:Hp}{A0:LAd}{hs:List (V×D×List Addr)}{ρ:En}{Dd:Ends}{o:Out}(hN:X.N.Nodup)(hx:X.ex=[])(hsub:Qry X.K sub)(hC:ClsAt X.K x C):
  ∀{hds:List ExceptHandler}{hl:List Hd},Qgm X hds hl->∀{F:Nat->List Addr}{U:L2.St}{H:Hp}{s:Shared},Inv X pins U H s->Rel X.K H0 A0 hs ρ F U H->Fly X pins H ea C s->Qrh sub x ρ hl=some o->Fits X.K H0 A0 hs Dd o→
   wpAny (model X.prog X.w) X.A (handleBy (.ref ea) X.env hds) (SP X pins Dd) X.xe s:=by
 intro hds hl h
 have test:∀{y:Str}{np pos:Pos}{nm:Option Str}{b₀:Stmt}{suite:List Stmt}{r:List ExceptHandler}{b:Bool}{U:L2.St}{H:Hp}{s:Shared},Gl X y->(y == ("__debug__" :Str))=false->sub x y=some b->Inv X pins U H s->Fly X pins H ea C s→
   (b=true->codeAny (model X.prog X.w) (X.A.mark (some (.ref ea))) (.handlers (.ref ea) [.ExceptHandler none nm (b₀::suite) pos] X.env) (λr s₂=>match r with
     | .ok f=>(match nm with
      | none=>SP X pins Dd f s₂
      | some n=>wpAny (model X.prog X.w) X.A (do bindName X.env n .none;unbindBehindTheSuite X.env n pos) (λ_ s₃=>SP X pins Dd f s₃) X.xe s₂)
     | .error x=>cameBackBy (model X.prog X.w) X.A X.env X.xe x s₂) s)→
   (b=false->wpAny (model X.prog X.w) X.A (handleBy (.ref ea) X.env r) (SP X pins Dd) X.xe s)->wpAny (model X.prog X.w) X.A (handleBy (.ref ea) X.env (.ExceptHandler (some (.Name y np)) nm (b₀::suite) pos::r)) (SP X pins Dd) X.xe s:=by
  intro y np pos nm b₀ suite r b U H s hg hdb e1 I fly ht hf;obtain⟨C',c,k1,k2,k3⟩:=hsub x y b e1;cases QiM hC k1;obtain⟨B,a0,fl,_⟩:=fly;obtain⟨ob,hob,hc⟩:=fl.there;have LT:PySem.W.Looks (model X.prog X.w) s.heap (typeOf (.ref ea)) (.ref C):=hc▸(PySem.W.Looks.ld hob).andThen .now;refine wpAny_handleBy_cons (codeAny_handlers_test (Qtv (X:=HS.inH X ea) (I.inH (ea:=ea)) hg hdb k2 ((PySem.W.exm_one I.kIn LT k3).here ?_))) (by intro q;cases q);cases b with
  | true=>exact ht rfl
  | false=>exact hf rfl
 induction h with
 | nil=>intro F U H s I rel fly e q;cases e
 | @bare y np pos b₀ suite r hr f hg hdb hS t ih=>
  intro F U H s I rel fly e q;refine Qf e λb e1 e=>?_;refine test hg hdb e1 I fly (λhb=>?_) λhb=>?_
  .subst hb;rw[if_pos rfl]at e;obtain⟨B,a0,fl,cov,old,pb⟩:=fly;refine codeAny_handlers_suite (lands_againW fl λh' fl' up=>?_);have I1:=Qk0 (s':={s with heap:=h'}) I rfl I.bare hx fl.1 fl'.1 up cov old pb;exact wpAny_mono (hS ea H0 A0 pins _ U H Dd (I1.inH (ea:=ea)) ⟨ρ,hs,F,o,rel,e,q⟩) (λf s2 hq=>SP.Qgp I.ok hq) λ_ _ z=>z.elim
  .subst hb;rw[if_neg ZO]at e;exact ih I rel fly e q
 | @as y n np pos b₀ suite r hr f i hg hdb hi hl hS t ih=>
  intro F U H s I rel fly e q;refine Qf e λb e1 e=>?_;refine test hg hdb e1 I fly (λhb=>?_) λhb=>?_
  .subst hb;rw[if_pos rfl]at e;obtain⟨o1,e2,e3⟩:=Zb.mp e;subst e3;obtain⟨B,a0,fl,cov,old,pb⟩:=fly;refine codeAny_handlers_suite_as (lands_againW fl λh' fl' up=>?_);have I1:=Qk0 (s':={s with heap:=h'}) I rfl I.bare hx fl.1 fl'.1 up cov old pb;obtain⟨hn,I2⟩:=Qxj I1 hx fl' cov old pb;have sm:QE H (upd H ea (.ext (QdK ea C))):=λb u eb=>by rw[QM (λz=>by rw[z,hn]at eb;cases eb)];exact eb
   refine Qhv (X:=HS.inH X ea) (v:= .ref ea) (I2.inH (ea:=ea)) hN hi (.inl hl) rfl (λs3 I3=>?_) (.inr hl);obtain⟨F',rel'⟩:=(rel.ext sm).QB2 (i:=i) (d:= .exc x) (v:= .ref ea) (by rw[Rp];exact⟨⟨ea,rfl,C,hC,Qat⟩,rfl⟩) rfl;refine wpAny_mono (hS ea H0 A0 pins _ _ _ ⟨λU' H'=>Dd.nx (U'.set i none) H',Dd.rt,λU' H'=>Dd.bk (U'.set i none) H',λU' H'=>Dd.ct (U'.set i none) H'⟩ I3 ⟨_,hs,F',o1,rel',e2,?_⟩) (λf s4 hq=>?_) λ_ _ z=>z.elim
   .cases o1 with
    | nx ρ1=>exact λU' H' F' rel'=>q _ _ _ rel'.QlV
    | bk ρ1=>exact λU' H' F' rel'=>q _ _ _ rel'.QlV
    | ct ρ1=>exact λU' H' F' rel'=>q _ _ _ rel'.QlV
    | rt d fr=>exact q
   .cases f with
    | next=>obtain⟨U',H',I4,q4⟩:=hq;exact QkL (I4.Qgp I.ok) hN hi hl λs5 I5=>⟨_,H',I5,q4⟩
    | brk=>obtain⟨U',H',I4,q4⟩:=hq;exact QkL (I4.Qgp I.ok) hN hi hl λs5 I5=>⟨_,H',I5,q4⟩
    | cont=>obtain⟨U',H',I4,q4⟩:=hq;exact QkL (I4.Qgp I.ok) hN hi hl λs5 I5=>⟨_,H',I5,q4⟩
    | ret u=>obtain⟨v,U',H',I4,r4,q4⟩:=hq;exact QkL (I4.Qgp I.ok) hN hi hl λs5 I5=>⟨v,_,H',I5,r4,q4⟩
  .subst hb;rw[if_neg ZO]at e;exact ih I rel fly e q
noncomputable abbrev Cx.chg(X:Cx)(xe:Value->Shared->Prop)(pn:List (Addr×Obj)):Cx:={X with xe:=xe,pn:=pn}
def _root_.L2.Inv.chg{xe:Value->Shared->Prop}(I:Inv X pins U H s):Inv (Cx.chg X xe (X.pn++pins)) [] U H s:=
 ⟨⟨I.ok.mod,I.ok.kind,I.ok.glob,I.ok.blt,I.ok.above,I.ok.inj,I.ok.has,I.ok.cab,I.ok.hd,I.ok.frames,I.ok.stk,I.ok.exf,I.ok.bs,I.ok.bsz,I.ok.noex,I.ok.exfs,I.ok.QdI,I.ok.frf⟩,I.os,I.bare,I.base,I.loc,I.cell,I.free,I.freeC,λp hp=>I.pin p (by simpa using hp),I.hok,I.len⟩
def _root_.L2.Inv.Qk7{xe:Value->Shared->Prop}{pins':List (Addr×Obj)}(ok:X.Ok)(I:Inv (Cx.chg X xe (X.pn++pins)) pins' U H s):Inv X pins U H s:=
 ⟨ok,I.os,I.bare,I.base,I.loc,I.cell,I.free,I.freeC,λp hp=>I.pin p (Ze _ hp),I.hok,I.len⟩
def Qsw{sub:Str->Str->Option Bool}{body:List Stmt}{h₀:ExceptHandler}{hds:List ExceptHandler}{hl:List Hd}{f:DS}{fx:DX}{pos:Pos}(hN:X.N.Nodup)(hx:X.ex=[])(hst:X.stack=X.env::X.outer)(hf:X.env.frame=some X.env.locals)(hsub:Qry X.K sub)
  (hb:∀xe pn,PassesOwn (model X.prog X.w) X.A X.env xe->SS (Cx.chg X xe pn) body f/\RzS (Cx.chg X xe pn) body fx) (hh:Qgm X (h₀::hds) hl):S1 X (.Try body (h₀::hds) [] [] pos) (Qh5 f fx sub hl):=λH0 A0 pins s U H Dd I=>exK λρ hs F o rel e q=>by
 refine wpAny_Try_except ?_;have pass:PassesOwn (model X.prog X.w) X.A X.env (λe s₁=>wpAny (model X.prog X.w) X.A (noteFrame e X.env) (λ_ s₂=>wpAny (model X.prog X.w) X.A (setFlight e none) (λ_ s₃=>wpAny (model X.prog X.w) X.A (handleBy e X.env (h₀::hds)) (SP X pins Dd) X.xe s₃) X.xe s₂) X.xe s₁):=PassesOwn.looking;obtain⟨b1,b2⟩:=hb _ (X.pn++pins) pass;unfold Qh5 at e;split at e
 .rename_i o' eo;cases e;refine thn (b1 H0 A0 [] s U H Dd I.chg ⟨ρ,hs,F,o,rel,eo,q⟩) λfl s1 hq=>?_;cases fl with
  | next=>obtain⟨U',H',I1,q1⟩:=hq;exact wpAny_execs_nil ⟨U',H',I1.Qk7 I.ok,q1⟩
  | brk=>obtain⟨U',H',I1,q1⟩:=hq;exact⟨U',H',I1.Qk7 I.ok,q1⟩
  | cont=>obtain⟨U',H',I1,q1⟩:=hq;exact⟨U',H',I1.Qk7 I.ok,q1⟩
  | ret u=>obtain⟨v,U',H',I1,r1,q1⟩:=hq;exact⟨v,U',H',I1.Qk7 I.ok,r1,q1⟩
 .obtain⟨⟨x,ρ'⟩,e1,e⟩:=bind1 e;refine thn (b2 H0 A0 [] s U H ⟨λ_ _=>False,λ_ _=>False,λ_ _=>False,λ_ _=>False⟩ I.chg ⟨ρ,hs,F,x,ρ',rel,e1,λC ea s' hC T=>?_⟩) λfl s1 hq=>?_
  .refine Qpw (X:=Cx.chg X _ (X.pn++pins)) (E:=X.xe) (Qk:=λs₃=>wpAny (model X.prog X.w) X.A (handleBy (.ref ea) X.env (h₀::hds)) (SP X pins Dd) X.xe s₃) T hx hst hf λpins' U' H' F' s'' rel' I' fly=>?_;obtain⟨B,a0,fl,cov,old,pb⟩:=fly;exact QrY hN hx hsub hC hh (I'.Qk7 I.ok) rel' ⟨B,a0,fl,cov,old,λp hp=>pb p (Ze _ hp)⟩ e q
  .cases fl with
   | next=>obtain⟨U',H',I1,q1⟩:=hq;exact q1.elim
   | brk=>obtain⟨U',H',I1,q1⟩:=hq;exact q1.elim
   | cont=>obtain⟨U',H',I1,q1⟩:=hq;exact q1.elim
   | ret u=>obtain⟨v,U',H',I1,r1,q1⟩:=hq;exact q1.elim
end
end HS
namespace HS
open PySem PySem.Spec L2 PyProof.Rows PySem.W
structure QhD (K:Frag) (C:Addr):Prop where
 cl:(clsIn K C).isSome=true
 ga:findIn K (.ref C) "__getattribute__" =some (some (.builtin "BaseException.__getattribute__"))
 hk:findIn K (.ref C) "__getattr__" =some none
 ca:findIn K (.ref C) "__class__" =some (some (.builtin "object.__class__"))
 mo:mroIn K C (.type "object")=some true
 be:subIn K (.ref C) (.type "BaseException")=some true
section
variable {prog:Program}{w:World}{A:Around}{E:Value->Shared->Prop}{s:Shared}{K:Frag}{a C:Addr}
def Qh8{M:Model}{h:Heap}(x:QdK a C h):Looks M h (typeOf (.ref a)) (.ref C):=by
 obtain⟨o,vs,e,c,_⟩:=x;exact c▸(Looks.ld e).andThen .now
def QxB{R:Result->Shared->Prop}{tp:Value}(z:QhD K C)(X:K.In s.heap)(x:QdK a C s.heap)(h:R (.ok (.ret (.ref C))) s):
  codeAny (model prog w) A (.call (.builtin "getset_descriptor.__get__") ⟨[.builtin "object.__class__",.ref a,tp],[]⟩) R s:=by
 obtain⟨hh,g,dr,t,os⟩:=s;have T0:=Qh8 (M:=model prog w) x;have T1:=looks_mroIn (M:=model prog w) X z.mo
 refine codeAny_call_builtin KF.slot_gs.plain KF.entry_gs
  (KF.slot_gs.check _ _ _ _ _ _ _ _ KF.type_class (KF.args_gs _ _ _) ?_)
 unfold Builtin.«getset_descriptor.__get__» Builtin.Getset_descriptor.descrGet;rw[dga_obj];refine wpAny_bind (wpAny_pure ?_)
 unfold Builtin.Getset_descriptor.descrGetter Builtin.Getset_descriptor.descrCheckInstance
  Builtin.Getset_descriptor.descrNameAndClass isInstance
 simp only[KF.owner_class]
 repeat lk
 refine⟨Code.quiet_builtin _ nofun,
  codeAny_builtin KF.entry_class ?_⟩
 unfold Builtin.«object.__class__» shownTypeOf;repeat lk
 exact h
def QrJ{tk:Tok}{Q:Fin->Shared->Prop}(z:QhD K C)(X:K.In s.heap)(x:QdK a C s.heap)(h:Q (.done (.ret (.ref C))) s):
  wpAny (model prog w) A (Builtin.«object.__getattribute__» ⟨[.ref a,.str "__class__" tk],[]⟩) Q E s:=by
 obtain⟨hh,g,dr,t,os⟩:=s;have T0:=Qh8 (M:=model prog w) x;have T1:=looks_findIn (M:=model prog w) X z.ca;have f5:=F.typeOf_object_class;have f6:=F.slot_gs_get.lookup;have f7:=F.slot_gs_set.lookup;obtain⟨o,vs,hx,hc,hd⟩:=id x;have hT5:(⟨hh,g,dr,t,os⟩:Shared).TypeIs (.builtin "object.__class__") "getset_descriptor" :=f5
 repeat (any_goals (first | assumption | (with_reducible refine wpAny_loadPart_at hx ?_;rw[hc]) | with_reducible refine T1.at ?_ | wp_step))
 refine QxB z X x ?_
 repeat (any_goals (first | assumption | wp_step))
def Qtb{M:Model}{nameV:Value}{Q:Unit->Shared->Prop}(z:QhD K C)(X:K.In s.heap)(x:QdK a C s.heap)(h:Q () s):wpAny M A (checkBuiltinCall "BaseException.__getattribute__" ⟨[.ref a,nameV],[]⟩) Q E s:=by
 obtain⟨hh,g,dr,t,os⟩:=s;have k1:builtinKind "BaseException.__getattribute__" =some .slot:= nofun
 have k2:splitId "BaseException.__getattribute__" =some ("BaseException","__getattribute__"):= nofun
 have T0:=Qh8 (M:=M) x;have T1:=looks_subIn (M:=M) X z.be;have T2:Looks M hh (isInstance (.ref a) (.type "BaseException")) true:=T0.andThen T1;have k3:=F.args_bexc_ga (.ref a) nameV;simp only[checkBuiltinCall,k1,k2];refine wpAny_bind (T2.at ?_);rw[if_neg ∅];have k4:Q () ⟨hh,g,dr,t,os⟩:=h
 repeat (any_goals (first | assumption | wp_step))
def Qyl{tk:Tok}{Q:Value->Shared->Prop}(z:QhD K C)(X:K.In s.heap)(x:QdK a C s.heap)(h:Q (.ref C) s):wpAny (model prog w) A (getAttrBy (.ref a) (.str "__class__" tk) false) Q E s:=by
 obtain⟨hh,g,dr,t,os⟩:=s;have T0:=Qh8 (M:=model prog w) x;have T1:=looks_findIn (M:=model prog w) X z.ga;have T2:=looks_findIn (M:=model prog w) X z.hk;have f3:=PySem.F.attr_ValueError.ga.bind (.ref a);have n2:(Value.builtin "BaseException.__getattribute__" == Value.builtin "object.__getattribute__")=false:= nofun
 have n1:(onTheHeap (Value.ref C) && Value.builtin "BaseException.__getattribute__" == Value.builtin "object.__getattribute__")=false:=by rw[n2];rfl
 obtain⟨o,vs,hx,hc,hd⟩:=id x
 repeat (any_goals (first | assumption | (with_reducible refine wpAny_loadPart_at hx ?_;rw[hc]) | with_reducible refine T1.at ?_ | with_reducible refine T2.at ?_ | wp_step))
 refine codeAny_call_builtin PySem.F.attr_ValueError.ga.plain F.entry_bexc_ga (Qtb z X x (QrJ z X x ?_));have k4:Q (.ref C) ⟨hh,g,dr,t,os⟩:=h
 repeat (any_goals (first | assumption | wp_step))
def Qt4{Q:Option Value->Shared->Prop}(z:QhD K C)(X:K.In s.heap)(x:QdK a C s.heap)(h:Q (some (.ref C)) {s with toks:=s.toks+1}):wpAny (model prog w) A (getAttr? (.ref a) "__class__") Q E s:=by
 obtain⟨hh,g,dr,t,os⟩:=s;have k4:Q (some (.ref C)) ⟨hh,g,dr,t+1,os⟩:=h;have X':K.In (⟨hh,g,dr,t+1,os⟩:Shared).heap:=X;have x':QdK a C (⟨hh,g,dr,t+1,os⟩:Shared).heap:=x;unfold getAttr? getAttrBy?
 repeat (any_goals (first | assumption | with_reducible apply Qyl z X' x' | wp_step))
def Qoa(z:QhD K C):KitX K (.ref a) (.ref C) (QdK a C) where
 ty:=λ_ _ _ x=>Qh8 x
 it:=λ_ _ X _=>by
  have h0:=z.cl;unfold clsIn at h0;split at h0
  .rename_i ho;intro A' Q' E' s' k q;unfold isType loadHead;refine wpAny_bind ?_;exact wpAny_loadPart (k _ _ (X _ _ ho)) (wpAny_pure q)
  .cases h0
 ne:=λh tp dd its n sl X htp=>by
  have h0:=z.cl;refine Bool.eq_false_iff.mpr λq=>?_;obtain rfl:C=tp:=Value.ref.inj (beq_iff_eq.mp q);unfold clsIn at h0;split at h0
  .rename_i ho;have e:=X _ _ ho;rw[htp]at e;cases e
  .cases h0
 ca:=λX x k=>Qt4 z X x k
end
end HS
namespace HS
open PySem PySem.Spec L2 PyProof.Rows
def QxE(K:Fgg)(x y:Str)(b:Bool):Prop:=∃C c,ClsAt K x C/\PySem.W.KtsName K y c/\PySem.W.exmOne K (.ref C) c=some b/\PySem.W.kitOne K (.ref C) c=some b/\QhD K C
def Qbb(K:Fgg)(sub:Str->Str->Option Bool):Prop:=∀x y b,sub x y=some b->QxE K x y b
def Qbb.ok{K:Fgg}{sub:Str->Str->Option Bool}(h:Qbb K sub):Qry K sub:=λx y b e=>by
 obtain⟨C,c,h1,h2,h3,_⟩:=h x y b e;exact⟨C,c,h1,h2,h3⟩
noncomputable def vC:Value->V
 | .ref a=> .ref a
 | .type n=> .ty n
 | _=> .non
def Qsy{K:Fgg}{C:Addr}{c:Value}{b:Bool}(h:PySem.W.kitOne K (.ref C) c=some b):RelV (vC c) c:=by
 cases c with
 | ref a=>exact rfl
 | type n=>exact rfl
 | _=>
  unfold PySem.W.kitOne at h;split at h
  .rename_i q;have:=beq_iff_eq.mp q;cases this
  .cases h
noncomputable def anyS(sub:Str->Str->Option Bool)(x:Str):List Str->Option Bool
 | []=>some false
 | y::r=>(sub x y).bind λb=>(anyS sub x r).map λd=>b || d
noncomputable def Qey(sub:Str->Str->Option Bool)(ys:List Str)(fa:DE):DE:=λρ=>(fa ρ).bind λr=>match r.d with
 | .exc x=>(anyS sub x ys).map λb=>⟨.bl b,true,[]⟩
 | _=>none
section
variable {X:Cx}{a:Expr}{fa:DE}{p p2 pos:Pos}{sub:Str->Str->Option Bool}
def QBU(K:Fgg):List V->Hp->VK->Prop:=λxs H Q=>∃C a y,xs=[.ref a,y]/\H a=some (.ext (QdK a C))/\QhD K C∧
 ((∃c b,y=vC c/\PySem.W.kitOne K (.ref C) c=some b/\Q (.bl b) H)∨∃tp cs b,y= .ref tp/\H tp=some (.tup (cs.map vC))/\(∀c∈cs,RelV (vC c) c)/\PySem.W.kitAny K (.ref C) cs=some b/\Q (.bl b) H)
def Qou{v:V}{c c':Value}(hv:v=vC c)(h:RelV (vC c) c)(h':RelV v c'):c'=c:=by
 subst hv;cases c with
 | ref a=>exact h'
 | type n=>exact h'
 | none=>cases h';rfl
 | _=>cases h
def Qod:∀{cs:List Value}{us:List Value},(∀c∈cs,RelV (vC c) c)->QB (cs.map vC) us->us=cs
 | [],_,_,.nil=>rfl
 | c::cs,_,h,.cons r t=>by
  rw[Qou rfl (h c Zf) r,Qod (λc hc=>h c (Zc _ hc)) t]
def Quy:Qdl X (.builtin "isinstance") (QBU X.K):=by
 intro pins s U H xs us Q I r h;obtain⟨C,a,y,rfl,hH,z,h⟩:=h;obtain⟨u,w,rfl,ru,rw'⟩:=vals2 r;cases(show u=Value.ref a from ru);have xo:QdK a C s.heap:=(show QbZ X.prog X.w H s.heap a (.ext (QdK a C))from I.hok a _ hH).1;rcases h with⟨c,b,rfl,k,q⟩ | ⟨tp,cs,b,rfl,ht,hr,k,q⟩
 .cases Qou rfl (Qsy k) rw';exact ZaJ (Qoa z) I.kIn xo k (λz=>nomatch z) λtk=>⟨.bl b,H,I.tok _,rfl,q⟩
 .cases(show w=Value.ref tp from rw');obtain⟨_,its,rv,o,e1,e2,n,e3⟩:=(show QbZ X.prog X.w H s.heap tp (.tup (cs.map vC))from I.hok tp _ ht);have hits:=Qod hr rv;subst hits;obtain⟨oc,od,odat,osl⟩:=o;dsimp only at e2 e3;subst e2 e3;exact PySem.W.kia_tup (Qoa z) I.kIn xo e1 k (λz=>nomatch z) λtk=>⟨.bl b,H,I.tok _,rfl,q⟩
def QyZ{y:Str}{c:Value}{np:Pos}(hg:Gl X y)(hdb:(y == ("__debug__" :Str))=false)(k:PySem.W.KtsName X.K y c)(hr:RelV (vC c) c):PE X (.Name y np) (tC (vC c)):=λpins s U H Q I h=>Qtv I hg hdb k ⟨vC c,H,I,hr,h⟩
def QwO{y:Str}(hsub:Qbb X.K sub)(hg:Gl X "isinstance")(hm:X.mg "isinstance" =none)(hy:Gl X y)(hdb:(y == ("__debug__" :Str))=false)(ha:SE X a fa)(he:starEach [a,.Name y p2] X.env=(false,eval a X.env)::starEach [.Name y p2] X.env):
  SE X (.Call (.Name "isinstance" p) [a,.Name y p2] [] pos) (Qey sub [y] fa):=λH0 A0 pins s U H Q I=>exK λρ hs F r' rel e q=>by
 refine Qf e λr e1 e=>?_;split at e
 .rename_i x hd;obtain⟨b,eb,rfl⟩:=Zb.mp e;have eb':sub x y=some b:=by
   unfold anyS at eb;refine Qf eb λb' h1 h2=>?_;cases b' with
   | true=>cases h2;exact h1
   | false=>cases h2;exact h1
  obtain⟨C,c,k1,k2,k3,k4,k5⟩:=hsub x y b eb';refine QjX Quy hg hm Zbk (Qa5 (ha H0 A0) (Qa5 (QyZ hy hdb k2 (Qsy k4)) Qdz) he) ∅ ∅ he (by rfl) pins s U H Q I ?_;refine⟨ρ,hs,F,r,rel,e1,λv H1 G p=>?_⟩;have rp:=p.rp;rw[hd,Rp]at rp;obtain⟨⟨ea,rfl,C',hC',hH⟩,rfl⟩:=rp;cases QiM k1 hC';exact⟨C,ea,_,rfl,hH,k5,.inl ⟨c,b,rfl,k4,q _ H1 [] (.flat p.same .Qdg)⟩⟩
 .cases e
end
structure Qci (k:Nat) (A:Around):Prop where
 dp:A.depth+3*k+5<recursionLimit
 un:A.units+16*k+200<cLine
def QAx{k:Nat}{A:Around}(r:Qao k A):Qci k A:=⟨r.dp,r.un⟩
def Qci.mono{j k:Nat}{A:Around}(r:Qci k A)(h:j<=k):Qci j A:=⟨by have:=r.dp;omega,by have:=r.un;omega⟩
def Qci.deeper{k:Nat}{A:Around}(r:Qci (k+1) A)(env:Env):Qci k (A.deeper env):=
 ⟨by have:=r.dp;show A.depth+1+3*k+5<_;omega,by have:=r.un;show A.units+3+16*k+200<_;omega⟩
def Qci.units{k:Nat}{A:Around}(r:Qci k A):A.units+64<cLine:=by have:=r.un;omega
def Qci.mark{k:Nat}{A:Around}{v:Option Value}(r:Qci k A):Qci k (A.mark v):=⟨r.dp,r.un⟩
structure FnH (P:Program) (w:World) (K:Fgg) (mg:Str->Option Value) (base:Heap) (k:Nat) (f:Addr) (fd:FuncData) (ps:List Str) (sp:Sp):Prop where
 len:∀vs H Q E,sp vs H Q E->vs.length=ps.length
 run:∀(A:Around) (outer:List Env) (s:Shared) (H:Hp) (args:Args) (us:List Value) (vs:List V) (Q:VK) (E:XK),Qci k A->QiP P w K mg base A outer s H->BindsTo s fd args (ps.zip us)->QB vs us->sp vs H Q E→
  codeAny (model P w) A (.call (.ref f) args) (CR CX0 outer P w H s Q E) s
section
variable {P:Program}{w:World}{K:Fgg}{mg:Str->Option Value}{base:Heap}
def FnH.mono{j k:Nat}{f:Addr}{fd:FuncData}{ps:List Str}{sp:Sp}(F:FnH P w K mg base j f fd ps sp)(h:j<=k):FnH P w K mg base k f fd ps sp:=⟨F.len,λA outer s H args us vs Q E hr=>F.run A outer s H args us vs Q E (hr.mono h)⟩
def Qwn{x qual:Str}{st:Stmt}{f:Addr}{fd:FuncData}{N ps:List Str}{k:Nat}{sp:Sp}(F:Fun K x qual st f fd)(S:Qar N ps (Qg st))(len:∀vs H Q E,sp vs H Q E->vs.length=ps.length)
  (hbody:∀(cdv:Value) (A:Around) (outer:List Env) (s:Shared) (H:Hp) (vs:List V) (Q:VK) (E:XK),Qci k (A.deeper (envOfC qual (Qg st) s.heap.objs.size f cdv))->sp vs H Q E→
   ∃t,PSs (QbP CX0 P w K mg base N qual (Qg st) f cdv A outer s H E).nox (QY st) t/\t {nx:=λ_ H'=>Q .non H',rt:=Q} (start N vs) H):FnH P w K mg base (k+1) f fd ps sp:=by
 obtain⟨oc,od,kV,doc,pm,an,cdv,ct,osl,rfl,lk,hcd⟩:=F.ex;refine⟨len,λA outer s H args us vs Q E hr e0 hb r hsp=>?_⟩;have hl:=len _ _ _ _ hsp;have KX:K.In s.heap:=e0.mod.kin.keeps λb o e=>(e0.bs b o e).1;have lim:s.heap.NoLimit:=e0.mod.nolimit.keeps λb o e=>(e0.bs b o e).1;have hkind:∀y∈ps.zip us,(Qg st).names.lookup y.1=some .local ∨((Qg st).names.lookup y.1=some .cell/\((cellsFrom (s.heap.objs.size+1) (Qg st).names []).lookup y.1).isSome=true):=λZ hy=>by
  obtain⟨n,v⟩:=Z;rcases S.par n (Zbj hy).1 with q | q
  .exact .inl q
  .exact .inr ⟨q,Zba _ _ _ (.inl q)⟩
 refine codeAny_call_function (by have:=hr.dp;omega) (KX _ _ lk) rfl S.co S.gen rfl (PySem.W.codeRec_of KX hcd) (hb _ _ _ _ ?_);refine wpAny_newFunctionEnv_cells S.kind hkind λenv he s1 x=>?_;subst he;refine⟨lim.keeps x.toInCall.keep,codeAny_func ?_⟩;obtain⟨t,ht,hq⟩:=hbody cdv A outer s H vs Q E (hr.deeper _) hsp;have I:Inv (QbP CX0 P w K mg base N qual (Qg st) f cdv A outer s H E) [] (start N vs) H s1:=Qms S e0 hl r x;refine wpAny_mono (ht.nox [] s1 (start N vs) H _ I hq) (λfl s' hs=>?_) λe s' hs=>hs
 have fin:∀{U':L2.St}{H':Hp}{v:V}{u:Value},Inv (QbP CX0 P w K mg base N qual (Qg st) f cdv A outer s H E) [] U' H' s'->RelV v u->Q v H'->CE outer P w H s Q u s':=
  λ{U' H' v u} J rv q=>⟨v,H',J.os,J.bare,J.base,J.hok,rv,q⟩
 cases fl with
 | ret u=>obtain⟨v,U',H',J,rv,q⟩:=hs;exact fin J rv q
 | next=>obtain⟨U',H',J,q⟩:=hs;exact fin (v:=V.non) (u:=Value.none) J rfl q
 | brk=>obtain⟨_,_,_,q⟩:=hs;exact False.elim q
 | cont=>obtain⟨_,_,_,q⟩:=hs;exact False.elim q
end
section
variable {X:Cx}{e:Expr}{es:List Expr}{fs:DA}{pos p:Pos}{x:Str}{n k:Nat}{f:Addr}{fd:FuncData}{ps:List Str}{den:Den}
def Qvj(Fk:FnH X.prog X.w X.K X.mg X.base k f fd ps (spV X.K n den))(hr:Qci k X.A)(hg:Gl X x)(hm:X.mg x=some (.ref f))(hk:PySem.W.keepIn X.K (.ref f)=true)(hb:Binds X.K fd ps [])
  (ha:SA X (e::es) fs) (hdb:(x == ("__debug__" :Str))=false) (he:starEach (e::es) X.env=(false,eval e X.env)::starEach es X.env) (hpl:(backTo pos (starEach es X.env)).any (·.1)=false):
  SE X (.Call (.Name x p) (e::es) [] pos) (Qj n den [] fs):=λH0 A0=>by
 intro pins s U H Q I h;have h:=Qiu (X:=X) (dvs:=[]) (λH=>by simp[Rps]) h;refine wpAny_Call_Name_kw (QcO I hg hm ?_ hdb);refine ZaF (h₀:=X.base) I.ok.mod.kin hk (thn (ha H0 A0 pos pins s U H _ I h) λus s1 ⟨vs,H1,I1,r,q⟩=>⟨I1.kIn,?_⟩) he hpl;have r2:QB (vs++[]) (us++[]):=by rw[Zs,Zs];exact r
 have hl:(us++[]).length=ps.length:=by rw[← r2.length];exact Fk.len _ _ _ _ q
 refine wpAny_call (codeAny_mono (Fk.run X.A X.stack s1 H1 ⟨us,[]⟩ (us++[]) (vs++[]) Q E0 hr I1.Qpb (hb s1 us I1.kIn hl) r2 q) λr s' hq=>?_);cases r with
 | error ev=>exact Qfc pins U H1 s1 ev s' I1 hq
 | ok fl=>
  cases fl with
  | ret u=>exact I1.after hq
  | next=>exact False.elim hq
  | brk=>exact False.elim hq
  | cont=>exact False.elim hq
end
def Qej(X:Cx)(hΓ:List (Str×FnR)):Prop:=∀x r,look x hΓ=some r->∃k f fd ps,FnH X.prog X.w X.K X.mg X.base k f fd ps (spV X.K r.n r.den)/\Qci k X.A/\X.mg x=some (.ref f)/\PySem.W.keepIn X.K (.ref f)=true/\Binds X.K fd ps []
def Qej.inH{X:Cx}{hΓ:List (Str×FnR)}{ea:Addr}(h:Qej X hΓ):Qej (HS.inH X ea) hΓ:=λx r e=>by
 obtain⟨k,f,fd,ps,h1,h2,h3⟩:=h x r e;exact⟨k,f,fd,ps,h1,h2.mark,h3⟩
section
variable (P:Program) (w:World) (K:Fgg) (mg:Str->Option Value) (base:Heap)
def QgS(k:Nat)(x:Str)(r:FnR):Prop:=∃f fd ps,FnH P w K mg base k f fd ps (spV K r.n r.den)/\mg x=some (.ref f)/\PySem.W.keepIn K (.ref f)=true/\Binds K fd ps []
def Qd9(k:Nat)(Γ:List (Str×FnR)):Prop:=∀x r,look x Γ=some r->QgS P w K mg base k x r
end
section
variable {P:Program}{w:World}{K:Fgg}{mg:Str->Option Value}{base:Heap}
def Qd9.nil{k:Nat}:Qd9 P w K mg base k []:=λx r h=>by cases h
def QgS.mono{j k:Nat}{x:Str}{r:FnR}(h:QgS P w K mg base j x r)(hk:j<=k):QgS P w K mg base k x r:=by
 obtain⟨f,fd,ps,h1,h2⟩:=h;exact⟨f,fd,ps,h1.mono hk,h2⟩
def Qd9.mono{j k:Nat}{Γ:List (Str×FnR)}(t:Qd9 P w K mg base j Γ)(hk:j<=k):Qd9 P w K mg base k Γ:=λx r e=>(t x r e).mono hk
def Qd9.cons{k:Nat}{Γ:List (Str×FnR)}{x:Str}{r:FnR}(t:Qd9 P w K mg base k Γ)(h:QgS P w K mg base (k+1) x r):Qd9 P w K mg base (k+1) ((x,r)::Γ):=λy q e=>by
 unfold look at e;split at e
 .rename_i z;cases e;subst z;exact h
 .exact(t y q e).mono (ZaD _)
end
def QvS{X:Cx}{hΓ:List (Str×FnR)}{k:Nat}(hr:Qao k X.A)(t:Qd9 X.prog X.w X.K X.mg X.base k hΓ):Qej X hΓ:=λz r e=>by
 obtain⟨f',fd',ps',h1,h2⟩:=t z r e;exact⟨k,f',fd',ps',h1,QAx hr,h2⟩
noncomputable def Qzj:Const->Option DE
 | .bool b=>some (dC (.bl b))
 | _=>none
noncomputable def QBA:List Expr->Option (Expr×Expr)
 | [a,y]=>some (a,y)
 | _=>none
noncomputable def QzR(J:Th):Expr->Option (List Str)
 | .Name y _=>if J.gl y=true then some [y]else none
 | _=>none
mutual
noncomputable def QbQ(n:Nat)(J:Th)(sub:Str->Str->Option Bool)(hΓ:List (Str×FnR))(e:Expr):Option DE:=match n with
 | 0=>none
 | n+1=>match e with
  | .Name x _=>(J.slot x).map Qd
  | .Constant v _ _=>Qzj v
  | .UnaryOp o a _=>match o with
   | .Not=>(QbQ n J sub hΓ a).map Qvd
   | _=>none
  | .BoolOp o es p=>match es with
   | []=>none
   | a::r=>match r with
    | []=>QbQ n J sub hΓ a
    | b::r=>match o with
     | .And=>(QbQ n J sub hΓ a).bind λfa=>(QbQ n J sub hΓ (.BoolOp .And (b::r) p)).map λfb=>QcZ fa fb
     | .Or=>(QbQ n J sub hΓ a).bind λfa=>(QbQ n J sub hΓ (.BoolOp .Or (b::r) p)).map λfb=>dOr fa fb
  | .BinOp a o b _=>match o with
   | .Add=>(QbQ n J sub hΓ a).bind λfa=>(QbQ n J sub hΓ b).map λfb=>Qx fa fb
   | _=>none
  | .Call f as kw _=>match kw with
   | _::_=>none
   | []=>(Qal f).bind λx=>if J.gl x=true then if x= "isinstance" then(QBA as).bind λp=>(QzR J p.2).bind λys=>(QbQ n J sub hΓ p.1).map λfa=>Qey sub ys fa
    else match as with
     | []=>none
     | a::as=>(look x hΓ).bind λr=>(Qgz n J sub hΓ (a::as)).map λfs=>Qj r.n r.den [] fs
    else none
  | .List es _=>(Qgz n J sub hΓ es).map QH
  | _=>none
noncomputable def Qgz(n:Nat)(J:Th)(sub:Str->Str->Option Bool)(hΓ:List (Str×FnR))(es:List Expr):Option DA:=match n with
 | 0=>none
 | n+1=>match es with
  | []=>some Qc
  | e::es=>(QbQ n J sub hΓ e).bind λfa=>(Qgz n J sub hΓ es).map λfs=>Qa fa fs
end
def Qna{n:Nat}{J:Th}{sub:Str->Str->Option Bool}{hΓ:List (Str×FnR)}{e:Expr}{f:DE}(h:QbQ n J sub hΓ e=some f)(es:List Expr)(env:Env):starEach (e::es) env=(false,eval e env)::starEach es env:=by
 cases n with
 | zero=>exact nn h
 | succ n=>cases e<;>first | rfl | exact nn h
def Qn5:∀{n:Nat}{J:Th}{sub:Str->Str->Option Bool}{hΓ:List (Str×FnR)}{es:List Expr}{fs:DA},Qgz n J sub hΓ es=some fs->∀(pos:Pos) (env:Env),(backTo pos (starEach es env)).any (·.1)=false
 | 0,_,_,_,_,_,h,_,_=>nomatch (show(none:Option DA)=some _ from h)
 | n+1,_,_,_,[],_,h,_,_=>rfl
 | n+1,_,_,_,e::es,_,h,pos,env=>by
  refine Qf (show Option.bind _ _=some _ from h) λfa h1 h=>?_;refine mapR (M:=λ_=>(backTo pos (starEach (e::es) env)).any (·.1)=false) h λfs' h2=>?_;rw[Qna h1];have:=Qn5 h2 pos env;simpa[backTo]using this
def QAJ{X:Cx}{n:Nat}{J:Th}{sub:Str->Str->Option Bool}{hΓ:List (Str×FnR)}{a:Expr}{as:List Expr}{fs:DA}(h:Qgz n J sub hΓ (a::as)=some fs)(pos:Pos):
  starEach (a::as) X.env=(false,eval a X.env)::starEach as X.env/\(backTo pos (starEach as X.env)).any (·.1)=false:=by
 cases n with
 | zero=>exact nn h
 | succ n=>
  refine Qf (show Option.bind _ _=some _ from h) λfa h1 h=>?_;exact mapR (M:=λ_=>starEach (a::as) X.env=(false,eval a X.env)::starEach as X.env/\(backTo pos (starEach as X.env)).any (·.1)=false) h λfs' h2=>⟨Qna h1 _ _,Qn5 h2 pos X.env⟩
def QCa{X:Cx}{J:Th}{sub:Str->Str->Option Bool}{a e:Expr}{fa:DE}{ys:List Str}{p pos:Pos}(ok:CtxB X J)(hs:Qbb X.K sub)(g1:J.gl "isinstance" =true)(h:QzR J e=some ys)(ha:SE X a fa)(he:starEach [a,e] X.env=(false,eval a X.env)::starEach [e] X.env):SE X (.Call (.Name "isinstance" p) [a,e] [] pos) (Qey sub ys fa):=by
 obtain⟨a1,a2,a3⟩:=Qb7 ok g1;cases e with
 | Name y p2=>
  change(if J.gl y=true then some [y]else none)=some ys at h;split at h
  .rename_i g2;cases h;obtain⟨b1,b2,b3⟩:=Qb7 ok g2;exact QwO hs a1 (ok.mg _ nofun) b1 b2 ha he
  .cases h
 | _=>exact nomatch (show(none:Option (List Str))=some _ from h)
structure Qza (n:Nat):Prop where
 E:∀X J sub hΓ e f,CtxB X J->Qbb X.K sub->Qej X hΓ->QbQ n J sub hΓ e=some f->SE X e f
 A:∀X J sub hΓ es f,CtxB X J->Qbb X.K sub->Qej X hΓ->Qgz n J sub hΓ es=some f->SA X es f
def Qzf{n:Nat}(ih:Qza n)(X:Cx)(J:Th)(sub:Str->Str->Option Bool)(hΓ:List (Str×FnR))(e:Expr)(f:DE)(ok:CtxB X J)(hs:Qbb X.K sub)(hu:Qej X hΓ)(h:QbQ (n+1) J sub hΓ e=some f):SE X e f:=by
 have ihE:=λe f=>ih.E X J sub hΓ e f ok hs hu;cases e with
 | Name x p=>exact mapR (show Option.map _ _=some _ from h) λi h1=>Qn6 (QdM ok h1)
 | Constant v k p=>
  change Qzj v=some f at h;cases v with
  | bool b=>cases h;exact QlO QvM (λ_ _=> .Qdg) rfl
  | _=>exact nn h
 | UnaryOp o a p=>
  cases o with
  | Not=>exact mapR (show Option.map _ _=some _ from h) λfa h1=>Qsz (ihE _ fa h1)
  | _=>exact nn h
 | BoolOp o es p=>
  cases es with
  | nil=>exact nn h
  | cons a r=>
   cases r with
   | nil=>exact Qnt (ihE _ f h)
   | cons b r=>
    cases o with
    | And=>exact bindR h λfa fb h1 h2=>Qsb (ihE _ fa h1) (ihE _ fb h2)
    | Or=>exact bindR h λfa fb h1 h2=>QvW (ihE _ fa h1) (ihE _ fb h2)
 | BinOp a o b p=>
  cases o with
  | Add=>exact bindR h λfa fb h1 h2=>QsB (ihE _ fa h1) (ihE _ fb h2)
  | _=>exact nn h
 | Call fn as kw p=>
  cases kw with
  | cons _ _=>exact nn h
  | nil=>
   refine Qf (show(Qal fn).bind _=some _ from h) λx hx h=>Qm5 (G:=λt=>SE X (.Call t as [] p) f) hx λnp=>?_;split at h
   .rename_i hg;split at h
    .rename_i hi;subst hi;refine Qf h λq hq h=>?_;rcases as with _ | ⟨a,_ | ⟨y,_ | ⟨z,as⟩⟩⟩
     .cases hq
     .cases hq
     .cases hq;exact bindR h λys fa h1 h2=>QCa ok hs hg h1 (ihE _ fa h2) (Qna h2 _ _)
     .cases hq
    .cases as with
     | nil=>cases h
     | cons a as=>
      refine Qf h λr hr h=>?_;refine mapR h λfs h1=>?_;obtain⟨a1,a2,a3⟩:=Qb7 ok hg;obtain⟨k,f,fd,ps,F1,F2,F3,F4,F5⟩:=hu _ r hr;obtain⟨s1,s2⟩:=QAJ (X:=X) h1 _;exact Qvj F1 F2 a1 F3 F4 F5 (ih.A X J sub hΓ _ fs ok hs hu h1) a2 s1 s2
   .cases h
 | List es p=>exact mapR (show Option.map _ _=some _ from h) λfs h1=>Qtk (ih.A X J sub hΓ _ fs ok hs hu h1)
 | _=>exact nn h
def Qhy:∀n,Qza n
 | 0=>⟨λ_ _ _ _ _ _ _ _ _ h=>(nn h),λ_ _ _ _ _ _ _ _ _ h=>(nn h)⟩
 | n+1=>⟨Qzf (Qhy n),λX J sub hΓ es f ok hs hu h=>by
  cases es with
  | nil=>cases(show some Qc=some f from h);exact QkP
  | cons e es=>exact bindR h λfa fs h1 h2=>QgV ((Qhy n).E X J sub hΓ _ fa ok hs hu h1) ((Qhy n).A X J sub hΓ _ fs ok hs hu h2) (Qna h1 _ _)⟩
noncomputable def QdA(n:Nat)(J:Th)(sub:Str->Str->Option Bool)(hΓ:List (Str×FnR))(e:Expr):Option DT:=match n with
 | 0=>none
 | n+1=>match e with
  | .UnaryOp o a _=>match o with
   | .Not=>(QdA n J sub hΓ a).map QbO
   | _=>none
  | .BoolOp o es p=>match o with
   | .Or=>match es with
    | []=>none
    | a::es=>match es with
     | []=>QdA n J sub hΓ a
     | b::r=>(QdA n J sub hΓ a).bind λfa=>(QdA n J sub hΓ (.BoolOp .Or (b::r) p)).map λfb=>bOr fa fb
   | _=>none
  | .Call f as kw p=>(QbQ 20 J sub hΓ (.Call f as kw p)).map Qv
  | _=>none
def QeW:∀(n:Nat) {X:Cx}{J:Th}{sub:Str->Str->Option Bool}{hΓ:List (Str×FnR)}{e:Expr}{f:DT},CtxB X J->Qbb X.K sub->Qej X hΓ->QdA n J sub hΓ e=some f->ST X e f
 | 0,_,_,_,_,_,_,_,_,_,h=>nomatch (show(none:Option DT)=some _ from h)
 | n+1,X,J,sub,hΓ,e,f,ok,hs,hu,h=>by
  cases e with
  | UnaryOp op a pos=>
   cases op with
   | Not=>exact mapR (show(QdA n J sub hΓ a).map QbO=some f from h) λfa h1=>Qsc (QeW n ok hs hu h1)
   | _=>exact nn h
  | BoolOp op es pos=>
   cases op with
   | And=>exact nn h
   | Or=>
    rcases es with _ | ⟨a,_ | ⟨b,r⟩⟩
    .exact nn h
    .exact(Qto (QeW n ok hs hu (show QdA n J sub hΓ a=some f from h))).st
    .refine bindR (show((QdA n J sub hΓ a).bind λfa=>(QdA n J sub hΓ (.BoolOp .Or (b::r) pos)).map λfb=>bOr fa fb)=some f from h) λfa fb h1 h2=>?_;have hb:=QeW n ok hs hu h2;exact(Qv5 (QeW n ok hs hu h1) (λH0 A0 wh pins s U H Q I q=>by have:=hb H0 A0 pins s U H Q I q;exact this)).st
  | Call g as kw p=>exact mapR (show(QbQ 20 J sub hΓ (.Call g as kw p)).map Qv=some f from h) λfa h1=>Qtt ((Qhy 20).E X J sub hΓ _ fa ok hs hu h1) λ_=>rfl
  | _=>exact nn h
noncomputable def QvF(a:List Stmt):Option Expr:=match a with
 | []=>none
 | s::r=>match r with
  | []=>match s with
   | .Return v _=>v
   | _=>none
  | _=>none
def QuS{a:List Stmt}{e:Expr}(h:QvF a=some e):∃p,a=[.Return (some e) p]:=by
 rcases a with _ | ⟨s,_ | ⟨t,r⟩⟩
 .cases h
 .cases s with
  | Return v p=>cases(show v=some e from h);exact⟨p,rfl⟩
  | _=>exact nn h
 .cases h
noncomputable def QrT(J:Th)(sub:Str->Str->Option Bool)(hΓ:List (Str×FnR))(st:Stmt):Option DS:=match st with
 | .Assign ts e _=>(QuC ts).bind λx=>(J.Qb1 x).bind λi=>if Qjd e=false/\Qfm e=true then(QbQ 20 J sub hΓ e).map λfa=>Qn i fa else none
 | .Return v _=>v.bind λe=>(QbQ 20 J sub hΓ e).map λfa=>QW fa
 | .If c a b _=>match b with
  | []=>(QvF a).bind λe=>(QdA 20 J sub hΓ c).bind λg=>(QbQ 20 J sub hΓ e).map λfa=>sIf g (Qe (QW fa) Qi) Qi
  | _=>none
 | _=>none
def Qs2{X:Cx}{J:Th}{sub:Str->Str->Option Bool}{hΓ:List (Str×FnR)}{st:Stmt}{f:DS}(ok:CtxB X J)(hs:Qbb X.K sub)(hu:Qej X hΓ)(h:QrT J sub hΓ st=some f):S1 X st f:=by
 cases st with
 | Assign ts e p=>
  refine Qf (show(QuC ts).bind _=some _ from h) λx hx h'=>?_;clear h;rcases ts with _ | ⟨t,_ | ⟨t2,ts⟩⟩
  .cases hx
  .refine Qm5 (G:=λt=>S1 X (.Assign [t] e p) f) hx λq=>?_;refine Qf h' λi hi h=>?_;split at h
   .rename_i hc;refine mapR h λfa h1=>?_;obtain⟨a1,a2,a3⟩:=Qce ok hi;exact Qiz λH0 A0=>QeR (by rw[ok.N];exact ok.nd) a1 a2 ((Qhy 20).E X J sub hΓ _ fa ok hs hu h1 H0 A0) (Qca hc.2) a3
   .cases h
  .cases hx
 | Return v p=>
  refine Qf (show v.bind _=some _ from h) λe he h=>?_;cases he;exact mapR h λfa h1=>Qnx ((Qhy 20).E X J sub hΓ _ fa ok hs hu h1)
 | If c a b p=>
  rcases b with _ | ⟨t,r⟩
  .refine Qf (show(QvF a).bind _=some _ from h) λe he h=>?_;obtain⟨q,rfl⟩:=QuS he;exact bindR h λg fa h1 h2=>Qv7 (QeW 20 ok hs hu h1) (Qjo (Qnx ((Qhy 20).E X J sub hΓ _ fa ok hs hu h2)) Qlh) Qlh
  .exact nn h
 | _=>exact nn h
noncomputable def Qh4(J:Th)(sub:Str->Str->Option Bool)(hΓ:List (Str×FnR)):List Stmt->Option DS
 | []=>some Qi
 | st::r=>(QrT J sub hΓ st).bind λf=>(Qh4 J sub hΓ r).map λg=>Qe f g
def QiU{X:Cx}{J:Th}{sub:Str->Str->Option Bool}{hΓ:List (Str×FnR)}(ok:CtxB X J)(hs:Qbb X.K sub)(hu:Qej X hΓ):∀(sts:List Stmt) (f:DS),Qh4 J sub hΓ sts=some f->SS X sts f
 | [],f,h=>by cases(show some Qi=some f from h);exact Qlh
 | st::r,f,h=>bindR h λf g h1 h2=>Qjo (Qs2 ok hs hu h1) (QiU ok hs hu r g h2)
noncomputable def hd1(J:Th)(y:Str)(f:DS):Option Str->Option Hd
 | none=>some (y,none,f)
 | some nm=>if look nm J.sc=some .local then(J.Qb1 nm).map λi=>(y,some i,f)else none
noncomputable def QkU(J:Th)(sub:Str->Str->Option Bool)(hΓ:List (Str×FnR)):List ExceptHandler->Option (List Hd)
 | []=>some []
 | .ExceptHandler t nm bs _::r=>match bs with
  | []=>none
  | b::bs=>t.bind λt=>(Qal t).bind λy=>if J.gl y=true then(Qh4 J sub hΓ (b::bs)).bind λf=>(hd1 J y f nm).bind λq=>(QkU J sub hΓ r).map λl=>q::l else none
def QvA{X:Cx}{J:Th}{ea:Addr}(ok:CtxB X J):CtxB (inH X ea) J:=⟨ok.N,ok.nd,ok.lc,ok.ce,ok.fe,ok.gl,ok.units,ok.mg,ok.cs⟩
def Qh6{X:Cx}{J:Th}{sub:Str->Str->Option Bool}{hΓ:List (Str×FnR)}(ok:CtxB X J)(hs:Qbb X.K sub)(hu:Qej X hΓ):∀(hds:List ExceptHandler) (hl:List Hd),QkU J sub hΓ hds=some hl->Qgm X hds hl
 | [],f,h=>by cases(show some []=some f from h);exact .nil
 | .ExceptHandler t nm bs p::r,l,h=>by
  cases bs with
  | nil=>exact nomatch (show(none:Option (List Hd))=some _ from h)
  | cons b bs=>
   refine Qf (show t.bind _=some _ from h) λt ht h=>?_;cases ht;refine Qf h λy hy h=>Qm5 (G:=λt=>Qgm X (.ExceptHandler (some t) nm (b::bs) p::r) l) hy λnp=>?_;split at h
   .rename_i hc;obtain⟨g1,g2,_⟩:=Qb7 ok hc;refine Qf h λf h1 h=>?_;refine bindR h λq l hq h2=>?_;have hS:=λea=>QiU (QvA (ea:=ea) ok) hs hu.inH _ f h1;have tl:=Qh6 ok hs hu r l h2;cases nm with
    | none=>cases(show some (y,none,f)=some q from hq);exact .bare g1 g2 hS tl
    | some nm=>
     change(if look nm J.sc=some .local then(J.Qb1 nm).map λi=>(y,some i,f)else none)=some q at hq;split at hq
     .rename_i hn;refine mapR (M:=λq=>Qgm X (.ExceptHandler (some (.Name y np)) (some nm) (b::bs) p::r) (q::l)) hq λi hi=>?_;obtain⟨a1,a2,a3⟩:=Qce ok hi;exact .as g1 g2 a1 (ok.lc nm hn) hS tl
     .cases hq
   .cases h
noncomputable def QtP(n:Nat)(J:Th)(JX:ThX)(sub:Str->Str->Option Bool)(hΓ:List (Str×FnR))(st:Stmt):Option DS:=match st with
 | .Try body (h::hs) [] [] _=>(Q5 n J body).bind λf=>(Qd1 n J JX body).bind λfx=>(QkU J sub hΓ (h::hs)).map λhl=>Qh5 f fx sub hl
 | _=>none
def Qqf{X:Cx}{J:Th}{xe:Value->Shared->Prop}{pn:List (Addr×Obj)}(ok:QJ X J)(ht:∀st f,J.tr st=some f->∀X,S1 X st f)(hte:∀e f,J.te e=some f->∀X,SE X e f)(hp:PassesOwn (model X.prog X.w) X.A X.env xe):QJ (Cx.chg X xe pn) J:=
 ⟨⟨ok.N,ok.nd,ok.lc,ok.ce,ok.fe,ok.gl,ok.units,ok.mg,ok.cs⟩,ok.calm,hp,ok.fns,λst f h=>ht st f h _,λe f h=>hte e f h _⟩
def QxR{X:Cx}{J:Th}{JX:ThX}{sub:Str->Str->Option Bool}{hΓ:List (Str×FnR)}{n:Nat}{st:Stmt}{f:DS}(ok:QJ X J)(ht:∀st f,J.tr st=some f->∀X,S1 X st f)(hte:∀e f,J.te e=some f->∀X,SE X e f)(xk:XOk X JX)(hs:Qbb X.K sub)(hu:Qej X hΓ)(h:QtP n J JX sub hΓ st=some f):S1 X st f:=by
 unfold QtP at h;split at h
 .rename_i body h0 hds pos;refine Qf h λfb h1 h=>?_;obtain⟨fx,hl,h2,h3,rfl⟩:=Qb3 h;have hN:X.N.Nodup:=by rw[ok.N];exact ok.nd
  refine Qsw hN xk.ex xk.stk xk.fr hs.ok (λxe pn hp=>?_) (Qh6 ok.toCtxB hs hu _ hl h3);have ok':=Qqf (pn:=pn) ok ht hte hp;have xk':XOk (Cx.chg X xe pn) JX:=⟨xk.ex,xk.stk,xk.fr,xk.fx,xk.cl⟩;exact⟨(QeD n).Ss _ _ _ fb ok' h1,(Qkr n).Xs _ _ _ _ fx ok' xk' h2⟩
 .cases h
noncomputable def thT(n:Nat)(st:Stmt)(Γ:List (Str×FnR))(cs:List (Str×Cn))(JX:ThX)(sub:Str->Str->Option Bool)(hΓ:List (Str×FnR)):Th:={Qbo st Γ cs with tr:=QtP n (Qbo st Γ cs) JX sub hΓ}
section
variable {P:Program}{w:World}{K:Fgg}{mg:Str->Option Value}{base:Heap}
def Qqp{h:Heap}{x:Str}{st:Stmt}{ps:List Str}{k n m:Nat}{Γ:List (Str×FnR)}{Γx:List (Str×(Nat×(List D->Option Str)))}{cls:List Str}{cs:List (Str×Cn)}{sub:Str->Str->Option Bool}{hΓ:List (Str×FnR)}{g:DS}(X:K.In h)(G:h.Ns mainGlobals mg)(F:Fact K x st)(S:Qar (namesOf (Qg st)) ps (Qg st))(B:Q3 x st ps)(M:QbR mg cs)(tab:QaK P w K mg base k Γ)(tabx:Qep P w K mg base k Γx)
  (hcl:∀x∈cls,Qg6 K x) (hs:Qbb K sub) (tabh:Qd9 P w K mg base k hΓ) (hc:Q5 n (thT m st Γ cs ⟨Γx,cls⟩ sub hΓ) (QY st)=some g):Known P w K mg base (k+1) x ⟨ps.length,[],Qu (namesOf (Qg st)).length g⟩:=by
 obtain⟨f,fd,Fn,a⟩:=F.ex;refine⟨f,fd,ps,?_,Zai X G a,Fn.kp,λm hm=>⟨[],[],Fn.binds (B ·),.nil,λH=>by simp[Rps]⟩⟩;refine Fn.ok S (Qjb rfl) λcdv A outer s H vs Q E hr h=>?_;obtain⟨ds,L,d,fr,rps,hl,hd,q⟩:=h;have ok:=QiQ (P:=P) (w:=w) (K:=K) (base:=base) (qual:=x) (f:=f) (outer:=outer) (H:=H) (E:=E) S M tab hr;have xk:XOk (QbP CX0 P w K mg base (namesOf (Qg st)) x (Qg st) f cdv A outer s H E).nox ⟨Γx,cls⟩:=⟨rfl,rfl,rfl,λz r e=>by
  obtain⟨f',fd',ps',h1,h2,h3,h4,h5⟩:=tabx z r e;exact⟨k,f',fd',ps',h1,hr,h2,h3,h4,h5⟩,hcl⟩
 have ok2:QJ (QbP CX0 P w K mg base (namesOf (Qg st)) x (Qg st) f cdv A outer s H E).nox (thT m st Γ cs ⟨Γx,cls⟩ sub hΓ):=
  ⟨⟨ok.N,ok.nd,ok.lc,ok.ce,ok.fe,ok.gl,ok.units,ok.mg,ok.cs⟩,ok.calm,ok.pass,ok.fns,λst' f' h'=>QxR ok (λ_ _ h=>(nomatch h)) (λ_ _ h=>(nomatch h)) xk hs (QvS hr tabh) h',λ_ _ h=>(nomatch h)⟩
 refine⟨_,(QeD n).Ss _ _ _ g ok2 hc H L,?_⟩;obtain⟨F0,rel⟩:=QeT (N:=namesOf (Qg st)) rps;unfold Qu at hd;refine Qf hd λo ho hd=>?_;refine⟨_,[],F0,o,rel,ho,?_⟩;cases o with
 | nx ρ=>
  cases hd;exact λU H' F' rel'=>q .non H' [] ⟨rel'.same,.QfJ,λa ha=>by simp at ha,λ_=>⟨Zad,rfl,λa ha=>by simp at ha⟩⟩
 | bk ρ=>cases hd
 | ct ρ=>cases hd
 | rt d' fr'=>
  cases hd;exact λv H' G r=>q v H' G r
def QxV{h:Heap}{x:Str}{st:Stmt}{ps:List Str}{k:Nat}{cs:List (Str×Cn)}{sub:Str->Str->Option Bool}{hΓ:List (Str×FnR)}{g:DS}(X:K.In h)(G:h.Ns mainGlobals mg)(F:Fact K x st)(S:Qar (namesOf (Qg st)) ps (Qg st))(B:Q3 x st ps)(M:QbR mg cs)
  (hs:Qbb K sub) (tabh:Qd9 P w K mg base k hΓ) (hc:Qh4 (Qbo st [] cs) sub hΓ (QY st)=some g):QgS P w K mg base (k+1) x ⟨ps.length,[],Qu (namesOf (Qg st)).length g⟩:=by
 obtain⟨f,fd,Fn,a⟩:=F.ex;refine⟨f,fd,ps,?_,Zai X G a,Fn.kp,Fn.binds (B ·)⟩;refine Qwn Fn S (Qjb rfl) λcdv A outer s H vs Q E hr h=>?_;obtain⟨ds,L,d,fr,rps,hl,hd,q⟩:=h
 have ok:CtxB (QbP CX0 P w K mg base (namesOf (Qg st)) x (Qg st) f cdv A outer s H E).nox (Qbo st [] cs):=
  ⟨rfl,S.nd,λx h=>by rw[Qa7]at h;exact h,λx h=>by rw[Qa7]at h;exact⟨h,rfl⟩,λx h=>by rw[Qa7]at h;exact absurd rfl (S.nofree _ (Zab h)),λx h=>by rw[Qa7]at h;exact h,hr.units,M.bn,M.cs⟩
 refine⟨_,QiU ok hs (λz r e=>by
   obtain⟨f',fd',ps',h1,h2⟩:=tabh z r e;exact⟨k,f',fd',ps',h1,hr,h2⟩) _ g hc H L,?_⟩
 obtain⟨F0,rel⟩:=QeT (N:=namesOf (Qg st)) rps;unfold Qu at hd;refine Qf hd λo ho hd=>?_;refine⟨_,[],F0,o,rel,ho,?_⟩;cases o with
 | nx ρ=>
  cases hd;exact λU H' F' rel'=>q .non H' [] ⟨rel'.same,.QfJ,λa ha=>by simp at ha,λ_=>⟨Zad,rfl,λa ha=>by simp at ha⟩⟩
 | bk ρ=>cases hd
 | ct ρ=>cases hd
 | rt d' fr'=>
  cases hd;exact λv H' G r=>q v H' G r
end
end HS
namespace HS
open PySem PySem.Spec L2 PyProof.Rows
section
variable {K:Fgg}{x y:Str}{C C':Addr}{v:Bool}
def QwQ(a:PySem.W.nsIn K mainGlobals x=some (some (.ref C)))(b:PySem.W.excIn K C [.type "ValueError",.type "Exception",.type "BaseException",.type "object"] "ValueError.__new__" =true):Qg6 K x:=⟨⟨C,a,b⟩⟩
def XK1(K:Fgg)(x:Str):Prop:=∃C,ClsAt K x C/\QhD K C
def Qni(a:PySem.W.nsIn K mainGlobals x=some (some (.ref C)))(h1:PySem.W.isClsIn K C=true)(h2:PySem.W.findIn K (.ref C) "__getattribute__" =some (some (.builtin "BaseException.__getattribute__")))(h3:PySem.W.findIn K (.ref C) "__getattr__" =some none)
  (h4:PySem.W.findIn K (.ref C) "__class__" =some (some (.builtin "object.__class__"))) (h5:PySem.W.mroIn K C (.type "object")=some true) (h6:PySem.W.subIn K (.ref C) (.type "BaseException")=some true):XK1 K x:=⟨C,a,h1,h2,h3,h4,h5,h6⟩
def Qm8(K:Fgg)(x y:Str)(b:Bool):Prop:=∃C c,ClsAt K x C/\PySem.W.KtsName K y c/\PySem.W.exmOne K (.ref C) c=some b/\PySem.W.kitOne K (.ref C) c=some b
def Q4(a:PySem.W.nsIn K mainGlobals x=some (some (.ref C)))(b:PySem.W.nsIn K mainGlobals y=some (some (.ref C')))(c:PySem.W.exmOne K (.ref C) (.ref C')=some v)(d:PySem.W.kitOne K (.ref C) (.ref C')=some v):Qm8 K x y v:=⟨C,_,a,.inl b,c,d⟩
def Qjt(a:PySem.W.nsIn K mainGlobals x=some (some (.ref C)))(b:PySem.W.nsIn K mainGlobals "ValueError" =some none)(c:PySem.W.exmOne K (.ref C) (.type "ValueError")=some v)(d:PySem.W.kitOne K (.ref C) (.type "ValueError")=some v):Qm8 K x "ValueError" v:=
 ⟨C,_,a,.inr ⟨b,PyProof.Rows.Boot.«ValueError»,∅⟩,c,d⟩
def QlP(K:Fgg)(x:Str):List (Str×Bool)->Prop
 | []=>True
 | q::r=>Qm8 K x q.1 q.2/\QlP K x r
def SubL(K:Fgg):List (Str×List (Str×Bool))->Prop
 | []=>True
 | q::r=>(XK1 K q.1/\QlP K q.1 q.2)/\SubL K r
noncomputable def QvX(tab:List (Str×List (Str×Bool))):Str->Str->Option Bool:=λx y=>(look x tab).bind λr=>look y r
def QjZ{α:Type}:∀{x:Str}{l:List (Str×α)}{a:α},look x l=some a->(x,a)∈l
 | x,[],a,h=>by cases h
 | x,(y,b)::r,a,h=>by
  unfold look at h;split at h
  .rename_i e;cases h;subst e;exact Zf
  .exact Zc _ (QjZ h)
def QlP.mem:∀{r:List (Str×Bool)},QlP K x r->∀q∈r,Qm8 K x q.1 q.2
 | [],_,q,h=>by simp at h
 | p::r,h,q,hq=>by
  rcases Zn.mp hq with rfl | hq
  .exact h.1
  .exact QlP.mem h.2 q hq
def SubL.mem:∀{t:List (Str×List (Str×Bool))},SubL K t->∀q∈t,XK1 K q.1/\QlP K q.1 q.2
 | [],_,q,h=>by simp at h
 | p::r,h,q,hq=>by
  rcases Zn.mp hq with rfl | hq
  .exact h.1
  .exact SubL.mem h.2 q hq
def Qwz{tab:List (Str×List (Str×Bool))}(h:SubL K tab):Qbb K (QvX tab):=λx y b e=>by
 refine Qf e λr h1 h2=>?_;obtain⟨⟨C,k1,k2⟩,k3⟩:=h.mem _ (QjZ h1);obtain⟨C',c,m1,m2,m3,m4⟩:=k3.mem _ (QjZ h2);cases QiM k1 m1;exact⟨C,c,k1,m2,m3,m4,k2⟩
def QAe(K:Fgg):List Str->Prop
 | []=>True
 | x::r=>Qg6 K x/\QAe K r
def QpN:∀{l:List Str},QAe K l->∀x∈l,Qg6 K x
 | [],_,x,h=>by simp at h
 | y::l,h,x,hx=>by
  rcases Zn.mp hx with rfl | hx
  .exact h.1
  .exact QpN h.2 x hx
end
def Qwi{X:Cx}{st:Stmt}:S1 X st (λ_=>none):=λH0 A0 pins s U H E I ⟨ρ,hs,F,o,rel,e,q⟩=>by cases e
section
variable {P:Program}{w:World}{K:Fgg}{mg:Str->Option Value}{base:Heap}
end
end HS
namespace HS
open PySem L2
noncomputable def pairD(p:Int×Int):D:= .tup [.int p.1,.int p.2]
noncomputable def Qc4(p:Int×Int×Bool):D:= .tup [.int p.1,.int p.2.1,.bl p.2.2]
noncomputable def QbS(ns:List Int):D:= .lst (ns.map .int)
noncomputable def QP(ps:Lpp):D:= .lst (ps.map pairD)
noncomputable def Qh(m:Int)(R L:Lpp):D:= .tup [.int m,QP R,QP L]
def QbI{α:Type}{f:α->D}(h:∀a,(f a).flat=true):∀l:List α,Qak (l.map f)=true
 | []=>rfl
 | a::l=>by simp[Qak,h a,QbI h l]
@[simp] theorem QBv(i:Int):(D.int i).flat=true:=rfl
@[simp] theorem QCj(i:Bool):(D.bl i).flat=true:=rfl
@[simp] theorem QBF:D.non.flat=true:=rfl
@[simp] theorem QBy(x:Str):(D.str x).flat=true:=rfl
@[simp] theorem QBP(xs:List D):(D.lst xs).flat=false:=rfl
@[simp] theorem QB4(xs:List D):(D.tup xs).flat=Qak xs:=rfl
@[simp] theorem QBl:Qak []=true:=rfl
@[simp] theorem QAC(d:D)(ds:List D):Qak (d::ds)=(d.flat && Qak ds):=rfl
@[simp] theorem QBm(ns:List Int):(QbS ns).flat=false:=rfl
@[simp] theorem QAY(ns:Lpp):(QP ns).flat=false:=rfl
@[simp] theorem QAj(ps:Lpp):Qak (ps.map pairD)=true:=QbI (λ_=>rfl) _
@[simp] theorem Qrc(ps:List (Int×Int×Bool)):Qak (ps.map Qc4)=true:=QbI (λ_=>rfl) _
@[simp] theorem QkA(ns:List Int):Qak (ns.map .int)=true:=QbI (λ_=>rfl) _
@[simp] theorem QBn(xs ys:List D):Qak (xs++ys)=(Qak xs && Qak ys):=Qc5 xs ys
def Run(f:DS)(ρ:En)(Q:Out->Prop):Prop:=∃o,f ρ=some o/\Q o
def Nx(Q:En->Prop):Out->Prop
 | .nx ρ=>Q ρ
 | _=>False
def Rt(Q:D->Bool->Prop):Out->Prop
 | .rt d fr=>Q d fr
 | _=>False
def Run.mono(h:Run f ρ Q)(m:∀o,Q o->Q' o):Run f ρ Q':=let ⟨o,h1,h2⟩:=h;⟨o,h1,m o h2⟩
def Qr(h:Q (.nx ρ)):Run Qi ρ Q:=⟨_,rfl,h⟩
def run_seq(h:Run f ρ (Nx λρ'=>Run g ρ' Q)):Run (Qe f g) ρ Q:=by
 obtain⟨o,h1,h2⟩:=h;cases o with
 | nx ρ'=>
  obtain⟨o',h3,h4⟩:=h2;exact⟨o',by simp[Qe,h1,h3],h4⟩
 | _=>exact False.elim h2
def Qw(h:Run f ρ λo=>match o with | .nx ρ'=>Run g ρ' Q | o=>Q o):Run (Qe f g) ρ Q:=by
 obtain⟨o,h1,h2⟩:=h;cases o with
 | nx ρ'=>
  obtain⟨o',h3,h4⟩:=h2;exact⟨o',by simp[Qe,h1,h3],h4⟩
 | bk ρ'=>exact⟨_,by simp[Qe,h1],h2⟩
 | ct ρ'=>exact⟨_,by simp[Qe,h1],h2⟩
 | rt d fr=>exact⟨_,by simp[Qe,h1],h2⟩
def Qy(h:fa ρ=some r)(q:Q (.nx (asg i r ρ))):Run (Qn i fa) ρ Q:=⟨_,by simp[Qn,h],q⟩
def QdW(h:fa ρ=some r)(q:Q (.rt r.d (r.norm.fr && decide r.norm.M.Nodup))):Run (QW fa) ρ Q:=⟨_,by simp[QW,h],q⟩
def QX(h:g ρ=some b)(q1:b=true->Run f1 ρ Q)(q2:b=false->Run f2 ρ Q):Run (sIf g f1 f2) ρ Q:=by
 cases b with
 | true=>obtain⟨o,h1,h2⟩:=q1 rfl;exact⟨o,by simp[sIf,h,h1],h2⟩
 | false=>obtain⟨o,h1,h2⟩:=q2 rfl;exact⟨o,by simp[sIf,h,h1],h2⟩
def QaN(h:Run f (Qab k ds) (Rt λd' fr'=>d'=d/\fr'=fr)):Qu k f ds=some (d,fr):=by
 obtain⟨o,h1,h2⟩:=h;unfold Qu;cases o with
 | rt d' fr'=>obtain⟨rfl,rfl⟩:=h2;rw[h1];rfl
 | _=>exact False.elim h2
def Qo1{α:Type}{t:Tg}{fb:DS}{toD:α->D}{Q:Out->Prop}(I:Nat->En->Prop):∀(xs ys:List α) (ρ:En),I ys.length ρ→
  (∀i x ρ,(ys++xs)[i]? =some x->ys.length<=i->I i ρ->∃ρ1,QbF t (toD x) ρ=some ρ1/\Run fb ρ1 λo=>match o with | .nx ρ2=>I (i+1) ρ2 | .ct ρ2=>I (i+1) ρ2 | .bk ρ2=>Q (.nx ρ2) | .rt d fr=>Q (.rt d fr))→
  (∀ρ,I (ys++xs).length ρ->Q (.nx ρ))->Run (Qdb t fb (xs.map toD)) ρ Q
 | [],ys,ρ,h0,_,fin=>⟨_,rfl,fin ρ (by simpa using h0)⟩
 | x::xs,ys,ρ,h0,turn,fin=>by
  obtain⟨ρ1,h1,o,h2,h3⟩:=turn ys.length x ρ ⋯ (Zk _) h0;have next:∀ρ2,I (ys.length+1) ρ2->Run (Qdb t fb (xs.map toD)) ρ2 Q:=λρ2 hi=>
   Qo1 I xs (ys++[x]) ρ2 (by simpa using hi) (λi y ρ' e hl=>turn i y ρ' (by simpa using e) (by simp at hl;omega)) (λρ' h=>fin ρ' (by simpa using h))
  cases o with
  | nx ρ2=>obtain⟨o',e1,e2⟩:=next ρ2 h3;exact⟨o',by simp[Qdb,h1,h2,e1],e2⟩
  | ct ρ2=>obtain⟨o',e1,e2⟩:=next ρ2 h3;exact⟨o',by simp[Qdb,h1,h2,e1],e2⟩
  | bk ρ2=>exact⟨_,by simp[Qdb,h1,h2],h3⟩
  | rt d fr=>exact⟨_,by simp[Qdb,h1,h2],h3⟩
def QbM{α:Type}{fi:DI}{t:Tg}{fb:DS}{toD:α->D}{ρ:En}{ir:IR}{Q:Out->Prop}(xs:List α)(I:Nat->En->Prop)(h:fi ρ=some ir)(hx:ir.items=xs.map toD)(h0:I 0 (Qcn ir.M ρ))
  (turn:∀i x ρ,xs[i]? =some x->I i ρ->∃ρ1,QbF t (toD x) ρ=some ρ1/\Run fb ρ1 λo=>match o with | .nx ρ2=>I (i+1) ρ2 | .ct ρ2=>I (i+1) ρ2 | .bk ρ2=>Q (.nx ρ2) | .rt d fr=>Q (.rt d fr))
  (fin:∀ρ,I xs.length ρ->Q (.nx ρ)):Run (Qbm fi t fb) ρ Q:=by
 obtain⟨o,h1,h2⟩:=Qo1 (t:=t) (fb:=fb) (toD:=toD) (Q:=Q) I xs [] (Qcn ir.M ρ) h0 (λi x ρ e _=>turn i x ρ (by simpa using e)) (λρ h=>fin ρ (by simpa using h));exact⟨o,by simp[Qbm,h,hx,h1],h2⟩
def QmO{α:Type}{t:Tg}{ft:DT}{fe:DE}{ρc:En}{toD:α->D}{keep:α->Bool}{out:α->D}:∀(xs:List α) (acc:List D),
  (∀x∈xs,∃ρ1,QbF t (toD x) ρc=some ρ1/\ft ρ1=some (keep x)/\(keep x=true->∃r,fe ρ1=some r/\r.d=out x/\r.norm.fr=true))→
  (xs.map toD).foldlM (QfS t ft fe ρc) (acc,true)=some (acc++(xs.filter keep).map out,true)
 | [],acc,_=>by simp
 | x::xs,acc,h=>by
  obtain⟨ρ1,h1,h2,h3⟩:=h x Zf;have ih:=λacc=>QmO xs acc (λy hy=>h y (Zc _ hy));cases hk:keep x with
  | false=>
   have e:QfS t ft fe ρc (acc,true) (toD x)=some (acc,true):=by simp[QfS,h1,h2,hk]
   simp[ZbC,e,ih,hk]
  | true=>
   obtain⟨r,h4,h5,h6⟩:=h3 hk;have e:QfS t ft fe ρc (acc,true) (toD x)=some (acc++[out x],true):=by simp[QfS,h1,h2,hk,h4,h5,h6]
   simp[ZbC,e,ih,hk]
def QdP{α:Type}{fi:DI}{t:Tg}{cap:List (Option Nat)}{ft:DT}{fe:DE}{ρ:En}{ir:IR}{toD:α->D}{keep:α->Bool}{out:α->D}(xs:List α)(h:fi ρ=some ir)(hx:ir.items=xs.map toD)
  (turn:∀x∈xs,∃ρ1,QbF t (toD x) (QeM cap ρ)=some ρ1/\ft ρ1=some (keep x)/\(keep x=true->∃r,fe ρ1=some r/\r.d=out x/\r.norm.fr=true)):
  QR fi t cap ft fe ρ=some ⟨.lst ((xs.filter keep).map out),true,[]⟩:=by
 unfold QR;rw[h,Za,hx,QmO xs [] turn];simp
def QaZ{α:Type}{fi:DI}{t:Tg}{cap:List (Option Nat)}{fe:DE}{ρ:En}{ir:IR}{toD:α->D}{out:α->D}(xs:List α)(h:fi ρ=some ir)(hx:ir.items=xs.map toD)
  (turn:∀x∈xs,∃ρ1,QbF t (toD x) (QeM cap ρ)=some ρ1/\∃r,fe ρ1=some r/\r.d=out x/\r.norm.fr=true):
  QR fi t cap Qag fe ρ=some ⟨.lst (xs.map out),true,[]⟩:=by
 have:=QdP (keep:=λ_=>true) (ft:=Qag) xs h hx (cap:=cap) (t:=t) (fe:=fe) (out:=out) λx hx=>by
  obtain⟨ρ1,h1,h2⟩:=turn x hx;exact⟨ρ1,h1,rfl,λ_=>h2⟩
 rw[this,List.filter_eq_self.mpr λ_ _=>rfl]
@[simp] theorem QtT(d:D):R.norm ⟨d,true,[]⟩=⟨d,true,[]⟩:=by unfold R.norm;split<;>rfl
@[simp] theorem QaA(i:Nat)(d:D)(ρ:En):asg i ⟨d,true,[]⟩ ρ=ρ.set i (some (d,true)):=by unfold asg;simp[kill]
def rsa{i:Nat}{fa:DE}{g:DS}{ρ:En}{d:D}{Q:Out->Prop}(h:fa ρ=some ⟨d,true,[]⟩)(q:Run g (ρ.set i (some (d,true))) Q):Run (Qe (Qn i fa) g) ρ Q:=run_seq (Qy h (by rw[QaA];exact q))
def Qkb{n k k1:Nat}(h:(List.range n)[k]? =some k1):k<n/\k=k1:=by
 obtain⟨h1,h2⟩:=Zg.mp h;simp at h1 h2;exact⟨h1,h2⟩
def Qu3{i:Nat}{d:D}{fr:Bool}{M:List Nat}{ρ:En}(h:d.flat=true):asg i ⟨d,fr,M⟩ ρ=ρ.set i (some (d,true)):=by
 unfold asg R.norm;simp[h,kill]
def Qc3{i:Nat}{ρ:En}{d:D}{b:Bool}(h:ρ[i]? =some (some (d,b))):Qd i ρ=some (if d.flat then⟨d,true,[]⟩else if b then⟨d,true,[i]⟩else⟨d,false,[]⟩):=by
 unfold Qd;rw[h];dsimp only;split
 .simp_all
 .split<;>simp_all
def Qzz{i:Nat}{ρ:En}{n:Int}{b:Bool}(h:ρ[i]? =some (some (.int n,b))):Qd i ρ=some (reI n):=by rw[Qc3 h];rfl
@[simp] theorem Qgl(d:D)(ρ:En):dC d ρ=some ⟨d,true,[]⟩:=rfl
def Qaj{g:D->D->Option D}{fa fb:DE}{ρ:En}{ra rb:R}{d:D}(ha:fa ρ=some ra)(hb:fb ρ=some rb)(h:g ra.d rb.d=some d):dOp g fa fb ρ=some ⟨d,true,[]⟩:=by simp[dOp,ha,hb,h]
def Qp{fa:DE}{fs:DA}{ρ:En}{r:R}{rs:RA}(ha:fa ρ=some r)(hs:fs ρ=some rs):Qa fa fs ρ=some ⟨r.d::rs.ds,r.fr && rs.fr,r.M++rs.M⟩:=by simp[Qa,ha,hs]
@[simp] theorem Q0(ρ:En):Qc ρ=some ⟨[],true,[]⟩:=rfl
noncomputable def vf(d:D)(b:Bool)(i:Nat):R:=if d.flat then⟨d,true,[]⟩else if b then⟨d,true,[i]⟩else⟨d,false,[]⟩
@[simp] theorem QCl(d:D)(b:Bool)(i:Nat):(vf d b i).d=d:=by unfold vf;split;rfl;split<;>rfl
@[simp] theorem QuX(i j:Int)(h:0<=j):Qim i j=i % j:=by unfold Qim;rw[if_pos h]
@[simp] theorem Qpc(i j:Int)(h:0<=j):QhG i j=i / j:=by unfold QhG;rw[if_pos h]
def QgH{i j:Int}(h:i.natAbs<2^64):Qfi i j=true:=by unfold Qfi;simp[h]
def Qdd{i j:Int}(h:j.natAbs<2^64):Qfi i j=true:=by unfold Qfi;simp[h]
def QfT:(sizeLine:Nat)=16777216:=sizeLine_eq
noncomputable def Qb(m:Nat)(f:Mt1):D:= .lst ((List.range m).map λi=> .int (f i))
noncomputable def QaH(m n:Nat)(f:Mt2):D:= .lst ((List.range m).map λi=>Qb n (f i))
@[simp] theorem QBt(m:Nat)(f:Mt1):(Qb m f).flat=false:=rfl
@[simp] theorem QBw(m n:Nat)(f:Mt2):(QaH m n f).flat=false:=rfl
@[simp] theorem QsP(m:Nat)(f:Mt1):Qak ((List.range m).map λi=>D.int (f i))=true:=QbI (f:=λi=>D.int (f i)) (λ_=>rfl) _
noncomputable def up(f:Mt1)(i:Nat)(v:Int):Nat->Int:=λj=>if j=i then v else f j
noncomputable def up2(f:Mt2)(i j:Nat)(v:Int):Nat->Nat->Int:=λk=>if k=i then up (f k) j v else f k
def Qgy{n:Nat}{i:Int}(h0:0<=i)(h:i<n):ixN n i=some i.toNat:=by
 unfold ixN;rw[if_pos ⋯,if_pos ⋯]
def QlX{α:Type}{xs:List α}{i:Int}(h0:0<=i)(h:i<xs.length):atI xs i=xs[i.toNat]? :=by
 unfold atI;rw[Qgy h0 h];rfl
def QhT{α:Type}{m:Nat}{f:Nat->α}{i:Nat}{v:α}:((List.range m).map f).set i v=(List.range m).map λj=>if j=i then v else f j:=by
 apply Zbb;intro k;rw[List.getElem?_set];simp only[Zp,ZJ,Zy];by_cases hk:k<m
 .rw[ZY hk];by_cases e:i=k
  .subst e;simp[hk]
  .simp[e,Ne.symm e]
 .rw[Zw (by simp;omega)];by_cases e:i=k
  .subst e;simp[hk]
  .simp[e]
def Qmc{m:Nat}{f:Mt1}{i:Nat}{v:Int}:((List.range m).map λj=>D.int (f j)).set i (.int v)=(List.range m).map λj=>D.int (up f i v j):=by
 rw[QhT];congr 1;funext j;unfold up;split<;>rfl
def QpL{m:Nat}{f:Mt1}{i:Int}(h0:0<=i)(h:i<m):atI ((List.range m).map λj=>D.int (f j)) i=some (.int (f i.toNat)):=by
 rw[QlX h0 (by simpa using h),Zy,ZY ⋯];rfl
def Qql{m n:Nat}{f:Mt2}{i:Int}(h0:0<=i)(h:i<m):atI ((List.range m).map λj=>Qb n (f j)) i=some (Qb n (f i.toNat)):=by
 rw[QlX h0 (by simpa using h),Zy,ZY ⋯];rfl
def Qkj{x m:Nat}{f:Mt1}{fi fa:DE}{ρ:En}{i:Int}{v:Int}{ri ra:R}{Q:Out->Prop}(hx:ρ[x]? =some (slT (Qb m f)))(hi:fi ρ=some ri)(ei:ri.d= .int i)(ha:fa ρ=some ra)(ea:ra.d= .int v)(h0:0<=i)(h:i<m)
  (q:Q (.nx (ρ.set x (slT (Qb m (up f i.toNat v)))))):Run (QfF x QaP fi fa) ρ Q:=by
 refine⟨_,?_,q⟩;have hn:ra.norm=(reI v):=by unfold R.norm;rw[ea];rfl
 unfold QfF;rw[ha,Za,hx];simp only[QaP,Za,hi,ei,Qcg,Qb,Zp,ZJ,Qgy h0 h,hn,ea,QbB,Qmc];simp[kill]
def QuW{g:D->D->Option D}{x m:Nat}{f:Mt1}{fi fa:DE}{ρ:En}{i w:Int}{ri ra:R}{Q:Out->Prop}(hx:ρ[x]? =some (slT (Qb m f)))(hi:fi ρ=some ri)(ei:ri.d= .int i)(ha:fa ρ=some ra)(h0:0<=i)(h:i<m)
  (hg:g (.int (f i.toNat)) ra.d=some (.int w)) (q:Q (.nx (ρ.set x (slT (Qb m (up f i.toNat w)))))):Run (Qd6 g x QaP fi fa) ρ Q:=by
 refine⟨_,?_,q⟩;have hj:((List.range m).map λj=>D.int (f j))[i.toNat]? =some (.int (f i.toNat)):=by rw[Zy,ZY ⋯];rfl
 unfold Qd6;rw[hx];simp only[QaP,Za,hi,ei,Qcg,Qb,Zp,ZJ,Qgy h0 h,hj,ha,hg,QbB,Qmc,ZN]
def QoZ{g:D->D->Option D}{x m n:Nat}{f:Mt2}{fp fi fa:DE}{ρ:En}{i j w:Int}{rp ri ra:R}{Q:Out->Prop}(hx:ρ[x]? =some (slT (QaH m n f)))(hp:fp ρ=some rp)(ep:rp.d= .int i)(hi:fi ρ=some ri)(ei:ri.d= .int j)(ha:fa ρ=some ra)
  (h0:0<=i) (h:i<m) (k0:0<=j) (k:j<n) (hg:g (.int (f i.toNat j.toNat)) ra.d=some (.int w)) (q:Q (.nx (ρ.set x (slT (QaH m n (up2 f i.toNat j.toNat w)))))):Run (Qd6 g x (Qi7 QaP fp) fi fa) ρ Q:=by
 refine⟨_,?_,q⟩;have hj:((List.range n).map λk=>D.int (f i.toNat k))[j.toNat]? =some (.int (f i.toNat j.toNat)):=by rw[Zy,ZY ⋯];rfl
 have hd:Qcg (QaH m n f) [i]=some (Qb n (f i.toNat)):=by
  simp only[Qcg,QaH,D.items,Za,Qql h0 h]
 have hu:QbB [i] (QaH m n f) (.lst (((List.range n).map λk=>D.int (f i.toNat k)).set j.toNat (.int w)))=QaH m n (up2 f i.toNat j.toNat w):=by
  simp only[QbB,QaH,Zp,ZJ,Qgy h0 h,Qmc];rw[QhT];congr 2;funext k;unfold up2;split
  .rename_i e;subst e;rfl
  .rfl
 unfold Qd6;rw[hx];simp only[Qi7,QaP,Za,hp,ep,ZaY,hi,ei,hd,Qb,Zp,ZJ,Qgy k0 k,hj,ha,hg,ZN];rw[hu]
def Qei{n:Nat}(h:fa ρ=some r)(e:r.d= .int n)(hn:n<=16777216):Qbe fa ρ=some ⟨(List.range n).map λ(k:Nat)=> .int (k:Int),[]⟩:=by
 unfold Qbe;rw[h,Za,e];dsimp only;rw[if_pos ⟨⋯,⋯⟩];simp[QjT]
def Qqk{α:Type}(x:α):∀n:Nat,(List.replicate n [x]).flatten=(List.range n).map λ_=>x
 | 0=>rfl
 | n+1=>by
  rw[Zaj,Zao,Qqk x n,List.range_succ_eq_map,ZA,Zah];rfl
def QeV{n:Nat}(h:fb ρ=some r)(e:r.d= .int n)(hn:n<=16777216):Qac (QH (Qa (dC (.int z)) Qc)) fb ρ=some (reT (Qb n (λ_=>z))):=by
 have h1:QH (Qa (dC (.int z)) Qc) ρ=some (reT (.lst [.int z])):=rfl;unfold Qac;rw[h1,Za,h,Za,e];dsimp only;rw[if_pos ⟨by simp[QfT];omega,⋯,⋯,rfl⟩];simp only[Zae,Qqk];rfl
noncomputable def Ql3:DS:=(Qe (Qn 2 (QR (Qan vv0) (.tp [1,2]) [none,none,none] Qag (Qbs (Qa vv1 (Qa vv2 Qc))))) (Qe (Qn 3 (QR (Qan vv0) (.tp [1,2]) [none,none,none] Qag (Qbs (Qa vv2 (Qa vv1 Qc))))) (Qe (QW (Qx (Qx vv2 vv3) (dList (Qa vv1 Qc)))) Qi)))
def Qlx(ha:fa ρ=some ra)(ea:ra.d=QP A)(hb:fb ρ=some rb)(eb:rb.d=QP B)(hl:A.length+B.length<=16777216):Qx fa fb ρ=some (reT (QP (A++B))):=by
 unfold Qx;rw[ha,Za,hb,Za,ea,eb];simp only[QP,Zp,QfT,if_pos hl,QaR];simp
def QvE(h:fs ρ=some rs)(e:rs.ds=[QP A])(_:True=True):dList fs ρ=some (reT (QP A)):=by
 unfold dList;rw[h,Za,e];simp[QP,QaR]
def Q8(h:fa ρ=some r)(q:Q r.d (r.norm.fr && decide r.norm.M.Nodup)):Run (Qe (QW fa) g) ρ (Rt Q):=Qw (QdW h q)
def QsA{R L:Lpp}(hl:R.length+R.length+L.length<=16777216):Qu 4 Ql3 [QP R,QP L]=slT (QP (R++R.map Prod.swap++L)):=by
 refine QaN ?_;refine run_seq (Qy (QaZ R rfl rfl λx _=>⟨[none,slI x.1,slI x.2],rfl,⟨pairD x,true,[]⟩,rfl,rfl,rfl⟩) ?_);refine run_seq (Qy (QaZ R rfl rfl λx _=>⟨[none,slI x.1,slI x.2],rfl,⟨pairD x.swap,true,[]⟩,rfl,rfl,rfl⟩) ?_);have e1:(R.map λx=>pairD x.swap)=(R.map Prod.swap).map pairD:=by simp[Zah,Function.comp_def]
 rw[e1];exact Q8 (Qlx (Qlx rfl rfl rfl rfl (by simpa using(by omega:R.length+R.length<=16777216))) rfl (QvE rfl rfl rfl) rfl (by simpa using hl)) ⟨rfl,rfl⟩
def QA(h:fs ρ=some r)(hd:den (r.ds++dfl)=some (d,true))(hl:r.ds.length+dfl.length=n):Qj n den dfl fs ρ=some ⟨d,true,[]⟩:=by
 unfold Qj;rw[h,Za,if_pos hl,hd];simp
def QdS(h:fa ρ=some r)(e:r.d= .lst xs):Qan fa ρ=some ⟨xs,r.M⟩:=by
 unfold Qan;rw[h,Za,e]
noncomputable def stepT(m:Nat)(f:Mt2)(s:Int×Int):Nat->Nat->Int:=
 let f1:=if s.1<m then up2 f s.1.toNat s.1.toNat (f s.1.toNat s.1.toNat-1)else f
 if s.1<m/\s.2<m then up2 f1 s.1.toNat s.2.toNat (f1 s.1.toNat s.2.toNat+1)else f1
noncomputable def Qt(m:Nat)(S:Lpp):Nat->Nat->Int:=S.foldl (stepT m) λ_ _=>0
noncomputable def Qfz(QdT:Den):DS:=(Qe (Qn 1 (QeU (Qz vv0 kk0))) (Qe (Qn 2 (QR (Qbe vv1) (.nm 1) [none,none,some 1] Qag (Qac (QH (Qa kk0 Qc)) vv2))) (Qe (Qbm (Qan (Qj 2 QdT [] (Qa (Qz vv0 kk1) (Qa (Qz vv0 kk2) Qc)))) (.tp [3,4]) (Qe (sIf (Qv (dOp gLt vv3 vv1)) (Qe (Qd6 QaW 2 (Qi7 QaP vv3) vv3 kk1) Qi) Qi) (Qe (sIf (Qer (Qv (dOp gLt vv3 vv1)) (Qv (dOp gLt vv4 vv1))) (Qe (Qd6 (gI λi j=>some (.int (i+j))) 2 (Qi7 QaP vv3) vv4 kk1) Qi) Qi) Qi))) (Qe (QW vv2) Qi))))
def QtQ{QdT:Den}{m:Nat}{R L S:Lpp}(hm:m<=16777216)(hs:QdT [QP R,QP L]=slT (QP S))(hS:∀s∈S,0<=s.1/\0<=s.2):Qu 5 (Qfz QdT) [Qh m R L]=slT (QaH m m (Qt m S)):=by
 refine QaN ?_;refine run_seq (Qy rfl ?_);refine run_seq (Qy (QaZ (List.range m) (Qei rfl rfl hm) rfl λx _=>⟨[none,slI x,slI m],rfl,_,QeV rfl rfl hm,rfl,rfl⟩) ?_);refine run_seq (QbM S (λi ρ=>∃j1 j2,ρ=[slF (Qh m R L),slI m,slT (QaH m m (Qt m (S.take i))),j1,j2]) (ir:=⟨S.map pairD,[]⟩) ?_ rfl ⟨none,none,rfl⟩ ?_ ?_)
 .exact QdS (QA (r:=⟨[QP R,QP L],false,[]⟩) rfl hs rfl) rfl
 .rintro i s ρ hi ⟨j1,j2,rfl⟩;refine⟨_,rfl,?_⟩;obtain⟨s1,s2⟩:=hS s (Zak hi);refine run_seq (Run.mono (Q:=Nx λρ=>ρ=[slF (Qh m R L),slI m,slT (QaH m m (if s.1<m then up2 (Qt m (S.take i)) s.1.toNat s.1.toNat (Qt m (S.take i) s.1.toNat s.1.toNat-1)else Qt m (S.take i))),slI s.1,slI s.2]) ?_ ?_)
  .refine QX rfl (λh=>?_) (λh=>?_)
   .have h:=of_decide_eq_true h;rw[if_pos h];exact run_seq (QoZ rfl rfl rfl rfl rfl rfl s1 h s1 h rfl (Qr rfl))
   .have h:=of_decide_eq_false h;rw[if_neg h];exact Qr rfl
  .intro o ho;cases o with
   | nx ρ=>
    subst ho;have fin:Qt m (S.take (i+1))=stepT m (Qt m (S.take i)) s:=by
     unfold Qt;rw[List.take_add_one,hi,List.foldl_append];rfl
    refine run_seq (Run.mono (Q:=Nx λρ=>ρ=[slF (Qh m R L),slI m,slT (QaH m m (stepT m (Qt m (S.take i)) s)),slI s.1,slI s.2]) ?_ ?_)
    .refine QX (b:=decide (s.1<m/\s.2<m)) ?_ (λh=>?_) (λh=>?_)
     .by_cases h:s.1<(m:Int)
      .simp[Qer,Qv,dOp,Qd,gLt,gI,D.tru,h]
      .simp[Qer,Qv,dOp,Qd,gLt,gI,D.tru,h]
     .have h:=of_decide_eq_true h;refine run_seq (QoZ rfl rfl rfl rfl rfl rfl s1 h.1 s2 h.2 rfl (Qr ?_));unfold stepT;rw[if_pos h];rfl
     .have h:=of_decide_eq_false h;refine Qr ?_;unfold stepT;rw[if_neg h];rfl
    .intro o ho;cases o with
     | nx ρ=>
      subst ho;exact Qr ⟨_,_,by rw[fin]⟩
     | _=>exact False.elim ho
   | _=>exact False.elim ho
 .rintro ρ ⟨j1,j2,rfl⟩;rw[Zav];exact Q8 rfl ⟨rfl,rfl⟩
noncomputable def hit(i j:Nat)(s:Int×Int):Int:=(if s.1=i/\s.2=j then 1 else 0)-(if s.1=i/\i=j then 1 else 0)
def Qqs:up2 f a b v i j=if i=a/\j=b then v else f i j:=by
 unfold up2 up;by_cases h1:i=a
 .by_cases h2:j=b
  .simp[h1,h2]
  .simp[h1,h2]
 .simp[h1]
def Qsq(hi:i<m)(hj:j<m)(h1:0<=s.1)(h2:0<=s.2):stepT m f s i j=f i j+hit i j s:=by
 unfold stepT hit;have e1:(s.1=(i:Int))↔(i=s.1.toNat):= ⋯
 have e2:(s.2=(j:Int))↔(j=s.2.toNat):= ⋯
 simp only[e1,e2];by_cases c1:s.1<(m:Int)
 .by_cases c2:s.2<(m:Int)
  .simp only[c1,c2,and_self,if_true,Qqs];generalize s.1.toNat=a;generalize s.2.toNat=b;by_cases d1:i=a
   .subst d1;by_cases d2:j=b
    .subst d2;by_cases d3:i=j
     .subst d3;simp
     .have d4:¬j=i:=λz=>d3 z.symm;simp[d3,d4]
    .by_cases d3:i=j
     .subst d3;simp[d2];omega
     .have d4:¬j=i:=λz=>d3 z.symm;simp[d2,d3,d4]
   .simp[d1]
  .have d2:¬(j=s.2.toNat):= ⋯
   simp only[c1,c2,and_false,if_false,if_true,Qqs,d2];generalize s.1.toNat=a;by_cases d1:i=a
   .subst d1;by_cases d3:i=j
    .subst d3;simp;omega
    .have d4:¬j=i:=λz=>d3 z.symm;simp[d3,d4]
   .simp[d1]
 .have d1:¬(i=s.1.toNat):= ⋯
  simp[c1,d1]
def QmA(hi:i<m)(hj:j<m):∀(S:Lpp) (f:Mt2),(∀s∈S,0<=s.1/\0<=s.2)->S.foldl (stepT m) f i j=f i j+(S.map (hit i j)).sum
 | [],f,_=>by simp
 | s::S,f,h=>by
  obtain⟨h1,h2⟩:=h s Zf;rw[List.foldl_cons,QmA hi hj S _ (λt ht=>h t (Zc _ ht)),Qsq hi hj h1 h2,ZA,Zag];omega
def Qcb(hi:i<m)(hj:j<m)(h:∀s∈S,0<=s.1/\0<=s.2):Qt m S i j=(S.map (hit i j)).sum:=by
 unfold Qt;rw[QmA hi hj S _ h];simp
noncomputable def isI(i:Nat)(a:Int):Int:=if a=i then 1 else 0
noncomputable def QG(R L:Lpp)(i:Nat):Int:=(R.map λr=>isI i r.1+isI i r.2).sum+(L.map λl=>isI i l.1).sum
def sum_neg(S:Lpp)(i:Nat)(h:∀s∈S,s.1≠s.2):(S.map (hit i i)).sum= -(S.map λs=>isI i s.1).sum:=by
 induction S with
 | nil=>rfl
 | cons s S ih=>
  rw[ZA,Zag,ih λt ht=>h t (Zc _ ht),ZA,Zag];have hn:=h s Zf;unfold hit isI;by_cases e:s.1=(i:Int)
  .have:¬(s.2=(i:Int)):=λz=>hn (e.trans z.symm);simp[e,this];omega
  .simp[e]
noncomputable def Ql(R L:Lpp):List (Int×Int):=R++R.map Prod.swap++L
def QmD(R L:Lpp)(i:Nat):((Ql R L).map λs=>isI i s.1).sum=QG R L i:=by
 unfold Ql QG;rw[ZP,ZP,ZaA,ZaA];have:(R.map λr=>isI i r.1+isI i r.2).sum=(R.map λs=>isI i s.1).sum+((R.map Prod.swap).map λs=>isI i s.1).sum:=by
  induction R with
  | nil=>rfl
  | cons r R ih=>simp only[ZA,Zag,ih,Prod.fst_swap];omega
 omega
def Good(m:Nat)(s:Int×Int):Prop:=0<=s.1/\0<=s.2/\s.1<=m/\s.2<=m/\s.1≠s.2
def QbG{m:Nat}{R L:Lpp}(hR:∀s∈R,Good m s)(hL:∀s∈L,Good m s):∀s∈Ql R L,Good m s:=λs hs=>by
 unfold Ql at hs;rcases Zr.mp hs with hs | hs
 .rcases Zr.mp hs with hs | hs
  .exact hR s hs
  .obtain⟨t,ht,rfl⟩:=Zac.mp hs;obtain⟨h1,h2,h3,h4,h5⟩:=hR t ht;exact⟨h2,h1,h4,h3,λz=>h5 z.symm⟩
 .exact hL s hs
def Qfq(d:Den):Prop:=∀(m:Nat) (R L:Lpp),m<=1000->R.length+R.length+L.length<=1000000->(∀s∈R,Good m s)->(∀s∈L,Good m s)->d [Qh m R L]=some (QaH m m (Qt m (Ql R L)),true)
def Qp3:Qfq (Qu 5 (Qfz (Qu 4 Ql3))):=λm R L hm hl hR hL=>by
 refine QtQ ⋯ (QsA ⋯) λs hs=>?_;obtain⟨h1,h2,_⟩:=QbG hR hL s hs;exact⟨h1,h2⟩
noncomputable def Qgf(QK:Den):DS:=(Qe (QW (QR (Qc0 (Qj 1 QK [] (Qa vv0 Qc))) (.tp [1,2]) [none,none,none] Qag (dOp QaW kk0 (Qz vv2 vv1)))) Qi)
def Qhf{α:Type}(m:Nat)(f:Nat->D):QdC ((List.range m).map f)=(List.range m).map λi=> .tup [.int i,f i]:=by
 apply Zbb;intro k;unfold QdC;simp only[Zy,Zbi,Nat.zero_add];by_cases hk:k<m
 .rw[ZY hk];rfl
 .rw[Zw (by simp;omega)];rfl
def Qt6{d:Den}(hd:Qfq d){m:Nat}{R L:Lpp}(hm:m<=1000)(hl:R.length+R.length+L.length<=1000000)(hR:∀s∈R,Good m s)(hL:∀s∈L,Good m s):Qu 1 (Qgf d) [Qh m R L]=slT (Qb m (QG R L)):=by
 refine QaN ?_;refine Q8 (QaZ (toD:=λ(i:Nat)=> .tup [.int i,Qb m (Qt m (Ql R L) i)]) (out:=λ(i:Nat)=> .int (QG R L i)) (ir:=⟨QdC ((List.range m).map λi=>Qb m (Qt m (Ql R L) i)),[]⟩) (List.range m) ?_ ?_ λi hi=>?_) ⟨rfl,rfl⟩
 .unfold Qc0;rw[QA (n:=1) (fs:=Qa (Qd 0) Qc) (ρ:=Qab 1 [Qh m R L]) (dfl:=[]) (r:=⟨[Qh m R L],false,[]⟩) rfl (hd m R L hm hl hR hL) rfl];rfl
 .exact Qhf (α:=Nat) m _
 .have hi:=ZR.mp hi;refine⟨[none,slI i,slF (Qb m (Qt m (Ql R L) i))],rfl,reI (0-Qt m (Ql R L) i i),?_,?_,rfl⟩
  .have e:Qz (Qd 2) (Qd 1) [none,slI (i:Int),slF (Qb m (Qt m (Ql R L) i))]=some (reI (Qt m (Ql R L) i i)):=by
    show((D.items (Qb m (Qt m (Ql R L) i))).bind λxs=>(atI xs (i:Int)).map λd=>(HS.R.norm ⟨d,false,[]⟩))=_;unfold Qb;rw[show D.items (.lst ((List.range m).map λj=>D.int (Qt m (Ql R L) i j)))=some ((List.range m).map λj=>D.int (Qt m (Ql R L) i j))from rfl,Za,QpL ⋯ ⋯];rfl
   exact Qaj (rfl) e rfl
  .have g:=QbG hR hL;rw[Qcb hi hi λs hs=>⟨(g s hs).1,(g s hs).2.1⟩,sum_neg _ i λs hs=>(g s hs).2.2.2.2,QmD];show D.int (0- -(QG R L i))=_;rw[show(0:Int)- -(QG R L i)=QG R L i by omega]
def Qlo(a b:Int):deq (.int a) (.int b)=decide (a=b):=by
 show PyData.eqv (.int a) (.int b)=_;unfold PyData.eqv;exact Bool.beq_eq_decide_eq a b
def QcV(ha:fa ρ=some ra)(ea:ra.d= .int a)(hb:fb ρ=some rb)(eb:rb.d= .int b):dOp gEq fa fb ρ=some (reT (.bl (decide (a=b)))):=by
 refine Qaj ha hb ?_;rw[ea,eb];show some (D.bl (deq (.int a) (.int b)))=_;rw[Qlo]
def QgR(ha:fa ρ=some ra)(ea:ra.d= .int a)(hb:fb ρ=some rb)(eb:rb.d= .int b):dOp gNe fa fb ρ=some (reT (.bl (!decide (a=b)))):=by
 refine Qaj ha hb ?_;rw[ea,eb];show some (D.bl (!deq (.int a) (.int b)))=_;rw[Qlo]
def QvV(ha:fa ρ=some (reT (.bl a)))(hb:fb ρ=some (reT (.bl b))):dOr fa fb ρ=some (reT (.bl (a || b))):=by
 unfold dOr;rw[ha];cases a<;>simp[D.tru,hb]
def QoY(ha:fa ρ=some (reT (.bl a)))(hb:fb ρ=some (reT (.bl b))):QcZ fa fb ρ=some (reT (.bl (a && b))):=by
 unfold QcZ;rw[ha];cases a<;>simp[D.tru,hb]
def QC(ha:fa ρ=some r)(e:r.d= .bl b):Qv fa ρ=some b:=by
 unfold Qv;rw[ha,Za,e];rfl
def QbY(h:g ρ=some b):QbO g ρ=some (!b):=by unfold QbO;rw[h];rfl
def QeQ(ha:g1 ρ=some a)(hb:g2 ρ=some b):bOr g1 g2 ρ=some (a || b):=by
 unfold bOr;rw[ha];cases a<;>simp[hb]
def QlL(ha:g1 ρ=some a)(hb:g2 ρ=some b):Qer g1 g2 ρ=some (a && b):=by
 unfold Qer;rw[ha];cases a<;>simp[hb]
def Qb2(ha:fa ρ=some ra)(ea:ra.d= .int a)(hb:fb ρ=some rb)(eb:rb.d= .int b)(h:Qfi a b=true):Qac fa fb ρ=some (reI (a*b)):=by
 unfold Qac;rw[ha,Za,hb,Za,ea,eb];simp[h]
def Q6(ha:fa ρ=some ra)(ea:ra.d= .int a)(hb:fb ρ=some rb)(eb:rb.d= .int b):Qx fa fb ρ=some (reI (a+b)):=by
 unfold Qx;rw[ha,Za,hb,Za,ea,eb]
def Q1(ha:fa ρ=some ra)(ea:ra.d= .int a)(hb:fb ρ=some rb)(eb:rb.d= .int b)(h:0<b):dOp QN fa fb ρ=some (reI (a % b)):=by
 refine Qaj ha hb ?_;rw[ea,eb];show(if b≠0 then some (D.int (Qim a b))else none)=_;rw[if_pos ⋯,QuX _ _ ⋯]
def QeZ(ha:fa ρ=some ra)(ea:ra.d= .int a)(hb:fb ρ=some rb)(eb:rb.d= .int b)(h:0<b)(h2:b<2^64):dOp QbU fa fb ρ=some (reI (a / b)):=by
 refine Qaj ha hb ?_;rw[ea,eb];have:QeE b=true:=by
  unfold QeE;have h3:b.natAbs<2^8000:=Zx (by omega:b.natAbs<2^64) (ZaU ∅ ∅);simp only[Zi,decide_eq_true_eq];exact⟨⋯,h3⟩
 show(if QeE b=true then some (D.int (QhG a b))else none)=_;rw[if_pos this,Qpc _ _ ⋯]
def Qp4{fa fb:DE}{ρ:En}{ra rb:R}{m:Nat}{f:Mt1}{i:Int}(ha:fa ρ=some ra)(ea:ra.d=Qb m f)(hb:fb ρ=some rb)(eb:rb.d= .int i)(h0:0<=i)(h:i<m):Qz fa fb ρ=some (reI (f i.toNat)):=by
 unfold Qz;rw[ha,Za,hb,Za,ea,eb];simp only[Qb,D.items,Za,QpL h0 h,ZN];rfl
def Qls{fa fb:DE}{ρ:En}{ra rb:R}{ns:List Int}{i:Int}{v:Int}(ha:fa ρ=some ra)(ea:ra.d= .lst (ns.map .int))(hb:fb ρ=some rb)(eb:rb.d= .int i)(h0:0<=i)(h:ns[i.toNat]? =some v):Qz fa fb ρ=some (reI v):=by
 have hl:i<ns.length:=by have:=(Zg.mp h).1;omega
 unfold Qz;rw[ha,Za,hb,Za,ea,eb];simp only[D.items,Za];rw[QlX h0 (by simpa using hl),Zy,h];rfl
def Qtl{m n:Nat}{f:Mt1}(h:n<=m):cutD ((List.range m).map λi=>D.int (f i)) none (some (n:Int))=(List.range n).map λi=>D.int (f i):=by
 unfold cutD;simp only[Zp,ZJ,HT.Qj6,HT.QlI,List.drop_zero,Nat.sub_zero,ZbJ h];rw[← Zbx,List.take_range,ZbJ h]
def QpQ{fa fb:DE}{ρ:En}{ra rb:R}{m n:Nat}{f:Mt1}(ha:fa ρ=some ra)(ea:ra.d=Qb m f)(hb:fb ρ=some rb)(eb:rb.d= .int n)(h:n<=m):QcR fa QcB (Qbu fb) ρ=some (reT (Qb n f)):=by
 unfold QcR QcB Qbu;rw[ha,Za,hb,ea];simp only[Za,eb,Qb,Qtl h,QaR,QsP,if_true]
def QtK(h:fs ρ=some r)(hd:den (r.ds++dfl)=some (d,fr))(hl:r.ds.length+dfl.length=n):Qj n den dfl fs ρ=some (if fr=true then⟨d,true,[]⟩else HS.R.norm ⟨d,false,r.M⟩):=by
 unfold Qj;rw[h,Za,if_pos hl,hd];rfl
noncomputable def Qg3:DS:=(Qe (sIf (Qv (dOp gLt vv1 (dBf QaQ (Qa vv0 Qc)))) (Qe (QW (Qz vv0 vv1)) Qi) Qi) (Qe (QW kk0) Qi))
def Qh2(d:Den):Prop:=∀(ns:List Int) (k:Nat),d [.lst (ns.map .int),.int k]=some (.int (ns.getD k 0),true)
def Qxb:Qh2 (Qu 2 Qg3):=λns k=>by
 refine QaN ?_;refine Qw (QX (b:=decide ((k:Int)<ns.length)) ?_ (λh=>?_) (λh=>?_))
 .refine QC (Qaj (rb:=reI ns.length) rfl ?_ rfl) rfl;show some (HS.R.mk (.int ((ns.map D.int).length:Int)) true [])=_;rw[Zp]
 .have h:=of_decide_eq_true h;have hk:k<ns.length:= ⋯
  have e:ns[k]? =some (ns.getD k 0):=by rw[ZD,Zz hk];rfl
  exact Qw (QdW (Qls rfl rfl rfl rfl ⋯ (by simpa using e)) ⟨rfl,rfl⟩)
 .have h:=of_decide_eq_false h;have e:ns.getD k 0=0:=by rw[ZD,Zw ⋯];rfl
  rw[e];exact Qr (Q8 rfl ⟨rfl,rfl⟩)
noncomputable def QbN(t k:Int):Int:=(t+17)*(k*k+7*k+11)*69621 % 2147483647
noncomputable def Qfs(m t k:Int):Int:=if QbN t k % (k+1)<k then(QbN t k % (k+1)+t) % m else m
noncomputable def Qen(m t kind:Int)(k:Int):Int×Int×Bool:=((k+t) % m,Qfs m t k,decide (kind=2) || (decide (kind=3) && decide (QbN t k / 64 % 2=1)))
noncomputable def QaV(m:Nat)(t kind:Int):List (Int×Int×Bool):=(List.range m).map λ(k:Nat)=>Qen m t kind k
def GoodW(m:Nat)(w:Int×Int×Bool):Prop:=Good m (w.1,w.2.1)/\(w.2.2=true->w.1<m)
noncomputable def Qai(W:List (Int×Int×Bool)):D:= .lst (W.map Qc4)
@[simp] theorem QAH(W:List (Int×Int×Bool)):(Qai W).flat=false:=rfl
def QsM{a x n:Int}(h1:0<x)(h2:x<n):(a+x) % n≠a % n:=λh=>by
 have h3:(a+x-a) % n=0:=Int.emod_eq_emod_iff_emod_sub_eq_zero.mp h;rw[show a+x-a=x by omega,Zbu ⋯ h2]at h3;omega
def QrS{m:Nat}{t kind:Int}{k:Nat}(hk:k<m):GoodW m (Qen m t kind k):=by
 have hm:(0:Int)<m:= ⋯
 have h1:=ZE ((k:Int)+t) (by omega:(m:Int)≠0);have h2:=ZH ((k:Int)+t) hm;unfold Qen Qfs;split
 .rename_i hlt;have h3:=ZE (QbN t k) (by omega:((k:Int)+1)≠0);have h4:=ZE (QbN t k % (k+1)+t) (by omega:(m:Int)≠0);have h5:=ZH (QbN t k % (k+1)+t) hm;refine⟨⟨h1,h4,by dsimp only;omega,by dsimp only;omega,?_⟩,λ_=>by dsimp only;omega⟩;dsimp only;have h6:=QsM (a:=QbN t k % (k+1)+t) (x:=k-QbN t k % (k+1)) (n:=m) ⋯ ⋯;rw[show QbN t k % (k+1)+t+(k-QbN t k % (k+1))=k+t by omega]at h6;exact h6
 .exact⟨⟨h1,by dsimp only;omega,by dsimp only;omega,by dsimp only;omega,by dsimp only;omega⟩,λ_=>by dsimp only;omega⟩
noncomputable def QjH:DS:=(Qe (Qn 3 (QH Qc)) (Qe (Qbm (Qbe vv0) (.nm 4) (Qe (Qn 5 (dOp QN (Qac (Qac (Qx vv1 Qrp) (Qx (Qx (Qac vv4 vv4) (Qac kk7 vv4)) QB1)) QlF) QfH)) (Qe (Qn 6 (QeU vv0)) (Qe (sIf (Qv (dOp gLt (dOp QN vv5 (Qx vv4 kk1)) vv4)) (Qe (Qn 6 (dOp QN (Qx (dOp QN vv5 (Qx vv4 kk1)) vv1) vv0)) Qi) Qi) (Qe (Qeo 3 QaP (Qbs (Qa (dOp QN (Qx vv4 vv1) vv0) (Qa vv6 (Qa (dOr (dOp gEq vv2 kk2) (QcZ (dOp gEq vv2 kk3) (dOp gEq (dOp QN (dOp QbU vv5 QBq) kk2) kk1))) Qc))))) Qi))))) (Qe (QW vv3) Qi)))
def QxL(hx:ρ[x]? =some (slT (.lst xs)))(ha:fa ρ=some r)(hf:r.d.flat=true)(hl:xs.length<16777216)(q:Q (.nx (ρ.set x (slT (.lst (xs++[r.d])))))):Run (Qeo x QaP fa) ρ Q:=by
 refine⟨_,?_,q⟩;have hn:r.norm=⟨r.d,true,[]⟩:=by unfold HS.R.norm;rw[if_pos hf]
 unfold Qeo;rw[hx];simp only[QaP,Za,ha,Qcg,QkB,hn,QbB,kill,QfT];simp[hl]
def Qny(d:Den):Prop:=∀(m:Nat) (t kind:Int),0<m->m<=1000->0<=t->t<2000000->d [.int m,.int t,.int kind]=some (Qai (QaV m t kind),true)
def Qxc:Qny (Qu 7 QjH):=λm t kind h0 hm ht ht2=>by
 refine QaN ?_;refine rsa (d:= .lst []) rfl ?_;refine run_seq (QbM (List.range m) (λi ρ=>∃j4 j5 j6,ρ=[slI m,slI t,slI kind,slT (.lst (((List.range i).map λ(k:Nat)=>Qen m t kind k).map Qc4)),j4,j5,j6]) (Qei (n:=m) (r:=reI m) rfl rfl ⋯) rfl ⟨none,none,none,rfl⟩ ?_ ?_)
 .rintro i k ρ hi ⟨j4,j5,j6,rfl⟩;have hk:i<m/\i=k:=by
   obtain⟨h1,h2⟩:=Zg.mp hi;simp at h1 h2;exact⟨h1,h2⟩
  obtain⟨hk,rfl⟩:=hk;refine⟨_,rfl,?_⟩;have n1:(t+17).natAbs<2^64:= ⋯
  have n2:(69621:Int).natAbs<2^64:= ∅
  refine run_seq (Qy (r:=reI (QbN t i)) ?_ ?_)
  .exact Q1 (Qb2 (Qb2 (Q6 (a:=t) (b:=17) rfl rfl rfl rfl) rfl (Q6 (Q6 (Qb2 (a:=(i:Int)) (b:=i) rfl rfl rfl rfl (QgH ⋯)) rfl (Qb2 (a:=7) (b:=(i:Int)) rfl rfl rfl rfl (QgH ∅)) rfl) rfl (Qgl (.int 11) _) rfl) rfl (QgH n1)) rfl (Qgl (.int 69621) _) rfl (Qdd n2)) rfl (Qgl (.int 2147483647) _) rfl ∅
  .rw[QaA];refine run_seq (Qy (r:=reF (.int m)) rfl ?_);rw[Qu3 rfl];refine run_seq (f:=sIf _ _ _) (Run.mono (Q:=Nx λρ=>ρ=[slI m,slI t,slI kind,slT (.lst (((List.range i).map λ(k:Nat)=>Qen m t kind k).map Qc4)),slI i,slI (QbN t i),slI (Qfs m t i)]) ?_ ?_)
   .have e1:∀(ρ:En),ρ=[slI m,slI t,slI kind,slT (.lst (((List.range i).map λ(k:Nat)=>Qen m t kind k).map Qc4)),slI i,slI (QbN t i),slI m]->dOp QN (Qd 5) (Qx (Qd 4) (dC (.int 1))) ρ=some (reI (QbN t i % (i+1))):=by
     rintro ρ rfl;exact Q1 (a:=QbN t i) (b:=(i:Int)+1) rfl rfl (Q6 (a:=(i:Int)) (b:=1) rfl rfl rfl rfl) rfl ⋯
    refine QX (b:=decide (QbN t i % (i+1)<i)) (QC (Qaj (e1 _ rfl) rfl rfl) rfl) (λh=>?_) (λh=>?_)
    .have h:=of_decide_eq_true h;refine run_seq (Qy (Q1 (a:=QbN t i % (i+1)+t) (b:=m) (Q6 (a:=QbN t i % (i+1)) (b:=t) (e1 _ rfl) rfl rfl rfl) rfl rfl rfl ⋯) (Qr ?_));rw[QaA];unfold Qfs;rw[if_pos h];rfl
    .have h:=of_decide_eq_false h;refine Qr ?_;unfold Qfs;rw[if_neg h];rfl
   .intro o ho;cases o with
    | nx ρ=>
     subst ho;refine run_seq (QxL (r:=⟨Qc4 (Qen m t kind i),true,[]⟩) rfl ?_ rfl (by simp;omega) ?_)
     .have e:=QvV (QcV (a:=kind) (b:=2) (fa:=Qd 2) (fb:=dC (.int 2)) (ρ:=[slI m,slI t,slI kind,slT (.lst (((List.range i).map λ(k:Nat)=>Qen m t kind k).map Qc4)),slI i,slI (QbN t i),slI (Qfs m t i)]) rfl rfl rfl rfl)
       (QoY (QcV (fa:=Qd 2) (fb:=dC (.int 3)) rfl rfl rfl rfl) (QcV (fb:=dC (.int 1)) (Q1 (fb:=dC (.int 2)) (QeZ (fa:=Qd 5) (fb:=dC (.int 64)) rfl rfl rfl rfl ∅ ∅) rfl rfl rfl ∅) rfl rfl rfl))
      have e2:dOp QN (Qx (Qd 4) (Qd 1)) (Qd 0) [slI m,slI t,slI kind,slT (.lst (((List.range i).map λ(k:Nat)=>Qen m t kind k).map Qc4)),slI i,slI (QbN t i),slI (Qfs m t i)]=some (reI ((i+t) % m)):=
       Q1 (Q6 rfl rfl rfl rfl) rfl rfl rfl ⋯
      unfold Qbs;rw[Qp e2 (Qp rfl (Qp e (Q0 _)))];rfl
     .refine Qr ⟨slI i,slI (QbN t i),slI (Qfs m t i),?_⟩;show [slT (D.int m),slT (D.int t),slT (D.int kind),slT (D.lst (((List.range i).map λ(k:Nat)=>Qen m t kind k).map Qc4++[Qc4 (Qen m t kind i)])),_,_,_]=_;rw[ZbK,ZP,ZP];rfl
    | _=>exact False.elim ho
 .rintro ρ ⟨j4,j5,j6,rfl⟩;rw[ZJ];exact Q8 rfl ⟨rfl,rfl⟩
def Qqc{x y m:Nat}{f:Mt1}{ρ:En}{i:Int}{b:Bool}{Q:Out->Prop}(hx:ρ[x]? =some (slT (Qb m f)))(hy:ρ[y]? =some (some (.int i,b)))(h0:0<=i)(h:i<m)
  (q:Q (.nx (ρ.set x (slT (Qb m (up f i.toNat (f i.toNat+1))))))):Run (QfF x QaP (Qd y) (Qx (Qz (Qd x) (Qd y)) (dC (.int 1)))) ρ Q:=by
 have e1:Qd y ρ=some (reI i):=Qzz hy;have e2:=Qc3 hx;exact Qkj hx e1 rfl (Q6 (Qp4 e2 ⋯ e1 rfl h0 h) rfl (Qgl (.int 1) _) rfl) rfl h0 h q
def Run.nx(h:Run f ρ (Nx Q))(m:∀ρ,Q ρ->Q' ρ):Run f ρ (Nx Q'):=h.mono λo ho=>by
 cases o with
 | nx ρ=>exact m ρ ho
 | _=>exact ho.elim
def QfG(h:Run f ρ (Nx P))(k:∀ρ',P ρ'->Run g ρ' Q):Run (Qe f g) ρ Q:=run_seq (h.nx k)
noncomputable def QbT(c:Int):Int:=c*48271 % 2147483647
noncomputable def mStart(m c:Int):Int:=QbT c % (m+1)
noncomputable def Qij(m c:Int):Int:=(mStart m c+1+QbT c / 9 % m) % (m+1)
noncomputable def QdJ(m kind c:Int):Int×Int×Bool:=(mStart m c,Qij m c,decide (mStart m c<m) && (decide (kind=2) || (decide (kind=3) && decide (QbT c / 72 % 3=1))))
def QrK{m:Nat}(hm:0<m)(kind c:Int):GoodW m (QdJ m kind c):=by
 have h1:=ZE (QbT c) (by omega:(m:Int)+1≠0);have h2:=ZH (QbT c) (by omega:(0:Int)<m+1);have h3:=ZE (QbT c / 9) (by omega:(m:Int)≠0);have h4:=ZH (QbT c / 9) (by omega:(0:Int)<m);have h5:=ZE (mStart m c+1+QbT c / 9 % m) (by omega:(m:Int)+1≠0);have h6:=ZH (mStart m c+1+QbT c / 9 % m) (by omega:(0:Int)<m+1);have h7:=QsM (a:=mStart m c) (x:=1+QbT c / 9 % m) (n:=(m:Int)+1) ⋯ ⋯;rw[← Int.add_assoc,show mStart m c % ((m:Int)+1)=mStart m c from Zbu h1 h2]at h7;refine⟨⟨h1,h5,?_,?_,λz=>h7 z.symm⟩,λh=>?_⟩
 .show mStart m c<=m;unfold mStart;omega
 .show Qij m c<=m;unfold Qij;omega
 .have:(QdJ m kind c).2.2=(decide (mStart m c<m) && (decide (kind=2) || (decide (kind=3) && decide (QbT c / 72 % 3=1)))):=rfl;rw[this,Zi,decide_eq_true_eq]at h;exact h.1
def Qwo{fa fb:DE}{ρ:En}{ra rb:R}{A B:List (Int×Int×Bool)}(ha:fa ρ=some ra)(ea:ra.d=Qai A)(hb:fb ρ=some rb)(eb:rb.d=Qai B)(hl:A.length+B.length<=16777216):Qx fa fb ρ=some (reT (Qai (A++B))):=by
 unfold Qx;rw[ha,Za,hb,Za,ea,eb];simp only[Qai,Zp,QfT,if_pos hl,QaR];simp
noncomputable def QdZ(w:Int×Int×Bool):Int×Int:=(if w.2.1<w.1 then w.2.1 else w.1,if w.2.1>w.1 then w.2.1 else w.1)
noncomputable def Qn4(w:Int×Int×Bool):Int×Int:=(w.1,w.2.1)
noncomputable def Qa4(W:List (Int×Int×Bool)):List (Int×Int):=(W.filter λw=> !w.2.2).map QdZ
noncomputable def QaO(W:List (Int×Int×Bool)):List (Int×Int):=(W.filter λw=>w.2.2).map Qn4
def Qll{m:Nat}{W:List (Int×Int×Bool)}(h:∀w∈W,GoodW m w):∀s∈Qa4 W,Good m s/\s.1<s.2:=λs hs=>by
 obtain⟨w,hw,rfl⟩:=Zac.mp hs;obtain⟨⟨h1,h2,h3,h4,h5⟩,_⟩:=h w (ZC.mp hw).1;simp only at h1 h2 h3 h4 h5;unfold QdZ Good;simp only;split<;>split<;>omega
def QkF{m:Nat}{W:List (Int×Int×Bool)}(h:∀w∈W,GoodW m w):∀s∈QaO W,Good m s/\s.1<m:=λs hs=>by
 obtain⟨w,hw,rfl⟩:=Zac.mp hs;obtain⟨h1,h2⟩:=h w (ZC.mp hw).1;exact⟨h1,h2 (by simpa using(ZC.mp hw).2)⟩
def QsZ(W:List (Int×Int×Bool)):(Qa4 W).length<=W.length:=by unfold Qa4;rw[Zp];exact ZaS _ _
def Qso(W:List (Int×Int×Bool)):(QaO W).length<=W.length:=by unfold QaO;rw[Zp];exact ZaS _ _
def Qu4{fa:DE}{ρ:En}{r:R}{W:List (Int×Int×Bool)}(h:fa ρ=some r)(e:r.d=Qai W):QR (Qan fa) (.tp [1,2,3]) [none,none,none,none] (QbO (Qv (Qd 3))) (Qbs (Qa (dBf Qla (Qa (Qd 1) (Qa (Qd 2) Qc))) (Qa (dBf Qks (Qa (Qd 1) (Qa (Qd 2) Qc))) Qc))) ρ=some (reT (QP (Qa4 W))):=by
 rw[QdP W (QdS h e) rfl λw _=>⟨[none,slI w.1,slI w.2.1,slT (.bl w.2.2)],rfl,QbY (QC rfl rfl),λ_=>⟨⟨pairD (QdZ w),true,[]⟩,rfl,rfl,rfl⟩⟩];unfold QP Qa4;rw[Zah];rfl
def QuP{fa:DE}{ρ:En}{r:R}{W:List (Int×Int×Bool)}(h:fa ρ=some r)(e:r.d=Qai W):QR (Qan fa) (.tp [1,2,3]) [none,none,none,none] (Qv (Qd 3)) (Qbs (Qa (Qd 1) (Qa (Qd 2) Qc))) ρ=some (reT (QP (QaO W))):=by
 rw[QdP W (QdS h e) rfl λw _=>⟨[none,slI w.1,slI w.2.1,slT (.bl w.2.2)],rfl,QC rfl rfl,λ_=>⟨⟨pairD (Qn4 w),true,[]⟩,rfl,rfl,rfl⟩⟩];unfold QP QaO;rw[Zah];rfl
def QuV{fa:DE}{ρ:En}{r:R}{ns:List Int}{a b:Int}(h:fa ρ=some r)(e:r.d= .lst (ns.map .int)):∃cs:List Int,cs.length<=ns.length/\QcR fa (Qbu (dC (.int a))) (Qbu (dC (.int b))) ρ=some (reT (.lst (cs.map .int))):=by
 refine⟨(ns.drop (HT.sIx ns.length 0 (some a))).take (HT.sIx ns.length ns.length (some b)-HT.sIx ns.length 0 (some a)),by rw[ZaE,ZbA];omega,?_⟩;unfold QcR Qbu;rw[h,Za,e];simp only[Qgl,Za,cutD,QaR,Zp,← List.map_drop,← Zbx,QkA,if_true]
def QjY{m:Nat}{t kind:Int}:∀w∈QaV m t kind,GoodW m w:=λw hw=>by
 obtain⟨k,hk,rfl⟩:=Zac.mp hw;exact QrS (ZR.mp hk)
def Qj0(m:Nat)(t kind:Int):(QaV m t kind).length=m:=by simp[QaV]
def QtB:up f i v k=if k=i then v else f k:=rfl
def Qjk{fa:DE}{ρ:En}{r:R}{m:Int}{R L:Lpp}(h:fa ρ=some r)(e:r.d=Qh m R L):
  Qz fa (dC (.int 0)) ρ=some (reI m)/\Qz fa (dC (.int 1)) ρ=some ⟨QP R,r.fr,r.M⟩/\Qz fa (dC (.int 2)) ρ=some ⟨QP L,r.fr,r.M⟩:=by
 unfold Qz;rw[h];simp only[Za,e,Qgl];exact⟨rfl,rfl,rfl⟩
def QoH(d:Den):Prop:=∀ns:List Int,d [.lst (ns.map .int),.lst (ns.map .int)]=some (.bl true,true)
def Quk(ns:List Int):QfN (ns.map D.int) (ns.map D.int)=ns.map λn=> .tup [.int n,.int n]:=by
 induction ns with
 | nil=>rfl
 | cons n ns ih=>unfold QfN at ih ⊢;simp only[ZA,ZaG,ih]
def Qeg(h:fa ρ=some r)(e:r.d= .lst xs):dBf QaQ (Qa fa Qc) ρ=some (reI xs.length):=by
 unfold dBf;rw[Qp h (Q0 _),Za];simp[e,QaQ]
def QmU(n:Nat)(ps:Lpp):(QP ps).sim (n+2)=true:=by
 unfold QP;simp only[D.sim,List.all_map,Zam];intro p _;cases n<;>rfl
def Qik(ha:fa ρ=some ra)(ea:ra.d=d)(hb:fb ρ=some rb)(eb:rb.d=d)(hs:d.sim 8=true):dOp gNe fa fb ρ=some (reT (.bl false)):=by
 refine Qaj ha hb ?_;rw[ea,eb];unfold gNe;rw[hs,Qhm hs];rfl
def Qn9(d:Den):Prop:=∀(m:Nat) (R L:Lpp),m<=1000->R.length+R.length+L.length<=1000000->(∀s∈R,Good m s)->(∀s∈L,Good m s)->d [Qh m R L]=some (Qb m (QG R L),true)
def QwW(h:Qfq d):Qn9 (Qu 1 (Qgf d)):=λm R L h1 h2 h3 h4=>Qt6 h h1 h2 h3 h4
def Qtx(h:0<b)(h2:b<2^200):QeE b=true:=by
 unfold QeE;have h3:b.natAbs<2^8000:=Zx (by omega:b.natAbs<2^200) (ZaU ∅ ∅);simp only[Zi,decide_eq_true_eq];exact⟨⋯,h3⟩
def QBI(n:Nat)(ns:List Int):(QbS ns).sim (n+1)=true:=by
 unfold QbS;simp only[D.sim,List.all_map,Zam];intro p _;cases n<;>rfl
def Esc(m:Nat)(W:List (Int×Int×Bool)):Prop:=∀A:Nat->Prop,(∃p,p<m/\A p)->∃w∈W,w.1<m/\A w.1.toNat/\(w.2.1=m∨¬A w.2.1.toNat)
def Esc.mono{m:Nat}{W W':List (Int×Int×Bool)}(h:Esc m W)(s:∀w∈W,w∈W'):Esc m W':=λA hA=>let ⟨w,hw,r⟩:=h A hA;⟨w,s w hw,r⟩
noncomputable def QhU:DS:=(Qe (Qn 3 (Qac (QH (Qa kk0 Qc)) (Qx vv0 kk1))) (Qe (Qbm (Qan vv1) (.tp [4,5,6]) (Qe (QfF 3 QaP vv4 (Qx (Qz vv3 vv4) kk1)) (Qe (sIf (QbO (Qv vv6)) (Qe (QfF 3 QaP vv5 (Qx (Qz vv3 vv5) kk1)) Qi) Qi) Qi))) (Qe (Qn 7 kk1) (Qe (Qbm (Qan (QcR vv3 QcB (Qbu vv0))) (.nm 8) (Qe (Qn 7 (Qac vv7 vv8)) Qi)) (Qe (QW (dOp gLe vv7 vv2)) Qi)))))
noncomputable def Qo(m:Nat)(g:Mt1):Int:=((List.range m).map g).sum
def QS(m:Nat)(g:Mt1):Qo (m+1) g=Qo m g+g m:=by
 unfold Qo;rw[ZbK,ZP,ZaA];simp
def Q2(h:∀i,i<m->f i=g i):Qo m f=Qo m g:=by
 unfold Qo;rw[ZQ λi hi=>h i (ZR.mp hi)]
def Qas(m:Nat)(f g:Mt1):Qo m (λi=>f i+g i)=Qo m f+Qo m g:=by
 induction m with
 | zero=>rfl
 | succ m ih=>rw[QS,QS,QS,ih];omega
def Qoo(m:Nat)(f:Mt1):Qo m (λi=> -f i)= -Qo m f:=by
 induction m with
 | zero=>rfl
 | succ m ih=>rw[QS,QS,ih];omega
def QT(m:Nat):Qo m (λ_=>0)=0:=by
 induction m with
 | zero=>rfl
 | succ m ih=>rw[QS,ih];rfl
def Qj2(m:Nat)(c:Int)(f:Mt1):Qo m (λi=>c*f i)=c*Qo m f:=by
 induction m with
 | zero=>simp[Qo]
 | succ m ih=>rw[QS,QS,ih,Zbv]
def QsO(m n:Nat)(f:Mt2):Qo m (λi=>Qo n λj=>f i j)=Qo n λj=>Qo m λi=>f i j:=by
 induction m with
 | zero=>show 0=Qo n λj=>0;rw[QT]
 | succ m ih=>
  rw[QS,ih,← Qas];exact Q2 λj _=>by rw[QS]
def Qaq(hp:p<m)(v:Int)(f:Mt1):Qo m (λi=>(if i=p then v else 0)*f i)=v*f p:=by
 induction m with
 | zero=>omega
 | succ m ih=>
  rw[QS];by_cases h:p=m
  .subst h;rw[if_pos rfl,Q2 (g:=λ_=>0) λi hi=>by rw[if_neg ⋯];simp,QT];simp
  .rw[ih ⋯,if_neg (λz=>h z.symm)];simp
noncomputable def Qm(m:Nat)(T:Mt2)(f c:Mt1):Nat->Int:=λj=>f j+Qo m λi=>c i*T i j
def Qdi(h:∀i,i<m->f i=g i):Qb m f=Qb m g:=by
 unfold Qb;congr 1;refine ZQ λi hi=>?_;rw[h i (ZR.mp hi)]
noncomputable def Qdy:DS:=(Qe (Qbm (Qan vv1) (.nm 2) (Qe (sIf (Qv (dOp gNe (dBf QaQ (Qa vv2 Qc)) (Qz vv0 kk0))) (Qe QD Qi) Qi) Qi)) Qi)
def QiI(d:Den):Prop:=∀(m:Nat) (R L:Lpp) (fs:List (Nat->Int)),d [Qh m R L,.lst (fs.map λf=>Qb m f)]=some (.non,true)
def QpI:QiI (Qu 3 Qdy):=λm R L fs=>by
 have key:Run Qdy (Qab 3 [Qh m R L,.lst (fs.map λf=>Qb m f)]) (Nx λ_=>True):=by
  refine run_seq (QbM fs (λ_ ρ=>∃j2,ρ=[slF (Qh m R L),slF (.lst (fs.map λf=>Qb m f)),j2]) rfl rfl ⟨none,rfl⟩ ?_ ?_)
  .rintro i f ρ _ ⟨j2,rfl⟩;refine⟨_,rfl,?_⟩;refine run_seq (QX (b:=false) (QC (QgR (Qeg rfl rfl) rfl (Qjk rfl rfl).1 rfl) ⋯) (λh=>by cases h) (λ_=>Qr (Qr ⟨_,rfl⟩)))
  .rintro ρ ⟨j2,rfl⟩;exact Qr trivial
 obtain⟨o,h1,h2⟩:=key;unfold Qu;rw[h1];cases o with
 | nx ρ=>rfl
 | _=>exact h2.elim
noncomputable def Qjm(Qad:Den)(QK:Den):DS:=(Qe (Qbj (Qj 2 Qad [] (Qa vv0 (Qa (QH (Qa vv1 (Qa vv2 Qc))) Qc)))) (Qe (Qn 3 (dList (Qa vv1 Qc))) (Qe (Qbm (QaD (Qj 1 QK [] (Qa vv0 Qc)) vv2) (.tp [4,5]) (Qe (Qn 3 (QR (QaD vv3 vv4) (.tp [1,2]) [none,none,none,some 5] Qag (Qx vv1 (Qac vv3 vv2)))) Qi)) (Qe (QW vv3) Qi))))
def Qcc(h:fa ρ=some r)(q:Q (.nx ρ)):Run (Qbj fa) ρ Q:=⟨_,by simp[Qbj,h],q⟩
def QqZ(f g:Nat->D):QfN ((List.range m).map f) ((List.range m).map g)=(List.range m).map λi=> .tup [f i,g i]:=by
 generalize List.range m=l
 induction l with
 | nil=>rfl
 | cons n ns ih=>unfold QfN at ih ⊢;simp only[ZA,ZaG,ih]
def Qcy(h:fs ρ=some rs)(e:rs.ds=[Qb m f]):dList fs ρ=some (reT (Qb m f)):=by
 unfold dList;rw[h,Za,e];simp[Qb,QaR]
def Qfp(ha:fa ρ=some ra)(ea:ra.d= .lst ((List.range m).map f))(hb:fb ρ=some rb)(eb:rb.d= .lst ((List.range m).map g)):QaD fa fb ρ=some ⟨(List.range m).map λi=> .tup [f i,g i],ra.M++rb.M⟩:=by
 unfold QaD;rw[ha,Za,hb,Za,ea,eb];simp only[QqZ]
def Qxt(i j:Nat)(s:Int×Int):(hit i j s).natAbs<=1:=by unfold hit;split<;>split<;>decide
def Qgc(i j:Nat):∀S:List (Int×Int),((S.map (hit i j)).sum).natAbs<=S.length
 | []=>by simp
 | s::S=>by
  have:=Qgc i j S;have:=Qxt i j s;rw[ZA,Zag,Zj];omega
def Qji(d:Den):Prop:=∀(m:Nat) (R L:Lpp) (f c:Mt1),m<=1000->R.length+R.length+L.length<=1000000->(∀s∈R,Good m s)->(∀s∈L,Good m s)->d [Qh m R L,Qb m f,Qb m c]=some (Qb m (Qm m (Qt m (Ql R L)) f c),true)
def QuR(hn:QiI dn)(ht:Qfq dt):Qji (Qu 6 (Qjm dn dt)):=λm R L f c hm hl hR hL=>by
 have gS:=QbG hR hL;have tb:∀i j,i<m->j<m->(Qt m (Ql R L) i j).natAbs<2^64:=λi j hi hj=>by
  rw[Qcb hi hj λs hs=>⟨(gS s hs).1,(gS s hs).2.1⟩];have:=Qgc i j (Ql R L);have:(Ql R L).length<=1000000:=by unfold Ql;simp;omega
  omega
 refine QaN ?_;refine run_seq (Qcc (QA rfl (hn m R L [f,c]) rfl) ?_);refine rsa (Qcy rfl rfl) ?_;refine QfG (P:=λρ=>∃j4 j5,ρ=[slF (Qh m R L),slF (Qb m f),slF (Qb m c),slT (Qb m (Qm m (Qt m (Ql R L)) f c)),j4,j5]) ?_ ?_
 .refine QbM (List.range m) (λk ρ=>∃j4 j5,ρ=[slF (Qh m R L),slF (Qb m f),slF (Qb m c),slT (Qb m (λj=>f j+Qo k λi=>c i*Qt m (Ql R L) i j)),j4,j5]) (Qfp (QA rfl (ht m R L hm hl hR hL) rfl) rfl rfl rfl) rfl ⟨none,none,?_⟩ ?_ ?_
  .show [slF (Qh m R L),slF (Qb m f),slF (Qb m c),slT (Qb m f),none,none]=_;have:Qb m f=Qb m λj=>f j+Qo 0 λi=>c i*Qt m (Ql R L) i j:=Qdi λi _=>by show f i=f i+0;omega
   rw[← this]
  .rintro k k' ρ hk ⟨j4,j5,rfl⟩;obtain⟨hkm,rfl⟩:=Qkb hk;refine⟨_,rfl,?_⟩;refine run_seq (Qy ?_ (Qr ⟨_,_,by rw[QaA];rfl⟩))
   have e:=QaZ (fi:=QaD (Qd 3) (Qd 4)) (t:= .tp [1,2]) (cap:=[none,none,none,some 5]) (fe:=Qx (Qd 1) (Qac (Qd 3) (Qd 2))) (ρ:=[slF (Qh m R L),slF (Qb m f),slF (Qb m c),slT (Qb m (λj=>f j+Qo k λi=>c i*Qt m (Ql R L) i j)),slF (Qb m (Qt m (Ql R L) k)),slI (c k)])
    (List.range m) (Qfp rfl rfl rfl rfl) rfl λj hj=>by
     have hj:=ZR.mp hj;exact⟨[none,slI (f j+Qo k λi=>c i*Qt m (Ql R L) i j),slI (Qt m (Ql R L) k j),slI (c k)],rfl,_,Q6 rfl rfl (Qb2 rfl rfl rfl rfl (Qdd (tb k j hkm hj))) rfl,rfl,rfl⟩
   refine e.trans ?_;congr 2;show D.lst _=D.lst _;congr 1;refine ZQ λj _=>?_;show _=D.int (f j+Qo (k+1) λi=>c i*Qt m (Ql R L) i j);rw[QS,Int.add_assoc]
  .rintro ρ ⟨j4,j5,rfl⟩;rw[ZJ];exact⟨j4,j5,rfl⟩
 rintro ρ ⟨j4,j5,rfl⟩;exact Q8 rfl ⟨rfl,rfl⟩
end HS
namespace HS
open PySem PySem.Spec L2
def Ap(f:DS)(fx:DX):Prop:=∀ρ,fx ρ≠none->f ρ=none
def ApF(d:Den)(xd:List D->Option Str):Prop:=∀ds,xd ds≠none->d ds=none
def Qcl{f:DS}:Ap f xNo:=λρ h=>absurd rfl h
def Qap{x:Str}{fs:DA}:Ap QD (Qdt x fs):=λρ h=>rfl
def QbE{f g:DS}{fx gx:DX}(a:Ap f fx)(b:Ap g gx):Ap (Qe f g) (QQ f fx gx):=λρ h=>by
 unfold QQ at h;unfold Qe;split at h
 .rename_i ρ' e;rw[e];exact b ρ' h
 .exact absurd rfl h
 .rename_i e;rw[e];rfl
def QcA{c:DT}{f g:DS}{fx gx:DX}(a:Ap f fx)(b:Ap g gx):Ap (sIf c f g) (xIf c fx gx):=λρ h=>by
 unfold xIf at h;unfold sIf;cases e:c ρ with
 | none=>rfl
 | some v=>
  rw[e,Za]at h;rw[Za];cases v with
  | true=>rw[if_pos rfl]at h ⊢;exact a ρ h
  | false=>rw[if_neg ZO]at h ⊢;exact b ρ h
def Qbt{fi:DI}{t:Tg}{fb:DS}{fx:DX}(a:Ap fb fx):Ap (Qbm fi t fb) (Qgk fi t fb fx):=λρ h=>by
 unfold Qgk at h;unfold Qbm;cases e:fi ρ with
 | none=>rfl
 | some ir=>
  rw[e,Za]at h;rw[Za];clear e;revert h;generalize ir.items=ds;generalize Qcn ir.M ρ=ρ0
  induction ds generalizing ρ0 with
  | nil=>exact λh=>absurd rfl h
  | cons d ds ih=>
   intro h;unfold QeA at h;unfold Qdb;cases e1:QbF t d ρ0 with
   | none=>rfl
   | some ρ1=>
    rw[e1,Za]at h;rw[Za];split at h
    .rename_i ρ2 e2;rw[e2,Za];exact ih ρ2 h
    .rename_i ρ2 e2;rw[e2,Za];exact ih ρ2 h
    .exact absurd rfl h
    .rename_i e2;rw[e2];rfl
def Qp8{n:Nat}{d:Den}{xd:List D->Option Str}{fs:DA}(a:ApF d xd){ρ:En}(h:QbH n xd fs ρ≠none):Qj n d [] fs ρ=none:=by
 unfold QbH at h;unfold Qj;cases e:fs ρ with
 | none=>rfl
 | some r=>
  rw[e,Za]at h;rw[Za];split at h
  .rename_i hl;rw[if_pos (by simpa using hl),Zs,a r.ds (λz=>h (by rw[z];rfl))];rfl
  .exact absurd rfl h
def Qam{n:Nat}{d:Den}{xd:List D->Option Str}{fs:DA}(a:ApF d xd):Ap (Qbj (Qj n d [] fs)) (QbH n xd fs):=λρ h=>by unfold Qbj;rw[Qp8 a h];rfl
def Qbr{n i:Nat}{d:Den}{xd:List D->Option Str}{fs:DA}(a:ApF d xd):Ap (Qn i (Qj n d [] fs)) (QbH n xd fs):=λρ h=>by unfold Qn;rw[Qp8 a h];rfl
def Qi8{k:Nat}{f:DS}{fx:DX}(a:Ap f fx):ApF (Qu k f) (Qa9 k fx):=λds h=>by
 unfold Qa9 at h;unfold Qu;rw[a _ λz=>h (by rw[z];rfl)];rfl
def Qcr(f:DX)(ρ:En)(x:Str):Prop:=∃ρ',f ρ=some (x,ρ')
def QhK{x:Str}{fs:DA}{ρ:En}{r:RA}(h:fs ρ=some r)(hl:r.ds.length<=1):Qcr (Qdt x fs) ρ x:=⟨ρ,by unfold Qdt;rw[h,Za,if_pos hl]⟩
def QdV{n:Nat}{xd:List D->Option Str}{fs:DA}{ρ:En}{r:RA}{x:Str}(h:fs ρ=some r)(hl:r.ds.length=n)(hx:xd r.ds=some x):Qcr (QbH n xd fs) ρ x:=⟨ρ,by unfold QbH;rw[h,Za,if_pos hl,hx];rfl⟩
def Qnj{g:DT}{fa fb:DX}{b:Bool}{ρ:En}{x:Str}(h:g ρ=some b)(q1:b=true->Qcr fa ρ x)(q2:b=false->Qcr fb ρ x):Qcr (xIf g fa fb) ρ x:=by
 cases b with
 | true=>obtain⟨o,h1⟩:=q1 rfl;exact⟨o,by simp[xIf,h,h1]⟩
 | false=>obtain⟨o,h1⟩:=q2 rfl;exact⟨o,by simp[xIf,h,h1]⟩
def Qaz{f:DS}{fx fr:DX}{ρ:En}{x:Str}(a:Ap f fx)(q:Qcr fx ρ x):Qcr (QQ f fx fr) ρ x:=by
 obtain⟨o,h⟩:=q;exact⟨o,by unfold QQ;rw[a ρ (by rw[h];exact λz=>by cases z)];exact h⟩
def QdN{f:DS}{fx fr:DX}{ρ:En}{x:Str}(h:Run f ρ (Nx λρ'=>Qcr fr ρ' x)):Qcr (QQ f fx fr) ρ x:=by
 obtain⟨o,h1,h2⟩:=h;cases o with
 | nx ρ'=>obtain⟨o,h3⟩:=h2;exact⟨o,by unfold QQ;rw[h1];exact h3⟩
 | _=>exact h2.elim
def QrA{α:Type}{fi:DI}{t:Tg}{fb:DS}{fx:DX}{toD:α->D}{ρ:En}{ir:IR}{c:Str}(a:Ap fb fx)(xs:List α)(I:Nat->En->Prop)(k:Nat)(hk:k<xs.length)(h:fi ρ=some ir)(hx:ir.items=xs.map toD)(h0:I 0 (Qcn ir.M ρ))
  (turn:∀i x ρ,i<k->xs[i]? =some x->I i ρ->∃ρ1,QbF t (toD x) ρ=some ρ1/\Run fb ρ1 (Nx λρ2=>I (i+1) ρ2))
  (here:∀x ρ,xs[k]? =some x->I k ρ->∃ρ1,QbF t (toD x) ρ=some ρ1/\Qcr fx ρ1 c):Qcr (Qgk fi t fb fx) ρ c:=by
 unfold Qcr Qgk;rw[h,Za,hx];clear h hx;have gen:∀(n:Nat) (i:Nat) (ρ:En),k-i=n->i<=k->I i ρ->∃ρ',QeA t fb fx ((xs.drop i).map toD) ρ=some (c,ρ'):=by
  intro n
  induction n with
  | zero=>
   intro i ρ e hi hI;obtain rfl:i=k:= ⋯
   rw[ZT hk,ZA];unfold QeA;obtain⟨ρ1,e1,ρ2,e2⟩:=here xs[i] ρ (by simp[hk]) hI;refine⟨ρ2,?_⟩;rw[e1,Za,a ρ1 (by rw[e2];exact λz=>by cases z)];exact e2
  | succ n ih=>
   intro i ρ e hi hI;have hlt:i<xs.length:= ⋯
   rw[ZT hlt,ZA];unfold QeA;obtain⟨ρ1,e1,o,e2,e3⟩:=turn i xs[i] ρ ⋯ (by simp[hlt]) hI;cases o with
   | nx ρ2=>
    obtain⟨ρ',e4⟩:=ih (i+1) ρ2 ⋯ ⋯ e3;exact⟨ρ',by rw[e1,Za,e2];exact e4⟩
   | _=>exact e3.elim
 have:=gen (k-0) 0 _ rfl (ZS _) h0;simpa using this
def Qfd{k:Nat}{f:DX}{ds:List D}{x:Str}(h:Qcr f (Qab k ds) x):Qa9 k f ds=some x:=by
 obtain⟨ρ,e⟩:=h;unfold Qa9;rw[e];rfl
def QnH{f:DS}{fx:DX}{sub:Str->Str->Option Bool}{y:Str}{i:Nat}{h:DS}{r:List Hd}{x:Str}{ρ ρ':En}{Q:Out->Prop}(a:Ap f fx)(e:fx ρ=some (x,ρ'))(hs:sub x y=some true)(q:Run h (ρ'.set i (some (.exc x,true))) λo=>Q (QAf i o)):Run (Qh5 f fx sub ((y,some i,h)::r)) ρ Q:=by
 obtain⟨o,h1,h2⟩:=q;refine⟨_,?_,h2⟩;unfold Qh5;rw[a ρ (by rw[e];exact λz=>by cases z)];dsimp only;rw[e,Za];unfold Qrh;rw[hs,Za,if_pos rfl];dsimp only;rw[h1];rfl
noncomputable def QeK:DX:=(QQ (Qbm (Qan vv1) (.nm 2) (Qe (sIf (Qv (dOp gNe (dBf QaQ (Qa vv2 Qc)) (Qz vv0 kk0))) (Qe QD Qi) Qi) Qi)) (Qgk (Qan vv1) (.nm 2) (Qe (sIf (Qv (dOp gNe (dBf QaQ (Qa vv2 Qc)) (Qz vv0 kk0))) (Qe QD Qi) Qi) Qi) (QQ (sIf (Qv (dOp gNe (dBf QaQ (Qa vv2 Qc)) (Qz vv0 kk0))) (Qe QD Qi) Qi) (xIf (Qv (dOp gNe (dBf QaQ (Qa vv2 Qc)) (Qz vv0 kk0))) (QQ QD (Qdt "NoRow" (Qa (dC (.str "a row has one number for each place of the net, a full row one more")) Qc)) xNo) xNo) xNo)) xNo)
local macro_rules | `(tactic|ac_rfl)=> `(tactic|repeat (first | exact Qcl | exact Qap | assumption | apply QbE | apply QcA | apply Qbt | apply Qam | apply Qbr | apply ap_ret))
def Qw2:ApF (Qu 3 Qdy) (Qa9 3 QeK):=Qi8 (by unfold Qdy QeK;ac_rfl)
def QqY(xd:List D->Option Str):Prop:=∀(m:Int) (R L:Lpp) (xs:List (List D)) (k:Nat),k<xs.length->(∀i x,i<k->xs[i]? =some x->(x.length:Int)=m)->(∀x,xs[k]? =some x->(x.length:Int)≠m)->xd [Qh m R L,.lst (xs.map .lst)]=some "NoRow"
def Quq:QqY (Qa9 3 QeK):=λm R L xs k hk h1 h2=>by
 refine Qfd (Qaz (Qbt (by ac_rfl)) (QrA (by ac_rfl) (toD:=λx=> .lst x) xs (λ_ ρ=>∃j2,ρ=[slF (Qh m R L),slF (.lst (xs.map .lst)),j2]) k hk (ir:=⟨xs.map .lst,[]⟩) rfl rfl ⟨none,rfl⟩ ?_ ?_))
 .rintro i x ρ hi hx ⟨j2,rfl⟩;refine⟨_,rfl,?_⟩;refine run_seq (QX (b:=false) (QC (QgR (Qeg (xs:=x) (r:=reF (.lst x)) rfl rfl) rfl (Qjk (m:=m) (R:=R) (L:=L) (r:=reF (Qh m R L)) rfl rfl).1 rfl) (by simp[h1 i x hi hx])) (λh=>by cases h) (λ_=>Qr (Qr ⟨_,rfl⟩)))
 .rintro x ρ hx ⟨j2,rfl⟩;refine⟨_,rfl,?_⟩;refine Qaz (by ac_rfl) (Qnj (b:=true) (QC (QgR (Qeg (xs:=x) (r:=reF (.lst x)) rfl rfl) rfl (Qjk (m:=m) (R:=R) (L:=L) (r:=reF (Qh m R L)) rfl rfl).1 rfl) (by simp[h2 x hx])) (λ_=>?_) (λh=>by cases h));exact Qaz Qap (QhK rfl (Zk _))
noncomputable def Ql1(QK:Den)(Qad:Den)(x_need_rows:List D->Option Str):DX:=(QQ (Qbj (Qj 2 Qad [] (Qa vv0 (Qa (QH (Qa vv1 (Qa vv2 Qc))) Qc)))) (QbH 2 x_need_rows (Qa vv0 (Qa (QH (Qa vv1 (Qa vv2 Qc))) Qc))) (QQ (Qn 3 (dList (Qa vv1 Qc))) xNo (QQ (Qbm (QaD (Qj 1 QK [] (Qa vv0 Qc)) vv2) (.tp [4,5]) (Qe (Qn 3 (QR (QaD vv3 vv4) (.tp [1,2]) [none,none,none,some 5] Qag (Qx vv1 (Qac vv3 vv2)))) Qi)) (Qgk (QaD (Qj 1 QK [] (Qa vv0 Qc)) vv2) (.tp [4,5]) (Qe (Qn 3 (QR (QaD vv3 vv4) (.tp [1,2]) [none,none,none,some 5] Qag (Qx vv1 (Qac vv3 vv2)))) Qi) (QQ (Qn 3 (QR (QaD vv3 vv4) (.tp [1,2]) [none,none,none,some 5] Qag (Qx vv1 (Qac vv3 vv2)))) xNo xNo)) (QQ (QW vv3) xNo xNo))))
def Qvq{dn dt:Den}{xn:List D->Option Str}(h:ApF dn xn):ApF (Qu 6 (Qjm dn dt)) (Qa9 6 (Ql1 dt dn xn)):=Qi8 (by unfold Qjm Ql1;ac_rfl)
end HS
namespace HS
open PySem L2
structure Qbc (m:Nat) (R L:Lpp):Prop where
 ex:∃W,Esc m W/\(∀w∈W,GoodW m w)/\W.length<=200/\R=Qa4 W/\L=QaO W
def Qbc.good{m:Nat}{R L:Lpp}(h:Qbc m R L):(∀s∈R,Good m s)/\(∀s∈L,Good m s)/\R.length<=200/\L.length<=200/\(∀s∈R,s.1<s.2)/\∀s∈L,s.1<m:=by
 obtain⟨W,_,h2,h3,rfl,rfl⟩:=h.ex;exact⟨λs hs=>(Qll h2 s hs).1,λs hs=>(QkF h2 s hs).1,ZL (QsZ W) h3,ZL (Qso W) h3,λs hs=>(Qll h2 s hs).2,λs hs=>(QkF h2 s hs).2⟩
def Qui(hi:i<m)(g:Good m s):Qo m (λj=>hit i j s)= -(if s.1=i/\s.2=m then 1 else 0):=by
 obtain⟨g1,g2,g3,g4,g5⟩:=g;have e:(λj:Nat=>hit i j s)=λj=>(if j=s.2.toNat then(if s.1=(i:Int)then 1 else 0)else 0)*1+ -((if j=i then(if s.1=(i:Int)then 1 else 0)else 0)*1):=by
  funext j;unfold hit;have e2:(s.2=(j:Int))↔(j=s.2.toNat):= ⋯
  have e3:(i=j)↔(j=i):=⟨Eq.symm,Eq.symm⟩;simp only[e2,e3];by_cases a:s.1=(i:Int)
  .simp only[a,true_and,if_true,Zbt,Int.sub_eq_add_neg]
  .simp[a]
 rw[e,Qas,Qoo,Qaq hi];by_cases hm:s.2=(m:Int)
 .have:Qo m (λj=>(if j=s.2.toNat then(if s.1=(i:Int)then(1:Int)else 0)else 0)*1)=0:=by
   rw[Q2 (g:=λ_=>0) λj hj=>by rw[if_neg ⋯];rfl,QT]
  rw[this];by_cases a:s.1=(i:Int)<;>simp[a,hm]
 .rw[Qaq ⋯];simp[hm,Int.add_right_neg]
def QfU{α:Type}(m:Nat)(g:Nat->α->Int):∀S:List α,Qo m (λj=>(S.map (g j)).sum)=(S.map λs=>Qo m λj=>g j s).sum
 | []=>by simp[QT]
 | s::S=>by
  simp only[ZA,Zag];rw[Qas,QfU m g S]
def Qqe{α:Type}(c:Int)(f:α->Int):∀S:List α,c*(S.map f).sum=(S.map λs=>c*f s).sum
 | []=>by simp
 | s::S=>by simp only[ZA,Zag,Zbv,Qqe c f S]
def QtC:Qb m (Qm m T f λ_=>0)=Qb m f:=Qdi λj _=>by
 unfold Qm;rw[Q2 (g:=λ_=>0) λi _=>⋯,QT];omega
def QlB(h:fa ρ=some r)(e:r.d=Qb m f):dBf Qcj (Qa fa Qc) ρ=some (reI (Qo m f)):=by
 unfold dBf;rw[Qp h (Q0 _),Za];have:Qb m f= .lst (((List.range m).map f).map .int):=by unfold Qb;rw[Zah];rfl
 simp only[e,this,Qcj,QfI,ZN];rfl
def Qqr(ha:fa ρ=some ra)(ea:ra.d=d)(hb:fb ρ=some rb)(eb:rb.d=d)(hs:d.sim 8=true):dOp gEq fa fb ρ=some (reT (.bl true)):=by
 refine Qaj ha hb ?_;rw[ea,eb];unfold gEq;rw[hs,Qhm hs];rfl
def QzZ(n m:Nat)(f:Mt1):(Qb m f).sim (n+1)=true:=by
 have:Qb m f=QbS ((List.range m).map f):=by unfold Qb QbS;rw[Zah];rfl
 rw[this];exact QBI n _
structure TP (m:Nat) (T:Mt2):Prop where
 neg:∀p,p<m->T p p<0
 pos:∀i j,i<m->j<m->i≠j->0<=T i j
 bnd:∀i j,i<m->j<m->(T i j).natAbs<2^64
 wt:∃w:Nat->Int,(∀j,0<=w j)/\∀i,i<m->Qo m (λj=>T i j*w j)<= -1
inductive Leg (m:Nat) (T:Mt2) (f:Mt1):(Nat->Int)->Prop where
 | nil:Leg m T f λ_=>0
 | step {c:Mt1}{p:Nat}{t:Int}:Leg m T f c->p<m->0<=t->t*(0-T p p)<=Qm m T f c p->Leg m T f (up c p (c p+t))
def Stb(m:Nat)(T:Mt2)(g:Mt1):Prop:=∀p,p<m->g p<0-T p p
def QiZ(hp:p<m)(j:Nat):Qm m T f (up c p (c p+v)) j=Qm m T f c j+v*T p j:=by
 unfold Qm;have e2:(λi=>up c p (c p+v) i*T i j)=λi=>c i*T i j+(if i=p then v else 0)*T i j:=by
  funext i;unfold up;by_cases h:i=p
  .subst h;simp only[if_true];rw[ZaL]
  .simp[h]
 rw[e2,Qas,Qaq hp];omega
def Leg.nonneg(h:Leg m T f c):∀i,0<=c i:=by
 induction h with
 | nil=>intro i;exact Zal _
 | step _ _ ht _ ih=>
  intro i;unfold up;split
  .have:=ih ‹Nat›;rename_i p _ _ _ _ _;have:=ih p;omega
  .exact ih i
def Qbd(h:∀i,i<m->f i<=g i):Qo m f<=Qo m g:=by
 induction m with
 | zero=>exact Zal _
 | succ m ih=>
  rw[QS,QS];have:=ih λi hi=>h i ⋯;have:=h m ⋯;omega
def Leg.least(tp:TP m T)(h:Leg m T f c)(h0:∀i,i<m->0<=c' i)(hs:Stb m T (Qm m T f c')):∀i,i<m->c i<=c' i:=by
 induction h with
 | nil=>exact h0
 | @step c p t _ hp ht hle ih=>
  intro i hi;unfold up;split
  .rename_i e;subst e;have key:Qm m T f c i+(c' i-c i)*T i i<=Qm m T f c' i:=by
    unfold Qm;have e1:Qo m (λk=>c k*T k i)+(c' i-c i)*T i i=Qo m (λk=>c k*T k i+(if k=i then c' i-c i else 0)*T k i):=by rw[Qas,Qaq hi]
    have e2:Qo m (λk=>c k*T k i+(if k=i then c' i-c i else 0)*T k i)<=Qo m (λk=>c' k*T k i):=by
     refine Qbd λk hk=>?_;by_cases hki:k=i
     .subst hki;rw[if_pos rfl,← ZaL];rw[show c k+(c' k-c k)=c' k by omega];exact Zal _
     .rw[if_neg hki,ZaC,Int.add_zero];exact Zaw (ih k hk) (tp.pos k i hk hi hki)
    omega
   have h1:=hs i hi;have h2:=tp.neg i hi;by_cases hlt:c i+t<=c' i
   .exact hlt
   .exfalso;have h3:(c' i-c i+1)<=t:= ⋯
    have h4:(c' i-c i+1)*(0-T i i)<=t*(0-T i i):=Zaw h3 ⋯;have h5:(c' i-c i+1)*(0-T i i)=(0-T i i)-(c' i-c i)*T i i:=by rw[ZaL,ZaM,Int.mul_sub,Int.mul_zero];omega
    omega
  .exact ih i hi
def Leg.unique(tp:TP m T)(hc:Leg m T f c)(hd:Leg m T f d)(sc:Stb m T (Qm m T f c))(sd:Stb m T (Qm m T f d)):∀i,i<m->c i=d i:=λi hi=>by
 have h1:=hc.least tp (λi _=>hd.nonneg i) sd i hi;have h2:=hd.least tp (λi _=>hc.nonneg i) sc i hi;omega
def Qqo{m:Nat}{T:Mt2}{f c b:Mt1}(j:Nat):Qm m T (λi=>2*f i+b i) (λi=>2*c i) j=2*Qm m T f c j+b j:=by
 unfold Qm;have e:(λi=>2*c i*T i j)=λi=>2*(c i*T i j):=by funext i;rw[ZaQ]
 rw[e,Qj2];show 2*f j+b j+2*_=2*(f j+_)+b j;omega
def Qb5(j:Nat)(h1:f j=g j)(h2:∀i,i<m->c i=d i):Qm m T f c j=Qm m T g d j:=by
 unfold Qm;rw[h1,Q2 λi hi=>by rw[h2 i hi]]
def Leg.QAc(h:Leg m T f c)(b:Mt1)(hb:∀i,0<=b i):∃d,Leg m T (λi=>2*f i+b i) d/\∀i,d i=2*c i:=by
 induction h with
 | nil=>exact⟨_,.nil,λi=>⋯⟩
 | @step c p t _ hp ht hle ih=>
  obtain⟨d,hd,e⟩:=ih;have ed:d=λi=>2*c i:=funext e;subst ed;refine⟨_,.step (t:=2*t) hd hp ⋯ ?_,λi=>?_⟩
  .rw[Qqo];have:=hb p;have e2:2*t*(0-T p p)=2*(t*(0-T p p)):=by rw[ZaQ]
   omega
  .show up (λi=>2*c i) p (2*c p+2*t) i=2*up c p (c p+t) i;unfold up;split
   .omega
   .rfl
def Leg.cast(h:Leg m T f c)(e:∀i,c i=d i):Leg m T f d:=by
 have:c=d:=funext e;rw[← this];exact h
def Leg.Qwb(h:Leg m T f c)(e:∀i,i<m->f i=g i):Leg m T g c:=by
 induction h with
 | nil=>exact .nil
 | @step c p t _ hp ht hle ih=>exact .step ih hp ht (by rw[← Qb5 p (e p hp) (λ_ _=>rfl)];exact hle)
noncomputable def wtF(m:Nat)(w g:Mt1):Int:=Qo m λj=>g j*w j
def QAI(hw:∀i,i<m->Qo m (λj=>T i j*w j)<= -1)(hp:p<m)(ht:0<=t):wtF m w (Qm m T f (up c p (c p+t)))<=wtF m w (Qm m T f c)-t:=by
 unfold wtF;have e:(λj=>Qm m T f (up c p (c p+t)) j*w j)=λj=>Qm m T f c j*w j+t*(T p j*w j):=by
  funext j;rw[QiZ hp,ZaL,ZaQ]
 rw[e,Qas,Qj2];have h1:t*Qo m (λj=>T p j*w j)<=t*(-1):=ZX (hw p hp) ht;omega
def Qsv(hw:∀j,0<=w j)(hg:∀j,j<m->0<=g j):0<=wtF m w g:=by
 have:=Qbd λi hi=>ZaH (hg i hi) (hw i);rw[QT]at this;exact this
def QiT(I:Nat->En->Prop)(step:∀n ρ,I n ρ->∃b,g ρ=some b/\(b=false->Q (.nx ρ))/\(b=true->Run fb ρ λo=>match o with | .nx ρ2=>∃n',n'<n/\I n' ρ2 | .ct ρ2=>∃n',n'<n/\I n' ρ2 | .bk ρ2=>Q (.nx ρ2) | .rt d fr=>Q (.rt d fr))):
  ∀(n:Nat) (ρ:En),I n ρ->Run (Qbq g fb) ρ Q:=by
 intro n
 induction n using Nat.strongRecOn with
 | _ n ih=>
  intro ρ h;obtain⟨b,hb,hf,ht⟩:=step n ρ h;unfold Run;rw[QmL,hb,Za];cases b with
  | false=>exact⟨_,⋯,hf rfl⟩
  | true=>
   obtain⟨o,ho,hq⟩:=ht rfl;rw[if_pos rfl,ho,Za];cases o with
   | nx ρ2=>obtain⟨n',hn,hI⟩:=hq;exact ih n' hn ρ2 hI
   | ct ρ2=>obtain⟨n',hn,hI⟩:=hq;exact ih n' hn ρ2 hI
   | bk ρ2=>exact⟨_,rfl,hq⟩
   | rt d fr=>exact⟨_,rfl,hq⟩
def Qw1(ha:fa ρ=some ra)(ea:ra.d= .int a)(hb:fb ρ=some rb)(eb:rb.d= .int b)(h:0<b)(h2:b<2^200):dOp QbU fa fb ρ=some (reI (a / b)):=by
 refine Qaj ha hb ?_;rw[ea,eb];show(if QeE b=true then some (D.int (QhG a b))else none)=_;rw[if_pos (Qtx h h2),Qpc _ _ ⋯]
def Qfw{i:Nat}(ha:fa ρ=some ra)(ea:ra.d=Qb m f)(hb:fb ρ=some rb)(eb:rb.d= .int i)(h:i<m):Qz fa fb ρ=some (reI (f i)):=by
 have:=Qp4 ha ea hb eb ⋯ ⋯;rw[Zae]at this;exact this
noncomputable def QiR:DS:=(Qe (Qn 3 (dList (Qa vv1 Qc))) (Qe (Qn 4 (dList (Qa vv2 Qc))) (Qe (Qn 5 (dC (.bl true))) (Qe (Qbq (Qv vv5) (Qe (Qn 5 (dC (.bl false))) (Qe (Qbm (Qc0 vv0) (.tp [6,7]) (Qe (Qn 8 (dOp QbU (Qz vv3 vv6) (dOp QaW kk0 (Qz vv7 vv6)))) (Qe (sIf (Qv (dOp gGt vv8 kk0)) (Qe (Qn 5 (dC (.bl true))) (Qe (Qd6 (gI λi j=>some (.int (i+j))) 4 QaP vv6 vv8) (Qe (Qn 3 (QR (QaD vv3 vv7) (.tp [1,2]) [none,none,none,some 8] Qag (Qx vv1 (Qac vv3 vv2)))) Qi))) Qi) Qi))) Qi))) (Qe (QW (Qbs (Qa vv3 (Qa vv4 Qc)))) Qi)))))
def Qh1(d:Den):Prop:=∀(m:Nat) (T:Mt2) (f k:Mt1),m<=1000->TP m T->Leg m T f k->(∀j,j<m->0<=Qm m T f k j)->∃k',d [QaH m m T,Qb m (Qm m T f k),Qb m k]=some (.tup [Qb m (Qm m T f k'),Qb m k'],true)/\Leg m T f k'/\(∀j,j<m->0<=Qm m T f k' j)/\Stb m T (Qm m T f k')
def QqE{h s:Int}(hs:0<s)(ht:¬0<h / s)(h0:0<=h):h<s:=by
 have:=ZbL h0 (by omega:0<=s);have e:h / s=0:= ⋯
 have:=ZH h hs;have:=Int.emod_add_mul_ediv h s;rw[e]at this;omega
def Qri{h s:Int}(hs:0<s):h / s*s<=h:=Int.ediv_mul_le h ⋯
def QkD:Qh1 (Qu 9 QiR):=λm T f k hm tp hk hpos=>by
 obtain⟨w,hw0,hw⟩:=tp.wt;have key:Run QiR (Qab 9 [QaH m m T,Qb m (Qm m T f k),Qb m k]) (Rt λd fr=>∃k',d= .tup [Qb m (Qm m T f k'),Qb m k']/\fr=true/\Leg m T f k'/\(∀j,j<m->0<=Qm m T f k' j)/\Stb m T (Qm m T f k')):=by
  refine rsa (Qcy rfl rfl) ?_;refine rsa (Qcy rfl rfl) ?_;refine rsa rfl ?_;refine run_seq (Run.mono (Q:=Nx λρ=>∃k' j5 j6 j7 j8,Leg m T f k'/\(∀j,j<m->0<=Qm m T f k' j)/\Stb m T (Qm m T f k')/\ρ=[slF (QaH m m T),slF (Qb m (Qm m T f k)),slF (Qb m k),slT (Qb m (Qm m T f k')),slT (Qb m k'),j5,j6,j7,j8]) ?_ ?_)
  .refine QiT (λn ρ=>∃k' bz j6 j7 j8,Leg m T f k'/\(∀j,j<m->0<=Qm m T f k' j)/\(bz=false->Stb m T (Qm m T f k'))/\n=(wtF m w (Qm m T f k')).toNat+(if bz=true then 1 else 0)/\ρ=[slF (QaH m m T),slF (Qb m (Qm m T f k)),slF (Qb m k),slT (Qb m (Qm m T f k')),slT (Qb m k'),slT (.bl bz),j6,j7,j8]) ?_ _ _ ⟨k,true,none,none,none,hk,hpos,λh=>by(cases h),rfl,rfl⟩;rintro n ρ ⟨k',bz,j6,j7,j8,hL,hP,hS,rfl,rfl⟩;refine⟨bz,QC rfl rfl,λh=>⟨k',_,_,_,_,hL,hP,hS h,rfl⟩,λhb=>?_⟩;subst hb;refine rsa rfl ?_;refine Qw (Run.mono (Q:=Nx λρ=>∃k2 b2 j6 j7 j8,Leg m T f k2/\(∀j,j<m->0<=Qm m T f k2 j)/\(b2=false->Stb m T (Qm m T f k2))/\(wtF m w (Qm m T f k2)+(if b2=true then 1 else 0)<=wtF m w (Qm m T f k'))/\ρ=[slF (QaH m m T),slF (Qb m (Qm m T f k)),slF (Qb m k),slT (Qb m (Qm m T f k2)),slT (Qb m k2),slT (.bl b2),j6,j7,j8]) ?_ ?_)
   .refine QbM (List.range m) (λi ρ=>∃k2 b2 j6 j7 j8,Leg m T f k2/\(∀j,j<m->0<=Qm m T f k2 j)/\(b2=false->∀p,p<i->Qm m T f k2 p<0-T p p)/\(wtF m w (Qm m T f k2)+(if b2=true then 1 else 0)<=wtF m w (Qm m T f k'))/\ρ=[slF (QaH m m T),slF (Qb m (Qm m T f k)),slF (Qb m k),slT (Qb m (Qm m T f k2)),slT (Qb m k2),slT (.bl b2),j6,j7,j8]) rfl (Qhf (α:=Nat) m _) ⟨k',false,_,_,_,hL,hP,λ_ p hp=>absurd hp ⋯,⋯,rfl⟩ ?_ ?_
    .rintro i p ρ hi ⟨k2,b2,j6,j7,j8,hL2,hP2,hS2,hW2,rfl⟩;have hp':i<m/\i=p:=by
      obtain⟨h1,h2⟩:=Zg.mp hi;simp at h1 h2;exact⟨h1,h2⟩
     obtain⟨him,rfl⟩:=hp';have hneg:=tp.neg i him;have hb:=tp.bnd i i him him;have h0:=hP2 i him;refine⟨_,rfl,?_⟩;refine rsa (Qw1 (Qfw rfl rfl rfl rfl him) rfl (Qaj rfl (Qfw rfl rfl rfl rfl him) rfl) rfl ⋯ ⋯) ?_;generalize et:Qm m T f k2 i / (0-T i i)=t;have t0:0<=t:=by rw[← et];exact ZbL h0 ⋯
     refine Qw (QX (QC rfl rfl) (λh=>?_) (λh=>?_))
     .have h:=of_decide_eq_true h;have hle:t*(0-T i i)<=Qm m T f k2 i:=by rw[← et];exact Qri ⋯
      refine rsa rfl ?_;refine run_seq (QuW rfl rfl rfl rfl ⋯ ⋯ rfl ?_);rw[Zae];refine run_seq (Qy (r:=reT (Qb m (Qm m T f (up k2 i (k2 i+t))))) ?_ (Qr (Qr ?_)))
      .have e:=QaZ (fi:=QaD (Qd 3) (Qd 7)) (t:= .tp [1,2]) (cap:=[none,none,none,some 8]) (fe:=Qx (Qd 1) (Qac (Qd 3) (Qd 2))) (ρ:=[slF (QaH m m T),slF (Qb m (Qm m T f k)),slF (Qb m k),slT (Qb m (Qm m T f k2)),slT (Qb m (up k2 i (k2 i+t))),slT (.bl true),slI i,slF (Qb m (T i)),slI t])
        (List.range m) (Qfp rfl rfl rfl rfl) rfl λj hj=>by
         have hj:=ZR.mp hj;exact⟨[none,slI (Qm m T f k2 j),slI (T i j),slI t],rfl,_,Q6 rfl rfl (Qb2 rfl rfl rfl rfl (Qdd (tp.bnd i j him hj))) rfl,rfl,rfl⟩
       refine e.trans ?_;congr 2;show D.lst _=D.lst _;congr 1;refine ZQ λj _=>?_;rw[QiZ him]
      .rw[QaA];have hup:=QAI hw (f:=f) (c:=k2) him t0;refine⟨up k2 i (k2 i+t),true,_,_,_,.step hL2 him t0 hle,λj hj=>?_,λz=>(by cases z),?_,rfl⟩
       .rw[QiZ him];by_cases hji:j=i
        .subst hji;have:t*T j j= -(t*(0-T j j)):=by rw[Int.zero_sub,Int.mul_neg,Int.neg_neg]
         omega
        .have:=hP2 j hj;have:=ZaH t0 (tp.pos i j him hj (λz=>hji z.symm));omega
       .rw[if_pos rfl];have:(0:Int)<=if b2=true then 1 else 0:=by split<;>omega
        omega
     .have h:=of_decide_eq_false h;refine Qr (Qr ⟨k2,b2,_,_,_,hL2,hP2,λhb2 p hp=>?_,hW2,rfl⟩);by_cases hpi:p=i
      .subst hpi;exact QqE ⋯ (by rw[et];exact h) h0
      .exact hS2 hb2 p ⋯
    .rintro ρ ⟨k2,b2,j6,j7,j8,hL2,hP2,hS2,hW2,rfl⟩;rw[ZJ]at hS2;exact⟨k2,b2,_,_,_,hL2,hP2,hS2,hW2,rfl⟩
   .intro o ho;cases o with
    | nx ρ=>
     obtain⟨k2,b2,j6,j7,j8,hL2,hP2,hS2,hW2,rfl⟩:=ho;refine Qr ⟨_,?_,k2,b2,_,_,_,hL2,hP2,hS2,rfl,rfl⟩;have n1:=Qsv hw0 hP2;rw[if_pos rfl];cases b2<;>simp at hW2 ⊢ <;>omega
    | _=>exact ho.elim
  .intro o ho;cases o with
   | nx ρ=>
    obtain⟨k',j5,j6,j7,j8,hL,hP,hS,rfl⟩:=ho;exact Q8 rfl ⟨k',rfl,rfl,hL,hP,hS⟩
   | _=>exact ho.elim
 obtain⟨o,h1,h2⟩:=key;cases o with
 | rt d fr=>
  obtain⟨k',rfl,rfl,h3,h4,h5⟩:=h2;exact⟨k',by unfold Qu;rw[h1];rfl,h3,h4,h5⟩
 | _=>exact h2.elim
end HS
namespace HS
open PySem PySem.Spec L2 PyProof.Rows
noncomputable def QaU(g:DT)(fb:DS)(fx:DX):Nat->DX
 | 0,_=>none
 | n+1,ρ=>(g ρ).bind λb=>if b=true then(match fb ρ with
  | some (.nx ρ2)=>QaU g fb fx n ρ2
  | some (.ct ρ2)=>QaU g fb fx n ρ2
  | some _=>none
  | none=>fx ρ)else none
def Qgs{g:DT}{fb:DS}{fx:DX}:∀{n:Nat}{ρ:En}{o:Str×En},QaU g fb fx n ρ=some o->QaU g fb fx (n+1) ρ=some o
 | 0,_,_,h=>by cases h
 | n+1,ρ,o,h=>by
  unfold QaU at h ⊢;refine Qf h λb hb h=>?_;rw[hb,Za];cases b with
  | false=>cases h
  | true=>
   rw[if_pos rfl]at h ⊢;split at h
   .rename_i ρ2 e;exact Qgs h
   .rename_i ρ2 e;exact Qgs h
   .cases h
   .exact h
def QmP{g:DT}{fb:DS}{fx:DX}{n m:Nat}{ρ:En}{o:Str×En}(h:QaU g fb fx n ρ=some o)(hm:n<=m):QaU g fb fx m ρ=some o:=by
 induction hm with
 | refl=>exact h
 | step _ ih=>exact Qgs ih
open Classical in
noncomputable def Qd8(g:DT)(fb:DS)(fx:DX):DX:=λρ=>if h:∃n,(QaU g fb fx n ρ).isSome=true then QaU g fb fx h.choose ρ else none
def Qhw{g:DT}{fb:DS}{fx:DX}{ρ:En}{o:Str×En}:Qd8 g fb fx ρ=some o↔∃n,QaU g fb fx n ρ=some o:=by
 unfold Qd8;constructor
 .intro h;split at h
  .exact⟨_,h⟩
  .cases h
 .rintro⟨n,h⟩;have hx:∃n,(QaU g fb fx n ρ).isSome=true:=⟨n,by rw[h];rfl⟩;rw[dif_pos hx];obtain⟨o',ho'⟩:=ZaX.mp hx.choose_spec;have h1:=QmP h (Nat.le_max_left n hx.choose);have h2:=QmP ho' (Nat.le_max_right n hx.choose);rw[h1]at h2;rw[ho',← h2]
def Quz{X:Cx}{c:Expr}{body:List Stmt}{pos:Pos}{g:DT}{f:DS}{fx:DX}(hp:PassesOwn (model X.prog X.w) X.A X.env X.xe)(hc:ST X c g)(hb:SS X body f)(hbx:RzS X body fx):Rz X (.While c body [] pos) (Qd8 g f fx):=λH0 A0=>(Qov hp (hc H0 A0) (QsR (hb H0 A0) (hbx H0 A0))).mono λE U H Z=>by
 obtain⟨ρ,hs,F,x,ρ',rel,e,q⟩:=Z;obtain⟨n,e⟩:=Qhw.mp e;refine⟨λm U' H'=>∃ρi Fi,Rel X.K H0 A0 hs ρi Fi U' H'/\QaU g f fx m ρi=some (x,ρ'),⟨n,ρ,F,rel,e⟩,?_⟩;rintro m U' H' ⟨ρi,Fi,reli,ei⟩;cases m with
 | zero=>cases ei
 | succ m=>
  unfold QaU at ei;refine Qf ei λb eb ei=>?_;refine⟨ρi,hs,Fi,b,reli,eb,λH1 s1=>?_⟩;cases b with
  | false=>cases ei
  | true=>
   rw[if_pos rfl]at ei;refine Qom ⟨λU2 H2=>∃ρ2 F2,Rel X.K H0 A0 hs ρ2 F2 U2 H2/\QaU g f fx m ρ2=some (x,ρ'),λU2 H2 h=>⟨m,Zar _,h⟩,?_⟩;split at ei
   .rename_i ρ2 eo;exact .inl ⟨ρi,hs,Fi,_,reli.ext s1,eo,λU4 H4 F4 rel4=>⟨ρ2,F4,rel4,ei⟩⟩
   .rename_i ρ2 eo;exact .inl ⟨ρi,hs,Fi,_,reli.ext s1,eo,λU4 H4 F4 rel4=>⟨ρ2,F4,rel4,ei⟩⟩
   .cases ei
   .exact .inr ⟨ρi,hs,Fi,x,ρ',reli.ext s1,ei,q⟩
def QtJ{g:DT}{fb:DS}{fx:DX}(a:Ap fb fx):Ap (Qbq g fb) (Qd8 g fb fx):=λρ h=>by
 have key:∀(n:Nat) (ρ:En) (o:Str×En),QaU g fb fx n ρ=some o->Qbq g fb ρ=none:=λn=>by
  induction n with
  | zero=>intro ρ o h;cases h
  | succ n ih=>
   intro ρ o h;unfold QaU at h;refine Qf h λb hb h=>?_;rw[QmL,hb,Za];cases b with
   | false=>cases h
   | true=>
    rw[if_pos rfl]at h ⊢;split at h
    .rename_i ρ2 e;rw[e,Za];exact ih ρ2 o h
    .rename_i ρ2 e;rw[e,Za];exact ih ρ2 o h
    .cases h
    .rename_i e;rw[e];rfl
 cases e:Qd8 g fb fx ρ with
 | none=>exact absurd e h
 | some o=>
  obtain⟨n,hn⟩:=Qhw.mp e;exact key n ρ o hn
def Qvx{g:DT}{fb:DS}{fx:DX}{x:Str}(a:Ap fb fx)(I:Nat->En->Prop){ρ:En}(h0:I 0 ρ)
  (turn:∀i ρ,I i ρ->g ρ=some true/\(Qcr fx ρ x∨(Run fb ρ (Nx λρ2=>I (i+1) ρ2)))) (B:Nat) (fin:∀i ρ,I i ρ->i<=B):Qcr (Qd8 g fb fx) ρ x:=by
 have gen:∀(n i:Nat) (ρ:En),B+1-i=n->I i ρ->∃m ρ',QaU g fb fx m ρ=some (x,ρ'):=by
  intro n
  induction n with
  | zero=>intro i ρ e hI;have:=fin i ρ hI;omega
  | succ n ih=>
   intro i ρ e hI;obtain⟨hg,h⟩:=turn i ρ hI;rcases h with⟨ρ',h⟩ | ⟨o,e1,e2⟩
   .refine⟨1,ρ',?_⟩;unfold QaU;rw[hg,Za,if_pos rfl,a ρ (by rw[h];exact λz=>by cases z)];exact h
   .cases o with
    | nx ρ2=>
     obtain⟨m,ρ',hm⟩:=ih (i+1) ρ2 ⋯ e2;refine⟨m+1,ρ',?_⟩;unfold QaU;rw[hg,Za,if_pos rfl,e1];exact hm
    | _=>exact e2.elim
 obtain⟨m,ρ',h⟩:=gen (B+1-0) 0 ρ rfl h0;exact⟨ρ',Qhw.mpr ⟨m,h⟩⟩
section
variable {K:Fgg}{H0 H H':Hp}{A0:LAd}{hs:List (V×D×List Addr)}{ρ:En}{F:Nat->List Addr}{U:L2.St}{i:Nat}{d:D}
def Rel.gone(r:Rel K H0 A0 hs ρ F U H)(e:ρ[i]? =some (some (d,true)))(s:QE (hide H (F i)) H'):Rel K H0 A0 hs (ρ.set i none) F U H':=by
 obtain⟨o1,o2,o3,o4,o5⟩:=r.own i d e;obtain⟨w,hw,rpi⟩:=r.val i d true e;have hm:∀a∈F i,Qe7 (H a):=rpi.mut;have hl:i<ρ.length:=(Zg.mp e).1;have ne:∀(j:Nat) (d2:D) (b:Bool),(ρ.set i none)[j]? =some (some (d2,b))->j≠i/\ρ[j]? =some (some (d2,b)):=λj d2 b ej=>by
  by_cases hj:j=i
  .subst hj;rw[Zm hl]at ej;cases ej
  .rw[Zh (Ne.symm hj)]at ej;exact⟨hj,ej⟩
 refine⟨by rw[Zay];exact r.len,λj d2 b ej=>?_,λj d2 ej=>?_,λj d2 b ej a ha=>?_,λt ht=>⟨(r.held t ht).1.but hm s λa ha z=>o5 t ht a z ha,(r.held t ht).2⟩,λb u hb=>?_⟩
 .obtain⟨hj,ej⟩:=ne j d2 b ej;obtain⟨v2,h1,h2⟩:=r.val j d2 b ej;exact⟨v2,h1,h2.but hm s λa ha z=>o4 j d2 b hj ej a z ha⟩
 .obtain⟨hj,ej⟩:=ne j d2 true ej;obtain⟨p1,p2,p3,p4,p5⟩:=r.own j d2 ej;exact⟨p1,p2,p3,λk d3 b3 hk ek=>p4 k d3 b3 hk (ne k d3 b3 ek).2,p5⟩
 .exact r.src j d2 b (ne j d2 b ej).2 a ha
 .exact QbA s (r.same b u hb) λz=>by rw[o3 b z]at hb;cases hb
end
noncomputable def Qof(n:Nat)(J:Th)(JX:ThX)(st:Stmt):Option DX:=match st with
 | .While c body els _=>match els with
  | _::_=>some xNo
  | []=>(Qa1 n J c).bind λg=>(Q5 n J body).bind λfb=>(Qd1 n J JX body).map λfx=>Qd8 g fb fx
 | st=>Qnn n J JX st
noncomputable def Qiv(n:Nat)(J:Th)(JX:ThX):List Stmt->Option DX
 | []=>some xNo
 | st::r=>(QiB n J st).bind λf=>(Qof n J JX st).bind λfx=>(Qiv n J JX r).map λfr=>QQ f fx fr
section
variable {X:Cx}{J:Th}{JX:ThX}{n:Nat}
def Qs4(ok:QJ X J)(xk:XOk X JX){st:Stmt}{f:DX}(h:Qof n J JX st=some f):Rz X st f:=by
 unfold Qof at h;split at h
 .split at h
  .cases h;exact Qfl
  .refine Qf h λg h1 h=>?_;refine Qf h λfb h2 h=>?_;obtain⟨fx,h3,rfl⟩:=Zb.mp h;exact Quz ok.pass ((Qav n).T X J _ g ok h1) ((QeD n).Ss X J _ fb ok h2) ((Qkr n).Xs X J JX _ fx ok xk h3)
 .exact(Qkr n).X X J JX _ f ok xk h
def Qmy(ok:QJ X J)(xk:XOk X JX):∀{sts:List Stmt}{f:DX},Qiv n J JX sts=some f->RzS X sts f
 | [],f,h=>by cases h;exact Qlq
 | st::r,f,h=>by
  unfold Qiv at h;refine Qf h λfs h1 h=>?_;refine Qf h λfx h2 h=>?_;obtain⟨fr,h3,rfl⟩:=Zb.mp h;exact Qkg (Qmo ok h1) (Qs4 ok xk h2) (Qmy ok xk h3)
end
structure XiR where
 n:Nat
 p:Nat
 xd:List D->Option Str
noncomputable def QvG(K:Fgg)(n p:Nat)(xd:List D->Option Str):Sp:=λvs H _ E=>∃(ds:List D) (F:Nat->List Addr) (a:Addr) (x:Str),ds.length=n/\vs.length=n/\(∀j dj,ds[j]? =some dj->∃v,vs[j]? =some v/\Rp K H dj v (F j))/\p<n/\vs[p]? =some (.ref a)∧
 (F p).Nodup/\(F p).length=(ds.getD p .non).nl/\(∀j,j<n->j≠p->∀b∈F p,b∉F j)/\xd ds=some x/\∀C H',ClsAt K x C->QE (hide H (F p)) H'->E (.ref C) none H'
noncomputable def xdU(k p:Nat)(f:DX):List D->Option Str:=λds=>open Classical in if h:∃x,∀a,∃ρ',f (QaF k p a ds)=some (x,ρ')then some h.choose else none
def QyV{k p:Nat}{f:DX}{ds:List D}{x:Str}(e:xdU k p f ds=some x)(a:Addr):∃ρ',f (QaF k p a ds)=some (x,ρ'):=by
 unfold xdU at e;split at e
 .rename_i h;cases e;exact h.choose_spec a
 .cases e
def QnV{k p:Nat}{f:DX}{ds:List D}{x:Str}(h:∀a,Qcr f (QaF k p a ds) x):xdU k p f ds=some x:=by
 have hx:∃x,∀a,∃ρ',f (QaF k p a ds)=some (x,ρ'):=⟨x,h⟩;unfold xdU;rw[dif_pos hx];obtain⟨ρ1,h1⟩:=h 0;obtain⟨ρ2,h2⟩:=hx.choose_spec 0;rw[h1]at h2;congr 1;exact(congrArg Prod.fst (Option.some.inj h2)).symm
section
variable {P:Program}{w:World}{K:Fgg}{mg:Str->Option Value}{base:Heap}
def Qt9{n p:Nat}{xd:List D->Option Str}{ps:List Str}(hn:ps.length=n):∀vs H Q E,QvG K n p xd vs H Q E->vs.length=ps.length:=λvs H Q E ⟨ds,F,a,x,h1,h2,_⟩=>by rw[hn,h2]
variable (P w K mg base) in
def Qem(k:Nat)(x:Str)(r:XiR):Prop:=∃f fd ps,Qau P w K mg base (CXR P w) k f fd ps (QvG K r.n r.p r.xd)/\mg x=some (.ref f)/\PySem.W.keepIn K (.ref f)=true/\Binds K fd ps []/\ps.length=r.n
def Qem.mono{j k:Nat}{x:Str}{r:XiR}(h:Qem P w K mg base j x r)(hk:j<=k):Qem P w K mg base k x r:=by
 obtain⟨f,fd,ps,h1,h2⟩:=h;exact⟨f,fd,ps,h1.mono hk,h2⟩
def QvC{h:Heap}{x:Str}{st:Stmt}{ps:List Str}{k n n' p:Nat}{Γ:List (Str×FnR)}{Γx:List (Str×(Nat×(List D->Option Str)))}{cls:List Str}{cs:List (Str×Cn)}{T:ObT}{g:DX}(X:K.In h)(G:h.Ns mainGlobals mg)(F:Fact K x st)(S:Qar (namesOf (Qg st)) ps (Qg st))(B:Q3 x st ps)(M:QbR mg cs)(tab:QaK P w K mg base (k+1) Γ)(tabo:Qcx P w K mg base k T)(tabx:Qep P w K mg base (k+1) Γx)
  (hcl:∀x∈cls,Qg6 K x) (hc:Qiv n (thO n' (Qbo st Γ cs) T (some p)) ⟨Γx,cls⟩ (QY st)=some g):Qem P w K mg base (k+2) x ⟨ps.length,p,xdU (namesOf (Qg st)).length p g⟩:=by
 obtain⟨f,fd,Fn,a⟩:=F.ex;refine⟨f,fd,ps,?_,Zai X G a,Fn.kp,Fn.binds (B ·),rfl⟩;obtain⟨oc,od,kV,doc,pm,an,cdv,ct,osl,rfl,lk,hcd⟩:=Fn.ex;refine Qru lk hcd S (Qt9 rfl) λA outer s H vs Q E hr hsp=>?_;obtain⟨ds,L,a,y,h1,h2,h3,h4,h5,h6,h7,h8,hd,hE⟩:=hsp;have ok0:QJ (QbP (CXR P w) P w K mg base (namesOf (Qg st)) x (Qg st) f cdv A outer s H E) (Qbo st Γ cs):=Qmf (CX:=CXR P w) (E:=E) S M tab hr PassesOwn.leaving;have ok:=QrI (n:=n') ok0 (Qcx.ob (X:=QbP (CXR P w) P w K mg base (namesOf (Qg st)) x (Qg st) f cdv A outer s H E) tabo hr) (some p);have xk:XOk (QbP (CXR P w) P w K mg base (namesOf (Qg st)) x (Qg st) f cdv A outer s H E) ⟨Γx,cls⟩:=⟨rfl,rfl,rfl,λz r e=>by
  obtain⟨f',fd',ps',h1,h2,h3,h4,h5⟩:=tabx z r e;exact⟨k+1,f',fd',ps',h1,hr,h2,h3,h4,h5⟩,hcl⟩
 refine⟨_,Qmy ok xk hc (hide H (L p)) ((List.range ps.length).flatMap L),?_⟩;obtain⟨ρ',e1⟩:=QyV hd a;exact⟨_,[],L,y,ρ',Qgo h1 h2 h3 h4 h5 h6 h7 h8,e1,λC ea s' hC T=>Qie rfl rfl rfl rfl rfl rfl rfl T λH' sm=>hE C H' hC sm⟩
end
noncomputable def QnS(r:XiR)(i:Nat)(fs:List (Option DE)):DX:=λρ=>(evs fs ρ).bind λrs=>match ρ[i]? with
 | some (some (d,true))=>if(!(rsM rs).contains i && oneAt fs r.p && decide (fs.length=r.n) && isRef d)=true then(r.xd (rsD rs d)).map λc=>(c,ρ.set i none)else none
 | _=>none
def QuJ(X:Cx)(x:Str)(r:XiR):Prop:=∃k f fd ps,Qau X.prog X.w X.K X.mg X.base (CXR X.prog X.w) k f fd ps (QvG X.K r.n r.p r.xd)/\Qao k X.A/\X.mg x=some (.ref f)/\PySem.W.keepIn X.K (.ref f)=true/\Binds X.K fd ps []/\ps.length=r.n
section
variable {X:Cx}{g:Str}{e:Expr}{es:List Expr}{fs:List (Option DE)}{pos np:Pos}{i:Nat}{r:XiR}
def Qz8(hF:QuJ X g r)(hg:Gl X g)(hx:X.ex=[])(hdb:(g == ("__debug__" :Str))=false)(ha:Qba X i (e::es) fs)(he:starEach (e::es) X.env=(false,eval e X.env)::starEach es X.env)(hpl:(backTo pos (starEach es X.env)).any (·.1)=false):
  RzE X (.Call (.Name g np) (e::es) [] pos) (QnS r i fs):=λH0 A0 pins s U H Q I Z=>by
 obtain⟨ρ,hs,F,c,ρ',rel,ex,q⟩:=Z;refine Qf ex λrs e1 ex=>?_;split at ex
 .rename_i d hρ;split at ex
  .rename_i hc;simp only[Zi,decide_eq_true_eq,ZW]at hc;obtain⟨⟨⟨hM0,hone⟩,hlen⟩,hir⟩:=hc;have hi:i∉rsM rs:=λz=>by rw[ZI.mpr z]at hM0;cases hM0
   obtain⟨c',e2,e3⟩:=Zb.mp ex;cases e3;obtain⟨v,hv,rp⟩:=rel.val i d true hρ;obtain⟨o1,o2,o3,o4,o5⟩:=rel.own i d hρ;obtain⟨a,rfl⟩:=rp.Qig hir;obtain⟨k,f,fd,ps,Fk,hr,hm,hk,hb,hn⟩:=hF;obtain⟨s1,s2,s3⟩:=QfZ hone e1;have hrl:rs.length=r.n:=by rw[Qeu e1,hlen]
   refine wpAny_Call_Name_kw (QcO I hg hm ?_ hdb);refine ZaF (h₀:=X.base) I.ok.mod.kin hk (thn (Qo8 ha H0 A0 pos pins s U H (λvs H1=>∃Gs,QaX X.K ρ F U i H H1 rs vs Gs) I ⟨ρ,hs,F,rs,rel,e1,λ_=>⟨_,hv⟩,λvs H1 Gs pl=>⟨Gs,pl⟩⟩) λus t1 ⟨vs,H1,I1,rv,Gs,pl⟩=>⟨I1.kIn,?_⟩) he hpl;have hlen2:(us++[]).length=ps.length:=by rw[Zs,← rv.length,pl.len,hrl,hn]
   have hbb:=hb t1 us I1.kIn hlen2;rw[Zs]at hbb;obtain⟨gs1,v',gv,gv2⟩:=pl.Qlr r.p s1;rw[hv]at gv;cases gv;refine wpAny_call (codeAny_mono (Fk.run X.A X.stack t1 H1 ⟨us,[]⟩ us vs (λ_ _=>False) (λc2 _ H'=>∃C,c2= .ref C/\ClsAt X.K c C/\QE (hide H1 (F i)) H') hr I1.Qpb hbb rv ⟨rsD rs d,λj=>Gs.getD j [],a,c,by rw[Qdm,hrl],by rw[pl.len,hrl],pl.each hv rp,?_,gv2,(show(Gs.getD r.p []).Nodup by rw[gs1];exact o2),?_,λj hj hj0 b hb=>?_,e2,λC H' hC sm=>⟨C,rfl,hC,by dsimp only at sm;rw[gs1]at sm;exact sm⟩⟩) λrr s' hq=>?_)
   .have:=(Zg.mp s1).1;omega
   .dsimp only;rw[gs1,o1,QiL s1]
   .dsimp only at hb ⊢;rw[gs1]at hb;exact pl.apart rel hρ hi j (s3 j ⋯ hj0) b hb
   .cases rr with
    | error ev=>
     obtain⟨ea,C',H',B,a0,rfl,os,bare,un,hok,fl,cov,old,C,rfl,hC,sm⟩:=hq;exact q C ea s' hC ⟨pins,U,H',F,(rel.ext pl.same).gone hρ sm,.inr ⟨B,a0,I1.QqG os un hok bare (λb z=>absurd z ⋯),fl,cov,λb o eb hbf=>by
      obtain⟨⟨o',h1⟩,h2⟩:=Qpd I1 hx eb hbf;exact old b o' h1 h2,λp hp=>by
      obtain⟨e,_,ne,nf,_⟩:=I1.pin p hp;exact old _ _ e λz=>(Zn.mp (I1.QeS _ z)).elim ne nf⟩⟩
    | ok fl=>
     cases fl with
     | ret u=>obtain⟨v,H',_,_,_,_,_,z⟩:=hq;exact z.elim
     | next=>exact False.elim hq
     | brk=>exact False.elim hq
     | cont=>exact False.elim hq
  .cases ex
 .cases ex
end
noncomputable def Qre(st:Stmt):Option (Str×List Expr):=match st with
 | .Expr e _=>match e with
  | .Call fn args kw _=>match kw with
   | _::_=>none
   | []=>(Qal fn).map λx=>(x,args)
  | _=>none
 | _=>none
def QsN{st:Stmt}{g:Str}{args:List Expr}(h:Qre st=some (g,args)):∃np cpos pos,st= .Expr (.Call (.Name g np) args [] cpos) pos:=by
 unfold Qre at h;split at h
 .split at h
  .split at h
   .cases h
   .obtain⟨x,h1,h2⟩:=Zb.mp h;cases h2;obtain⟨p,rfl⟩:=Qbk h1;exact⟨_,_,_,rfl⟩
  .cases h
 .cases h
noncomputable def Qvs(n:Nat)(J:Th)(Γi:List (Str×XiR))(body:List Stmt):Option DX:=match body with
 | []=>none
 | st::r=>match r with
  | _::_=>none
  | []=>(Qre st).bind λq=>match q.2 with
   | []=>none
   | a::as=>if J.gl q.1=true then(look q.1 Γi).bind λr=>(Qjh n J r.p (a::as)).map λz=>QQ (λ_=>none) (QnS r z.1 z.2) xNo else none
noncomputable def trC(n:Nat)(J:Th)(Γi:List (Str×XiR))(sub:Str->Str->Option Bool)(hΓ:List (Str×FnR))(st:Stmt):Option DS:=match st with
 | .Try body (h::hs) [] [] _=>(Qvs n J Γi body).bind λfx=>(QkU J sub hΓ (h::hs)).map λhl=>Qh5 (λ_=>none) fx sub hl
 | _=>none
section
variable {X:Cx}{J:Th}{Γi:List (Str×XiR)}{n:Nat}
def Qx4{sts:List Stmt}:SS X sts (λ_=>none):=λH0 A0 pins s U H E I ⟨ρ,hs,F,o,rel,e,q⟩=>by cases e
def Qwk(ok:QJ X J)(hx:X.ex=[])(hi:∀g r,look g Γi=some r->QuJ X g r){body:List Stmt}{fx:DX}(h:Qvs n J Γi body=some fx):RzS X body fx:=by
 unfold Qvs at h;split at h
 .cases h
 .split at h
  .cases h
  .rename_i st;refine Qf h λq hq h2=>?_;clear h;obtain⟨g,args⟩:=q;obtain⟨np,cpos,pos,rfl⟩:=QsN hq;clear hq;cases args with
   | nil=>cases h2
   | cons a as=>
    change(if J.gl g=true then(look g Γi).bind λr=>(Qjh n J r.p (a::as)).map λz=>QQ (λ_=>none) (QnS r z.1 z.2) xNo else none)=some fx at h2;split at h2
    .rename_i hg;refine Qf h2 λr hr h3=>?_;obtain⟨z,hz,rfl⟩:=Zb.mp h3;obtain⟨g1,g2,g3⟩:=Qb7 ok.toCtxB hg;have ha:=QhE ok hz;obtain⟨s1,s2⟩:=ha.star cpos;exact Qkg Qwi (Qp1 (Qz8 (hi g r hr) g1 hx g2 ha s1 s2) (Qca rfl)) Qlq
    .cases h2
def Qz2{sub:Str->Str->Option Bool}{hΓ:List (Str×FnR)}{st:Stmt}{f:DS}(ok:QJ X J)(ht:∀st f,J.tr st=some f->∀X,S1 X st f)(hte:∀e f,J.te e=some f->∀X,SE X e f)(hx:X.ex=[])(hstk:X.stack=X.env::X.outer)(hfr:X.env.frame=some X.env.locals)(hi:∀g r,look g Γi=some r->QuJ X g r)(hs:Qbb X.K sub)(hu:Qej X hΓ)(h:trC n J Γi sub hΓ st=some f):S1 X st f:=by
 unfold trC at h;split at h
 .rename_i body h0 hds pos;refine Qf h λfx h1 h=>?_;obtain⟨hl,h3,rfl⟩:=Zb.mp h;have hN:X.N.Nodup:=by rw[ok.N];exact ok.nd
  refine Qsw hN hx hstk hfr hs.ok (λxe pn hp=>?_) (Qh6 ok.toCtxB hs hu _ hl h3);have ok':=Qqf (pn:=pn) ok ht hte hp;exact⟨Qx4,Qwk ok' hx (λg r e=>hi g r e) h1⟩
 .cases h
end
noncomputable def thC(n:Nat)(st:Stmt)(Γ:List (Str×FnR))(cs:List (Str×Cn))(Γi:List (Str×XiR))(sub:Str->Str->Option Bool)(hΓ:List (Str×FnR)):Th:={Qbo st Γ cs with tr:=trC n (Qbo st Γ cs) Γi sub hΓ}
structure Qtd (K:Fgg) (H:Hp) (Fp:LAd) (d:D) (v:V) (H':Hp) (G:LAd):Prop where
 same:QE (hide H Fp) H'
 rp:Rp K H' d v G
 nd:G.Nodup
 len:G.length=d.nl
 fr:∀a∈G,a∈Fp∨H a=none
structure CoR where
 n:Nat
 p:Nat
 den:List D->Option D
noncomputable def spC(K:Fgg)(n p:Nat)(den:List D->Option D):Sp:=λvs H Q _=>∃(ds:List D) (F:Nat->List Addr) (a:Addr) (d:D),ds.length=n/\vs.length=n/\(∀j dj,ds[j]? =some dj->∃v,vs[j]? =some v/\Rp K H dj v (F j))/\p<n/\vs[p]? =some (.ref a)∧
 (F p).Nodup/\(F p).length=(ds.getD p .non).nl/\(∀j,j<n->j≠p->∀b∈F p,b∉F j)/\den ds=some d/\∀v H' G,Qtd K H (F p) d v H' G->Q v H'
noncomputable def QgY(k p:Nat)(ds:List D):En:=(Qab k ds).set p (some (ds.getD p .non,true))
noncomputable def Qzs:Out->Option D
 | .rt d true=>some d
 | _=>none
noncomputable def QjW(k p:Nat)(g:DS):List D->Option D:=λds=>(g (QgY k p ds)).bind Qzs
section
variable {P:Program}{w:World}{K:Fgg}{mg:Str->Option Value}{base:Heap}
def Qxu{n p:Nat}{den:List D->Option D}{ps:List Str}(hn:ps.length=n):∀vs H Q E,spC K n p den vs H Q E->vs.length=ps.length:=λvs H Q E ⟨ds,F,a,d,h1,h2,_⟩=>by rw[hn,h2]
def Qq8{H:Hp}{ds:List D}{vs:List V}{F:Nat->List Addr}{N:List Str}{n p:Nat}{a:Addr}(hN:n<=N.length)(hl:ds.length=n)(hvl:vs.length=n)(hv:∀j dj,ds[j]? =some dj->∃v,vs[j]? =some v/\Rp K H dj v (F j))(hp:p<n)(ha:vs[p]? =some (.ref a))
  (nd:(F p).Nodup) (ln:(F p).length=(ds.getD p .non).nl) (ap:∀j,j<n->j≠p->∀b∈F p,b∉F j):∃F',Rel K (hide H (F p)) ((List.range n).flatMap F) [] (QgY N.length p ds) F' (start N vs) H:=by
 have r:=Qgo (N:=N) hl hvl hv hp ha nd ln ap;have hlen:(Qab N.length ds).length=(start N vs).length:=by have:=r.len;unfold QaF at this;rw[Zay]at this;exact this
 have hpl:p<(Qab N.length ds).length:=by
  rw[hlen];unfold L2.start;simp;omega
 have e:(QaF N.length p a ds)[p]? =some (some (.obj (.pin a) [ds.getD p .non],true)):=by
  unfold QaF;rw[Zm hpl]
 obtain⟨v,hv',rp⟩:=r.val p _ _ e;obtain⟨rfl,rp0⟩:=rp.Qc6;have r2:=r.io e hv' QmJ rp0 nd ln λb hb=>r.Qoe e (.inl hb);have:QgY N.length p ds=(QaF N.length p a ds).set p (some (ds.getD p .non,true)):=by
  unfold QgY QaF;rw[List.set_set]
 rw[this];exact⟨_,r2⟩
def FnC(X:Cx)(x:Str)(r:CoR):Prop:=∃k f fd ps,Qau X.prog X.w X.K X.mg X.base CX0 k f fd ps (spC X.K r.n r.p r.den)/\Qao k X.A/\X.mg x=some (.ref f)/\PySem.W.keepIn X.K (.ref f)=true/\Binds X.K fd ps []
variable (P w K mg base) in
def QgZ(k:Nat)(x:Str)(r:CoR):Prop:=∃f fd ps,Qau P w K mg base CX0 k f fd ps (spC K r.n r.p r.den)/\mg x=some (.ref f)/\PySem.W.keepIn K (.ref f)=true/\Binds K fd ps []
def QgZ.mono{j k:Nat}{x:Str}{r:CoR}(h:QgZ P w K mg base j x r)(hk:j<=k):QgZ P w K mg base k x r:=by
 obtain⟨f,fd,ps,h1,h2⟩:=h;exact⟨f,fd,ps,h1.mono hk,h2⟩
def Qwx{h:Heap}{x:Str}{st:Stmt}{ps:List Str}{k n m p:Nat}{Γ:List (Str×FnR)}{Γi:List (Str×XiR)}{cs:List (Str×Cn)}{sub:Str->Str->Option Bool}{hΓ:List (Str×FnR)}{g:DS}(X:K.In h)(G:h.Ns mainGlobals mg)(F:Fact K x st)(S:Qar (namesOf (Qg st)) ps (Qg st))(B:Q3 x st ps)(M:QbR mg cs)(tab:QaK P w K mg base k Γ)(tabi:∀g r,look g Γi=some r->Qem P w K mg base k g r)
  (hs:Qbb K sub) (tabh:Qd9 P w K mg base k hΓ) (hc:Q5 n (thC m st Γ cs Γi sub hΓ) (QY st)=some g):QgZ P w K mg base (k+1) x ⟨ps.length,p,QjW (namesOf (Qg st)).length p g⟩:=by
 obtain⟨f,fd,Fn,a⟩:=F.ex;refine⟨f,fd,ps,?_,Zai X G a,Fn.kp,Fn.binds (B ·)⟩;refine Fn.ok S (Qxu rfl) λcdv A outer s H vs Q E hr h=>?_;obtain⟨ds,L,a,d,h1,h2,h3,h4,h5,h6,h7,h8,hd,q⟩:=h;have ok:=QiQ (P:=P) (w:=w) (K:=K) (base:=base) (qual:=x) (f:=f) (outer:=outer) (H:=H) (E:=E) (cdv:=cdv) (s:=s) S M tab hr
 have ok2:QJ (QbP CX0 P w K mg base (namesOf (Qg st)) x (Qg st) f cdv A outer s H E).nox (thC m st Γ cs Γi sub hΓ):=
  ⟨⟨ok.N,ok.nd,ok.lc,ok.ce,ok.fe,ok.gl,ok.units,ok.mg,ok.cs⟩,ok.calm,ok.pass,ok.fns,λst' f' h'=>Qz2 ok (λ_ _ h=>(nomatch h)) (λ_ _ h=>(nomatch h)) rfl rfl rfl (λz r e=>by
   obtain⟨f',fd',ps',c1,c2,c3,c4,c5⟩:=tabi z r e;exact⟨k,f',fd',ps',c1,hr,c2,c3,c4,c5⟩) hs (QvS hr tabh) h',λ_ _ h=>(nomatch h)⟩
 refine⟨_,(QeD n).Ss _ _ _ g ok2 hc (hide H (L p)) ((List.range ps.length).flatMap L),?_⟩;have hN:ps.length<=(namesOf (Qg st)).length:=by
  have:=congrArg List.length S.pre;rw[ZaE]at this;omega
 obtain⟨F0,rel⟩:=Qq8 (N:=namesOf (Qg st)) hN h1 h2 h3 h4 h5 h6 h7 h8;unfold QjW at hd;refine Qf hd λo ho hd=>?_;refine⟨_,[],F0,o,rel,ho,?_⟩;unfold Qzs at hd;split at hd
 .cases hd;exact λv H' G rt=>by
   obtain⟨n1,n2,n3⟩:=rt.cnt rfl;exact q v H' G ⟨rt.same,rt.rp,n1,n2,λc hc=>QiG (n3 c hc)⟩
 .cases hd
end
noncomputable def dCo(r:CoR)(fs:List (Option DE)):DE:=λρ=>(evs fs ρ).bind λrs=>match rs[r.p]? with
 | some (some rp)=>if(rp.fr && rp.M.isEmpty && isRef rp.d && fs.all Option.isSome && decide (fs.length=r.n))=true then(r.den (rsD rs .non)).map λq=>⟨q,true,[]⟩else none
 | _=>none
section
variable {K:Fgg}{ρ:En}{F:Nat->List Addr}{H H' H1:Hp}{Fp G:LAd}{d:D}{v:V}
def Qwl(s:QE H H1)(fr:∀b∈Fp,H b=none)(ip:Qtd K H1 Fp d v H' G):Q9 K ρ F H H' ⟨d,true,[]⟩ v G where
 same:=λb u e=>QbA ip.same (s b u e) λz=>by rw[fr b z]at e;cases e
 rp:=ip.rp
 src:=λa ha=>by
  rcases ip.fr a ha with z | z
  .exact .inl (fr a z)
  .exact .inl (s.free z)
 cnt:=λ_=>by
  refine⟨λa=>?_,ip.len⟩;by_cases ha:a∈G
  .have z:H a=none:=by
    rcases ip.fr a ha with z | z
    .exact fr a z
    .exact s.free z
   rw[QaM z];have:=ZZ.mp ip.nd a;omega
  .rw[ZM.mpr ha];exact ZS _
 own:=Qbp.nil
end
section
variable {X:Cx}{g:Str}{e:Expr}{es:List Expr}{fs:List (Option DE)}{cpos np:Pos}{r:CoR}
def QBf(hF:FnC X g r)(hg:Gl X g)(hdb:(g == ("__debug__" :Str))=false)(ha:Qba X 0 (e::es) fs)(hst:starEach (e::es) X.env=(false,eval e X.env)::starEach es X.env)(hpl:(backTo cpos (starEach es X.env)).any (·.1)=false):
  SE X (.Call (.Name g np) (e::es) [] cpos) (dCo r fs):=by
 intro H0 A0;obtain⟨k,f,fd,ps,c3,c4,c6,c7,c5⟩:=hF;refine(QgD c3 c4 hg c6 c7 c5 .nil Qfc (Qo8 ha H0 A0) hdb hst hpl).mono λU H Q=>exK λρ hs F out rel e q=>?_;refine Qf e λrs e1 e=>?_;split at e
 .rename_i rp hp;split at e
  .rename_i hc;simp only[Zi,decide_eq_true_eq]at hc;obtain⟨⟨⟨⟨c1,c2⟩,c8⟩,c9⟩,c10⟩:=hc;have hM:rp.M=[]:=Zbg.mp c2;obtain⟨qq,e2,rfl⟩:=Zb.mp e;refine⟨ρ,hs,F,rs,rel,e1,λz=>absurd z (QiF c9),λvs H1 Gs pl=>?_⟩;have hrl:rs.length=r.n:=by rw[Qeu e1,c10]
   obtain⟨t1,t2,t3,t4⟩:=pl.Qyv rel r.p rp hp c1 hM;obtain⟨u,u1,u2⟩:=pl.Qm9 r.p rp hp;obtain⟨a,rfl⟩:=u2.Qig c8;have hpl:r.p<rs.length:=(Zg.mp hp).1;refine⟨rsD rs .non,λj=>Gs.getD j [],a,qq,by rw[Qdm,hrl],by rw[Zs,pl.len,hrl],λj dj ej=>?_,⋯,by rw[Zs];exact u1,t1,?_,λj hj hj0 b hb=>?_,e2,λv2 H2 G2 ip=>?_⟩
   .have hj:j<rs.length:=by have:=(Zg.mp ej).1;rw[Qdm]at this;exact this
    obtain⟨r',er⟩:=Qdh e1 c9 j hj;rw[Qek er]at ej;cases ej;obtain⟨w,w1,w2⟩:=pl.Qm9 j r' er;exact⟨w,by rw[Zs];exact w1,w2⟩
   .dsimp only;rw[t2,ZD,Qek hp];rfl
   .exact t4 j hj0 (Qdh e1 c9 j ⋯) b hb
   .exact q v2 H2 G2 (Qwl pl.same t3 ip)
  .cases e
 .cases e
end
noncomputable def Qlm(r:CoR)(g:D->D->Option D)(i:Nat)(fs:List (Option DE))(fb:DE):DS:=λρ=>(evs fs ρ).bind λrs=>match ρ[i]? with
 | some (some (d,true))=>if(!(rsM rs).contains i && oneAt fs r.p && decide (fs.length=r.n) && isRef d)=true then(r.den (rsD rs d)).bind λq=>(fb (ρ.set i none)).bind λrb=>(g q rb.d).map λz=> .rt z true else none
 | _=>none
section
variable {X:Cx}{g:Str}{e b:Expr}{es:List Expr}{fs:List (Option DE)}{fb:DE}{cpos np pos p2:Pos}{i:Nat}{r:CoR}{op:CmpOp}{rr:R2}{gg:D->D->Option D}
def Qva(ho:OpR X (compareOp op) rr)(hgg:Qcw X.K gg rr)(hF:FnC X g r)(hg:Gl X g)(hdb:(g == ("__debug__" :Str))=false)(ha:Qba X i (e::es) fs)(hst:starEach (e::es) X.env=(false,eval e X.env)::starEach es X.env)(hpl:(backTo cpos (starEach es X.env)).any (·.1)=false)(hb:SE X b fb)(hm:behindInMarks op b=false):
  S1 X (.Return (some (.Compare (.Call (.Name g np) (e::es) [] cpos) [op] [b] p2)) pos) (Qlm r gg i fs fb):=by
 intro H0 A0;obtain⟨k,f,fd,ps,c3,c4,c6,c7,c5⟩:=hF;refine(Qkt (Qp5 ho (QgD c3 c4 hg c6 c7 c5 .nil Qfc (Qo8 ha H0 A0) hdb hst hpl) (hb H0 A0) hm)).mono λE U H=>exK λρ hs F out rel e q=>?_;refine Qf e λrs e1 e=>?_;split at e
 .rename_i d hρ;split at e
  .rename_i hc;simp only[Zi,decide_eq_true_eq,ZW]at hc;obtain⟨⟨⟨hM0,hone⟩,hlen⟩,hir⟩:=hc;have hi:i∉rsM rs:=λz=>by rw[ZI.mpr z]at hM0;cases hM0
   refine Qf e λqd e2 e=>?_;refine Qf e λrb e3 e=>?_;obtain⟨z,e4,rfl⟩:=Zb.mp e;obtain⟨v,hv,rp⟩:=rel.val i d true hρ;obtain⟨o1,o2,o3,o4,o5⟩:=rel.own i d hρ;obtain⟨a,rfl⟩:=rp.Qig hir;obtain⟨s1,s2,s3⟩:=QfZ hone e1;have hrl:rs.length=r.n:=by rw[Qeu e1,hlen]
   refine⟨ρ,hs,F,rs,rel,e1,λ_=>⟨_,hv⟩,λvs H1 Gs pl=>?_⟩;obtain⟨gs1,v',gv,gv2⟩:=pl.Qlr r.p s1;rw[hv]at gv;cases gv;refine⟨rsD rs d,λj=>Gs.getD j [],a,qd,by rw[Qdm,hrl],by rw[Zs,pl.len,hrl],λj dj ej=>?_,?_,by rw[Zs];exact gv2,(show(Gs.getD r.p []).Nodup by rw[gs1];exact o2),?_,λj hj hj0 b hb=>?_,e2,λv2 H2 G2 ip=>?_⟩
   .rw[Zs];exact pl.each hv rp j dj ej
   .have:=(Zg.mp s1).1;omega
   .dsimp only;rw[gs1,o1,QiL s1]
   .dsimp only at hb ⊢;rw[gs1]at hb;exact pl.apart rel hρ hi j (s3 j ⋯ hj0) b hb
   .have sm:=ip.same;dsimp only at sm;rw[gs1]at sm;have rel2:=(rel.ext pl.same).gone hρ sm;refine⟨ρ.set i none,hs,F,rb,rel2,e3,λy H3 G3 p3=>(hgg _ _ _ e4).2 H3 v2 y G2 G3 _ (ip.rp.same p3.same) p3.rp λu hu=>q u H3 [] ⟨rel2.same.trans p3.same,hu H3,λa ha=>by simp at ha,λ_=>⟨Zad,(Qc9 _ (hgg _ _ _ e4).1).symm,λa ha=>by simp at ha⟩⟩⟩
  .cases e
 .cases e
end
noncomputable def teC(n:Nat)(J:Th)(T:ObT)(C:List (Str×CoR))(e:Expr):Option DE:=match te2 n J T e with
 | some f=>some f
 | none=>match e with
  | .Call fn args kw _=>match kw with
   | _::_=>none
   | []=>match args with
    | []=>none
    | a::as=>(Qal fn).bind λx=>if J.gl x=true then(look x C).bind λr=>(Qkp n {J with te:=te1 n J T} (a::as)).map λfs=>dCo r fs else none
  | _=>none
noncomputable def Qzp(n:Nat)(J:Th)(C:List (Str×CoR))(st:Stmt):Option DS:=match st with
 | .Return v _=>v.bind λe=>match e with
  | .Compare l ops rs _=>match ops with
   | []=>none
   | op::ops=>match ops with
    | _::_=>none
    | []=>match rs with
     | []=>none
     | b::rs=>match rs with
      | _::_=>none
      | []=>match l with
       | .Call fn args kw _=>match kw with
        | _::_=>none
        | []=>match args with
         | []=>none
         | a::as=>(Qal fn).bind λx=>if J.gl x=true then(look x C).bind λr=>(Qjh n J r.p (a::as)).bind λq=>(Qs n J b).bind λfb=>(Qpe op).map λg=>Qlm r g q.1 q.2 fb else none
       | _=>none
  | _=>none
 | _=>none
noncomputable def QuQ(n:Nat)(J:Th)(T:ObT)(C:List (Str×CoR))(st:Stmt):Option DS:=match Qzp n J C st with
 | some f=>some f
 | none=>Quj n J T none st
noncomputable def Qnz(n:Nat)(J:Th)(T:ObT)(C:List (Str×CoR)):Th:={J with te:=teC n J T C,tr:=QuQ n {J with te:=teC n J T C} T C}
section
variable {X:Cx}{J:Th}{T:ObT}{C:List (Str×CoR)}{n:Nat}
def QsX(ok:QJ X J)(ob:Qh9 X T)(co:∀g r,look g C=some r->FnC X g r):∀e f,teC n J T C e=some f->SE X e f:=by
 intro e f h;unfold teC at h;split at h
 .rename_i g hg;cases h;exact Qox ok ob e _ hg
 .cases e with
  | Call fn args kw p=>
   cases kw with
   | cons _ _=>exact nn h
   | nil=>
    cases args with
    | nil=>exact nn h
    | cons a as=>
     refine Qf (show(Qal fn).bind _=some f from h) λx hx h'=>?_;clear h;obtain⟨np,rfl⟩:=Qbk hx;split at h'
     .rename_i hg;obtain⟨g1,g2,g3⟩:=Qb7 ok.toCtxB hg;refine Qf h' λr hr h=>?_;refine mapR h λfs hfs=>?_;have ha:=QhA (ok.QgG (QoP ok ob)) 0 hfs;obtain⟨s1,s2⟩:=ha.star p;exact QBf (co x r hr) g1 g2 ha s1 s2
     .cases h'
  | _=>exact nn h
def QxJ(ok:QJ X J)(co:∀g r,look g C=some r->FnC X g r):∀st f,Qzp n J C st=some f->S1 X st f:=by
 intro st f h;cases st with
 | Return v pos=>
  refine Qf (show v.bind _=some f from h) λe he h2=>?_;clear h;subst he;cases e with
  | Compare l ops rs p2=>
   rcases ops with _ | ⟨op,_ | ⟨_,_⟩⟩
   .exact nomatch (show(none:Option DS)=some _ from h2)
   .rcases rs with _ | ⟨b,_ | ⟨_,_⟩⟩
    .exact nomatch (show(none:Option DS)=some _ from h2)
    .cases l with
     | Call fn args kw p=>
      cases kw with
      | cons _ _=>exact nomatch (show(none:Option DS)=some _ from h2)
      | nil=>
       cases args with
       | nil=>exact nomatch (show(none:Option DS)=some _ from h2)
       | cons a as=>
        refine Qf (show(Qal fn).bind _=some f from h2) λx hx h'=>?_;clear h2;obtain⟨np,rfl⟩:=Qbk hx;split at h'
        .rename_i hg;obtain⟨g1,g2,g3⟩:=Qb7 ok.toCtxB hg;refine Qf h' λr hr h=>?_;refine Qf h λq hq h=>?_;refine bindR h λfb gg h4 h5=>?_;have ha:=QhE ok hq;obtain⟨s1,s2⟩:=ha.star p;obtain⟨rr,o1,o2,_⟩:=Qor ok h5;exact Qva o1 o2 (co x r hr) g1 g2 ha s1 s2 ((Qav n).E X J b fb ok h4) (Qoy h4 op)
        .cases h'
     | _=>exact nomatch (show(none:Option DS)=some _ from h2)
    .exact nomatch (show(none:Option DS)=some _ from h2)
   .exact nomatch (show(none:Option DS)=some _ from h2)
  | _=>exact nomatch (show(none:Option DS)=some _ from h2)
 | _=>exact nn h
def Qw9(ok:QJ X J)(ob:Qh9 X T)(co:∀g r,look g C=some r->FnC X g r):∀st f,QuQ n J T C st=some f->S1 X st f:=λst f h=>by
 unfold QuQ at h;split at h
 .rename_i g hg;cases h;exact QxJ ok co st _ hg
 .exact Qp7 ok ob none st f h
def QxX(ok:QJ X J)(ob:Qh9 X T)(co:∀g r,look g C=some r->FnC X g r):QJ X (Qnz n J T C):=
 (ok.QgG (QsX ok ob co)).QrN (Qw9 (ok.QgG (QsX ok ob co)) ob co)
end
section
variable {P:Program}{w:World}{K:Fgg}{mg:Str->Option Value}{base:Heap}
variable (P w K mg base) in
def Qge(k:Nat)(C:List (Str×CoR)):Prop:=∀x r,look x C=some r->QgZ P w K mg base k x r
def Qge.mono{j k:Nat}{C:List (Str×CoR)}(t:Qge P w K mg base j C)(hk:j<=k):Qge P w K mg base k C:=λx r e=>(t x r e).mono hk
def Qge.one{k:Nat}{x:Str}{r:CoR}(h:QgZ P w K mg base k x r):Qge P w K mg base k [(x,r)]:=λy q e=>by
 unfold look at e;split at e
 .rename_i hxy;cases e;have hxy:y=x:=by simpa using hxy
  rw[hxy];exact h
 .cases e
def Qsk{x qual:Str}{st:Stmt}{f:Addr}{fd:FuncData}{ps:List Str}{k n n':Nat}{Γ:List (Str×FnR)}{cs:List (Str×Cn)}{T:ObT}{C:List (Str×CoR)}{g:DS}(F:Fun K x qual st f fd)(S:Qar (namesOf (Qg st)) ps (Qg st))(M:QbR mg cs)(tab:QaK P w K mg base (k+1) Γ)(tabo:Qcx P w K mg base k T)(tabc:Qge P w K mg base (k+1) C)
  (hc:Q5 n (Qnz n' (Qbo st Γ cs) T C) (QY st)=some g):Qau P w K mg base CX0 (k+2) f fd ps (spV K ps.length (Qu (namesOf (Qg st)).length g)):=by
 refine F.ok S (Qjb rfl) λcdv A outer s H vs Q E hr h=>?_;obtain⟨ds,L,d,fr,rps,hl,hd,q⟩:=h;have ok:=QiQ (P:=P) (w:=w) (K:=K) (base:=base) (qual:=qual) (f:=f) (cdv:=cdv) (outer:=outer) (s:=s) (H:=H) (E:=E) S M tab hr;have ok2:=QxX (n:=n') (C:=C) ok (Qcx.ob (X:=(QbP CX0 P w K mg base (namesOf (Qg st)) qual (Qg st) f cdv A outer s H E).nox) tabo hr) λz r e=>by
  obtain⟨f',fd',ps',c1,c2,c3,c4⟩:=tabc z r e;exact⟨k+1,f',fd',ps',c1,hr,c2,c3,c4⟩
 refine⟨_,(QeD n).Ss _ _ _ g ok2 hc H L,?_⟩;obtain⟨F0,rel⟩:=QeT (N:=namesOf (Qg st)) rps;unfold Qu at hd;refine Qf hd λo ho hd=>?_;refine⟨_,[],F0,o,rel,ho,?_⟩;cases o with
 | nx ρ=>
  cases hd;exact λU H' F' rel'=>q .non H' [] ⟨rel'.same,.QfJ,λa ha=>by simp at ha,λ_=>⟨Zad,rfl,λa ha=>by simp at ha⟩⟩
 | bk ρ=>cases hd
 | ct ρ=>cases hd
 | rt d' fr'=>
  cases hd;exact λv H' G r=>q v H' G r
def Qj9{h:Heap}{x:Str}{st:Stmt}{ps:List Str}{k n n':Nat}{Γ:List (Str×FnR)}{cs:List (Str×Cn)}{T:ObT}{C:List (Str×CoR)}{g:DS}(X:K.In h)(G:h.Ns mainGlobals mg)(F:Fact K x st)(S:Qar (namesOf (Qg st)) ps (Qg st))(B:Q3 x st ps)(M:QbR mg cs)(tab:QaK P w K mg base (k+1) Γ)(tabo:Qcx P w K mg base k T)(tabc:Qge P w K mg base (k+1) C)
  (hc:Q5 n (Qnz n' (Qbo st Γ cs) T C) (QY st)=some g):Known P w K mg base (k+2) x ⟨ps.length,[],Qu (namesOf (Qg st)).length g⟩:=by
 obtain⟨f,fd,Fn,a⟩:=F.ex;exact⟨f,fd,ps,Qsk Fn S M tab tabo tabc hc,Zai X G a,Fn.kp,λm hm=>⟨[],[],Fn.binds (B ·),.nil,λH=>by simp[Rps]⟩⟩
end
end HS
namespace HS
open PySem L2
def Qow(m:Nat)(S:Lpp):Prop:=∀A:Nat->Prop,(∃p,p<m/\A p)->∃s∈S,s.1<m/\A s.1.toNat/\(s.2=m∨¬A s.2.toNat)
def Qmz(h:Esc m W):Qow m (Ql (Qa4 W) (QaO W)):=λA hA=>by
 obtain⟨w,hw,h1,h2,h3⟩:=h A hA;refine⟨(w.1,w.2.1),?_,h1,h2,h3⟩;unfold Ql;cases e:w.2.2 with
 | true=>exact Zd _ (Zac.mpr ⟨w,ZC.mpr ⟨hw,e⟩,rfl⟩)
 | false=>
  have hr:QdZ w∈Qa4 W:=Zac.mpr ⟨w,ZC.mpr ⟨hw,by simp[e]⟩,rfl⟩;by_cases hlt:w.2.1<w.1
  .refine Ze _ (Zd _ (Zac.mpr ⟨QdZ w,hr,?_⟩));unfold QdZ;rw[if_pos hlt,if_neg ⋯];rfl
  .refine Ze _ (Ze _ ?_);have:QdZ w=(w.1,w.2.1):=by
    unfold QdZ;rw[if_neg hlt];by_cases hgt:w.2.1>w.1
    .rw[if_pos hgt]
    .rw[if_neg hgt];rw[show w.2.1=w.1 by omega]
   rw[← this];exact hr
inductive Rk (m:Nat) (S:Lpp):Nat->Nat->Prop where
 | pit {s:Int×Int}{n:Nat}:s∈S->s.2=m->Rk m S (n+1) s.1.toNat
 | step {s:Int×Int}{k n:Nat}:s∈S->s.2≠m->Rk m S k s.2.toNat->k<n->Rk m S n s.1.toNat
def Qj3{P:Nat->Prop}(h:∃n,P n):∃n,P n/\∀k,k<n->¬P k:=by
 obtain⟨n,hn⟩:=h
 induction n using Nat.strongRecOn with
 | _ n ih=>
  by_cases h:∃k,k<n/\P k
  .obtain⟨k,hk,h⟩:=h;exact ih k hk h
  .exact⟨n,hn,λk hk hx=>h ⟨k,hk,hx⟩⟩
def QAG(he:Qow m S):∀p,p<m->∃n,Rk m S n p:=λp hp=>by
 by_cases h:∃n,Rk m S n p
 .exact h
 .exfalso;obtain⟨s,hs,h1,h2,h3⟩:=he (λp=>¬ ∃n,Rk m S n p) ⟨p,hp,h⟩;by_cases e:s.2=m
  .exact h2 ⟨1,.pit hs e⟩
  .rcases h3 with h3 | h3
   .exact e h3
   .have:∃n,Rk m S n s.2.toNat:=Classical.byContradiction λz=>h3 z;obtain⟨k,hk⟩:=this;exact h2 ⟨k+1,.step hs e hk ⋯⟩
def Qp9{m:Nat}{S:Lpp}(hg:∀s∈S,Good m s)(he:Qow m S):∃r:Nat->Nat,r m=0/\∀p,p<m->∃s∈S,s.1=p/\r s.2.toNat<r p:=by
 have h:∀p,∃n,(p<m->Rk m S n p/\∀k,k<n->¬Rk m S k p)/\(p=m->n=0):=λp=>by
  by_cases hp:p<m
  .obtain⟨n,hn⟩:=Qj3 (QAG he p hp);exact⟨n,λ_=>hn,λz=> ⋯⟩
  .exact⟨0,λz=>absurd z hp,λ_=>rfl⟩
 obtain⟨r,hr⟩:=Classical.axiomOfChoice h;refine⟨r,(hr m).2 rfl,λp hp=>?_⟩;have h1:=((hr p).1 hp).1;generalize r p=n at h1;cases h1 with
 | @pit s n hs e=>
  obtain⟨g1,g2,g3,g4,g5⟩:=hg s hs;exact⟨s,hs,⋯,by rw[e,Zae,(hr m).2 rfl];omega⟩
 | @step s k n hs e hk hkn=>
  obtain⟨g1,g2,g3,g4,g5⟩:=hg s hs;refine⟨s,hs,⋯,?_⟩;have hl:s.2.toNat<m:= ⋯
  have:=((hr s.2.toNat).1 hl).2 k;have:¬k<r s.2.toNat:=λz=>this z hk;omega
def QoL(r:Nat->Nat):∀m:Nat,∃N,∀p,p<=m->r p<=N
 | 0=>⟨r 0,λp hp=>by rw[show p=0 by omega];exact Zk _⟩
 | m+1=>by
  obtain⟨N,hN⟩:=QoL r m;refine⟨N+r (m+1),λp hp=>?_⟩;by_cases e:p=m+1
  .subst e;omega
  .have:=hN p ⋯;omega
def Qr0(hi:i<m)(g:Good m s)(w:Mt1)(hw:w m=0):Qo m (λj=>hit i j s*w j)=if s.1=i then w s.2.toNat-w i else 0:=by
 obtain⟨g1,g2,g3,g4,g5⟩:=g;by_cases h:s.1=i
 .rw[if_pos h];have e:Qo m (λj=>hit i j s*w j)=Qo m (λj=>(if j=s.2.toNat then 1 else 0)*w j+(if j=i then-1 else 0)*w j):=Q2 λj _=>by
   have:hit i j s=(if j=s.2.toNat then 1 else 0)+(if j=i then-1 else 0):=by
    unfold hit;by_cases a:s.2=j
    .by_cases b:i=j
     .rw[if_pos ⟨h,a⟩,if_pos ⟨h,b⟩,if_pos ⋯,if_pos b.symm];omega
     .rw[if_pos ⟨h,a⟩,if_neg (λz=>b z.2),if_pos ⋯,if_neg (λz=>b z.symm)];omega
    .by_cases b:i=j
     .rw[if_neg (λz=>a z.2),if_pos ⟨h,b⟩,if_neg ⋯,if_pos b.symm];omega
     .rw[if_neg (λz=>a z.2),if_neg (λz=>b z.2),if_neg ⋯,if_neg (λz=>b z.symm)];omega
   rw[this,ZaL]
  rw[e,Qas,Qaq hi];by_cases hm:s.2.toNat<m
  .rw[Qaq hm];omega
  .have e2:Qo m (λj=>(if j=s.2.toNat then 1 else 0)*w j)=0:=by
    rw[Q2 λj hj=>by rw[if_neg ⋯,ZaC],QT]
   rw[e2,show s.2.toNat=m by omega,hw];omega
 .rw[if_neg h];rw[Q2 (g:=λ_=>0) λj hj=>by
   unfold hit;rw[if_neg (λz=>h z.1),if_neg (λz=>h z.1)];rw[Int.sub_self,ZaC],QT]
def Qhs{α:Type}{g:α->Int}{X:Int}:∀S:List α,(∀s∈S,g s<=X)->(S.map g).sum<=S.length*X
 | [],_=>by simp
 | a::S,h=>by
  have h1:=h a ⋯;have h2:=Qhs S λs hs=>h s (by simp[hs]);simp only[ZA,Zag,Zj,ZbM,ZaL];rw[show((1:Nat):Int)*X=X by simp];omega
def Qfe{α:Type}{g:α->Int}{X Y:Int}:∀(S:List α),(∀s∈S,g s<=X)->(∃s∈S,g s<=Y)->(S.map g).sum<=S.length*X-X+Y
 | [],_,h=>by obtain⟨s,hs,_⟩:=h;exact absurd hs ⋯
 | a::S,h,h2=>by
  obtain⟨s,hs,hy⟩:=h2;have hb:∀s∈S,g s<=X:=λs hs=>h s (by simp[hs]);simp only[ZA,Zag,Zj,ZbM,ZaL];rw[show((1:Nat):Int)*X=X by simp];rcases Zn.mp hs with e | hs
  .subst e;have:=Qhs S hb;omega
  .have:=Qfe S hb ⟨s,hs,hy⟩;have:=h a ⋯;omega
def Qfk{α:Type}{g:α->Int}:∀S:List α,(∀s∈S,0<=g s)->0<=(S.map g).sum
 | [],_=>by simp
 | a::S,h=>by
  have h1:=h a ⋯;have h2:=Qfk S λs hs=>h s (by simp[hs]);simp only[ZA,Zag];omega
def Qvp{m:Nat}{S:Lpp}(hg:∀s∈S,Good m s)(he:Qow m S)(hl:S.length<2^60):TP m (Qt m S):=by
 have hn:∀s∈S,0<=s.1/\0<=s.2:=λs hs=>⟨(hg s hs).1,(hg s hs).2.1⟩;have pos:∀i j,i<m->j<m->i≠j->0<=Qt m S i j:=λi j hi hj hij=>by
  rw[Qcb hi hj hn];refine Qfk S λs _=>?_;unfold hit;rw[if_neg (λz=>hij z.2) (c:=s.1=i/\i=j)];split<;>omega
 obtain⟨r,r0,hr⟩:=Qp9 hg he;obtain⟨N,hN⟩:=QoL r m;have M1:1<=S.length+1:= ⋯
 have wt:∃w:Nat->Int,(∀j,0<=w j)/\∀i,i<m->Qo m (λj=>Qt m S i j*w j)<= -1:=by
  refine⟨λv=>(((S.length+1)^N:Nat):Int)-(((S.length+1)^(N-r v):Nat):Int),λj=>?_,λi hi=>?_⟩
  .have:=ZaU M1 (Nat.sub_le N (r j));show(0:Int)<=(((S.length+1)^N:Nat):Int)-(((S.length+1)^(N-r j):Nat):Int);omega
  .generalize hw:(λv=>(((S.length+1)^N:Nat):Int)-(((S.length+1)^(N-r v):Nat):Int))=w;have hw':∀v,w v=(((S.length+1)^N:Nat):Int)-(((S.length+1)^(N-r v):Nat):Int):=λv=>by rw[← hw]
   have wm:w m=0:=by rw[hw',r0,Nat.sub_zero];omega
   have e:Qo m (λj=>Qt m S i j*w j)=(S.map λs=>if s.1=(i:Int)then w s.2.toNat-w i else 0).sum:=by
    rw[Q2 (g:=λj=>(S.map λs=>hit i j s*w j).sum) λj hj=>by
     rw[Qcb hi hj hn,ZaP,Qqe];congr 1;exact ZQ λs _=>ZaP _ _]
    rw[QfU m (λj s=>hit i j s*w j) S];congr 1;exact ZQ λs hs=>Qr0 hi (hg s hs) w wm
   rw[e];obtain⟨s0,hs0,e0,hlt⟩:=hr i hi;generalize hX:(((S.length+1)^(N-r i):Nat):Int)=X;have X1:1<=X:=by
    have:0<(S.length+1)^(N-r i):=Nat.pow_pos ⋯;omega
   have key:=Qfe (Y:=X-(S.length+1)*X) S (λs _=>by
    show(if s.1=i then w s.2.toNat-w i else 0)<=X;split
    .rw[hw',hw' i,hX];have:0<=(((S.length+1)^(N-r s.2.toNat):Nat):Int):=Int.natCast_nonneg _;omega
    .omega) ⟨s0,hs0,by
    show(if s0.1=i then w s0.2.toNat-w i else 0)<=_;rw[if_pos e0,hw',hw' i,hX];have hb:=hN i ⋯;have h1:(S.length+1)^(N-r i+1)<=(S.length+1)^(N-r s0.2.toNat):=ZaU M1 ⋯;rw[Nat.pow_succ]at h1;have h2:((((S.length+1)^(N-r i)*(S.length+1):Nat)):Int)<=(((S.length+1)^(N-r s0.2.toNat):Nat):Int):=by exact_mod_cast h1
    rw[Int.natCast_mul,hX,ZaP,show((S.length+1:Nat):Int)=(S.length:Int)+1 by omega]at h2;omega⟩
   have:((S.length:Int)+1)*X=S.length*X+X:=by rw[ZaL,ZaM]
   omega
 refine⟨λp hp=>?_,pos,λi j hi hj=>?_,wt⟩
 .obtain⟨w,w0,hw⟩:=wt;have h1:=hw p hp;by_cases hneg:Qt m S p p<0
  .exact hneg
  .exfalso;have:0<=Qo m (λj=>Qt m S p j*w j):=by
    have:=Qbd (f:=λ_=>0) (g:=λj=>Qt m S p j*w j) λj hj=>by
     by_cases e:p=j
     .subst e;exact ZaH ⋯ (w0 _)
     .exact ZaH (pos p j hp hj e) (w0 _)
    rw[QT]at this;exact this
   omega
 .rw[Qcb hi hj hn];have:=Qgc i j S;omega
def Qbc.tp{m:Nat}{R L:Lpp}(h:Qbc m R L):TP m (Qt m (Ql R L)):=by
 have hg:=h.good;refine Qvp (QbG hg.1 hg.2.1) ?_ ?_
 .obtain⟨W,h1,_,_,rfl,rfl⟩:=h.ex;exact Qmz h1
 .unfold Ql;simp only[Zo,Zp];omega
def Qbc.neg{m:Nat}{R L:Lpp}(h:Qbc m R L){i:Nat}(hi:i<m):0-Qt m (Ql R L) i i=QG R L i:=by
 have hg:=h.good;have hs:=QbG hg.1 hg.2.1;rw[Qcb hi hi (λs z=>⟨(hs s z).1,(hs s z).2.1⟩),sum_neg _ _ (λs z=>(hs s z).2.2.2.2),QmD];omega
def Qbc.Qkl{m:Nat}{R L:Lpp}(h:Qbc m R L){i:Nat}(hi:i<m):0<QG R L i:=by
 have:=h.neg hi;have:=h.tp.neg i hi;omega
def QiH(m:Nat)(f:Mt1):Qb m f= .lst (((List.range m).map f).map D.int):=by
 unfold Qb;rw[Zah];rfl
def Qqd:∀{ns:List Int},ns≠[]->∃m,Qkd ns=some m
 | [],h=>absurd rfl h
 | [n],_=>⟨n,rfl⟩
 | n::k::r,_=>by
  obtain⟨m,hm⟩:=Qqd (ns:=k::r) ⋯;exact⟨if m<n then m else n,by simp only[Qkd,hm,ZN]⟩
def QpJ:∀{ns:List Int},ns≠[]->∃m,Qj7 ns=some m
 | [],h=>absurd rfl h
 | [n],_=>⟨n,rfl⟩
 | n::k::r,_=>by
  obtain⟨m,hm⟩:=QpJ (ns:=k::r) ⋯;exact⟨if n<m then m else n,by simp only[Qj7,hm,ZN]⟩
def Qsp(h:0<m)(f:Mt1):(List.range m).map f≠[]:=by
 intro z;have:=congrArg List.length z;simp at this;omega
def QpH(m0:0<m)(f:Mt1):∃v,(∃i,i<m/\v=f i)/\(∀i,i<m->v<=f i)/\∀{fa:DE}{ρ:En}{r:R},fa ρ=some r->r.d=Qb m f->dBf QeC (Qa fa Qc) ρ=some (reI v):=by
 obtain⟨v,hv⟩:=Qqd (Qsp m0 f);obtain⟨h1,h2⟩:=Qjp hv;refine⟨v,?_,λi hi=>h2 _ (Zac.mpr ⟨i,ZR.mpr hi,rfl⟩),λ{fa ρ r} h e=>?_⟩
 .obtain⟨i,hi,e⟩:=Zac.mp h1;exact⟨i,ZR.mp hi,e.symm⟩
 .unfold dBf;rw[Qp h (Q0 _),Za];simp only[e,QiH,QeC,QfI,Za,hv,ZN]
def QwN(m0:0<m)(f:Mt1):∃v,(∃i,i<m/\v=f i)/\(∀i,i<m->f i<=v)/\∀{fa:DE}{ρ:En}{r:R},fa ρ=some r->r.d=Qb m f->dBf QhI (Qa fa Qc) ρ=some (reI v):=by
 obtain⟨v,hv⟩:=QpJ (Qsp m0 f);obtain⟨h1,h2⟩:=Qi9 hv;refine⟨v,?_,λi hi=>h2 _ (Zac.mpr ⟨i,ZR.mpr hi,rfl⟩),λ{fa ρ r} h e=>?_⟩
 .obtain⟨i,hi,e⟩:=Zac.mp h1;exact⟨i,ZR.mp hi,e.symm⟩
 .unfold dBf;rw[Qp h (Q0 _),Za];simp only[e,QiH,QhI,QfI,Za,hv,ZN]
noncomputable def QcX(Qad:Den):DS:=(Qe (Qbj (Qj 2 Qad [] (Qa vv0 (Qa vv1 Qc)))) (Qe (Qbm (Qan vv1) (.nm 2) (Qe (sIf (Qv (dOp gLt (dBf QeC (Qa vv2 Qc)) kk0)) (Qe QD Qi) Qi) Qi)) Qi))
def Qfn(d:Den):Prop:=∀(m:Nat) (R L:Lpp) (fs:List (Nat->Int)),0<m->(∀f∈fs,∀j,j<m->0<=f j)->d [Qh m R L,.lst (fs.map λf=>Qb m f)]=some (.non,true)
def QnU(hn:QiI dn):Qfn (Qu 3 (QcX dn)):=λm R L fs m0 hf=>by
 have key:Run (QcX dn) (Qab 3 [Qh m R L,.lst (fs.map λf=>Qb m f)]) (Nx λ_=>True):=by
  refine run_seq (Qcc (QA rfl (hn m R L fs) rfl) ?_);refine run_seq (QbM fs (λ_ ρ=>∃j2,ρ=[slF (Qh m R L),slF (.lst (fs.map λf=>Qb m f)),j2]) rfl rfl ⟨none,rfl⟩ ?_ ?_)
  .rintro i f ρ hi ⟨j2,rfl⟩;refine⟨_,rfl,?_⟩;obtain⟨v,⟨q,hq,e⟩,_,hv⟩:=QpH m0 f;have h0:=hf f (Zak hi) q hq;refine run_seq (QX (b:=false) (QC (Qaj (hv rfl rfl) rfl rfl) ?_) (λh=>by cases h) (λ_=>Qr (Qr ⟨_,rfl⟩)));show D.bl _=_;rw[decide_eq_false ⋯]
  .rintro ρ ⟨j2,rfl⟩;exact Qr trivial
 obtain⟨o,h1,h2⟩:=key;unfold Qu;rw[h1];cases o with
 | nx ρ=>rfl
 | _=>exact h2.elim
noncomputable def Qgv(QU:Den)(QK:Den)(Qbn:Den):DS:=(Qe (Qbj (Qj 2 QU [] (Qa vv0 (Qa (QH (Qa vv1 Qc)) Qc)))) (Qe (Qn 2 (Qj 1 QK [] (Qa vv0 Qc))) (Qe (Qn 3 (Qac (QH (Qa kk0 Qc)) (Qz vv0 kk0))) (Qe (Qn 4 (Qac (QH (Qa kk0 Qc)) (Qz vv0 kk0))) (Qe (Qn 5 (Qbs (Qa vv3 (Qa vv4 Qc)))) (Qe (Qn 6 (dBf QhI (Qa vv1 Qc))) (Qe (Qbm (Qeq (dOp QaW (Qi2 vv6) kk1) (QcW kk1) (QcW kk1)) (.nm 7) (Qe (Qn 3 (QR (QaD (Qz vv5 kk0) vv1) (.tp [1,2]) [none,none,none,some 7] Qag (Qx (Qac kk2 vv1) (dOp QN (dOp Qiq vv2 vv3) kk2)))) (Qe (Qn 4 (QR (Qan (Qz vv5 kk1)) (.nm 1) [none,none] Qag (Qac kk2 vv1))) (Qe (Qn 5 (Qj 3 Qbn [] (Qa vv2 (Qa vv3 (Qa vv4 Qc))))) Qi)))) (Qe (QW vv5) Qi))))))))
noncomputable def Qch(m:Nat)(T:Mt2)(f c:Mt1):D:= .tup [Qb m (Qm m T f c),Qb m c]
structure Told (m:Nat) (T:Mt2) (f c:Mt1):Prop where
 leg:Leg m T f c
 pos:∀j,j<m->0<=Qm m T f c j
 stb:Stb m T (Qm m T f c)
def QlN(d:Den):Prop:=∀(m:Nat) (R L:Lpp) (f:Mt1),0<m->m<=1000->Qbc m R L->(∀j,j<m->0<=f j/\f j<2^200)->∃c,d [Qh m R L,Qb m f]=some (Qch m (Qt m (Ql R L)) f c,true)/\Told m (Qt m (Ql R L)) f c
def QsU(ha:fa ρ=some ra)(ea:ra.d= .int ((n:Int)-1))(hb:fb ρ=some rb)(eb:rb.d= .int (-1))(hc:fc ρ=some rc)(ec:rc.d= .int (-1))(hn:n<=16777216):Qeq fa fb fc ρ=some ⟨(List.range n).map λ(k:Nat)=> .int ((n:Int)-1-k),[]⟩:=by
 unfold Qeq;rw[ha,Za,hb,Za,hc,Za,ea,eb,ec];show(if(n:Int)-1- -1<=16777216/\_ then _ else _)=_;rw[if_pos ⟨⋯,⋯,⋯,⋯,⋯⟩,show((n:Int)-1- -1).toNat=n by omega];rfl
def Qy0{fa fb:DE}{ρ:En}{ra rb:R}{a:Int}{k:Nat}(ha:fa ρ=some ra)(ea:ra.d= .int a)(hb:fb ρ=some rb)(eb:rb.d= .int k):dOp Qiq fa fb ρ=some (reI (a / 2^k)):=by
 refine Qaj ha hb ?_;rw[ea,eb];show(if(0:Int)<=k then some (D.int (a / 2^(k:Int).toNat))else none)=_;rw[if_pos ⋯,Zae]
def QtO(x:Int)(s:Nat):x / 2^s=2*(x / 2^(s+1))+x / 2^s % 2:=by
 have e:x / 2^(s+1)=x / 2^s / 2:=by rw[Int.pow_succ,Int.ediv_ediv_of_nonneg (Int.pow_nonneg ∅)]
 rw[e];omega
def QkG(e:∀j,j<m->f j=g j)(h:Told m T f c):Told m T g c where
 leg:=h.leg.Qwb e
 pos:=λj hj=>by rw[← Qb5 j (e j hj) (λ_ _=>rfl)];exact h.pos j hj
 stb:=λj hj=>by rw[← Qb5 j (e j hj) (λ_ _=>rfl)];exact h.stb j hj
def QjP(e:∀j,j<m->f j=g j):Qch m T f c=Qch m T g c:=by
 unfold Qch;rw[Qdi λj hj=>Qb5 j (e j hj) λ_ _=>rfl]
def Qon(hn:Qfn dn)(ht:Qfq dt)(hs:Qh1 ds):QlN (Qu 8 (Qgv dn dt ds)):=λm R L f m0 hm hw hf=>by
 have hg:=hw.good;have tp:=hw.tp;have htoll:=ht m R L hm ⋯ hg.1 hg.2.1;generalize hT:Qt m (Ql R L)=T at tp htoll ⊢;obtain⟨top,⟨q,hq,etop⟩,hmax,evmax⟩:=QwN m0 f;have htop0:0<=top:=by rw[etop];exact(hf q hq).1
 have hB:Builtin.Int.intBits top<=200:=by
  rw[intBits_le_iff];have:top<2^200:=by rw[etop];exact(hf q hq).2
  have e2:((2^200:Nat):Int)=(2:Int)^200:=by rw[Int.natCast_pow];rfl
  generalize (2:Int)^200=z at this e2;generalize (2:Nat)^200=z' at e2 ⊢;omega
 have hlt:∀j,j<m->f j / 2^Builtin.Int.intBits top=0:=λj hj=>by
  have h1:=(intBits_le_iff (m:=Builtin.Int.intBits top)).mp (Zk _);refine Int.ediv_eq_zero_of_lt (hf j hj).1 ?_;have h2:=hmax j hj;have e2:((2^Builtin.Int.intBits top:Nat):Int)=(2:Int)^Builtin.Int.intBits top:=by rw[Int.natCast_pow];rfl
  rw[← e2];omega
 generalize hBe:Builtin.Int.intBits top=B at hB hlt;have key:Run (Qgv dn dt ds) (Qab 8 [Qh m R L,Qb m f]) (Rt λd fr=>∃c,d=Qch m T f c/\fr=true/\Told m T f c):=by
  have hneed:=hn m R L [f] m0 (λg hg' j hj=>by rw[Zl.mp hg'];exact(hf j hj).1);refine run_seq (Qcc (QA rfl hneed rfl) ?_);refine rsa (QA rfl htoll rfl) ?_;refine rsa (QeV rfl rfl ⋯) ?_;refine rsa (QeV rfl rfl ⋯) ?_;refine run_seq (Qy rfl ?_);refine rsa (evmax rfl rfl) ?_;refine QfG (P:=λρ=>∃c j3 j4 j7,Told m T f c/\ρ=[slF (Qh m R L),slF (Qb m f),slT (QaH m m T),j3,j4,some (Qch m T f c,true),slI top,j7]) ?_ ?_
  .refine QbM (List.range B) (λi ρ=>∃c j3 j4 j7,Told m T (λj=>f j / 2^(B-i)) c/\ρ=[slF (Qh m R L),slF (Qb m f),slT (QaH m m T),j3,j4,some (Qch m T (λj=>f j / 2^(B-i)) c,true),slI top,j7])
    (QsU (Qaj (ra:=reI B) (by rw[← hBe];rfl) rfl rfl) rfl rfl rfl rfl rfl ⋯) rfl ⟨λ_=>0,none,none,none,?_,?_⟩ ?_ ?_
   .refine QkG (λj hj=>(hlt j hj).symm) ⟨.nil,λj hj=>?_,λj hj=>?_⟩
    .unfold Qm;rw[Q2 λi _=>by rw[ZaC],QT];exact Zal _
    .unfold Qm;rw[Q2 λi _=>by rw[ZaC],QT];have:=tp.neg j hj;show(0:Int)+0<_;omega
   .show _=[slF (Qh m R L),slF (Qb m f),slT (QaH m m T),none,none,some (Qch m T (λj=>f j / 2^B) λ_=>0,true),slI top,none];rw[← QjP λj hj=>(hlt j hj).symm];unfold Qch;rw[QtC];rfl
   .rintro i i' ρ hi ⟨c,j3,j4,j7,hc,rfl⟩;obtain⟨hiB,rfl⟩:=Qkb hi;obtain⟨s,hsB⟩:∃s:Nat,B-i=s+1:=⟨B-i-1,⋯⟩;have es:(B:Int)-1-i=(s:Int):= ⋯
    have es2:B-(i+1)=s:= ⋯
    rw[hsB]at hc;rw[hsB,es2,es];generalize hF:(λj=>f j / 2^(s+1))=F at hc;have hF':∀j,F j=f j / 2^(s+1):=λj=>by rw[← hF]
    refine⟨_,rfl,?_⟩;have e2:∀j,2*F j+f j / 2^s % 2=f j / 2^s:=λj=>by rw[hF',← QtO]
    have erow:∀j,2*Qm m T F c j+f j / 2^s % 2=Qm m T (λj=>f j / 2^s) (λi=>2*c i) j:=λj=>by
     have:=Qqo (m:=m) (T:=T) (f:=F) (c:=c) (b:=λj=>f j / 2^s % 2) j;rw[← this];exact(Qb5 j (e2 j).symm λ_ _=>rfl).symm
    refine run_seq (Qy (r:=reT (Qb m (Qm m T (λj=>f j / 2^s) (λi=>2*c i)))) ?_ ?_)
    .have e:=QaZ (fi:=QaD (Qz (Qd 5) (dC (.int 0))) (Qd 1)) (t:= .tp [1,2]) (cap:=[none,none,none,some 7]) (fe:=Qx (Qac (dC (.int 2)) (Qd 1)) (dOp QN (dOp Qiq (Qd 2) (Qd 3)) (dC (.int 2)))) (ρ:=[slF (Qh m R L),slF (Qb m f),slT (QaH m m T),j3,j4,some (Qch m T F c,true),slI top,slI s])
      (List.range m) (Qfp rfl rfl rfl rfl) rfl λj hj=>
       ⟨[none,slI (Qm m T F c j),slI (f j),slI s],rfl,_,Q6 (Qb2 rfl rfl rfl rfl (QgH ∅)) rfl (Q1 (Qy0 rfl rfl rfl rfl) rfl rfl rfl ∅) rfl,rfl,rfl⟩
     refine e.trans ?_;congr 2;show D.lst _=D.lst _;congr 1;refine ZQ λj _=>?_;rw[erow]
    .rw[QaA];refine run_seq (Qy (r:=reT (Qb m (λi=>2*c i))) ?_ ?_)
     .exact QaZ (List.range m) (QdS rfl rfl) rfl λj hj=>⟨[none,slI (c j)],rfl,_,Qb2 rfl rfl rfl rfl (QgH ∅),rfl,rfl⟩
     .rw[QaA];obtain⟨d2,hd2,ed2⟩:=hc.leg.QAc (λj=>f j / 2^s % 2) (λj=>ZE _ ∅);have hleg:Leg m T (λj=>f j / 2^s) (λi=>2*c i):=(hd2.cast ed2).Qwb λj _=>e2 j;have hpos:∀j,j<m->0<=Qm m T (λj=>f j / 2^s) (λi=>2*c i) j:=λj hj=>by
       rw[← erow];have:=hc.pos j hj;have:=ZE (f j / 2^s) (by decide:(2:Int)≠0);omega
      obtain⟨k',h1,h2,h3,h4⟩:=hs m T _ _ hm tp hleg hpos;refine run_seq (Qy (QA rfl h1 rfl) (Qr ?_));rw[QaA];exact⟨k',_,_,_,⟨h2,h3,h4⟩,rfl⟩
   .rintro ρ ⟨c,j3,j4,j7,hc,rfl⟩;rw[ZJ,Nat.sub_self]at *;have e:∀j,j<m->f j / 2^0=f j:=λj _=>by rw[Int.pow_zero,Int.ediv_one]
    exact⟨c,_,_,_,QkG e hc,by rw[QjP e]⟩
  .rintro ρ ⟨c,j3,j4,j7,hc,rfl⟩;exact Q8 rfl ⟨c,rfl,rfl,hc⟩
 obtain⟨o,h1,h2⟩:=key;cases o with
 | rt d fr=>
  obtain⟨c,rfl,rfl,h3⟩:=h2;exact⟨c,by unfold Qu;rw[h1];rfl,h3⟩
 | _=>exact h2.elim
def QtA{x:Nat}{W:List (Int×Int×Bool)}{ρ:En}{b:Bool}(h:ρ[x]? =some (some (Qai W,b))):QoE (Qd x) (QcW (dC (.int 1))) ρ=some (reT (Qai W.reverse)):=by
 unfold QoE;rw[Qc3 h,Za];have e:(if(Qai W).flat=true then HS.R.mk (Qai W) true []else if b=true then HS.R.mk (Qai W) true [x]else HS.R.mk (Qai W) false []).d=Qai W:=by cases b<;>rfl
 rw[e];show some (QaR (W.map Qc4).reverse _)=_;rw[← List.map_reverse];unfold QaR;rw[if_pos (Qrc _)];rfl
def Qo7{m:Nat}{t kind:Int}:Esc m (QaV m t kind):=λA Z=>by
 obtain⟨p,hp,hA⟩:=Z;have ex:∃j:Nat,j<m/\A (((j:Int)+t) % m).toNat:=by
  have h1:=ZE ((p:Int)-t) (by omega:(m:Int)≠0);have h2:=ZH ((p:Int)-t) (by omega:(0:Int)<m);refine⟨(((p:Int)-t) % m).toNat,⋯,?_⟩;have e:(((((p:Int)-t) % m).toNat:Int)+t) % m=p:=by
   rw[Int.toNat_of_nonneg h1,Int.emod_add_emod,Int.sub_add_cancel];exact Zbu ⋯ ⋯
  rw[e,Zae];exact hA
 obtain⟨j,⟨hj,hAj⟩,hmin⟩:=Qj3 ex;have s1:=ZE ((j:Int)+t) (by omega:(m:Int)≠0);have s2:=ZH ((j:Int)+t) (by omega:(0:Int)<m);refine⟨Qen m t kind j,Zac.mpr ⟨j,ZR.mpr hj,rfl⟩,?_,hAj,?_⟩
 .exact s2
 .show Qfs m t j=m∨¬A (Qfs m t j).toNat
  unfold Qfs;split
  .rename_i h;have n1:=ZE (QbN t j) (by omega:(j:Int)+1≠0);right;intro z;refine hmin (QbN t j % ((j:Int)+1)).toNat ⋯ ⟨⋯,?_⟩;rw[Int.toNat_of_nonneg n1];exact z
  .exact .inl rfl
noncomputable def Qe5(QaT:Den):DS:=(Qe (Qbm (Qan vv1) (.nm 5) (Qe (Qn 6 (dOp QN (Qac vv5 QpO) QfH)) (Qe (Qn 7 (dOp QN vv6 (Qx vv2 kk1))) (Qe (Qn 8 (dOp QN (Qx (Qx vv7 kk1) (dOp QN (dOp QbU vv6 kk9) vv2)) (Qx vv2 kk1))) (Qe (Qn 9 (Qbs (Qa vv7 (Qa vv8 (Qa (QcZ (dOp gLt vv7 vv2) (dOr (dOp gEq vv3 kk2) (QcZ (dOp gEq vv3 kk3) (dOp gEq (dOp QN (dOp QbU vv6 QCf) kk3) kk1)))) Qc))))) (Qe (sIf (Qv (Qj 3 QaT [] (Qa vv2 (Qa (Qx vv0 (QH (Qa vv9 Qc))) (Qa vv4 Qc))))) (Qe (Qn 0 (Qx vv0 (QH (Qa vv9 Qc)))) Qi) Qi) Qi)))))) (Qe (QW vv0) Qi))
def Qtf{m:Nat}{kind c:Int}{s0 s1 s4 s5 s6 s7 s8:Option (D×Bool)}{g:DS}{Q:Out->Prop}(hm:0<m)
  (k:Run g [s0,s1,slI m,slI kind,s4,slI c,slI (QbT c),slI (mStart m c),slI (Qij m c),some (Qc4 (QdJ m kind c),true)] Q):
  Run (Qe (Qn 6 (dOp QN (Qac (Qd 5) (dC (.int 48271))) (dC (.int 2147483647)))) (Qe (Qn 7 (dOp QN (Qd 6) (Qx (Qd 2) (dC (.int 1))))) (Qe (Qn 8 (dOp QN (Qx (Qx (Qd 7) (dC (.int 1))) (dOp QN (dOp QbU (Qd 6) (dC (.int 9))) (Qd 2))) (Qx (Qd 2) (dC (.int 1))))) (Qe (Qn 9 (Qbs (Qa (Qd 7) (Qa (Qd 8) (Qa (QcZ (dOp gLt (Qd 7) (Qd 2)) (dOr (dOp gEq (Qd 3) (dC (.int 2))) (QcZ (dOp gEq (Qd 3) (dC (.int 3))) (dOp gEq (dOp QN (dOp QbU (Qd 6) (dC (.int 72))) (dC (.int 3))) (dC (.int 1)))))) Qc))))) g))))
   [s0,s1,slI m,slI kind,s4,slI c,s5,s6,s7,s8] Q:=by
 refine rsa (Q1 (b:=2147483647) (Qb2 (a:=c) (b:=48271) rfl rfl rfl rfl (Qdd ∅)) rfl rfl rfl ∅) ?_;refine rsa (Q1 (a:=QbT c) (b:=(m:Int)+1) rfl rfl (Q6 (a:=(m:Int)) (b:=1) rfl rfl rfl rfl) rfl ⋯) ?_;refine rsa (Q1 (a:=mStart m c+1+QbT c / 9 % m) (b:=(m:Int)+1) (Q6 (Q6 (a:=mStart m c) (b:=1) rfl rfl rfl rfl) rfl (Q1 (a:=QbT c / 9) (b:=m) (QeZ (a:=QbT c) (b:=9) rfl rfl rfl rfl ∅ ∅) rfl rfl rfl ⋯) rfl) rfl (Q6 (a:=(m:Int)) (b:=1) rfl rfl rfl rfl) rfl ⋯) ?_;refine run_seq (Qy (r:=⟨Qc4 (QdJ m kind c),true,[]⟩) ?_ ?_)
 .have e:=QoY (ρ:=[s0,s1,slI m,slI kind,s4,slI c,slI (QbT c),slI (mStart m c),slI (Qij m c),s8])
   (Qaj (g:=gLt) (fa:=Qd 7) (fb:=Qd 2) (ra:=reI (mStart m c)) (rb:=reI m) rfl rfl rfl)
   (QvV (QcV (a:=kind) (b:=2) (fa:=Qd 3) (fb:=dC (.int 2)) rfl rfl rfl rfl)
    (QoY (QcV (a:=kind) (b:=3) (fa:=Qd 3) (fb:=dC (.int 3)) rfl rfl rfl rfl) (QcV (a:=QbT c / 72 % 3) (b:=1) (fb:=dC (.int 1)) (Q1 (a:=QbT c / 72) (b:=3) (fb:=dC (.int 3)) (QeZ (a:=QbT c) (b:=72) (fa:=Qd 6) (fb:=dC (.int 72)) rfl rfl rfl rfl ∅ ∅) rfl rfl rfl ∅) rfl rfl rfl)))
  have t:Qbs (Qa (Qd 7) (Qa (Qd 8) (Qa (QcZ (dOp gLt (Qd 7) (Qd 2)) (dOr (dOp gEq (Qd 3) (dC (.int 2))) (QcZ (dOp gEq (Qd 3) (dC (.int 3))) (dOp gEq (dOp QN (dOp QbU (Qd 6) (dC (.int 72))) (dC (.int 3))) (dC (.int 1)))))) Qc))) [s0,s1,slI m,slI kind,s4,slI c,slI (QbT c),slI (mStart m c),slI (Qij m c),s8]=some ⟨Qc4 (QdJ m kind c),true,[]⟩:=by
   unfold Qbs;rw[Qp (r:=reI (mStart m c)) rfl (Qp (r:=reI (Qij m c)) rfl (Qp e (Q0 _)))];rfl
  exact t
 .rw[QaA];exact k
noncomputable def QjK:DS:=(Qe (sIf (bOr (QbO (Qv (Qev "list" vv0))) (Qv (dOp gNe (dBf QaQ (Qa vv0 Qc)) (dBf QaQ (Qa vv1 Qc))))) (Qe (QW (dC (.bl false))) Qi) Qi) (Qe (Qbm (QaD vv0 vv1) (.tp [2,3]) (Qe (sIf (bOr (QbO (Qv (Qev "int" vv2))) (bOr (Qv (Qev "bool" vv2)) (Qv (dOp gNe vv2 vv3)))) (Qe (QW (dC (.bl false))) Qi) Qi) Qi)) (Qe (QW (dC (.bl true))) Qi)))
def QAN:QoH (Qu 4 QjK):=λns=>by
 refine QaN ?_;refine Qw (QX (b:=false) (QeQ (a:=false) (b:=false) (QbY (b:=true) (QC (b:=true) rfl rfl)) (QC (b:=false) (r:=reT (.bl false)) ?_ rfl)) (λh=>by cases h) (λ_=>Qr ?_))
 .rw[QgR (Qeg (xs:=ns.map D.int) rfl rfl) rfl (Qeg (xs:=ns.map D.int) rfl rfl) rfl];simp
 refine Qw (QbM (toD:=λn=> .tup [.int n,.int n]) ns (λ_ ρ=>∃j2 j3,ρ=[slF (.lst (ns.map .int)),slF (.lst (ns.map .int)),j2,j3]) (ir:=⟨QfN (ns.map D.int) (ns.map D.int),[]⟩) rfl (Quk ns) ⟨none,none,rfl⟩ ?_ ?_)
 .rintro i n ρ _ ⟨j2,j3,rfl⟩;refine⟨_,rfl,?_⟩;refine Qw (QX (b:=false) (QeQ (a:=false) (b:=false) (QbY (b:=true) (QC (b:=true) rfl rfl)) (QeQ (a:=false) (b:=false) (QC (b:=false) rfl rfl) (QC (b:=false) (r:=reT (.bl false)) ?_ rfl))) (λh=>by cases h) (λ_=>Qr (Qr ⟨_,_,rfl⟩)));rw[QgR (a:=n) (b:=n) rfl rfl rfl rfl];simp
 .rintro ρ ⟨j2,j3,rfl⟩;exact Q8 rfl ⟨rfl,rfl⟩
def Qxi{m:Nat}(h:fa ρ=some r)(e:r.d=Qb m f):dBf QaQ (Qa fa Qc) ρ=some (reI m):=by
 rw[Qeg h e];simp
def Qdu(h:fs ρ=some rs)(hl:rs.ds.length<=64):QH fs ρ=some ⟨.lst rs.ds,rs.fr,rs.M⟩:=by
 unfold QH;rw[h,Za,if_pos hl]
noncomputable def Qq(l:List Nat):D:= .lst (l.map λ(p:Nat)=> .int (p:Int))
def Qjn:∀{l:List Nat},l.Nodup->(∀o∈l,o<m)->(l.map g).sum=Qo m λo=>if o∈l then g o else 0
 | [],_,_=>by
  rw[Q2 (g:=λ_=>0) λi _=>by rw[if_neg ⋯],QT];rfl
 | a::l,nd,h=>by
  have nd':=ZV.mp nd;rw[ZA,Zag,Qjn nd'.2 λo ho=>h o (by simp[ho])];have e:=Qaq (m:=m) (p:=a) (h a ⋯) 1 g;rw[show g a=1*g a by rw[ZaM],← e,← Qas];refine Q2 λo _=>?_;by_cases ho:o=a
  .subst ho;rw[if_pos rfl,if_neg nd'.1,if_pos ⋯];omega
  .rw[if_neg ho];by_cases hl:o∈l
   .rw[if_pos hl,if_pos (by simp[hl])];omega
   .rw[if_neg hl,if_neg (by simp[ho,hl])];omega
def Qp6{m:Nat}{g:Mt1}{l k:List Nat}(hl:l.Nodup)(hk:k.Nodup)(sub:∀o∈l,o∈k)(hm:∀o∈k,o<m)(pos:∀o∈k,0<=g o):(l.map g).sum<=(k.map g).sum:=by
 rw[Qjn hl λo ho=>hm o (sub o ho),Qjn hk hm];refine Qbd λo _=>?_;by_cases h:o∈l
 .rw[if_pos h,if_pos (sub o h)];exact Zal _
 .rw[if_neg h];by_cases h2:o∈k
  .rw[if_pos h2];exact pos o h2
  .rw[if_neg h2];exact Zal _
def QtN{m:Nat}{R:Lpp}(hR:∀s∈R,Good m s){i j:Nat}(hi:i<m)(hj:j<m)(hij:i≠j):Qt m (Ql R []) i j=Qt m (Ql R []) j i:=by
 have gS:=QbG (L:=[]) hR (λs hs=>absurd hs ⋯);have hn:∀s∈Ql R [],0<=s.1/\0<=s.2:=λs hs=>⟨(gS s hs).1,(gS s hs).2.1⟩;rw[Qcb hi hj hn,Qcb hj hi hn];unfold Ql;rw[Zs,ZP,ZP,Zbl,Zbl,Zah,Zah];have e:∀i j:Nat,i≠j->∀s:Int×Int,(hit i j ∘ Prod.swap) s=hit j i s:=λi j h s=>by
  unfold hit;simp only[Function.comp,Prod.fst_swap,Prod.snd_swap];rw[if_neg (λz=>h z.2) (c:=s.2=i/\i=j),if_neg (λz=>h z.2.symm) (c:=s.1=j/\j=i)];congr 1;by_cases a:s.2=i
  .by_cases b:s.1=j
   .rw[if_pos ⟨a,b⟩,if_pos ⟨b,a⟩]
   .rw[if_neg (λz=>b z.2),if_neg (λz=>b z.1)]
  .rw[if_neg (λz=>a z.1),if_neg (λz=>a z.2)]
 rw[ZQ λs _=>e i j hij s,ZQ λs _=>e j i (λz=>hij z.symm) s];omega
noncomputable def QdB(T:Mt2)(p:Nat)(l:List Nat):Int:=((l.filter λo=>decide (o≠p)).map (T p)).sum
noncomputable def QaB(T:Mt2)(a:Mt1)(l:List Nat):List Nat:=l.filter λp=>decide (QdB T p l<=a p)
noncomputable def QeO(T:Mt2)(a:Mt1)(l:List Nat):List Nat:=l.filter λp=> !(QaB T a l).contains p
def Quc(tp:TP m T)(sym:∀i j,i<m->j<m->i≠j->T i j=T j i)(h:Told m T f c)(nd:l.Nodup)(ne:l≠[])(hl:∀p∈l,p<m/\0<c p):QaB T (Qm m T f c) l≠[]:=λz=>by
 have hno:∀p∈l,Qm m T f c p<QdB T p l:=λp hp=>by
  have:¬p∈QaB T (Qm m T f c) l:=by rw[z];simp
  unfold QaB at this;rw[ZC]at this;by_cases h2:QdB T p l<=Qm m T f c p
  .exact absurd ⟨hp,by rw[decide_eq_true h2]⟩ this
  .omega
 have key:=h.leg.least tp (c':=λi=>c i-(if i∈l then 1 else 0)) (λi hi=>by
  have:=h.leg.nonneg i;show 0<=c i-(if i∈l then 1 else 0);split
  .have:=(hl i ‹_›).2;omega
  .omega) (λj hj=>by
  have e:Qm m T f (λi=>c i-(if i∈l then 1 else 0)) j=Qm m T f c j-Qo m λi=>if i∈l then T i j else 0:=by
   unfold Qm;have e1:(λi=>(c i-(if i∈l then 1 else 0))*T i j)=λi=>c i*T i j+ -(if i∈l then T i j else 0):=by
    funext i;rw[Int.sub_mul];split<;>omega
   rw[e1,Qas,Qoo];omega
  rw[e];have hs:=h.stb j hj;by_cases hjl:j∈l
  .have hn:=hno j hjl;have e2:(Qo m λi=>if i∈l then T i j else 0)=QdB T j l+T j j:=by
    unfold QdB;rw[Qjn (m:=m) (nd.filter _) λo ho=>(hl o (ZC.mp ho).1).1];have e3:=Qaq (m:=m) (p:=j) hj 1 (λi=>T j i);rw[show T j j=1*T j j by rw[ZaM],← e3,← Qas];refine Q2 λi hi=>?_;by_cases hij:i=j
    .subst hij;rw[if_pos hjl,if_pos rfl,if_neg ⋯];omega
    .rw[if_neg hij];by_cases hil:i∈l
     .rw[if_pos hil,if_pos (ZC.mpr ⟨hil,by simpa using hij⟩),sym i j hi hj hij];omega
     .rw[if_neg hil,if_neg (λz=>hil (ZC.mp z).1)];omega
   rw[e2];omega
  .have:0<=Qo m λi=>if i∈l then T i j else 0:=by
    have:=Qbd (m:=m) (f:=λ_=>0) (g:=λi=>if i∈l then T i j else 0) λi hi=>by
     show(0:Int)<=if i∈l then T i j else 0;split
     .refine tp.pos i j hi hj λe=>?_;subst e;exact hjl ‹_›
     .exact Zal _
    rw[QT]at this;exact this
   omega)
 cases l with
 | nil=>exact ne rfl
 | cons p l=>
  have:=key p (hl p ⋯).1;have:c p<=c p-(if p∈p::l then 1 else 0):=this;rw[if_pos ⋯]at this;omega
def QgP(T:Mt2)(a:Mt1)(P l:List Nat):Prop:=∀k p,P[k]? =some p->((P.drop (k+1)++l).map (T p)).sum<=a p
def QqD{m:Nat}{T:Mt2}(tp:TP m T){a:Mt1}{P l:List Nat}(nd:(P++l).Nodup)(hm:∀p∈P++l,p<m)(h:QgP T a P l):QgP T a (P++QaB T a l) (QeO T a l):=λk p hk=>by
 have ndl:l.Nodup:=(ZF.mp nd).2.1;have hP:∀p∈P,p∉l:=λp hp hl=>(ZF.mp nd).2.2 p hp p hl rfl;have ndr:(QaB T a l).Nodup:=ndl.filter _;have ndn:(QeO T a l).Nodup:=ndl.filter _;have dis:∀o∈QaB T a l,o∉QeO T a l:=λo ho hn=>by
  have:=(ZC.mp hn).2;simp at this;exact this ho
 by_cases hkP:k<P.length
 .rw[Zan hkP]at hk;have h1:=h k p hk;rw[List.drop_append_of_le_length ⋯,Zau];refine Zbp ?_ h1;have hpm:=hm p (Ze _ (Zak hk));have hpl:=hP p (Zak hk);have:((QaB T a l++QeO T a l).map (T p)).sum<=(l.map (T p)).sum:=by
   refine Qp6 (m:=m) (ZF.mpr ⟨ndr,ndn,λx hx y hy e=>by subst e;exact dis x hx hy⟩) ndl (λo ho=>?_) (λo ho=>hm o (Zd _ ho)) (λo ho=>tp.pos p o hpm (hm o (Zd _ ho)) λe=>by subst e;exact hpl ho);rcases Zr.mp ho with h | h
   .exact(ZC.mp h).1
   .exact(ZC.mp h).1
  simp only[ZP,Zbl]at this ⊢;omega
 .rw[Zat ⋯]at hk;have hpr:=Zak hk;obtain⟨hpl,hle⟩:=ZC.mp hpr;have hle:=of_decide_eq_true hle;have hpm:=hm p (Zd _ hpl);refine Zbp ?_ hle;unfold QdB;have edrop:(P++QaB T a l).drop (k+1)=(QaB T a l).drop (k-P.length+1):=by
   rw[List.drop_append,List.drop_eq_nil_of_le ⋯,ZaY];congr 1;omega
  rw[edrop];have hpd:p∉(QaB T a l).drop (k-P.length+1):=λz=>by
   obtain⟨j,hj⟩:=List.getElem?_of_mem z;rw[List.getElem?_drop]at hj;have i1:=(Zg.mp hk).1;have:=(List.getElem?_inj i1 ndr).mp (hk.trans hj.symm);omega
  refine Qp6 (m:=m) (ZF.mpr ⟨ndr.sublist (List.drop_sublist _ _),ndn,λx hx y hy e=>by subst e;exact dis x (List.mem_of_mem_drop hx) hy⟩) (ndl.filter _) (λo ho=>?_) (λo ho=>hm o (Zd _ (ZC.mp ho).1)) (λo ho=>tp.pos p o hpm (hm o (Zd _ (ZC.mp ho).1)) λe=>by
   have:=(ZC.mp ho).2;simp at this;exact this e.symm)
  refine ZC.mpr ⟨?_,?_⟩
  .rcases Zr.mp ho with h | h
   .exact(ZC.mp (List.mem_of_mem_drop h)).1
   .exact(ZC.mp h).1
  .rcases Zr.mp ho with h | h
   .simp;intro e;subst e;exact hpd h
   .simp;intro e;subst e;exact dis o hpr h
def QsV(l:List Nat):(QaB T a l++QeO T a l).Perm l:=by
 have e:QeO T a l=l.filter λp=> !decide (QdB T p l<=a p):=by
  unfold QeO;refine List.filter_congr λp hp=>?_;congr 1;by_cases h:QdB T p l<=a p
  .rw[decide_eq_true h];simp;exact ZC.mpr ⟨hp,decide_eq_true h⟩
  .rw[decide_eq_false h];simp;intro z;exact h (of_decide_eq_true (ZC.mp z).2)
 rw[e];exact List.filter_append_perm _ l
def Qya{fa fb:DE}{ρ:En}{ra rb:R}{m n:Nat}{f:Mt2}{i:Int}(ha:fa ρ=some ra)(ea:ra.d=QaH m n f)(hb:fb ρ=some rb)(eb:rb.d= .int i)(h0:0<=i)(h:i<m):Qz fa fb ρ=some ⟨Qb n (f i.toNat),ra.fr,ra.M⟩:=by
 unfold Qz;rw[ha,Za,hb,Za,ea,eb];simp only[QaH,D.items,Za,Qql h0 h,ZN];rfl
noncomputable def Qlg:DS:=(Qe (QW (dOp gEq (dBf QaQ (Qa (Qz vv0 kk2) Qc)) kk0)) Qi)
def Qjr(d:Den):Prop:=∀(m:Int) (R L:Lpp),d [Qh m R L]=some (.bl (decide ((L.length:Int)=0)),true)
def QuA:Qjr (Qu 1 Qlg):=λm R L=>by
 refine QaN ?_;refine Q8 (QcV (Qeg (Qjk (r:=reF (Qh m R L)) rfl rfl).2.2 rfl) rfl rfl rfl) ⟨?_,rfl⟩;simp
def QhC(l:List Nat):Qak (l.map λ(p:Nat)=>D.int (p:Int))=true:=QbI (λ_=>rfl) l
def Qs6(l:List Nat):Qq l= .lst ((l.map λ(p:Nat)=>(p:Int)).map D.int):=by unfold Qq;rw[Zah];rfl
def QpY{fa:DE}{ρ:En}{r:R}{ns:List Int}(h:fa ρ=some r)(e:r.d= .lst (ns.map D.int)):dBf Qcj (Qa fa Qc) ρ=some (reI ns.sum):=by
 unfold dBf;rw[Qp h (Q0 _),Za];simp only[e,Qcj,QfI,ZN]
noncomputable def QhO:DS:=(Qe (QW (dBf Qcj (Qa (QR (Qan vv2) (.nm 1) [none,none,some 1,some 0] (Qv (dOp gNe vv1 vv2)) (Qz vv3 vv1)) Qc))) Qi)
def Qml(d:Den):Prop:=∀(m:Nat) (t:Mt1) (p:Nat) (l:List Nat),(∀o∈l,o<m)->d [Qb m t,.int p,Qq l]=some (.int (((l.filter λo=>decide (o≠p)).map t).sum),true)
def QtE:Qml (Qu 3 QhO):=λm t p l hl=>by
 refine QaN ?_
 have e:=QdP (fi:=Qan (Qd 2)) (t:= .nm 1) (cap:=[none,none,some 1,some 0]) (ft:=Qv (dOp gNe (Qd 1) (Qd 2))) (fe:=Qz (Qd 3) (Qd 1)) (ρ:=[slF (Qb m t),slI p,slF (Qq l)])
  (toD:=λ(o:Nat)=> .int (o:Int)) (keep:=λo=>decide (o≠p)) (out:=λ(o:Nat)=> .int (t o)) l (QdS (r:=reF (Qq l)) rfl rfl) rfl λo ho=>by
   refine⟨[none,slI o,slI p,slF (Qb m t)],rfl,?_,λ_=>⟨_,Qfw (m:=m) (f:=t) (i:=o) (ra:=reF (Qb m t)) rfl rfl rfl rfl (hl o ho),rfl,rfl⟩⟩;refine(QC (QgR (a:=o) (b:=p) rfl rfl rfl rfl) rfl).trans ?_;congr 1;by_cases h:o=p
   .subst h;simp
   .simp[h];omega
 refine Q8 (QpY (ns:=(l.filter λo=>decide (o≠p)).map t) e ?_) ⟨rfl,rfl⟩;show D.lst _=D.lst _;rw[Zah];rfl
noncomputable def Qc1(Qbi:Den):DS:=(Qe (sIf (QbO (Qv (Qj 1 Qbi [] (Qa vv0 Qc)))) (Qe QD Qi) Qi) Qi)
def Qi6(d:Den):Prop:=∀(m:Nat) (R:Lpp),d [Qh m R []]=some (.non,true)
def Qvt(hp:Qjr dp):Qi6 (Qu 1 (Qc1 dp)):=λm R=>by
 have key:Run (Qc1 dp) (Qab 1 [Qh m R []]) (Nx λ_=>True):=by
  refine run_seq (QX (b:=false) (QbY (b:=true) (QC (b:=true) (QA (r:=⟨[Qh m R []],false,[]⟩) rfl (hp m R []) rfl) rfl)) (λh=>by cases h) (λ_=>Qr (Qr trivial)))
 obtain⟨o,h1,h2⟩:=key;unfold Qu;rw[h1];cases o with
 | nx ρ=>rfl
 | _=>exact h2.elim
noncomputable def QcD(QaG:Den)(QaE:Den)(QK:Den)(QaI:Den):DS:=(Qe (Qbj (Qj 1 QaG [] (Qa vv0 Qc))) (Qe (Qn 2 (Qj 2 QaE [] (Qa vv0 (Qa vv1 Qc)))) (Qe (Qn 3 (Qj 1 QK [] (Qa vv0 Qc))) (Qe (Qn 4 (QR (Qc0 (Qz vv2 kk1)) (.tp [1,2]) [none,none,none] (Qv (dOp gGt vv2 kk0)) vv1)) (Qe (Qn 5 (QH Qc)) (Qe (Qbq (Qv vv4) (Qe (Qn 6 (QR (Qan vv4) (.nm 1) [none,none,some 4,some 2,some 3] (Qv (dOp gGe (Qz (Qz vv3 kk0) vv1) (Qj 3 QaI [] (Qa (Qz vv4 vv1) (Qa vv1 (Qa vv2 Qc)))))) vv1)) (Qe (QjU 5 QaP vv6) (Qe (Qn 4 (QR (Qan vv4) (.nm 1) [none,none,some 6] (Qv (dOp (gIn true) vv1 vv2)) vv1)) Qi)))) (Qe (QW vv5) Qi)))))))
def Qid(m:Nat)(c:Mt1):List Nat:=(List.range m).filter λp=>decide (0<c p)
def QlR(dst d:Den):Prop:=∀(m:Nat) (R:Lpp) (f c:Mt1),0<m->m<=1000->Qbc m R []->dst [Qh m R [],Qb m f]=some (Qch m (Qt m (Ql R [])) f c,true)->Told m (Qt m (Ql R [])) f c->∃P:List Nat,d [Qh m R [],Qb m f]=some (Qq P,true)/\P.Perm (Qid m c)/\QgP (Qt m (Ql R [])) (Qm m (Qt m (Ql R [])) f c) P []
def Qxp{o:Nat}{l:List Nat}:(l.map λ(p:Nat)=>D.int (p:Int)).any (λy=>deq y (.int o))=l.contains o:=by
 induction l with
 | nil=>rfl
 | cons a l ih=>
  rw[ZA,List.any_cons,ih,Qlo,List.contains_cons];congr 1;by_cases h:a=o
  .subst h;simp
  .rw[decide_eq_false ⋯];exact(beq_eq_false_iff_ne.mpr (λz=>h z.symm)).symm
def QtS(n:Nat)(l:List Nat):(Qq l).sim (n+1)=true:=by
 unfold Qq;simp only[D.sim,List.all_map,Zam];intro p _;cases n<;>rfl
def Qtq{o:Nat}(ha:fa ρ=some ra)(ea:ra.d= .int o)(hb:fb ρ=some rb)(eb:rb.d=Qq l):dOp (gIn neg) fa fb ρ=some (reT (.bl (if neg then !l.contains o else l.contains o))):=by
 refine Qaj ha hb ?_;rw[ea,eb];have:(D.int (o:Int)).sim 8=true:=rfl;show(if(D.int (o:Int)).sim 8 && (Qq l).sim 8 then some (D.bl (if neg then !((l.map λ(p:Nat)=>D.int (p:Int)).any λy=>deq y (.int o))else(l.map λ(p:Nat)=>D.int (p:Int)).any λy=>deq y (.int o)))else none)=_;rw[this,QtS 7 l,Qxp];rfl
def QuH(hx:ρ[x]? =some (slT (Qq P)))(ha:fa ρ=some r)(e:r.d=Qq l)(hl:P.length+l.length<=16777216)(q:Q (.nx (ρ.set x (slT (Qq (P++l)))))):Run (QjU x QaP fa) ρ Q:=by
 refine⟨_,?_,q⟩;unfold QjU;rw[hx];simp only[QaP,Za,ha,Qcg,e,Qq,QbB,Zp,QfT,QhC];rw[if_pos (by simpa using hl)];simp
def Quu(hp:Qi6 dp)(ht:Qfq dt)(ha:Qml da):QlR dst (Qu 7 (QcD dp dst dt da)):=λm R f c m0 hm hw es hs=>by
 have hg:=hw.good;have tp:=hw.tp;have htoll:=ht m R [] hm (by simp;omega) hg.1 hg.2.1;have sym:∀i j,i<m->j<m->i≠j->Qt m (Ql R []) i j=Qt m (Ql R []) j i:=λi j hi hj hij=>QtN hg.1 hi hj hij;generalize Qt m (Ql R [])=T at *;generalize ea:Qm m T f c=a;have key:Run (QcD dp dst dt da) (Qab 7 [Qh m R [],Qb m f]) (Rt λd fr=>∃P:List Nat,d=Qq P/\fr=true/\P.Perm (Qid m c)/\QgP T a P []):=by
  refine run_seq (Qcc (QA (r:=⟨[Qh m R []],false,[]⟩) rfl (hp m R) rfl) ?_);refine rsa (QA (r:=⟨[Qh m R [],Qb m f],false,[]⟩) rfl es rfl) ?_;refine rsa (QA (r:=⟨[Qh m R []],false,[]⟩) rfl htoll rfl) ?_;refine run_seq (Qy (r:=reT (Qq (Qid m c))) ?_ ?_)
  .exact QdP (fi:=Qc0 (Qz (Qd 2) (dC (.int 1)))) (t:= .tp [1,2]) (cap:=[none,none,none]) (ft:=Qv (dOp gGt (Qd 2) (dC (.int 0)))) (fe:=Qd 1) (ρ:=[slF (Qh m R []),slF (Qb m f),some (Qch m T f c,true),slT (QaH m m T),none,none,none])
    (toD:=λ(p:Nat)=> .tup [.int p,.int (c p)]) (keep:=λp=>decide (0<c p)) (out:=λ(p:Nat)=> .int (p:Int)) (List.range m) (ir:=⟨QdC ((List.range m).map λi=>D.int (c i)),[2]⟩) rfl (Qhf (α:=Nat) m _) λp hp=>⟨[none,slI p,slI (c p)],rfl,QC (Qaj (d:= .bl (decide (0<c p))) (ra:=reI (c p)) (rb:=reI 0) rfl rfl rfl) rfl,λ_=>⟨_,rfl,rfl,rfl⟩⟩
  rw[QaA];refine rsa (d:=Qq []) rfl ?_;have ndt:(Qid m c).Nodup:=List.nodup_range.filter _;have htop:∀p∈Qid m c,p<m/\0<c p:=λp hp=>⟨ZR.mp (ZC.mp hp).1,of_decide_eq_true (ZC.mp hp).2⟩;refine Qw (Run.mono (Q:=Nx λρ=>∃(P:List Nat) (j4 j6:Option (D×Bool)),P.Perm (Qid m c)/\QgP T a P []/\ρ=[slF (Qh m R []),slF (Qb m f),some (Qch m T f c,true),slT (QaH m m T),j4,slT (Qq P),j6]) ?_ ?_)
  .refine QiT (λn ρ=>∃(P l:List Nat) (j6:Option (D×Bool)),n=l.length/\(P++l).Perm (Qid m c)/\QgP T a P l/\ρ=[slF (Qh m R []),slF (Qb m f),some (Qch m T f c,true),slT (QaH m m T),slT (Qq l),slT (Qq P),j6]) ?_ _ _ ⟨[],Qid m c,none,rfl,.refl _,λk p h=>by simp at h,rfl⟩;rintro n ρ ⟨P,l,j6,rfl,hperm,hP,rfl⟩;have nd:(P++l).Nodup:=hperm.nodup_iff.mpr ndt;have hmem:∀p∈P++l,p<m/\0<c p:=λp hp=>htop p (hperm.mem_iff.mp hp);have hlen:(P++l).length<=1000:=by
    rw[hperm.length_eq];have:=ZaS (λp=>decide (0<c p)) (List.range m);rw[ZJ]at this;exact ZL this hm
   refine⟨!l.isEmpty,?_,λh=>?_,λh=>?_⟩
   .refine(show Qv (Qd 4) _=(Qq l).tru from ?_).trans ?_
    .rfl
    .show some (!(l.map _).isEmpty)=_;cases l<;>rfl
   .have:l=[]:=by cases l with
     | nil=>rfl
     | cons a l=>cases h
    subst this;rw[Zs]at hperm;exact⟨P,_,_,hperm,hP,rfl⟩
   .have ne:l≠[]:=λz=>by subst z;cases h
    have ndl:l.Nodup:=(ZF.mp nd).2.1;have hl:∀p∈l,p<m/\0<c p:=λp hp=>hmem p (Zd _ hp);have rne:=Quc tp sym hs ndl ne hl;rw[ea]at rne;refine run_seq (Qy (r:=reT (Qq (QaB T a l))) ?_ ?_)
    .refine QdP (fi:=Qan (Qd 4)) (t:= .nm 1) (cap:=[none,none,some 4,some 2,some 3]) (ft:=Qv (dOp gGe (Qz (Qz (Qd 3) (dC (.int 0))) (Qd 1)) (Qj 3 da [] (Qa (Qz (Qd 4) (Qd 1)) (Qa (Qd 1) (Qa (Qd 2) Qc)))))) (fe:=Qd 1) (ρ:=[slF (Qh m R []),slF (Qb m f),some (Qch m T f c,true),slT (QaH m m T),slT (Qq l),slT (Qq P),j6])
      (toD:=λ(p:Nat)=> .int (p:Int)) (keep:=λp=>decide (QdB T p l<=a p)) (out:=λ(p:Nat)=> .int (p:Int)) l (QdS (r:=⟨Qq l,true,[4]⟩) rfl rfl) rfl λp hp=>⟨[none,slI p,slF (Qq l),some (Qch m T f c,false),slF (QaH m m T)],rfl,?_,λ_=>⟨_,rfl,rfl,rfl⟩⟩
     have hpm:=(hl p hp).1;refine QC (Qaj (d:= .bl (decide (QdB T p l<=a p))) (Qfw (m:=m) (f:=Qm m T f c) (i:=p) (ra:=reF (Qb m (Qm m T f c))) rfl rfl rfl rfl hpm) (QA (Qp (Qya (m:=m) (n:=m) (f:=T) (i:=p) (ra:=reF (QaH m m T)) rfl rfl rfl rfl ⋯ ⋯) (rs:=⟨[.int p,Qq l],false,[]⟩) rfl) (ha m (T (p:Int).toNat) p l λo ho=>(hl o ho).1) rfl) ?_) rfl;show some (D.bl (decide (((l.filter λo=>decide (o≠p)).map (T (p:Int).toNat)).sum<=Qm m T f c p)))=_;rw[ea,Zae];rfl
    rw[QaA];have hlr:(QaB T a l).length<=l.length:=ZaS _ _;rw[Zo]at hlen;refine run_seq (QuH (P:=P) (l:=QaB T a l) (r:=⟨Qq (QaB T a l),true,[6]⟩) rfl rfl rfl ⋯ ?_);refine run_seq (Qy (r:=reT (Qq (QeO T a l))) ?_ (Qr ?_))
    .refine QdP (fi:=Qan (Qd 4)) (t:= .nm 1) (cap:=[none,none,some 6]) (ft:=Qv (dOp (gIn true) (Qd 1) (Qd 2))) (fe:=Qd 1)
      (toD:=λ(p:Nat)=> .int (p:Int)) (keep:=λp=> !(QaB T a l).contains p) (out:=λ(p:Nat)=> .int (p:Int)) l (QdS (r:=⟨Qq l,true,[4]⟩) rfl rfl) rfl λp hp=>⟨[none,slI p,slF (Qq (QaB T a l))],rfl,QC (Qtq (neg:=true) (o:=p) (l:=QaB T a l) rfl rfl (rb:=reF (Qq (QaB T a l))) rfl rfl) rfl,λ_=>⟨_,rfl,rfl,rfl⟩⟩
    rw[QaA];have hpn:=QsV (T:=T) (a:=a) l;refine⟨(QeO T a l).length,?_,P++QaB T a l,QeO T a l,_,rfl,?_,QqD tp nd (λp hp=>(hmem p hp).1) hP,rfl⟩
    .have:=hpn.length_eq;rw[Zo]at this;have:0<(QaB T a l).length:=ZaB.mpr rne;omega
    .rw[Zau];exact(hpn.append_left P).trans hperm
  .intro o ho;cases o with
   | nx ρ=>
    obtain⟨P,j4,j6,h1,h2,rfl⟩:=ho;exact Q8 (r:=⟨Qq P,true,[5]⟩) rfl ⟨P,rfl,rfl,h1,h2⟩
   | _=>exact ho.elim
 obtain⟨o,h1,h2⟩:=key;cases o with
 | rt d fr=>
  obtain⟨P,rfl,rfl,h3,h4⟩:=h2;exact⟨P,by unfold Qu;rw[h1];rfl,h3,h4⟩
 | _=>exact h2.elim
noncomputable def Qra:Option Int->D
 | none=> .non
 | some i=> .int i
@[simp] theorem Qux(o:Option Int):(Qra o).flat=true:=by cases o<;>rfl
noncomputable def QB7(m:Nat)(F:Nat->Option Int):D:= .lst ((List.range m).map λi=>Qra (F i))
@[simp] theorem QCe(m:Nat)(F:Nat->Option Int):(QB7 m F).flat=false:=rfl
@[simp] theorem QBk(m:Nat)(F:Nat->Option Int):Qak ((List.range m).map λi=>Qra (F i))=true:=QbI (f:=λi=>Qra (F i)) (λ_=>Qux _) _
def Qww{fa fb:DE}{ρ:En}{ra rb:R}{l:List Nat}{i:Int}{v:Nat}(ha:fa ρ=some ra)(ea:ra.d=Qq l)(hb:fb ρ=some rb)(eb:rb.d= .int i)(h0:0<=i)(h:l[i.toNat]? =some v):Qz fa fb ρ=some (reI v):=by
 refine Qls (ns:=l.map λ(p:Nat)=>(p:Int)) ha (by rw[ea,Qs6]) hb eb h0 ?_;rw[Zy,h];rfl
def Qjj{fa:DE}{ρ:En}{r:R}{l:List Nat}(h:fa ρ=some r)(e:r.d=Qq l):dBf QaQ (Qa fa Qc) ρ=some (reI l.length):=by
 rw[Qeg h e,Zp]
noncomputable abbrev wCl:ClT:=[("Way",[]),("Together",[]),("Picked",["picks","used"])]
inductive Wk where
 | plain | both | pick (ps:List Int)
noncomputable def wkD(k:Wk)(u:Nat):D:=match k with
 | .plain=> .obj (.ins "Way" []) []
 | .both=> .obj (.ins "Together" []) []
 | .pick ps=> .obj (.ins "Picked" ["picks","used"]) [QbS ps,.int u]
noncomputable def Q7(a:Addr)(d:D):D:= .obj (.pin a) [d]
noncomputable def QO(m:Nat)(s f:Mt1):List Nat:=(List.range m).filter λp=>decide (s p<=f p)
noncomputable def sel(k:Wk)(u:Nat)(l:List Nat):List Nat:=match k with
 | .plain=>l.take 1
 | .both=>l
 | .pick ps=>if l=[]then []else [l.getD (ps.getD u 0 % (l.length:Int)).toNat 0]
noncomputable def nxt(u:Nat)(l:List Nat):Nat:=if l=[]then u else u+1
noncomputable def Qaa(t:List Nat):Nat->Int:=λp=>if p∈t then 1 else 0
noncomputable def QL(ts:List (List Nat)):Nat->Int:=λp=>(ts.map λt=>Qaa t p).sum
noncomputable def Qae(ts:List (List Nat)):D:= .lst (ts.map Qq)
def Qrd:Wk->Prop
 | .pick ps=>ps.length<=1000
 | _=>True
def IoE(p:Nat)(a:Addr)(d dp:D):Out->Prop
 | .rt d' fr=>d'= .obj .pair [d,Q7 a dp]/\fr=true
 | .nx ρ=>d= .non/\ρ[p]? =some (some (Q7 a dp,true))
 | _=>False
def QgF{k p:Nat}{g:DS}{ds:List D}{d dp:D}(h:∀a,Run g (QaF k p a ds) (IoE p a d dp)):QfM k p g ds=some (d,dp):=Qwe λa=>by
 obtain⟨o,h1,h2⟩:=h a;refine⟨o,h1,?_⟩;cases o with
 | rt d' fr=>
  obtain⟨rfl,rfl⟩:=h2;show(if a=a then some (d,dp)else none)=_;rw[if_pos rfl]
 | nx ρ=>
  obtain⟨rfl,e⟩:=h2;show(match ρ[p]? with | some (some (.obj (.pin b) [dp],true))=>if b=a then some (D.non,dp)else none | _=>none)=_;rw[e];show(if a=a then some (D.non,dp)else none)=_;rw[if_pos rfl]
 | _=>exact False.elim h2
def QfL{fa:DE}{ρ:En}{r:HS.R}{p:Nat}{dp:D}{Q:Out->Prop}(h:fa ρ=some r)(hp:ρ[p]? =some (some (dp,true)))(c:(r.norm.fr && decide r.norm.M.Nodup && !r.norm.M.contains p && !r.d.Qq9)=true)(q:Q (.rt (.obj .pair [r.d,dp]) true)):Run (QeG p fa) ρ Q:=by
 refine⟨_,?_,q⟩;unfold QeG;rw[h,Za,hp];show(if _ then _ else _)=_;rw[if_pos c]
def Qog{T:ClT}{i:Nat}{f:Str}{fa:DE}{ρ:En}{d d' y:D}{Q:Out->Prop}(h:fa ρ=some ⟨y,true,[]⟩)(hp:ρ[i]? =some (some (d,true)))(e:QiA (putD T f y) d=some d')(q:Q (.nx (ρ.set i (some (d',true))))):Run (QiY T i f fa) ρ Q:=by
 refine⟨_,?_,q⟩;unfold QiY;rw[h,Za,hp,QtT];show(if _ then _ else _)=_;rw[if_pos (show(true && decide ([]:List Nat).Nodup && !([]:List Nat).contains i)=true from rfl),e];rfl
def Qve{T:ClT}{i:Nat}{f:Str}{fa:DE}{ρ:En}{d d':D}{k m:Int}{Q:Out->Prop}(hp:ρ[i]? =some (some (d,true)))(h1:Qlz T f d=some (.int k))(h:fa ρ=some (reI m))(e:QiA (putD T f (.int (k+m))) d=some d')(q:Q (.nx (ρ.set i (some (d',true))))):Run (Qja T i f fa) ρ Q:=by
 refine⟨_,?_,q⟩;unfold Qja;rw[hp];show(Qlz T f d).bind _=_;rw[h1,Za];show(fa ρ).bind _=_;rw[h,Za];show(QiA _ _).map _=_;rw[e];rfl
def Qhd{T:MeT}{x i:Nat}{m:Str}{fs:DA}{ρ:En}{r:RA}{d:D}{q:D×D}{Q:Out->Prop}(h:fs ρ=some r)(hp:ρ[i]? =some (some (d,true)))(c:(decide (x≠i) && !r.M.contains i)=true)(e:Qgt (ioM T m r.ds) d=some q)(k:Q (.nx ((ρ.set i (some (q.2,true))).set x (some (q.1,true))))):Run (QeH T x i m fs) ρ Q:=by
 refine⟨_,?_,k⟩;unfold QeH;rw[h,Za,hp];show(if _ then _ else _)=_;rw[if_pos c,e];rfl
noncomputable def QgL(QU:Den)(QcJ:Den):DS:=(Qe (Qbj (Qj 2 QU [] (Qa vv0 (Qa (QH (Qa vv1 Qc)) Qc)))) (Qe (QW (QR (Qc0 (Qj 1 QcJ [] (Qa vv0 Qc))) (.tp [1,2]) [none,none,none,some 1] (Qv (dOp gGe (Qz vv3 vv1) vv2)) vv1)) Qi))
def QgQ(d:Den):Prop:=∀(m:Nat) (R L:Lpp) (f:Mt1),0<m->m<=1000->Qbc m R L->(∀j,j<m->0<=f j)->d [Qh m R L,Qb m f]=some (Qq (QO m (QG R L) f),true)
def QsE{fa:DE}{ρ:En}{ra:HS.R}{n:Nat}{f:Mt1}(ha:fa ρ=some ra)(ea:ra.d=Qb n f):Qc0 fa ρ=some ⟨(List.range n).map λ(i:Nat)=> .tup [.int i,.int (f i)],ra.M⟩:=by
 unfold Qc0;rw[ha,Za,ea];show some (IR.mk (QdC ((List.range n).map λi=>D.int (f i))) ra.M)=_;congr 2;unfold QdC;refine Zbb λi=>?_;rw[Zy,Zy,Zbi,Zy];by_cases z:i<n
 .rw[ZY z];simp
 .rw[Zw (by simp;omega)];rfl
def Qvg{dn ds:Den}(hn:Qfn dn)(hs:Qn9 ds):QgQ (Qu 2 (QgL dn ds)):=λm R L f m0 hm hw hf=>by
 obtain⟨g1,g2,g3,g4,_⟩:=hw.good;refine QaN ?_;refine run_seq (Qcc (QA rfl (hn m R L [f] m0 λg hg=>by rw[Zl.mp hg];exact hf) rfl) ?_);refine Q8 (QdP (keep:=λp=>decide (QG R L p<=f p)) (out:=λ(p:Nat)=>D.int p) (List.range m) (QsE (QA rfl (hs m R L hm ⋯ g1 g2) rfl) rfl) rfl λp hp=>?_) ⟨rfl,rfl⟩;have hp:=ZR.mp hp;refine⟨[none,slI p,slI (QG R L p),slF (Qb m f)],rfl,?_,λ_=>⟨_,rfl,rfl,rfl⟩⟩;exact QC (Qaj (d:= .bl (decide (QG R L p<=f p))) (rb:=reI (QG R L p)) (Qfw (m:=m) (f:=f) (i:=p) (ra:=reF (Qb m f)) (rb:=reI p) rfl rfl rfl rfl hp) rfl rfl) rfl
def Qmw{m:Nat}{s f:Mt1}{p:Nat}:p∈QO m s f↔p<m/\s p<=f p:=by
 unfold QO;rw[ZC,ZR,decide_eq_true_eq]
def QpB{m:Nat}{s f:Mt1}:(QO m s f).Nodup:=List.nodup_range.filter _
def Quf{fa:DE}{ρ:En}{ra:HS.R}{l:List Nat}(ha:fa ρ=some ra)(ea:ra.d=Qq l):QcR fa QcB (Qbu (dC (.int 1))) ρ=some (reT (Qq (l.take 1))):=by
 have hc:cutD (l.map λ(p:Nat)=>D.int (p:Int)) none (some 1)=(l.take 1).map λ(p:Nat)=>D.int (p:Int):=by
  unfold cutD;rw[show(1:Int)=((1:Nat):Int)from rfl];simp only[Zp,HT.Qj6,HT.QlI,Nat.sub_zero,List.drop_zero];rw[← Zbx];congr 1;cases l with
  | nil=>rfl
  | cons a l=>simp
 unfold QcR QcB Qbu;simp only[ha,Qgl,Za,ea,Qq,hc,QaR,QhC,if_true]
noncomputable def Qiw(Qaf:Den):DS:=(Qe (QeG 0 (QcR (Qj 2 Qaf [] (Qa vv1 (Qa vv2 Qc))) QcB (Qbu kk1))) Qi)
noncomputable def Qfa(Qaf:Den):DS:=(Qe (QeG 0 (Qj 2 Qaf [] (Qa vv1 (Qa vv2 Qc)))) Qi)
noncomputable def Qf3(Qaf:Den):DS:=(Qe (Qn 3 (Qj 2 Qaf [] (Qa vv1 (Qa vv2 Qc)))) (Qe (sIf (QbO (Qv vv3)) (Qe (QeG 0 (QH Qc)) Qi) Qi) (Qe (Qn 4 (dIf (Qv (dOp gLt (Qew wCl "used" vv0) (dBf QaQ (Qa (Qew wCl "picks" vv0) Qc)))) (Qz (Qew wCl "picks" vv0) (Qew wCl "used" vv0)) kk0)) (Qe (Qja wCl 0 "used" kk1) (Qe (QeG 0 (QH (Qa (Qz vv3 (dOp QN vv4 (dBf QaQ (Qa vv3 Qc)))) Qc))) Qi)))))
noncomputable def Qe9:DS:=(Qe (QiY wCl 0 "picks" (dList (Qa vv1 Qc))) (Qe (QiY wCl 0 "used" kk0) Qi))
def Qhz(k:Wk)(e:Qcd):Prop:=∀(u m:Nat) (R L:Lpp) (f:Mt1),0<m->m<=1000->Qbc m R L->(∀j,j<m->0<=f j)->e [wkD k u,Qh m R L,Qb m f]=some (Qq (sel k u (QO m (QG R L) f)),wkD k (nxt u (QO m (QG R L) f)))
def QAa{dr:Den}(hr:QgQ dr):Qhz .plain (QfM 3 0 (Qiw dr)):=λu m R L f m0 hm hw hf=>QgF λa=>by
 refine Qw (QfL (Quf (QA (r:=⟨[Qh m R L,Qb m f],false,[]⟩) rfl (hr m R L f m0 hm hw hf) rfl) rfl) (dp:=Q7 a (wkD .plain u)) rfl rfl ?_);exact⟨rfl,rfl⟩
def Qpl{dr:Den}(hr:QgQ dr):Qhz .both (QfM 3 0 (Qfa dr)):=λu m R L f m0 hm hw hf=>QgF λa=>by
 refine Qw (QfL (QA (r:=⟨[Qh m R L,Qb m f],false,[]⟩) rfl (hr m R L f m0 hm hw hf) rfl) (dp:=Q7 a (wkD .both u)) rfl rfl ?_);exact⟨rfl,rfl⟩
def QsG{fa:DE}{ρ:En}{r:HS.R}{cs:List Int}(h:fa ρ=some r)(e:r.d=QbS cs):dList (Qa fa Qc) ρ=some (reT (QbS cs)):=by
 unfold dList;rw[Qp h (Q0 ρ)];simp[e,QbS,QaR]
def Qw0:∀ps:List Int,QfM 2 0 Qe9 [.obj (.ins "Picked" []) [],QbS ps]=some (.non,wkD (.pick ps) 0):=λps=>QgF λa=>by
 refine run_seq (Qog (y:=QbS ps) (d:=Q7 a (.obj (.ins "Picked" []) [])) (d':=Q7 a (.obj (.ins "Picked" ["picks"]) [QbS ps])) ?_ rfl rfl ?_)
 .exact QsG (cs:=ps) (r:=reF (QbS ps)) rfl rfl
 refine run_seq (Qog (y:= .int 0) (d:=Q7 a (.obj (.ins "Picked" ["picks"]) [QbS ps])) (d':=Q7 a (wkD (.pick ps) 0)) rfl rfl rfl ?_);exact Qr ⟨rfl,rfl⟩
def QrV{dr:Den}(hr:QgQ dr){ps:List Int}(hp:ps.length<=1000):Qhz (.pick ps) (QfM 5 0 (Qf3 dr)):=λu m R L f m0 hm hw hf=>QgF λa=>by
 obtain⟨l,hl⟩:∃l,l=QO m (QG R L) f:=⟨_,rfl⟩;have el:=hr m R L f m0 hm hw hf;rw[← hl]at el ⊢;refine run_seq (Qy (QA (r:=⟨[Qh m R L,Qb m f],false,[]⟩) rfl el rfl) ?_);change Nx _ (.nx [some (Q7 a (wkD (.pick ps) u),true),slF (Qh m R L),slF (Qb m f),slT (Qq l),none]);refine Qw (QX (b:=l.isEmpty) ?_ (λhe=>?_) (λhe=>?_))
 .refine(QbY (b:= !l.isEmpty) ?_).trans (by rw[Bool.not_not]);show(D.lst (l.map λ(p:Nat)=>D.int (p:Int))).tru=_;cases l<;>rfl
 .have he:l=[]:=Zbg.mp he;subst he;exact Qw (QfL (r:=reT (.lst [])) rfl (dp:=Q7 a (wkD (.pick ps) u)) rfl rfl ⟨rfl,rfl⟩)
 .have hne:l≠[]:=λz=>by rw[z]at he;cases he
  have hpos:0<l.length:=ZaB.mpr hne;have fu:Qew wCl "used" (Qd 0) [some (Q7 a (wkD (.pick ps) u),true),slF (Qh m R L),slF (Qb m f),slT (Qq l),none]=some (reI u):=rfl;have fp:Qew wCl "picks" (Qd 0) [some (Q7 a (wkD (.pick ps) u),true),slF (Qh m R L),slF (Qb m f),slT (Qq l),none]=some ⟨QbS ps,true,[0]⟩:=rfl;refine Qr ?_;refine run_seq (Qy (r:=reI (ps.getD u 0)) ?_ ?_)
  .have fl:=Qeg (fa:=Qew wCl "picks" (Qd 0)) (xs:=ps.map D.int) fp rfl;by_cases hlt:u<ps.length
   .have hg:Qv (dOp gLt (Qew wCl "used" (Qd 0)) (dBf QaQ (Qa (Qew wCl "picks" (Qd 0)) Qc))) _=some true:=QC (b:=true) (Qaj (d:= .bl true) fu fl (by show some (D.bl (decide ((u:Int)<((ps.map D.int).length:Nat))))=_;rw[Zp,decide_eq_true ⋯])) rfl;unfold dIf;rw[hg,Za,if_pos rfl];exact Qls (ns:=ps) fp rfl fu rfl ⋯ (by rw[Zae,ZD,Zz hlt];rfl)
   .have hg:Qv (dOp gLt (Qew wCl "used" (Qd 0)) (dBf QaQ (Qa (Qew wCl "picks" (Qd 0)) Qc))) _=some false:=QC (b:=false) (Qaj (d:= .bl false) fu fl (by show some (D.bl (decide ((u:Int)<((ps.map D.int).length:Nat))))=_;rw[Zp,decide_eq_false ⋯])) rfl;unfold dIf;rw[hg,Za,if_neg ZO,ZD,Zw ⋯];rfl
  change Nx _ (.nx [some (Q7 a (wkD (.pick ps) u),true),slF (Qh m R L),slF (Qb m f),slT (Qq l),slI (ps.getD u 0)]);refine run_seq (Qve (d:=Q7 a (wkD (.pick ps) u)) (d':=Q7 a (wkD (.pick ps) (u+1))) (k:=u) (m:=1) rfl rfl rfl rfl ?_);change Nx _ (.nx [some (Q7 a (wkD (.pick ps) (u+1)),true),slF (Qh m R L),slF (Qb m f),slT (Qq l),slI (ps.getD u 0)]);have hm0:0<=ps.getD u 0 % (l.length:Int):=ZE _ ⋯;have hm1:ps.getD u 0 % (l.length:Int)<l.length:=ZH _ ⋯;have hlt:(ps.getD u 0 % (l.length:Int)).toNat<l.length:= ⋯
  have es:sel (.pick ps) u l=[l.getD (ps.getD u 0 % (l.length:Int)).toNat 0]:=by unfold sel;dsimp only;rw[if_neg hne]
  have en:nxt u l=u+1:=by unfold nxt;rw[if_neg hne]
  rw[es,en];refine Qw (QfL (r:=reT (.lst [.int (l.getD (ps.getD u 0 % (l.length:Int)).toNat 0:Nat)])) ?_ (dp:=Q7 a (wkD (.pick ps) (u+1))) rfl rfl ⟨rfl,rfl⟩);refine(Qdu (rs:=⟨[.int (l.getD (ps.getD u 0 % (l.length:Int)).toNat 0:Nat)],true,[]⟩) ?_ (show 1<=64 by decide)).trans rfl;refine(Qp (r:=reI (l.getD (ps.getD u 0 % (l.length:Int)).toNat 0:Nat)) ?_ (Q0 _)).trans rfl;exact Qww (l:=l) (ra:=⟨Qq l,true,[3]⟩) rfl rfl (Q1 (b:=l.length) (ra:=reI (ps.getD u 0)) rfl rfl (Qjj (l:=l) (r:=⟨Qq l,true,[3]⟩) rfl rfl) rfl ⋯) rfl hm0 (by rw[Zz hlt,ZD (l:=l),Zz hlt];rfl)
noncomputable def wMe(e1 e2 e3:Qcd):MeT:=[("Way",[("chosen",⟨3,0,e1⟩)]),("Together",[("chosen",⟨3,0,e2⟩)]),("Picked",[("chosen",⟨3,0,e3⟩)])]
def QqN(T:MeT):Prop:=∀(k:Wk) (u m:Nat) (R L:Lpp) (f:Mt1),Qrd k->0<m->m<=1000->Qbc m R L->(∀j,j<m->0<=f j)->ioM T "chosen" [Qh m R L,Qb m f] (wkD k u)=some (Qq (sel k u (QO m (QG R L) f)),wkD k (nxt u (QO m (QG R L) f)))
def QAs{e1 e2 e3:Qcd}(h1:Qhz .plain e1)(h2:Qhz .both e2)(h3:∀ps:List Int,ps.length<=1000->Qhz (.pick ps) e3):QqN (wMe e1 e2 e3):=λk u m R L f hk m0 hm hw hf=>by
 cases k with
 | plain=>exact h1 u m R L f m0 hm hw hf
 | both=>exact h2 u m R L f m0 hm hw hf
 | pick ps=>exact h3 ps hk u m R L f m0 hm hw hf
def QoS(hx:ρ[x]? =some (slT (.lst xs)))(ha:fa ρ=some ⟨d,true,[]⟩)(hl:xs.length<16777216)(q:Q (.nx (ρ.set x (slT (.lst (xs++[d])))))):Run (Qeo x QaP fa) ρ Q:=by
 refine⟨_,?_,q⟩;have hn:(HS.R.mk d true []).norm=⟨d,true,[]⟩:=by unfold R.norm;split<;>rfl
 unfold Qeo;rw[hx];simp only[QaP,Za,ha,Qcg,QkB,hn,QfT];simp[hl,kill,QbB]
noncomputable def hpA(m:Nat)(T:Mt2)(f:Mt1)(ts:List (List Nat)):Nat->Int:=Qm m T f (QL ts)
structure Qb6 (k:Wk) (u m:Nat) (T:Mt2) (s f:Mt1) (ts:List (List Nat)):Prop where
 st:∀i t,ts[i]? =some t->QO m s (hpA m T f (ts.take i))≠[]/\t=sel k (u+i) (QO m s (hpA m T f (ts.take i)))
def Qvi(ts:List (List Nat))(t:List Nat)(p:Nat):QL (ts++[t]) p=QL ts p+Qaa t p:=by
 unfold QL;rw[ZP,Zbl];simp
def Qet{ts:List (List Nat)}{i:Nat}{t:List Nat}(h:ts[i]? =some t)(p:Nat):QL (ts.take (i+1)) p=QL (ts.take i) p+Qaa t p:=by
 rw[Zbs,h];exact Qvi _ _ _
def QwJ{k:Wk}{u:Nat}{l:List Nat}:∀p∈sel k u l,p∈l:=λp hp=>by
 cases k with
 | plain=>exact List.mem_of_mem_take hp
 | both=>exact hp
 | pick ps=>
  unfold sel at hp;dsimp only at hp;split at hp
  .simp at hp
  .rename_i hne;have hpos:0<l.length:=ZaB.mpr hne;have hm0:0<=ps.getD u 0 % (l.length:Int):=ZE _ ⋯;have hm1:ps.getD u 0 % (l.length:Int)<l.length:=ZH _ ⋯;rw[Zl.mp hp,ZD (l:=l),Zz ⋯];exact ZbF _
def Qr6{k:Wk}{u:Nat}{l:List Nat}(h:l.Nodup):(sel k u l).Nodup:=by
 cases k with
 | plain=>exact h.sublist (List.take_sublist 1 l)
 | both=>exact h
 | pick ps=>
  unfold sel;dsimp only;split<;>simp
def QiX{k:Wk}{u:Nat}{l:List Nat}:sel k u l=[]↔l=[]:=by
 cases k with
 | plain=>unfold sel;dsimp only;cases l<;>simp
 | both=>exact Iff.rfl
 | pick ps=>
  unfold sel;dsimp only;by_cases h:l=[]
  .rw[if_pos h];simp[h]
  .rw[if_neg h];simp[h]
def QoU{m:Nat}{T:Mt2}{f c d:Mt1}(j:Nat):Qm m T f (λp=>c p+d p) j=Qm m T f c j+Qo m (λi=>d i*T i j):=by
 unfold Qm;have:(λi=>(c i+d i)*T i j)=λi=>c i*T i j+d i*T i j:=by funext i;rw[ZaL]
 rw[this,Qas];omega
def QpT{m:Nat}{T:Mt2}{f c d:Mt1}(j:Nat):Qm m T (Qm m T f c) d j=Qm m T f (λp=>c p+d p) j:=by
 rw[QoU];rfl
def QoN{p q:Nat}{l:List Nat}(h:p∉l):Qaa (p::l) q=if q=p then 1 else Qaa l q:=by
 unfold Qaa;by_cases e:q=p
 .subst e;simp
 .simp[e]
def Qqb{m:Nat}:∀{t:List Nat},t.Nodup->(∀p∈t,p<m)->Qo m (Qaa t)=t.length
 | [],_,_=>by
  have:(Qaa []:Mt1)=λ_=>0:=by funext p;unfold Qaa;simp
  rw[this,QT];rfl
 | p::l,nd,h=>by
  obtain⟨h1,h2⟩:=ZV.mp nd;have e:(Qaa (p::l))=λq=>Qaa l q+(if q=p then 1 else 0)*1:=by
   funext q;rw[QoN h1];by_cases z:q=p
   .subst z;rw[if_pos rfl,if_pos rfl];unfold Qaa;rw[if_neg h1];omega
   .rw[if_neg z,if_neg z];omega
  rw[e,Qas,Qaq (h p Zf),Qqb h2 λq hq=>h q (Zc _ hq)];simp
def QnY{m:Nat}{T:Mt2}{f c:Mt1}(tp:TP m T)(h:Leg m T f c):∀t:List Nat,t.Nodup->(∀p∈t,p<m/\0-T p p<=Qm m T f c p)->Leg m T f (λp=>c p+Qaa t p)
 | [],_,_=>h.cast λp=>by unfold Qaa;simp
 | p::l,nd,hp=>by
  obtain⟨h1,h2⟩:=ZV.mp nd;have ih:=QnY tp h l h2 λq hq=>hp q (Zc _ hq);obtain⟨pm,pl⟩:=hp p Zf;have ge:Qm m T f c p<=Qm m T f (λq=>c q+Qaa l q) p:=by
   rw[QoU];have:Qo m (λ_=>(0:Int))<=Qo m (λi=>Qaa l i*T i p):=Qbd λi hi=>by
    by_cases e:i=p
    .subst e;unfold Qaa;rw[if_neg h1,ZaC];exact Zal _
    .refine ZaH ?_ (tp.pos i p hi pm e);unfold Qaa;split<;>omega
   rw[QT]at this;omega
  refine(Leg.step (p:=p) (t:=1) ih pm ⋯ (by rw[ZaM];omega)).cast λq=>?_;unfold up;rw[QoN h1];by_cases e:q=p
  .subst e;rw[if_pos rfl,if_pos rfl];unfold Qaa;rw[if_neg h1];omega
  .rw[if_neg e,if_neg e]
section
variable {k:Wk}{u m:Nat}{T:Mt2}{s f:Mt1}{ts:List (List Nat)}
def Qb6.nil:Qb6 k u m T s f []:=⟨λi t e=>by simp at e⟩
def Qb6.snoc(w:Qb6 k u m T s f ts)(h:QO m s (hpA m T f ts)≠[]):Qb6 k u m T s f (ts++[sel k (u+ts.length) (QO m s (hpA m T f ts))]):=⟨λi t e=>by
 by_cases hi:i<ts.length
 .rw[Zan hi]at e;rw[List.take_append_of_le_length ⋯];exact w.st i t e
 .by_cases h2:i=ts.length
  .subst h2;rw[Zat (Zk _),Nat.sub_self]at e;cases e;rw[List.take_left']
   .exact⟨h,rfl⟩
   .rfl
  .rw[Zw (by simp;omega)]at e;cases e⟩
def Qb6.mem(w:Qb6 k u m T s f ts){i:Nat}{t:List Nat}(e:ts[i]? =some t):t.Nodup/\t≠[]/\∀p∈t,p<m/\s p<=hpA m T f (ts.take i) p:=by
 obtain⟨h1,h2⟩:=w.st i t e;subst h2;exact⟨Qr6 QpB,λz=>h1 (QiX.mp z),λp hp=>Qmw.mp (QwJ p hp)⟩
def Qb6.leg(tp:TP m T)(hs:∀p,p<m->s p=0-T p p)(w:Qb6 k u m T s f ts):∀i,i<=ts.length->Leg m T f (QL (ts.take i))
 | 0,_=>Leg.nil.cast λp=>by simp[QL]
 | i+1,h=>by
  have e:ts[i]? =some (ts[i]'⋯):=Zz ⋯;obtain⟨n1,n2,n3⟩:=w.mem e;refine(QnY tp (w.leg tp hs i ⋯) _ n1 λp hp=>⟨(n3 p hp).1,?_⟩).cast λp=>(Qet e p).symm;rw[← hs p (n3 p hp).1];exact(n3 p hp).2
def QdO{i:Nat}{t:List Nat}(w:Qb6 k u m T s f ts)(e:ts[i]? =some t):Qo m (QL (ts.take (i+1)))=Qo m (QL (ts.take i))+t.length:=by
 obtain⟨n1,n2,n3⟩:=w.mem e;rw[Q2 λp _=>Qet e p,Qas,Qqb n1 λp hp=>(n3 p hp).1]
def QyA{h:Mt1}(hs:∀p,p<m->s p=0-T p p)(e:QO m s h=[]):Stb m T h:=λp hp=>by
 rw[← hs p hp];have:p∉QO m s h:=by rw[e];simp
 rw[Qmw]at this;omega
def Qwv(tp:TP m T)(hs:∀p,p<m->s p=0-T p p){c:Mt1}(c0:∀p,p<m->0<=c p)(st:Stb m T (Qm m T f c)):∀(n:Nat) (ts:List (List Nat)),Qb6 k u m T s f ts->(Qo m c-Qo m (QL ts)).toNat=n->∃ts',Qb6 k u m T s f ts'/\QO m s (hpA m T f ts')=[]:=by
 intro n
 induction n using Nat.strongRecOn with
 | _ n ih=>
  intro ts w hn;by_cases h:QO m s (hpA m T f ts)=[]
  .exact⟨ts,w,h⟩
  .have w':=w.snoc h;obtain⟨t,ht⟩:∃t,t=sel k (u+ts.length) (QO m s (hpA m T f ts)):=⟨_,rfl⟩;rw[← ht]at w';have e:(ts++[t])[ts.length]? =some t:=by rw[Zat (Zk _),Nat.sub_self];rfl
   have l1:=w'.leg tp hs (ts++[t]).length (Zk _);rw[Zav]at l1;have le:=Qbd (l1.least tp c0 st);have sm:=QdO w' e;rw[List.take_left' rfl,ZaO ⋯]at sm;obtain⟨n1,n2,n3⟩:=w'.mem e;have:=ZaB.mpr n2;exact ih _ ⋯ (ts++[t]) w' rfl
def Qqu(tp:TP m T)(hs:∀p,p<m->s p=0-T p p){c:Mt1}(c0:∀p,p<m->0<=c p)(st:Stb m T (Qm m T f c)):∃ts,Qb6 k u m T s f ts/\QO m s (hpA m T f ts)=[]:=Qwv tp hs c0 st _ [] .nil rfl
def Qb6.QzT(tp:TP m T)(hs:∀p,p<m->s p=0-T p p)(w:Qb6 k u m T s f ts)(e:QO m s (hpA m T f ts)=[]){c:Mt1}(lc:Leg m T f c)(st:Stb m T (Qm m T f c)):∀p,p<m->QL ts p=c p:=by
 have l1:=w.leg tp hs ts.length (Zk _);rw[Zav]at l1;exact l1.unique tp lc (QyA hs e) st
end
noncomputable def QvK(QU:Den)(QbX:Den)(me:MeT):DS:=(Qe (Qbj (Qj 2 QU [] (Qa vv0 (Qa (QH (Qa vv1 Qc)) Qc)))) (Qe (Qn 3 (dList (Qa vv1 Qc))) (Qe (Qn 4 (Qac (QH (Qa kk0 Qc)) (Qz vv0 kk0))) (Qe (Qn 5 (QH Qc)) (Qe (QeH me 6 2 "chosen" (Qa vv0 (Qa vv3 Qc))) (Qe (Qbq (Qv vv6) (Qe (sIf (Qv (dOp gGt (Qx (dBf Qcj (Qa vv4 Qc)) (dBf QaQ (Qa vv6 Qc))) Qtr)) (Qe QD Qi) Qi) (Qe (Qn 7 (QR (Qbe (Qz vv0 kk0)) (.nm 1) [none,none,some 6] Qag (dIf (Qv (dOp (gIn false) vv1 vv2)) kk1 kk0))) (Qe (Qn 3 (Qj 3 QbX [] (Qa vv0 (Qa vv3 (Qa vv7 Qc))))) (Qe (Qn 4 (QR (QaD vv4 vv7) (.tp [1,2]) [none,none,none] Qag (Qx vv1 vv2))) (Qe (Qeo 5 QaP (dList (Qa vv6 Qc))) (Qe (QeH me 6 2 "chosen" (Qa vv0 (Qa vv3 Qc))) Qi))))))) (Qe (QeG 2 (Qbs (Qa vv3 (Qa vv4 (Qa vv5 Qc))))) Qi)))))))
noncomputable def Qmj(m:Nat)(T:Mt2)(f:Mt1)(ts:List (List Nat)):D:= .tup [Qb m (hpA m T f ts),Qb m (QL ts),Qae ts]
def Qnf(e:Qcd):Prop:=∀(k:Wk) (u m:Nat) (R L:Lpp) (f c:Mt1),Qrd k->0<m->m<=1000->Qbc m R L->(∀j,j<m->0<=f j)->Told m (Qt m (Ql R L)) f c->Qo m c<=2000→
 ∃ts,Qb6 k u m (Qt m (Ql R L)) (QG R L) f ts/\QO m (QG R L) (hpA m (Qt m (Ql R L)) f ts)=[]/\(∀p,p<m->QL ts p=c p)/\ts.length<=2000∧
  e [Qh m R L,Qb m f,wkD k u]=some (Qmj m (Qt m (Ql R L)) f ts,wkD k (u+ts.length))
def QrH{m:Nat}{t:List Nat}{ρ:En}{R L:Lpp}(h0:ρ[0]? =some (slF (Qh m R L)))(h6:QeM [none,none,some 6] ρ=[none,none,slF (Qq t)])(hm:m<=1000):
  QR (Qbe (Qz (Qd 0) (dC (.int 0)))) (.nm 1) [none,none,some 6] Qag (dIf (Qv (dOp (gIn false) (Qd 1) (Qd 2))) (dC (.int 1)) (dC (.int 0))) ρ=some (reT (Qb m (Qaa t))):=by
 have hi:Qz (Qd 0) (dC (.int 0)) ρ=some (reI m):=by
  unfold Qz;rw[Qc3 h0];rfl
 refine(QaZ (toD:=λ(p:Nat)=>D.int p) (out:=λ(p:Nat)=>D.int (Qaa t p)) (List.range m) (Qei (n:=m) hi rfl ⋯) rfl λp hp=>?_).trans rfl;rw[h6];refine⟨[none,slI p,slF (Qq t)],rfl,reI (Qaa t p),?_,rfl,rfl⟩;unfold dIf;rw[QC (b:=t.contains p) (Qtq (neg:=false) (o:=p) (l:=t) (ra:=reI p) (rb:=reF (Qq t)) rfl rfl rfl rfl) rfl,Za];unfold Qaa;by_cases e:p∈t
 .rw[if_pos (ZI.mpr e),if_pos e];rfl
 .rw[if_neg (λz=>e (ZI.mp z)),if_neg e];rfl
def Leg.ge0{m:Nat}{T:Mt2}{f c:Mt1}(tp:TP m T)(hf:∀j,j<m->0<=f j)(h:Leg m T f c):∀j,j<m->0<=Qm m T f c j:=by
 induction h with
 | nil=>
  intro j hj;unfold Qm;have z:(λi=>(0:Int)*T i j)=λ_=>0:=by funext i;rw[ZaC]
  rw[z,QT];have:=hf j hj;omega
 | @step c p t _ hp ht hle ih=>
  intro j hj;rw[QiZ hp];by_cases e:j=p
  .subst e;rw[Int.mul_sub,Int.mul_zero]at hle;omega
  .have h1:=ih j hj;have h2:=ZaH ht (tp.pos p j hp hj (Ne.symm e));omega
def Qmr{ρ:En}{A:List Nat}{fs:DA}{rs:RA}(h:fs ρ=some rs)(e:rs.ds=[Qq A]):dList fs ρ=some (reT (Qq A)):=by
 unfold dList;rw[h,Za,e];simp only[Qq,QaR,QhC,if_true]
def QAh{dn da:Den}{T:MeT}(hn:Qfn dn)(ha:Qji da)(hM:QqN T):Qnf (QfM 8 2 (QvK dn da T)):=λk u m R L f c hk m0 hm hw hf td hc=>by
 have tp:=hw.tp;have hs:∀p,p<m->QG R L p=0-Qt m (Ql R L) p p:=λp hp=>(hw.neg hp).symm;obtain⟨g1,g2,g3,g4,_⟩:=hw.good;obtain⟨ts,w,fin⟩:=Qqu (k:=k) (u:=u) tp hs (λp _=>td.leg.nonneg p) td.stb;have eq:=w.QzT tp hs fin td.leg td.stb;obtain⟨T0,rT⟩:∃T0,T0=Qt m (Ql R L):=⟨_,rfl⟩;rw[← rT]at w fin tp hs td ⊢;have sums:∀i,i<=ts.length->Qo m (QL (ts.take i))<=2000:=λi hi=>by
  have:=Qbd ((w.leg tp hs i hi).least tp (λp _=>td.leg.nonneg p) td.stb);omega
 have lens:∀i,i<=ts.length->(i:Int)<=Qo m (QL (ts.take i)):=λi=>by
  induction i with
  | zero=>
   intro _;have:(QL []:Mt1)=λ_=>0:=by funext p;simp[QL]
   rw[Zbc,this,QT];exact Zal _
  | succ i ih=>
   intro hi;have e:ts[i]? =some (ts[i]'⋯):=Zz ⋯;have h1:=ih ⋯;have h2:=QdO w e;obtain⟨n1,n2,n3⟩:=w.mem e;have:=ZaB.mpr n2;omega
 have tl:ts.length<=2000:=by
  have h1:=lens ts.length (Zk _);have h2:=sums ts.length (Zk _);omega
 have pos:∀i,i<=ts.length->∀j,j<m->0<=hpA m T0 f (ts.take i) j:=λi hi=>(w.leg tp hs i hi).ge0 tp hf;refine⟨ts,w,fin,eq,tl,QgF λa=>?_⟩
 let E:Nat->Option (D×Bool)->En:=λi j7=>[slF (Qh m R L),slF (Qb m f),some (Q7 a (wkD k (nxt (u+i) (QO m (QG R L) (hpA m T0 f (ts.take i))))),true),slT (Qb m (hpA m T0 f (ts.take i))),slT (Qb m (QL (ts.take i))),some (Qae (ts.take i),true),slT (Qq (sel k (u+i) (QO m (QG R L) (hpA m T0 f (ts.take i))))),j7]
 refine run_seq (Qcc (QA (r:=⟨[Qh m R L,.lst [Qb m f]],false,[]⟩) rfl (hn m R L [f] m0 λg hg=>by rw[Zl.mp hg];exact hf) rfl) ?_);refine run_seq (Qy (Qcy (m:=m) (f:=f) (rs:=⟨[Qb m f],false,[]⟩) rfl rfl) ?_);refine run_seq (Qy (QeV (z:=0) (n:=m) (r:=reI m) rfl rfl ⋯) ?_);refine run_seq (Qy (r:=reT (.lst [])) rfl ?_);change Nx _ (.nx [slF (Qh m R L),slF (Qb m f),some (Q7 a (wkD k u),true),slT (Qb m f),slT (Qb m (λ_=>0)),slT (.lst []),none,none]);have h0:hpA m T0 f (ts.take 0)=f:=by
  funext j;unfold hpA;rw[Zbc];have:(QL []:Mt1)=λ_=>0:=by funext p;simp[QL]
  rw[this];unfold Qm;have z:(λi=>(0:Int)*T0 i j)=λ_=>0:=by funext i;rw[ZaC]
  rw[z,QT];omega
 have c0:QL (ts.take 0)=λ_=>0:=by funext p;simp[QL]
 refine run_seq (Qhd (r:=⟨[Qh m R L,Qb m f],false,[3]⟩) (d:=Q7 a (wkD k u)) (q:=(Qq (sel k u (QO m (QG R L) f)),Q7 a (wkD k (nxt u (QO m (QG R L) f))))) rfl rfl rfl ?_ ?_)
 .show((ioM T "chosen" [Qh m R L,Qb m f] (wkD k u)).map λq=>(q.1,D.obj (.pin a) [q.2]))=_;rw[hM k u m R L f hk m0 hm hw hf];rfl
 have start:[slF (Qh m R L),slF (Qb m f),some (Q7 a (wkD k (nxt u (QO m (QG R L) f))),true),slT (Qb m f),slT (Qb m (λ_=>0)),slT (.lst []),slT (Qq (sel k u (QO m (QG R L) f))),none]=E 0 none:=by
  show _=[slF (Qh m R L),slF (Qb m f),some (Q7 a (wkD k (nxt (u+0) (QO m (QG R L) (hpA m T0 f (ts.take 0))))),true),slT (Qb m (hpA m T0 f (ts.take 0))),slT (Qb m (QL (ts.take 0))),some (Qae (ts.take 0),true),slT (Qq (sel k (u+0) (QO m (QG R L) (hpA m T0 f (ts.take 0))))),none];rw[h0,c0];rfl
 change Nx _ (.nx [slF (Qh m R L),slF (Qb m f),some (Q7 a (wkD k (nxt u (QO m (QG R L) f))),true),slT (Qb m f),slT (Qb m (λ_=>0)),slT (.lst []),slT (Qq (sel k u (QO m (QG R L) f))),none]);rw[start];refine run_seq (QiT (λn ρ=>∃i j7,i<=ts.length/\n=ts.length-i/\ρ=E i j7) ?_ ts.length (E 0 none) ⟨0,none,ZS _,rfl,rfl⟩);rintro n ρ ⟨i,j7,hi,rfl,rfl⟩;obtain⟨l,rl⟩:∃l,l=QO m (QG R L) (hpA m T0 f (ts.take i)):=⟨_,rfl⟩;have hE:E i j7=[slF (Qh m R L),slF (Qb m f),some (Q7 a (wkD k (nxt (u+i) l)),true),slT (Qb m (hpA m T0 f (ts.take i))),slT (Qb m (QL (ts.take i))),some (Qae (ts.take i),true),slT (Qq (sel k (u+i) l)),j7]:=by rw[rl]
 rw[hE];refine⟨!(sel k (u+i) l).isEmpty,?_,λhb=>?_,λhb=>?_⟩
 .show(D.lst ((sel k (u+i) l).map λ(p:Nat)=>D.int (p:Int))).tru=_;cases sel k (u+i) l<;>rfl
 .have hl:l=[]:=QiX.mp (Zbg.mp (by simpa using hb));have hi':i=ts.length:=by
   by_cases z:i<ts.length
   .have:=(w.st i _ (Zz z)).1;rw[← rl]at this;exact absurd hl this
   .omega
  subst hi';rw[Zav,hl];refine Qw (QfL (r:=⟨Qmj m T0 f ts,true,[3,4,5]⟩) rfl (dp:=Q7 a (wkD k (u+ts.length))) rfl rfl ⟨rfl,rfl⟩)
 .have hl:l≠[]:=λz=>by rw[z,QiX.mpr rfl]at hb;cases hb
  have hlt:i<ts.length:=by
   by_cases z:i<ts.length
   .exact z
   .exfalso;have:i=ts.length:= ⋯
    rw[this,Zav,fin]at rl;exact hl rl
  have et:ts[i]? =some ts[i]:=Zz hlt;obtain⟨t,ht⟩:∃t,t=ts[i]:=⟨_,rfl⟩;rw[← ht]at et;have es:sel k (u+i) l=t:=by rw[rl];exact(w.st i t et).2.symm
  have en:nxt (u+i) l=u+(i+1):=by unfold nxt;rw[if_neg hl];omega
  rw[es,en];have st:=QdO w et;have s2:=sums (i+1) ⋯;have hp1:Qb m (Qm m T0 (hpA m T0 f (ts.take i)) (Qaa t))=Qb m (hpA m T0 f (ts.take (i+1))):=Qdi λj _=>by
   show Qm m T0 (Qm m T0 f (QL (ts.take i))) (Qaa t) j=_;rw[QpT];exact Qb5 j rfl λp _=>(Qet et p).symm
  refine Qw (QX (b:=false) (QC (b:=false) (Qaj (d:= .bl false) (ra:=reI (Qo m (QL (ts.take i))+t.length)) (rb:=reI 2000) (Q6 (QlB (m:=m) (f:=QL (ts.take i)) (r:=⟨Qb m (QL (ts.take i)),true,[4]⟩) rfl rfl) rfl (Qjj (l:=t) (r:=⟨Qq t,true,[6]⟩) rfl rfl) rfl) rfl ?_) rfl) (λz=>by cases z) (λ_=>Qr ?_))
  .show some (D.bl (decide ((2000:Int)<Qo m (QL (ts.take i))+t.length)))=_;rw[decide_eq_false ⋯]
  refine run_seq (Qy (QrH (m:=m) (t:=t) (R:=R) (L:=L) rfl rfl hm) ?_);change Nx _ (.nx [slF (Qh m R L),slF (Qb m f),some (Q7 a (wkD k (u+(i+1))),true),slT (Qb m (hpA m T0 f (ts.take i))),slT (Qb m (QL (ts.take i))),some (Qae (ts.take i),true),slT (Qq t),slT (Qb m (Qaa t))]);have eaf:=ha m R L (hpA m T0 f (ts.take i)) (Qaa t) hm ⋯ g1 g2;rw[← rT,hp1]at eaf;refine run_seq (Qy (QA (r:=⟨[Qh m R L,Qb m (hpA m T0 f (ts.take i)),Qb m (Qaa t)],false,[3,7]⟩) rfl eaf rfl) ?_);change Nx _ (.nx [slF (Qh m R L),slF (Qb m f),some (Q7 a (wkD k (u+(i+1))),true),slT (Qb m (hpA m T0 f (ts.take (i+1)))),slT (Qb m (QL (ts.take i))),some (Qae (ts.take i),true),slT (Qq t),slT (Qb m (Qaa t))]);refine run_seq (Qy (r:=reT (Qb m (QL (ts.take (i+1))))) ?_ ?_)
  .refine(QaZ (toD:=λ(p:Nat)=>D.tup [.int (QL (ts.take i) p),.int (Qaa t p)]) (out:=λ(p:Nat)=>D.int (QL (ts.take (i+1)) p)) (List.range m) (Qfp (m:=m) (f:=λp=>D.int (QL (ts.take i) p)) (g:=λp=>D.int (Qaa t p)) rfl rfl rfl rfl) rfl λp hp=>⟨[none,slI (QL (ts.take i) p),slI (Qaa t p)],rfl,reI (QL (ts.take (i+1)) p),?_,rfl,rfl⟩).trans rfl;rw[Qet et];exact Q6 rfl rfl rfl rfl
  change Nx _ (.nx [slF (Qh m R L),slF (Qb m f),some (Q7 a (wkD k (u+(i+1))),true),slT (Qb m (hpA m T0 f (ts.take (i+1)))),slT (Qb m (QL (ts.take (i+1)))),some (Qae (ts.take i),true),slT (Qq t),slT (Qb m (Qaa t))]);refine run_seq (QoS (xs:=(ts.take i).map Qq) (d:=Qq t) rfl (Qmr (A:=t) (rs:=⟨[Qq t],true,[6]⟩) rfl rfl) (by rw[Zp,ZaE];omega) ?_);have etu:D.lst ((ts.take i).map Qq++[Qq t])=Qae (ts.take (i+1)):=by
   unfold Qae;rw[Zbs,et,ZP];rfl
  rw[etu];change Nx _ (.nx [slF (Qh m R L),slF (Qb m f),some (Q7 a (wkD k (u+(i+1))),true),slT (Qb m (hpA m T0 f (ts.take (i+1)))),slT (Qb m (QL (ts.take (i+1)))),some (Qae (ts.take (i+1)),true),slT (Qq t),slT (Qb m (Qaa t))]);obtain⟨l',rl'⟩:∃l',l'=QO m (QG R L) (hpA m T0 f (ts.take (i+1))):=⟨_,rfl⟩;refine Qw (Qhd (r:=⟨[Qh m R L,Qb m (hpA m T0 f (ts.take (i+1)))],false,[3]⟩) (d:=Q7 a (wkD k (u+(i+1)))) (q:=(Qq (sel k (u+(i+1)) l'),Q7 a (wkD k (nxt (u+(i+1)) l')))) rfl rfl rfl ?_ (Qr ?_))
  .show((ioM T "chosen" [Qh m R L,Qb m (hpA m T0 f (ts.take (i+1)))] (wkD k (u+(i+1)))).map λq=>(q.1,D.obj (.pin a) [q.2]))=_;rw[hM k (u+(i+1)) m R L _ hk m0 hm hw (pos (i+1) ⋯),rl'];rfl
  .refine⟨ts.length-(i+1),⋯,i+1,slT (Qb m (Qaa t)),⋯,rfl,?_⟩;rw[rl'];rfl
def QyJ{n:Nat}{d:Den}{xd:List D->Option Str}{fs:DA}{ρ:En}{r:RA}{x:Str}(a:ApF d xd)(h:fs ρ=some r)(hl:r.ds.length=n)(hx:xd r.ds=some x):QQ (Qbj (Qj n d [] fs)) (QbH n xd fs) xNo ρ=some (x,ρ):=by
 have e:QbH n xd fs ρ=some (x,ρ):=by unfold QbH;rw[h,Za,if_pos hl,hx];rfl
 unfold QQ;rw[Qam a ρ (by rw[e];exact λz=>by cases z)];exact e
def QgW{sub:Str->Str->Option Bool}{ys:List Str}{fa:DE}{ρ:En}{x:Str}{b:Bool}(h:fa ρ=some ⟨.exc x,true,[]⟩)(hs:anyS sub x ys=some b):Qey sub ys fa ρ=some (reT (.bl b)):=by
 unfold Qey;rw[h,Za];dsimp only;rw[hs];rfl
def any_cons{sub:Str->Str->Option Bool}{x y:Str}{ys:List Str}{b c:Bool}(h:sub x y=some b)(t:anyS sub x ys=some c):anyS sub x (y::ys)=some (b || c):=by
 unfold anyS;rw[h,Za,t];rfl
def QlA{fa fb:DE}{ρ:En}{a b:Bool}(ha:fa ρ=some (reT (.bl a)))(hb:fb ρ=some (reT (.bl b))):QcZ fa fb ρ=some (reT (.bl (a && b))):=by
 unfold QcZ;rw[ha,Za];cases a with
 | true=>rw[hb];rfl
 | false=>rfl
noncomputable def Qeb(Qad:Den)(x_need_rows:List D->Option Str):DX:=(QQ (Qbj (Qj 2 Qad [] (Qa vv0 (Qa vv1 Qc)))) (QbH 2 x_need_rows (Qa vv0 (Qa vv1 Qc))) (QQ (Qbm (Qan vv1) (.nm 2) (Qe (sIf (Qv (dOp gLt (dBf QeC (Qa vv2 Qc)) kk0)) (Qe QD Qi) Qi) Qi)) (Qgk (Qan vv1) (.nm 2) (Qe (sIf (Qv (dOp gLt (dBf QeC (Qa vv2 Qc)) kk0)) (Qe QD Qi) Qi) Qi) (QQ (sIf (Qv (dOp gLt (dBf QeC (Qa vv2 Qc)) kk0)) (Qe QD Qi) Qi) (xIf (Qv (dOp gLt (dBf QeC (Qa vv2 Qc)) kk0)) (QQ QD (Qdt "NoHeap" (Qa (dC (.str "a heap has no number below 0")) Qc)) xNo) xNo) xNo)) xNo))
local macro_rules | `(tactic|ac_rfl)=> `(tactic|repeat (first | exact Qcl | exact Qap | assumption | apply QbE | apply QcA | apply Qbt | apply Qam | apply Qbr | apply ap_ret))
def QvB{dn:Den}{xn:List D->Option Str}(h:ApF dn xn):ApF (Qu 3 (QcX dn)) (Qa9 3 (Qeb dn xn)):=Qi8 (by unfold QcX Qeb;ac_rfl)
structure QkJ (xd:List D->Option Str):Prop where
 row:∀(m:Int) (R L:Lpp) (xs:List D),(xs.length:Int)≠m->xd [Qh m R L,.lst [.lst xs]]=some "NoRow"
 heap:∀(m:Nat) (R L:Lpp) (f:Mt1) (j:Nat),j<m->f j<0->xd [Qh m R L,.lst [Qb m f]]=some "NoHeap"
def QsK{dn:Den}{xn:List D->Option Str}(h:ApF dn xn)(hn:QiI dn)(hx:QqY xn):QkJ (Qa9 3 (Qeb dn xn)) where
 row:=λm R L xs hm=>by
  refine Qfd (Qaz (Qam h) (QdV (r:=⟨[Qh m R L,.lst [.lst xs]],_,_⟩) rfl rfl ?_));exact hx m R L [xs] 0 ⋯ (λi x hi e=> ⋯) (λx e=>by cases e;exact hm)
 heap:=λm R L f j hj hf=>by
  obtain⟨v,_,hle,hv⟩:=QpH (by omega:0<m) f;have h0:=hle j hj;refine Qfd (QdN (Qcc (QA (r:=⟨[Qh m R L,.lst [Qb m f]],false,[]⟩) rfl (hn m R L [f]) rfl) ?_));refine Qaz (Qbt (by ac_rfl)) (QrA (by ac_rfl) (toD:=λf=>Qb m f) [f] (λ_ ρ=>ρ=[slF (Qh m R L),slF (.lst [Qb m f]),none]) 0 ⋯ (ir:=⟨[Qb m f],[]⟩) rfl rfl rfl (λi x ρ hi=>absurd hi ⋯) ?_);rintro x ρ hx rfl;cases hx;refine⟨_,rfl,?_⟩;refine Qaz (by ac_rfl) (Qnj (b:=true) (QC (Qaj (rb:=reI 0) (d:= .bl (decide (v<0))) (hv (r:=reF (Qb m f)) rfl rfl) rfl rfl) ?_) (λ_=>Qaz Qap (QhK rfl (Zk _))) (λh=>by cases h));show D.bl _=_;rw[decide_eq_true ⋯]
noncomputable def Qd0(Qbi:Den):DX:=(QQ (sIf (QbO (Qv (Qj 1 Qbi [] (Qa vv0 Qc)))) (Qe QD Qi) Qi) (xIf (QbO (Qv (Qj 1 Qbi [] (Qa vv0 Qc)))) (QQ QD (Qdt "NotPlain" (Qa (dC (.str "this is told of nets without lanes alone")) Qc)) xNo) xNo) xNo)
def Qvh{dp:Den}:ApF (Qu 1 (Qc1 dp)) (Qa9 1 (Qd0 dp)):=Qi8 (by unfold Qc1 Qd0;ac_rfl)
def Qn7(xd:List D->Option Str):Prop:=∀(m:Int) (R L:Lpp),L≠[]->xd [Qh m R L]=some "NotPlain"
def Qr9{dp:Den}(hp:Qjr dp):Qn7 (Qa9 1 (Qd0 dp)):=λm R L hL=>by
 have:decide ((L.length:Int)=0)=false:=decide_eq_false (by cases L with | nil=>exact absurd rfl hL | cons a l=>simp;omega);refine Qfd (Qaz (by ac_rfl) (Qnj (b:=true) (QbY (b:=false) (QC (b:=false) (QA (r:=⟨[Qh m R L],false,[]⟩) rfl (hp m R L) rfl) ?_)) (λ_=>Qaz Qap (QhK rfl (Zk _))) (λh=>by cases h)));show D.bl _=_;rw[this]
def Qta{g:DT}{fb:DS}{fx fr:DX}{x:Str}{ρ:En}(a:Ap fb fx)(I:Nat->En->Prop)(h0:I 0 ρ)
  (turn:∀i ρ,I i ρ->g ρ=some true/\(Qcr fx ρ x∨(Run fb ρ (Nx λρ2=>I (i+1) ρ2)))) (B:Nat) (fin:∀i ρ,I i ρ->i<=B):Qcr (QQ (Qbq g fb) (Qd8 g fb fx) fr) ρ x:=Qaz (QtJ a) (Qvx a I h0 turn B fin)
noncomputable def QvI(QbX:Den)(QU:Den)(me:MeT)(x_after:List D->Option Str)(x_need_heaps:List D->Option Str):DX:=(QQ (Qbj (Qj 2 QU [] (Qa (Qd 0) (Qa (QH (Qa (Qd 1) Qc)) Qc)))) (QbH 2 x_need_heaps (Qa (Qd 0) (Qa (QH (Qa (Qd 1) Qc)) Qc))) (QQ (Qn 3 (dList (Qa (Qd 1) Qc))) xNo (QQ (Qn 4 (Qac (QH (Qa (dC (.int 0)) Qc)) (Qz (Qd 0) (dC (.int 0))))) xNo (QQ (Qn 5 (QH Qc)) xNo (QQ (QeH me 6 2 "chosen" (Qa (Qd 0) (Qa (Qd 3) Qc))) xNo (QQ (Qbq (Qv (Qd 6)) (Qe (sIf (Qv (dOp gGt (Qx (dBf Qcj (Qa (Qd 4) Qc)) (dBf QaQ (Qa (Qd 6) Qc))) (dC (.int 2000)))) (Qe QD Qi) Qi) (Qe (Qn 7 (QR (Qbe (Qz (Qd 0) (dC (.int 0)))) (.nm 1) [none,none,some 6] Qag (dIf (Qv (dOp (gIn false) (Qd 1) (Qd 2))) (dC (.int 1)) (dC (.int 0))))) (Qe (Qn 3 (Qj 3 QbX [] (Qa (Qd 0) (Qa (Qd 3) (Qa (Qd 7) Qc))))) (Qe (Qn 4 (QR (QaD (Qd 4) (Qd 7)) (.tp [1,2]) [none,none,none] Qag (Qx (Qd 1) (Qd 2)))) (Qe (Qeo 5 QaP (dList (Qa (Qd 6) Qc))) (Qe (QeH me 6 2 "chosen" (Qa (Qd 0) (Qa (Qd 3) Qc))) Qi))))))) (Qd8 (Qv (Qd 6)) (Qe (sIf (Qv (dOp gGt (Qx (dBf Qcj (Qa (Qd 4) Qc)) (dBf QaQ (Qa (Qd 6) Qc))) (dC (.int 2000)))) (Qe QD Qi) Qi) (Qe (Qn 7 (QR (Qbe (Qz (Qd 0) (dC (.int 0)))) (.nm 1) [none,none,some 6] Qag (dIf (Qv (dOp (gIn false) (Qd 1) (Qd 2))) (dC (.int 1)) (dC (.int 0))))) (Qe (Qn 3 (Qj 3 QbX [] (Qa (Qd 0) (Qa (Qd 3) (Qa (Qd 7) Qc))))) (Qe (Qn 4 (QR (QaD (Qd 4) (Qd 7)) (.tp [1,2]) [none,none,none] Qag (Qx (Qd 1) (Qd 2)))) (Qe (Qeo 5 QaP (dList (Qa (Qd 6) Qc))) (Qe (QeH me 6 2 "chosen" (Qa (Qd 0) (Qa (Qd 3) Qc))) Qi)))))) (QQ (sIf (Qv (dOp gGt (Qx (dBf Qcj (Qa (Qd 4) Qc)) (dBf QaQ (Qa (Qd 6) Qc))) (dC (.int 2000)))) (Qe QD Qi) Qi) (xIf (Qv (dOp gGt (Qx (dBf Qcj (Qa (Qd 4) Qc)) (dBf QaQ (Qa (Qd 6) Qc))) (dC (.int 2000)))) (QQ QD (Qdt "TooMany" (Qa (dC (.str "the heap takes more than 2000 topplings")) Qc)) xNo) xNo) (QQ (Qn 7 (QR (Qbe (Qz (Qd 0) (dC (.int 0)))) (.nm 1) [none,none,some 6] Qag (dIf (Qv (dOp (gIn false) (Qd 1) (Qd 2))) (dC (.int 1)) (dC (.int 0))))) xNo (QQ (Qn 3 (Qj 3 QbX [] (Qa (Qd 0) (Qa (Qd 3) (Qa (Qd 7) Qc))))) (QbH 3 x_after (Qa (Qd 0) (Qa (Qd 3) (Qa (Qd 7) Qc)))) (QQ (Qn 4 (QR (QaD (Qd 4) (Qd 7)) (.tp [1,2]) [none,none,none] Qag (Qx (Qd 1) (Qd 2)))) xNo (QQ (Qeo 5 QaP (dList (Qa (Qd 6) Qc))) xNo (QQ (QeH me 6 2 "chosen" (Qa (Qd 0) (Qa (Qd 3) Qc))) xNo xNo))))))) (QQ (QeG 2 (Qbs (Qa (Qd 3) (Qa (Qd 4) (Qa (Qd 5) Qc))))) xNo xNo)))))))
structure Qk6 (y:List D->Option Str):Prop where
 row:∀(m:Int) (R L:Lpp) (xs:List D) (k:Wk) (u:Nat),(xs.length:Int)≠m->y [Qh m R L,.lst xs,wkD k u]=some ("NoRow" :Str)
 heap:∀(m:Nat) (R L:Lpp) (f:Mt1) (j:Nat) (k:Wk) (u:Nat),j<m->f j<0->y [Qh m R L,Qb m f,wkD k u]=some ("NoHeap" :Str)
 many:∀(k:Wk) (u m:Nat) (R L:Lpp) (f c:Mt1),Qrd k->0<m->m<=1000->Qbc m R L->(∀j,j<m->0<=f j)->Told m (Qt m (Ql R L)) f c->2000<Qo m c->y [Qh m R L,Qb m f,wkD k u]=some ("TooMany" :Str)
def QwV{dn da:Den}{T:MeT}{xa xh:List D->Option Str}(hn:Qfn dn)(ha:Qji da)(hM:QqN T)(ah:ApF dn xh)(aa:ApF da xa)(hx:QkJ xh):Qk6 (xdU 8 2 (QvI da dn T xa xh)) where
 row:=λm R L xs k u hl=>QnV λa=>Qaz (Qam ah) (QdV (r:=⟨[Qh m R L,.lst [.lst xs]],_,_⟩) rfl rfl (hx.row m R L xs hl))
 heap:=λm R L f j k u hj hf=>QnV λa=>Qaz (Qam ah) (QdV (r:=⟨[Qh m R L,.lst [Qb m f]],_,_⟩) rfl rfl (hx.heap m R L f j hj hf))
 many:=λk u m R L f c hk m0 hm hw hf td big=>by
  have tp:=hw.tp;have hs:∀p,p<m->QG R L p=0-Qt m (Ql R L) p p:=λp hp=>(hw.neg hp).symm;obtain⟨g1,g2,g3,g4,_⟩:=hw.good;obtain⟨ts,w,fin⟩:=Qqu (k:=k) (u:=u) tp hs (λp _=>td.leg.nonneg p) td.stb;have eq:=w.QzT tp hs fin td.leg td.stb;obtain⟨T0,rT⟩:∃T0,T0=Qt m (Ql R L):=⟨_,rfl⟩;rw[← rT]at w fin tp hs td;have lens:∀i,i<=ts.length->(i:Int)<=Qo m (QL (ts.take i)):=λi=>by
   induction i with
   | zero=>
    intro _;have:(QL []:Mt1)=λ_=>0:=by funext p;simp[QL]
    rw[Zbc,this,QT];exact Zal _
   | succ i ih=>
    intro hi;have e:ts[i]? =some (ts[i]'⋯):=Zz ⋯;have h1:=ih ⋯;have h2:=QdO w e;obtain⟨n1,n2,n3⟩:=w.mem e;have:=ZaB.mpr n2;omega
  have pos:∀i,i<=ts.length->∀j,j<m->0<=hpA m T0 f (ts.take i) j:=λi hi=>(w.leg tp hs i hi).ge0 tp hf;have total:Qo m (QL ts)=Qo m c:=Q2 λp hp=>eq p hp;refine QnV λa=>?_
  let E:Nat->Option (D×Bool)->En:=λi j7=>[slF (Qh m R L),slF (Qb m f),some (Q7 a (wkD k (nxt (u+i) (QO m (QG R L) (hpA m T0 f (ts.take i))))),true),slT (Qb m (hpA m T0 f (ts.take i))),slT (Qb m (QL (ts.take i))),some (Qae (ts.take i),true),slT (Qq (sel k (u+i) (QO m (QG R L) (hpA m T0 f (ts.take i))))),j7]
  refine QdN (Qcc (QA (r:=⟨[Qh m R L,.lst [Qb m f]],false,[]⟩) rfl (hn m R L [f] m0 λg hg=>by rw[Zl.mp hg];exact hf) rfl) ?_);refine QdN (Qy (Qcy (m:=m) (f:=f) (rs:=⟨[Qb m f],false,[]⟩) rfl rfl) ?_);refine QdN (Qy (QeV (z:=0) (n:=m) (r:=reI m) rfl rfl ⋯) ?_);refine QdN (Qy (r:=reT (.lst [])) rfl ?_);change Qcr _ [slF (Qh m R L),slF (Qb m f),some (Q7 a (wkD k u),true),slT (Qb m f),slT (Qb m (λ_=>0)),slT (.lst []),none,none] _;have h0:hpA m T0 f (ts.take 0)=f:=by
   funext j;unfold hpA;rw[Zbc];have:(QL []:Mt1)=λ_=>0:=by funext p;simp[QL]
   rw[this];unfold Qm;have z:(λi=>(0:Int)*T0 i j)=λ_=>0:=by funext i;rw[ZaC]
   rw[z,QT];omega
  have c0:QL (ts.take 0)=λ_=>0:=by funext p;simp[QL]
  refine QdN (Qhd (r:=⟨[Qh m R L,Qb m f],false,[3]⟩) (d:=Q7 a (wkD k u)) (q:=(Qq (sel k u (QO m (QG R L) f)),Q7 a (wkD k (nxt u (QO m (QG R L) f))))) rfl rfl rfl ?_ ?_)
  .show((ioM T "chosen" [Qh m R L,Qb m f] (wkD k u)).map λq=>(q.1,D.obj (.pin a) [q.2]))=_;rw[hM k u m R L f hk m0 hm hw hf];rfl
  have start:[slF (Qh m R L),slF (Qb m f),some (Q7 a (wkD k (nxt u (QO m (QG R L) f))),true),slT (Qb m f),slT (Qb m (λ_=>0)),slT (.lst []),slT (Qq (sel k u (QO m (QG R L) f))),none]=E 0 none:=by
   show _=[slF (Qh m R L),slF (Qb m f),some (Q7 a (wkD k (nxt (u+0) (QO m (QG R L) (hpA m T0 f (ts.take 0))))),true),slT (Qb m (hpA m T0 f (ts.take 0))),slT (Qb m (QL (ts.take 0))),some (Qae (ts.take 0),true),slT (Qq (sel k (u+0) (QO m (QG R L) (hpA m T0 f (ts.take 0))))),none];rw[h0,c0];rfl
  change Qcr _ [slF (Qh m R L),slF (Qb m f),some (Q7 a (wkD k (nxt u (QO m (QG R L) f))),true),slT (Qb m f),slT (Qb m (λ_=>0)),slT (.lst []),slT (Qq (sel k u (QO m (QG R L) f))),none] _;rw[start];refine Qta ?ap (λi ρ=>i<=ts.length/\Qo m (QL (ts.take i))<=2000/\∃j7,ρ=E i j7) ⟨ZS _,by rw[c0,QT];decide,none,rfl⟩ ?_ 2000 λi ρ ⟨h1,h2,_⟩=>by have:=lens i h1;omega
  case ap=>ac_rfl
  rintro i ρ ⟨hi,s2000,j7,rfl⟩;obtain⟨l,rl⟩:∃l,l=QO m (QG R L) (hpA m T0 f (ts.take i)):=⟨_,rfl⟩;have hE:E i j7=[slF (Qh m R L),slF (Qb m f),some (Q7 a (wkD k (nxt (u+i) l)),true),slT (Qb m (hpA m T0 f (ts.take i))),slT (Qb m (QL (ts.take i))),some (Qae (ts.take i),true),slT (Qq (sel k (u+i) l)),j7]:=by rw[rl]
  rw[hE];have hlt:i<ts.length:=by
   by_cases z:i<ts.length
   .exact z
   .exfalso;have:i=ts.length:= ⋯
    rw[this,Zav]at s2000;omega
  have hl:l≠[]:=by rw[rl];exact(w.st i _ (Zz hlt)).1
  have hne:sel k (u+i) l≠[]:=λz=>hl (QiX.mp z);refine⟨?_,?_⟩
  .show(D.lst ((sel k (u+i) l).map λ(p:Nat)=>D.int (p:Int))).tru=_;cases e:sel k (u+i) l with
   | nil=>exact absurd e hne
   | cons _ _=>rfl
  have et:ts[i]? =some ts[i]:=Zz hlt;obtain⟨t,ht⟩:∃t,t=ts[i]:=⟨_,rfl⟩;rw[← ht]at et;have es:sel k (u+i) l=t:=by rw[rl];exact(w.st i t et).2.symm
  have en:nxt (u+i) l=u+(i+1):=by unfold nxt;rw[if_neg hl];omega
  rw[es,en];have st:=QdO w et;have hp1:Qb m (Qm m T0 (hpA m T0 f (ts.take i)) (Qaa t))=Qb m (hpA m T0 f (ts.take (i+1))):=Qdi λj _=>by
   show Qm m T0 (Qm m T0 f (QL (ts.take i))) (Qaa t) j=_;rw[QpT];exact Qb5 j rfl λp _=>(Qet et p).symm
  have tst:∀b,decide ((2000:Int)<Qo m (QL (ts.take i))+t.length)=b->Qv (dOp gGt (Qx (dBf Qcj (Qa (Qd 4) Qc)) (dBf QaQ (Qa (Qd 6) Qc))) (dC (.int 2000))) [slF (Qh m R L),slF (Qb m f),some (Q7 a (wkD k (u+(i+1))),true),slT (Qb m (hpA m T0 f (ts.take i))),slT (Qb m (QL (ts.take i))),some (Qae (ts.take i),true),slT (Qq t),j7]=some b:=λb hb=>by
   refine QC (Qaj (d:= .bl b) (ra:=reI (Qo m (QL (ts.take i))+t.length)) (rb:=reI 2000) (Q6 (QlB (m:=m) (f:=QL (ts.take i)) (r:=⟨Qb m (QL (ts.take i)),true,[4]⟩) rfl rfl) rfl (Qjj (l:=t) (r:=⟨Qq t,true,[6]⟩) rfl rfl) rfl) rfl ?_) rfl;show some (D.bl (decide ((2000:Int)<Qo m (QL (ts.take i))+t.length)))=_;rw[hb]
  by_cases h2:(2000:Int)<Qo m (QL (ts.take i))+t.length
  .refine .inl (Qaz ?_ (Qnj (b:=true) (tst true (decide_eq_true h2)) (λ_=>Qaz Qap (QhK rfl (Zk _))) (λh=>by cases h)))
   ac_rfl
  have i2000:(i:Int)<=2000:=by have:=lens i hi;omega
  refine .inr ?_;refine Qw (QX (b:=false) (tst false (decide_eq_false h2)) (λz=>by cases z) (λ_=>Qr ?_));refine run_seq (Qy (QrH (m:=m) (t:=t) (R:=R) (L:=L) rfl rfl hm) ?_);change Nx _ (.nx [slF (Qh m R L),slF (Qb m f),some (Q7 a (wkD k (u+(i+1))),true),slT (Qb m (hpA m T0 f (ts.take i))),slT (Qb m (QL (ts.take i))),some (Qae (ts.take i),true),slT (Qq t),slT (Qb m (Qaa t))]);have eaf:=ha m R L (hpA m T0 f (ts.take i)) (Qaa t) hm ⋯ g1 g2;rw[← rT,hp1]at eaf;refine run_seq (Qy (QA (r:=⟨[Qh m R L,Qb m (hpA m T0 f (ts.take i)),Qb m (Qaa t)],false,[3,7]⟩) rfl eaf rfl) ?_);change Nx _ (.nx [slF (Qh m R L),slF (Qb m f),some (Q7 a (wkD k (u+(i+1))),true),slT (Qb m (hpA m T0 f (ts.take (i+1)))),slT (Qb m (QL (ts.take i))),some (Qae (ts.take i),true),slT (Qq t),slT (Qb m (Qaa t))]);refine run_seq (Qy (r:=reT (Qb m (QL (ts.take (i+1))))) ?_ ?_)
  .refine(QaZ (toD:=λ(p:Nat)=>D.tup [.int (QL (ts.take i) p),.int (Qaa t p)]) (out:=λ(p:Nat)=>D.int (QL (ts.take (i+1)) p)) (List.range m) (Qfp (m:=m) (f:=λp=>D.int (QL (ts.take i) p)) (g:=λp=>D.int (Qaa t p)) rfl rfl rfl rfl) rfl λp hp=>⟨[none,slI (QL (ts.take i) p),slI (Qaa t p)],rfl,reI (QL (ts.take (i+1)) p),?_,rfl,rfl⟩).trans rfl;rw[Qet et];exact Q6 rfl rfl rfl rfl
  change Nx _ (.nx [slF (Qh m R L),slF (Qb m f),some (Q7 a (wkD k (u+(i+1))),true),slT (Qb m (hpA m T0 f (ts.take (i+1)))),slT (Qb m (QL (ts.take (i+1)))),some (Qae (ts.take i),true),slT (Qq t),slT (Qb m (Qaa t))]);refine run_seq (QoS (xs:=(ts.take i).map Qq) (d:=Qq t) rfl (Qmr (A:=t) (rs:=⟨[Qq t],true,[6]⟩) rfl rfl) (by rw[Zp,ZaE];omega) ?_);have etu:D.lst ((ts.take i).map Qq++[Qq t])=Qae (ts.take (i+1)):=by
   unfold Qae;rw[Zbs,et,ZP];rfl
  rw[etu];change Nx _ (.nx [slF (Qh m R L),slF (Qb m f),some (Q7 a (wkD k (u+(i+1))),true),slT (Qb m (hpA m T0 f (ts.take (i+1)))),slT (Qb m (QL (ts.take (i+1)))),some (Qae (ts.take (i+1)),true),slT (Qq t),slT (Qb m (Qaa t))]);obtain⟨l',rl'⟩:∃l',l'=QO m (QG R L) (hpA m T0 f (ts.take (i+1))):=⟨_,rfl⟩;refine Qw (Qhd (r:=⟨[Qh m R L,Qb m (hpA m T0 f (ts.take (i+1)))],false,[3]⟩) (d:=Q7 a (wkD k (u+(i+1)))) (q:=(Qq (sel k (u+(i+1)) l'),Q7 a (wkD k (nxt (u+(i+1)) l')))) rfl rfl rfl ?_ (Qr ?_))
  .show((ioM T "chosen" [Qh m R L,Qb m (hpA m T0 f (ts.take (i+1)))] (wkD k (u+(i+1)))).map λq=>(q.1,D.obj (.pin a) [q.2]))=_;rw[hM k (u+(i+1)) m R L _ hk m0 hm hw (pos (i+1) ⋯),rl'];rfl
  .refine⟨⋯,⋯,slT (Qb m (Qaa t)),?_⟩;rw[rl'];rfl
end HS
namespace HS
open PySem PySem.Spec L2 PyProof.Rows PySem.NumText
section
variable {fa fb:DE}{ρ:En}{ra rb r:R}
end
end HS
namespace HS
open PySem L2
noncomputable def spr(f:Mt1):Nat->Int
 | 0=>1
 | k+1=>spr f k*f k
noncomputable def QdH(i:Nat)(w:Int×Int×Bool):Int:=isI i w.1+if w.2.2=true then 0 else isI i w.2.1
noncomputable def Qay(W:List (Int×Int×Bool))(i:Nat):Int:=(W.map (QdH i)).sum
def Qht(W:List (Int×Int×Bool))(w:Int×Int×Bool)(i:Nat):Qay (W++[w]) i=Qay W i+QdH i w:=by
 unfold Qay;rw[ZP,ZaA];simp
def Qhj(W:List (Int×Int×Bool))(w:Int×Int×Bool)(i:Nat):Qay (w::W) i=QdH i w+Qay W i:=by
 unfold Qay;rw[ZA,Zag]
def Qio(i:Nat):∀W:List (Int×Int×Bool),QG (Qa4 W) (QaO W) i=Qay W i
 | []=>rfl
 | w::W=>by
  have ih:=Qio i W;rw[Qhj,← ih];unfold QG Qa4 QaO QdH;obtain⟨a,b,l⟩:=w;cases l with
  | true=>
   simp only[List.filter_cons,Bool.not_true,Bool.false_eq_true,if_false,if_true,ZA,Zag,Qn4];omega
  | false=>
   simp only[List.filter_cons,Bool.not_false,Bool.false_eq_true,if_false,if_true,ZA,Zag,QdZ];have e:isI i (if b<a then b else a)+isI i (if b>a then b else a)=isI i a+isI i b:=by
    by_cases h1:b<a
    .rw[if_pos h1,if_neg ⋯];omega
    .rw[if_neg h1];by_cases h2:b>a
     .rw[if_pos h2]
     .have:a=b:= ⋯
      rw[if_neg h2,this]
   omega
def Qsa(i:Nat)(a:Int):0<=isI i a/\isI i a<=1:=by unfold isI;split<;>omega
def QtR(i:Nat)(w:Int×Int×Bool):0<=QdH i w/\QdH i w<=2:=by
 have h1:=Qsa i w.1;have h2:=Qsa i w.2.1;unfold QdH;split<;>omega
def QmC(i:Nat):∀W:List (Int×Int×Bool),0<=Qay W i/\Qay W i<=2*(W.length:Int)
 | []=>by unfold Qay;simp
 | w::W=>by
  have ih:=QmC i W;have h:=QtR i w;rw[Qhj,Zj];omega
def QoR{f:Mt1}{a:Int}(h:0<=a)(k:Nat):up f a.toNat (f a.toNat+1) k=f k+isI k a:=by
 unfold up isI;by_cases e:k=a.toNat
 .rw[if_pos e,if_pos ⋯,e]
 .rw[if_neg e,if_neg ⋯];omega
def Qic{f g:Mt1}:∀{n:Nat},(∀i,i<n->f i=g i)->spr f n=spr g n
 | 0,_=>rfl
 | n+1,h=>by
  unfold spr;rw[Qic λi hi=>h i ⋯,h n ⋯]
def Qip(i:Nat):∀W:List (Int×Int×Bool),Qay W.reverse i=Qay W i
 | []=>rfl
 | w::W=>by rw[ZaT,Qht,Qip i W,Qhj,Int.add_comm]
end HS
namespace HS
open PySem PySem.Spec L2 PyProof.Rows PySem.NumText
section
variable {fa fb fc:DE}{ρ:En}{ra rb r:R}
end
def Ql8(d:Den):Prop:=∀(m:Nat) (W:List (Int×Int×Bool)) (room:Int),m<=1000->W.length<=100000->(∀w∈W,GoodW m w)->d [.int m,Qai W,.int room]=some (.bl (decide (spr (Qay W) m<=room)),true)
def Qvn:Ql8 (Qu 9 QhU):=λm W room hm hl hg=>by
 refine QaN ?_;refine rsa (QeV (n:=m+1) (Q6 (a:=(m:Int)) (b:=1) rfl rfl rfl rfl) rfl ⋯) ?_;refine QfG (P:=λρ=>∃f j3 j4 j5,(∀k,f k=Qay W k)/\ρ=[slI m,slF (Qai W),slI room,slT (Qb (m+1) f),j3,j4,j5,none,none]) ?_ ?_
 .refine QbM (toD:=Qc4) W (λi ρ=>∃f j3 j4 j5,(∀k,f k=Qay (W.take i) k)/\ρ=[slI m,slF (Qai W),slI room,slT (Qb (m+1) f),j3,j4,j5,none,none]) (ir:=⟨W.map Qc4,[]⟩) rfl rfl ⟨λ_=>0,none,none,none,λk=>rfl,rfl⟩ ?_ ?_
  .rintro i w ρ hi ⟨f,j3,j4,j5,hf,rfl⟩;obtain⟨⟨h1,h2,h3,h4,h5⟩,h6⟩:=hg w (Zak hi);have h1:0<=w.1:=h1;have h2:0<=w.2.1:=h2;have et:W.take (i+1)=W.take i++[w]:=by rw[List.take_add_one,hi];rfl
   refine⟨_,rfl,?_⟩;refine run_seq (Qqc (i:=w.1) rfl rfl h1 ⋯ ?_);refine run_seq (QX (b:= !w.2.2) (QbY (QC (b:=w.2.2) rfl rfl)) (λhb=>run_seq (Qqc (i:=w.2.1) rfl rfl h2 ⋯ (Qr (Qr ⟨_,_,_,_,λk=>?_,rfl⟩)))) (λhb=>Qr (Qr ⟨_,_,_,_,λk=>?_,rfl⟩)))
   .have hb:w.2.2=false:=by simpa using hb
    rw[et,Qht,QoR h2,QoR h1,hf k];unfold QdH;rw[hb,if_neg ZO];omega
   .have hb:w.2.2=true:=by simpa using hb
    rw[et,Qht,QoR h1,hf k];unfold QdH;rw[hb,if_pos rfl];omega
  .rintro ρ ⟨f,j3,j4,j5,hf,rfl⟩;rw[Zav]at hf;exact⟨f,j3,j4,j5,hf,rfl⟩
 rintro ρ ⟨f,j3,j4,j5,hf,rfl⟩;refine rsa (d:= .int 1) rfl ?_;refine QfG (P:=λρ=>∃j7,ρ=[slI m,slF (Qai W),slI room,slT (Qb (m+1) f),j3,j4,j5,slI (spr f m),j7]) ?_ ?_
 .refine QbM (toD:=λ(k:Nat)=> .int (f k)) (List.range m) (λi ρ=>∃j7,ρ=[slI m,slF (Qai W),slI room,slT (Qb (m+1) f),j3,j4,j5,slI (spr f i),j7]) (QdS (QpQ (m:=m+1) (n:=m) (f:=f) rfl rfl rfl rfl ⋯) rfl) rfl ⟨none,rfl⟩ ?_ ?_
  .rintro i i' ρ hi ⟨j7,rfl⟩;obtain⟨him,rfl⟩:=Qkb hi;have b:=QmC i W;refine⟨_,rfl,?_⟩;refine run_seq (Qy (Qb2 (a:=spr f i) (b:=f i) (ra:=reI (spr f i)) rfl rfl (rb:=reI (f i)) rfl rfl (Qdd (by rw[hf i];omega))) (Qr ?_));rw[QaA];exact⟨_,rfl⟩
  .rintro ρ ⟨j7,rfl⟩;rw[ZJ];exact⟨_,rfl⟩
 rintro ρ ⟨j7,rfl⟩;refine Q8 (Qaj (d:= .bl (decide (spr f m<=room))) (ra:=reI (spr f m)) (rb:=reI room) rfl rfl rfl) ⟨?_,rfl⟩;rw[Qic λi _=>hf i]
end HS
namespace HS
open PySem L2
section
variable {m:Nat}{R L:Lpp}{f c:Mt1}
def Qs7(hw:Qbc m R L){p q:Nat}(hp:p<m)(hq:q<m){s:Int×Int}(hs:s∈Ql R L)(e1:s.1=p)(e2:s.2=q)(hpq:p≠q):1<=Qt m (Ql R L) p q:=by
 obtain⟨g1,g2,_⟩:=hw.good;have gs:=QbG g1 g2;rw[Qcb hp hq λs z=>⟨(gs s z).1,(gs s z).2.1⟩];have nn:∀t∈Ql R L,0<=hit p q t:=λt _=>by
  unfold hit;rw[if_neg (λz:t.1=p/\p=q=>hpq z.2)];split<;>omega
 obtain⟨A,B,e⟩:=List.append_of_mem hs;have h1:=Qfk A λt ht=>nn t (by rw[e];exact Ze _ ht);have h2:=Qfk B λt ht=>nn t (by rw[e];exact Zd _ (Zc _ ht));have h3:hit p q s=1:=by
  unfold hit;rw[if_pos ⟨e1,e2⟩,if_neg (λz:s.1=p/\p=q=>hpq z.2)];omega
 rw[e,ZP,ZaA,ZA,Zag,h3];omega
def Qu1(hw:Qbc m R L)(f0:∀j,j<m->0<=f j)(td:Told m (Qt m (Ql R L)) f c){p:Nat}(hp:p<m){s:Int×Int}(hs:s∈Ql R L)(e1:s.1=p)(e2:s.2=m):c p<=Qo m f:=by
 obtain⟨g1,g2,_⟩:=hw.good;have gs:=QbG g1 g2;have c0:=td.leg.nonneg;have row:∀i,i<m->Qo m (λj=>Qt m (Ql R L) i j)=((Ql R L).map λt:Int×Int=> -(if t.1=i/\t.2=m then(1:Int)else 0)).sum:=λi hi=>by
  rw[Q2 (g:=λj=>((Ql R L).map (hit i j)).sum) λj hj=>Qcb hi hj λs z=>⟨(gs s z).1,(gs s z).2.1⟩,QfU];congr 1;exact ZQ λt ht=>Qui hi (gs t ht)
 have neg:∀i,i<m->Qo m (λj=>Qt m (Ql R L) i j)<=0:=λi hi=>by
  rw[row i hi];have:=Qhs (g:=λt:Int×Int=> -(if t.1=i/\t.2=m then(1:Int)else 0)) (X:=0) (Ql R L) λt _=>by split<;>omega
  omega
 have one:Qo m (λj=>Qt m (Ql R L) p j)<= -1:=by
  rw[row p hp];have:=Qfe (g:=λt:Int×Int=> -(if t.1=p/\t.2=m then(1:Int)else 0)) (X:=0) (Y:= -1) (Ql R L) (λt _=>by split<;>omega) ⟨s,hs,by rw[if_pos ⟨e1,e2⟩];omega⟩;omega
 have tot:Qo m (λj=>Qm m (Qt m (Ql R L)) f c j)=Qo m f+Qo m (λi=>c i*Qo m (λj=>Qt m (Ql R L) i j)):=by
  unfold Qm;rw[Qas];congr 1;rw[QsO];exact Q2 λi _=>by rw[← Qj2]
 have pos:0<=Qo m (λj=>Qm m (Qt m (Ql R L)) f c j):=by
  have:=Qbd (m:=m) (f:=λ_=>(0:Int)) λj hj=>td.pos j hj;rw[QT]at this;exact this
 have up:Qo m (λi=>c i*Qo m (λj=>Qt m (Ql R L) i j))<=Qo m (λi=>(if i=p then-(c p)else 0)*1):=Qbd λi hi=>by
  by_cases e:i=p
  .subst e;rw[if_pos rfl];have:=ZX one (c0 i);omega
  .rw[if_neg e];have:=ZX (neg i hi) (c0 i);omega
 rw[Qaq hp]at up;omega
def QwG(hw:Qbc m R L)(f0:∀j,j<m->0<=f j)(td:Told m (Qt m (Ql R L)) f c){p q:Nat}(hp:p<m)(hq:q<m)(hpq:p≠q)(h1:1<=Qt m (Ql R L) p q):c p+1<=QG R L q*(c q+1):=by
 have c0:=td.leg.nonneg;have st:=td.stb q hq;have sq:=hw.neg hq;have low:f q+c q*Qt m (Ql R L) q q+c p<=Qm m (Qt m (Ql R L)) f c q:=by
  unfold Qm;have e:c q*Qt m (Ql R L) q q+c p=Qo m (λi=>(if i=q then c q*Qt m (Ql R L) q q else 0)*1+(if i=p then c p else 0)*1):=by
   rw[Qas,Qaq hq,Qaq hp];omega
  have le:=Qbd (m:=m) (f:=λi=>(if i=q then c q*Qt m (Ql R L) q q else 0)*1+(if i=p then c p else 0)*1) (g:=λi=>c i*Qt m (Ql R L) i q) λi hi=>by
   by_cases e1:i=q
   .subst e1;rw[if_pos rfl,if_neg (Ne.symm hpq)];omega
   .rw[if_neg e1];by_cases e2:i=p
    .subst e2;rw[if_pos rfl];have:=ZX h1 (c0 i);omega
    .rw[if_neg e2];have:=ZaH (c0 i) (hw.tp.pos i q hi hq e1);omega
  omega
 have fq:=f0 q hq;rw[Zbv,Zbt];have e:QG R L q*c q= -(c q*Qt m (Ql R L) q q):=by
  rw[← sq,Int.sub_mul,ZaC,ZaP (c q)];omega
 omega
noncomputable def Qdj(s:Mt1):List Nat->Int
 | []=>1
 | p::l=>s p*Qdj s l
def Qgb{s:Mt1}:∀{l:List Nat},(∀p∈l,1<=s p)->1<=Qdj s l
 | [],_=>Zal _
 | p::l,h=>by
  have h1:=h p Zf;have h2:=Qgb (l:=l) λq hq=>h q (Zc _ hq);have:=Int.mul_le_mul h1 h2 ⋯ ⋯;show 1<=s p*Qdj s l;omega
def Qhg{s:Mt1}:∀(n:Nat) (l:List Nat),l.Nodup->(∀p∈l,p<n)->(∀p,p<n->1<=s p)->Qdj s l<=spr s n
 | 0,l,_,h,_=>by
  cases l with
  | nil=>exact Zal _
  | cons p l=>exact absurd (h p Zf) ⋯
 | n+1,l,nd,h,hs=>by
  show Qdj s l<=spr s n*s n;have s1:=hs n ⋯;by_cases hn:n∈l
  .obtain⟨A,B,e⟩:=List.append_of_mem hn;have sw:Qdj s l=s n*Qdj s (A++B):=by
    rw[e];clear e h nd hn
    induction A with
    | nil=>rfl
    | cons a A ih=>
     show s a*Qdj s (A++n::B)=s n*(s a*Qdj s (A++B));rw[ih,← ZaQ,← ZaQ,ZaP (s a)]
   have nd2:(A++B).Nodup/\n∉A++B:=by
    rw[e]at nd;obtain⟨x,y,z⟩:=ZF.mp nd;obtain⟨y1,y2⟩:=ZV.mp y;refine⟨ZF.mpr ⟨x,y2,λa ha b hb=>z a ha b (Zc _ hb)⟩,λq=>?_⟩;rcases Zr.mp q with q | q
    .exact z n q n Zf rfl
    .exact y1 q
   have ih:=Qhg n (A++B) nd2.1 (λp hp=>by
    have h1:=h p (by rw[e];rcases Zr.mp hp with q | q;exact Ze _ q;exact Zd _ (Zc _ q));have:p≠n:=λz=>nd2.2 (z▸hp);omega) λp hp=>hs p ⋯
   rw[sw,ZaP];exact Zaw ih ⋯
  .have ih:=Qhg n l nd (λp hp=>by
    have h1:=h p hp;have:p≠n:=λz=>hn (z▸hp);omega) λp hp=>hs p ⋯
   have p1:1<=Qdj s l:=Qgb λp hp=>hs p (h p hp);have:=ZX s1 (show 0<=spr s n by omega);omega
def Qrv(hw:Qbc m R L)(f0:∀j,j<m->0<=f j)(td:Told m (Qt m (Ql R L)) f c):∃r:Nat->Nat,(∀p,p<m->∃A:List Nat,A.Nodup/\(∀q∈A,q<m/\r q<r p)/\c p+1<=(Qo m f+1)*Qdj (QG R L) A):=by
 obtain⟨g1,g2,_⟩:=hw.good;have gs:=QbG g1 g2;have esc:Qow m (Ql R L):=by
  obtain⟨W,h1,_,_,rfl,rfl⟩:=hw.ex;exact Qmz h1
 obtain⟨r,r0,hr⟩:=Qp9 gs esc;have nn:0<=Qo m f:=by
  have:=Qbd (m:=m) (f:=λ_=>(0:Int)) λj hj=>f0 j hj;rw[QT]at this;exact this
 refine⟨r,λp=>?_⟩;obtain⟨n,hn⟩:∃n,n=r p:=⟨_,rfl⟩
 induction n using Nat.strongRecOn generalizing p with
 | _ n ih=>
  intro hp;obtain⟨s,hs,e1,e2⟩:=hr p hp;obtain⟨b1,b2,b3,b4,b5⟩:=gs s hs;by_cases hm:s.2=m
  .have:=Qu1 hw f0 td hp hs e1 hm;exact⟨[],Zad,λq hq=>by simp at hq,by show _<=_*1;omega⟩
  .have hq:s.2.toNat<m:= ⋯
   have hpq:p≠s.2.toNat:=λz=>by rw[← z]at e2;omega
   have h1:=QwG hw f0 td hp hq hpq (Qs7 hw hp hq hs e1 ⋯ hpq);obtain⟨A,a1,a2,a3⟩:=ih (r s.2.toNat) ⋯ s.2.toNat rfl hq;refine⟨s.2.toNat::A,ZV.mpr ⟨λz=>?_,a1⟩,λq hq'=>?_,?_⟩
   .have:=(a2 _ z).2;omega
   .rcases Zn.mp hq' with rfl | z
    .exact⟨hq,e2⟩
    .have:=a2 q z;exact⟨this.1,⋯⟩
   .show c p+1<=(Qo m f+1)*(QG R L s.2.toNat *Qdj (QG R L) A);have sp:=hw.Qkl hq;have h2:=ZX a3 (show 0<=QG R L s.2.toNat by omega);rw[Int.mul_left_comm];omega
def Quw(hw:Qbc m R L)(m0:0<m)(f0:∀j,j<m->0<=f j)(td:Told m (Qt m (Ql R L)) f c){P N:Int}(hP:spr (QG R L) m<=P)(hN:Qo m f<=N)(N0:0<=N):Qo m c+m<=(N+1)*(1+(m-1)*P):=by
 obtain⟨r,hr⟩:=Qrv hw f0 td;have nn:0<=Qo m f:=by
  have:=Qbd (m:=m) (f:=λ_=>(0:Int)) λj hj=>f0 j hj;rw[QT]at this;exact this
 have sp:∀p,p<m->1<=QG R L p:=λp hp=>by have:=hw.Qkl hp;omega
 obtain⟨n,⟨p0,hp0,hn⟩,least⟩:=Qj3 (P:=λn=>∃p,p<m/\r p=n) ⟨r 0,0,m0,rfl⟩;obtain⟨A0,a1,a2,a3⟩:=hr p0 hp0;have eA:A0=[]:=by
  cases A0 with
  | nil=>rfl
  | cons q A=>exact absurd ⟨q,(a2 q Zf).1,rfl⟩ (least (r q) (by rw[← hn];exact(a2 q Zf).2))
 subst eA;have P1:1<=P:=Zbp (Qgb (s:=QG R L) (l:=[]) (λp hp=>by simp at hp)) (Zbp (Qhg m [] Zad (λp hp=>by simp at hp) sp) hP);have e0:c p0+1<=N+1:=by
  have:Qdj (QG R L) []=1:=rfl;rw[this]at a3;omega
 have each:∀p,p<m->c p+1<=(N+1)*P:=λp hp=>by
  obtain⟨A,b1,b2,b3⟩:=hr p hp;have q1:=Qhg m A b1 (λq hq=>(b2 q hq).1) sp;have q2:=Qgb (s:=QG R L) (l:=A) λq hq=>sp q (b2 q hq).1;have:=Int.mul_le_mul (show Qo m f+1<=N+1 by omega) (Zbp q1 hP) ⋯ ⋯;omega
 have le:=Qbd (m:=m) (f:=λp=>c p+1) (g:=λp=>(N+1)*P+(if p=p0 then N+1-(N+1)*P else 0)*1) λp hp=>by
  by_cases e:p=p0
  .subst e;rw[if_pos rfl];omega
  .rw[if_neg e];have:=each p hp;omega
 have cst:∀(k:Nat) (v:Int),Qo k (λ_=>v)=k*v:=λk v=>by
  induction k with
  | zero=>simp[Qo]
  | succ k ih=>rw[QS,ih,Int.natCast_succ,ZaL];omega
 rw[Qas,Qas,Qaq hp0,cst,cst]at le;have ex:(N+1)*(1+((m:Int)-1)*P)=(m:Int)*((N+1)*P)+(N+1-(N+1)*P):=by
  rw[Zbv,Zbt,Int.sub_mul,Int.mul_sub,ZaM,← ZaQ,← ZaQ,ZaP (N+1) (m:Int)];omega
 rw[ex];omega
end
def Qq3{a b c d:Int}(ha:1<=a)(hb:1<=b)(hc:1<=c)(hd:1<=d)(h:a+b+c+d<=7):a*b*c*d<=36:=by
 rcases(by omega:a=1∨a=2∨a=3∨a=4)with rfl | rfl | rfl | rfl<;>rcases(by omega:b=1∨b=2∨b=3∨b=4)with rfl | rfl | rfl | rfl<;>rcases(by omega:c=1∨c=2∨c=3∨c=4)with rfl | rfl | rfl | rfl<;>omega
def Qo3{m:Nat}(x:Int):Qo m (λi=>isI i x)<=1/\(x=m->Qo m (λi=>isI i x)=0):=by
 have key:∀k:Nat,Qo k (λi=>isI i x)=if 0<=x/\x<k then 1 else 0:=λk=>by
  induction k with
  | zero=>rw[if_neg ⋯];rfl
  | succ k ih=>
   rw[QS,ih];unfold isI;by_cases e:x=k
   .subst e;rw[if_neg ⋯,if_pos rfl,if_pos ⋯];rfl
   .rw[if_neg e];by_cases z:0<=x/\x<k
    .rw[if_pos z,if_pos ⋯];rfl
    .rw[if_neg z,if_neg ⋯];rfl
 refine⟨by rw[key];split<;>omega,λe=>by rw[key,if_neg ⋯]⟩
def Qrx{m:Nat}{W:List (Int×Int×Bool)}(m0:0<m)(m4:m<=4)(hl:W.length=m)(hg:∀w∈W,GoodW m w)(esc:Esc m W)(pos:∀i,i<m->1<=Qay W i):spr (Qay W) m<=36:=by
 have each:∀w:Int×Int×Bool,Qo m (λi=>QdH i w)<=2/\(w.2.1=m->Qo m (λi=>QdH i w)<=1):=λw=>by
  unfold QdH;rw[Qas];have h1:=Qo3 (m:=m) w.1;have h2:=Qo3 (m:=m) w.2.1;by_cases e:w.2.2=true
  .have z:(λi=>if w.2.2=true then(0:Int)else isI i w.2.1)=λ_=>0:=by funext i;rw[if_pos e]
   rw[z,QT];exact⟨⋯,λ_=> ⋯⟩
  .have z:(λi=>if w.2.2=true then(0:Int)else isI i w.2.1)=λi=>isI i w.2.1:=by funext i;rw[if_neg e]
   rw[z];exact⟨⋯,λq=>by have:=h2.2 q;omega⟩
 obtain⟨w0,hw0,_,_,hp⟩:=esc (λ_=>True) ⟨0,m0,trivial⟩;have hp:w0.2.1=m:=hp.elim id λz=>absurd trivial z;have tot:Qo m (Qay W)<=2*m-1:=by
  have e:Qo m (Qay W)=(W.map λw=>Qo m λi=>QdH i w).sum:=by
   unfold Qay;exact QfU m (λi w=>QdH i w) W
  rw[e];have:=Qfe (g:=λw=>Qo m λi=>QdH i w) (X:=2) (Y:=1) W (λw _=>(each w).1) ⟨w0,hw0,(each w0).2 hp⟩;rw[hl]at this;omega
 obtain⟨s,es⟩:∃s,s=Qay W:=⟨_,rfl⟩;rw[← es]at tot pos ⊢;rcases(by omega:m=1∨m=2∨m=3∨m=4)with rfl | rfl | rfl | rfl
 .have:=pos 0 ∅;simp only[QS,show Qo 0 s=0 from rfl]at tot;show 1*s 0<=36;omega
 .have h0:=pos 0 ∅;have h1:=pos 1 ∅;simp only[QS,show Qo 0 s=0 from rfl]at tot;have:=Qq3 h0 h1 (Zal 1) (Zal 1) ⋯;show 1*s 0*s 1<=36;rw[ZaM];omega
 .have h0:=pos 0 ∅;have h1:=pos 1 ∅;have h2:=pos 2 ∅;simp only[QS,show Qo 0 s=0 from rfl]at tot;have:=Qq3 h0 h1 h2 (Zal 1) ⋯;show 1*s 0*s 1*s 2<=36;rw[ZaM];omega
 .have h0:=pos 0 ∅;have h1:=pos 1 ∅;have h2:=pos 2 ∅;have h3:=pos 3 ∅;simp only[QS,show Qo 0 s=0 from rfl]at tot;have:=Qq3 h0 h1 h2 h3 ⋯;show 1*s 0*s 1*s 2*s 3<=36;rw[ZaM];omega
def QrC(e:Qcd):Prop:=∀ps:List Int,e [.obj (.ins "Picked" []) [],QbS ps]=some (.non,wkD (.pick ps) 0)
def QyX{r:IoR}{fs:List (Option DE)}{ρ:En}{a b o:HS.R}{q:D×D}{d:D}(hn:r.n=3)(hp:r.p=2)(e:evs fs ρ=some [some a,some b,some o])(hf:fs.all Option.isSome=true)(hl:fs.length=3)(of:o.fr=true)(om:o.M=[])(oi:isRef o.d=true)(h:r.den [a.d,b.d,o.d]=some q)(hq:q.1=d):QoG r fs ρ=some ⟨d,true,[]⟩:=by
 unfold QoG;rw[e,Za,hp];show(if(o.fr && o.M.isEmpty && isRef o.d && fs.all Option.isSome && decide (fs.length=r.n))=true then _ else _)=_;rw[of,om,oi,hf,hl,hn];show(r.den [a.d,b.d,o.d]).map _=_;rw[h,← hq];rfl
noncomputable def QeJ(Qbn:Den)(QK:Den)(QU:Den)(x_need_heaps:List D->Option Str):DX:=(QQ (Qbj (Qj 2 QU [] (Qa vv0 (Qa (QH (Qa vv1 Qc)) Qc)))) (QbH 2 x_need_heaps (Qa vv0 (Qa (QH (Qa vv1 Qc)) Qc))) (QQ (Qn 2 (Qj 1 QK [] (Qa vv0 Qc))) xNo (QQ (Qn 3 (Qac (QH (Qa kk0 Qc)) (Qz vv0 kk0))) xNo (QQ (Qn 4 (Qac (QH (Qa kk0 Qc)) (Qz vv0 kk0))) xNo (QQ (Qn 5 (Qbs (Qa vv3 (Qa vv4 Qc)))) xNo (QQ (Qn 6 (dBf QhI (Qa vv1 Qc))) xNo (QQ (Qbm (Qeq (dOp QaW (Qi2 vv6) kk1) (QcW kk1) (QcW kk1)) (.nm 7) (Qe (Qn 3 (QR (QaD (Qz vv5 kk0) vv1) (.tp [1,2]) [none,none,none,some 7] Qag (Qx (Qac kk2 vv1) (dOp QN (dOp Qiq vv2 vv3) kk2)))) (Qe (Qn 4 (QR (Qan (Qz vv5 kk1)) (.nm 1) [none,none] Qag (Qac kk2 vv1))) (Qe (Qn 5 (Qj 3 Qbn [] (Qa vv2 (Qa vv3 (Qa vv4 Qc))))) Qi)))) (Qgk (Qeq (dOp QaW (Qi2 vv6) kk1) (QcW kk1) (QcW kk1)) (.nm 7) (Qe (Qn 3 (QR (QaD (Qz vv5 kk0) vv1) (.tp [1,2]) [none,none,none,some 7] Qag (Qx (Qac kk2 vv1) (dOp QN (dOp Qiq vv2 vv3) kk2)))) (Qe (Qn 4 (QR (Qan (Qz vv5 kk1)) (.nm 1) [none,none] Qag (Qac kk2 vv1))) (Qe (Qn 5 (Qj 3 Qbn [] (Qa vv2 (Qa vv3 (Qa vv4 Qc))))) Qi))) (QQ (Qn 3 (QR (QaD (Qz vv5 kk0) vv1) (.tp [1,2]) [none,none,none,some 7] Qag (Qx (Qac kk2 vv1) (dOp QN (dOp Qiq vv2 vv3) kk2)))) xNo (QQ (Qn 4 (QR (Qan (Qz vv5 kk1)) (.nm 1) [none,none] Qag (Qac kk2 vv1))) xNo (QQ (Qn 5 (Qj 3 Qbn [] (Qa vv2 (Qa vv3 (Qa vv4 Qc))))) xNo xNo)))) (QQ (QW vv5) xNo xNo))))))))
local macro_rules | `(tactic|ac_rfl)=> `(tactic|repeat (first | exact Qcl | exact Qap | assumption | apply QbE | apply QcA | apply Qbt | apply Qam | apply Qbr | apply ap_ret))
def QqR{dh dt ds:Den}{xh:List D->Option Str}(h:ApF dh xh):ApF (Qu 8 (Qgv dh dt ds)) (Qa9 8 (QeJ ds dt dh xh)):=Qi8 (by unfold Qgv QeJ;ac_rfl)
structure Qhx (xd:List D->Option Str):Prop where
 row:∀(m:Int) (R L:Lpp) (xs:List D),(xs.length:Int)≠m->xd [Qh m R L,.lst xs]=some ("NoRow" :Str)
 heap:∀(m:Nat) (R L:Lpp) (f:Mt1) (j:Nat),j<m->f j<0->xd [Qh m R L,Qb m f]=some ("NoHeap" :Str)
def Qpp{ds dt dh:Den}{xh:List D->Option Str}(h1:ApF dh xh)(hx:QkJ xh):Qhx (Qa9 8 (QeJ ds dt dh xh)) where
 row:=λm R L xs hl=>Qfd (Qaz (Qam h1) (QdV (r:=⟨[Qh m R L,.lst [.lst xs]],_,_⟩) rfl rfl (hx.row m R L xs hl)))
 heap:=λm R L f j hj hf=>Qfd (Qaz (Qam h1) (QdV (r:=⟨[Qh m R L,.lst [Qb m f]],_,_⟩) rfl rfl (hx.heap m R L f j hj hf)))
noncomputable def Qck(QaI:Den)(QK:Den)(QaE:Den)(QaG:Den)(x_still:List D->Option Str)(x_need_plain:List D->Option Str):DX:=(QQ (Qbj (Qj 1 QaG [] (Qa vv0 Qc))) (QbH 1 x_need_plain (Qa vv0 Qc)) (QQ (Qn 2 (Qj 2 QaE [] (Qa vv0 (Qa vv1 Qc)))) (QbH 2 x_still (Qa vv0 (Qa vv1 Qc))) (QQ (Qn 3 (Qj 1 QK [] (Qa vv0 Qc))) xNo (QQ (Qn 4 (QR (Qc0 (Qz vv2 kk1)) (.tp [1,2]) [none,none,none] (Qv (dOp gGt vv2 kk0)) vv1)) xNo (QQ (Qn 5 (QH Qc)) xNo (QQ (Qbq (Qv vv4) (Qe (Qn 6 (QR (Qan vv4) (.nm 1) [none,none,some 4,some 2,some 3] (Qv (dOp gGe (Qz (Qz vv3 kk0) vv1) (Qj 3 QaI [] (Qa (Qz vv4 vv1) (Qa vv1 (Qa vv2 Qc)))))) vv1)) (Qe (QjU 5 QaP vv6) (Qe (Qn 4 (QR (Qan vv4) (.nm 1) [none,none,some 6] (Qv (dOp (gIn true) vv1 vv2)) vv1)) Qi)))) xNo (QQ (QW vv5) xNo xNo)))))))
def Qrm{dp dst dt da:Den}{xs xp:List D->Option Str}(h1:ApF dst xs)(h2:ApF dp xp):ApF (Qu 7 (QcD dp dst dt da)) (Qa9 7 (Qck da dt dst dp xs xp)):=Qi8 (by unfold QcD Qck;ac_rfl)
structure Qha (xd:List D->Option Str):Prop where
 plain:∀(m:Int) (R L:Lpp) (xs:List D),L≠[]->xd [Qh m R L,.lst xs]=some ("NotPlain" :Str)
 row:∀(m:Nat) (R:Lpp) (xs:List D),xs.length≠m->xd [Qh m R [],.lst xs]=some ("NoRow" :Str)
 heap:∀(m:Nat) (R:Lpp) (f:Mt1) (j:Nat),j<m->f j<0->xd [Qh m R [],Qb m f]=some ("NoHeap" :Str)
def Qph{dp dst dt da:Den}{xs xp:List D->Option Str}(h1:ApF dst xs)(h2:ApF dp xp)(hp:Qi6 dp)(hx:Qhx xs)(px:Qn7 xp):Qha (Qa9 7 (Qck da dt dst dp xs xp)) where
 plain:=λm R L xs hL=>Qfd (Qaz (Qam h2) (QdV (r:=⟨[Qh m R L],_,_⟩) rfl rfl (px m R L hL)))
 row:=λm R xs hl=>Qfd (QdN (Qcc (QA (r:=⟨[Qh m R []],false,[]⟩) rfl (hp m R) rfl) (Qaz (Qbr h1) (QdV (r:=⟨[Qh m R [],.lst xs],_,_⟩) rfl rfl (hx.row m R [] xs ⋯)))))
 heap:=λm R f j hj hf=>Qfd (QdN (Qcc (QA (r:=⟨[Qh m R []],false,[]⟩) rfl (hp m R) rfl) (Qaz (Qbr h1) (QdV (r:=⟨[Qh m R [],Qb m f],_,_⟩) rfl rfl (hx.heap m R [] f j hj hf)))))
structure QfY (sub:Str->Str->Option Bool) (x:Str) (a b c e:Bool):Prop where
 he:sub x "HeapError" =some true
 ve:sub x "ValueError" =some true
 nn:sub x "NoNet" =some false
 nr:sub x "NoRow" =some a
 nh:sub x "NoHeap" =some b
 np:sub x "NotPlain" =some c
 tm:sub x "TooMany" =some e
noncomputable def QF(a b c e:Bool):D:= .lst [.bl a,.bl b,.bl c,.bl e]
noncomputable def Qf4(sub:Str->Str->Option Bool):DS:=(Qe (sIf (bOr (QbO (Qv (Qey sub ["ValueError"] vv0))) (Qv (Qey sub ["NoNet"] vv0))) (Qe (QW (QH Qc)) Qi) Qi) (Qe (Qn 1 (QH (Qa (Qey sub ["NoRow"] vv0) (Qa (Qey sub ["NoHeap"] vv0) Qc)))) (Qe (QW (Qx vv1 (QH (Qa (Qey sub ["NotPlain"] vv0) (Qa (Qey sub ["TooMany"] vv0) Qc))))) Qi)))
def Qg9(sub:Str->Str->Option Bool)(d:Den):Prop:=∀x a b c e,QfY sub x a b c e->d [.exc x]=some (QF a b c e,true)
def Qsx{sub:Str->Str->Option Bool}:Qg9 sub (Qu 2 (Qf4 sub)):=λx a b c e h=>by
 refine QaN ?_;refine Qw (QX (b:=false) (QeQ (a:=false) (b:=false) (QbY (b:=true) (QC (QgW (x:=x) rfl (any_cons h.ve (ys:=[]) rfl)) rfl)) (QC (QgW (x:=x) rfl (any_cons h.nn (ys:=[]) rfl)) rfl)) (λz=>by cases z) λ_=>Qr ?_);refine run_seq (Qy (r:=reT (.lst [.bl a,.bl b])) ?_ ?_)
 .refine(Qdu (Qp (QgW (x:=x) rfl (any_cons h.nr (ys:=[]) rfl)) (Qp (QgW (x:=x) rfl (any_cons h.nh (ys:=[]) rfl)) (Q0 _))) (show 2<=64 by decide)).trans ?_;simp only[Bool.or_false];rfl
 rw[QaA];have e2:QH (Qa (Qey sub ["NotPlain"] (Qd 0)) (Qa (Qey sub ["TooMany"] (Qd 0)) Qc)) [some (.exc x,true),slT (.lst [.bl a,.bl b])]=some (reT (.lst [.bl c,.bl e])):=by
  refine(Qdu (Qp (QgW (x:=x) rfl (any_cons h.np (ys:=[]) rfl)) (Qp (QgW (x:=x) rfl (any_cons h.tm (ys:=[]) rfl)) (Q0 _))) (show 2<=64 by decide)).trans ?_;simp only[Bool.or_false];rfl
 refine Q8 (r:=⟨QF a b c e,true,[]⟩) ?_ ⟨rfl,rfl⟩;unfold Qx;refine(congrArg (λz=>Option.bind z _) (show Qd 1 [some (.exc x,true),slT (.lst [.bl a,.bl b])]=some ⟨.lst [.bl a,.bl b],true,[1]⟩from rfl)).trans ?_;rw[Za];refine(congrArg (λz=>Option.bind z _) e2).trans ?_;rfl
noncomputable def QcQ(QaE:Den)(QaS:Den)(x_still:List D->Option Str)(sub:Str->Str->Option Bool):DS:=(Qe (Qh5 (Qe (Qbj (Qj 2 QaE [] (Qa vv0 (Qa vv1 Qc)))) Qi) (QQ (Qbj (Qj 2 QaE [] (Qa vv0 (Qa vv1 Qc)))) (QbH 2 x_still (Qa vv0 (Qa vv1 Qc))) xNo) sub [("HeapError",some 2,(Qe (QW (Qj 1 QaS [] (Qa vv2 Qc))) Qi))]) (Qe (QW (QH Qc)) Qi))
def QgT(sub:Str->Str->Option Bool)(xf:List D->Option Str)(d:Den):Prop:=∀(m:Int) (R L:Lpp) (xs:List D) (x:Str) (a b c e:Bool),QfY sub x a b c e->xf [Qh m R L,.lst xs]=some x->d [Qh m R L,.lst xs]=some (QF a b c e,true)
def Qqq{df dk:Den}{xf:List D->Option Str}{sub:Str->Str->Option Bool}(h1:ApF df xf)(hk:Qg9 sub dk):QgT sub xf (Qu 3 (QcQ df dk xf sub)):=λm R L xs x a b c e hw hf=>by
 refine QaN ?_;refine Qw (QnH (x:=x) (ρ':=[slF (Qh m R L),slF (.lst xs),none]) (QbE (Qam h1) Qcl) (QyJ h1 (r:=⟨[Qh m R L,.lst xs],_,_⟩) rfl rfl hf) hw.he ?_);exact Qw (QdW (QA (r:=⟨[.exc x],true,[]⟩) rfl (hk x a b c e hw) rfl) ⟨rfl,rfl⟩)
noncomputable def Qe8(QaS:Den)(Qfh:List D->Option Str)(sub:Str->Str->Option Bool):DS:=(Qe (Qh5 (λ_=>none) (QQ (λ_=>none) (QnS ⟨3,2,Qfh⟩ 2 [some vv0,some vv1,none]) xNo) sub [("HeapError",some 3,(Qe (QW (Qj 1 QaS [] (Qa vv3 Qc))) Qi))]) (Qe (QW (QH Qc)) Qi))
def Qi1(sub:Str->Str->Option Bool)(y:List D->Option Str)(d:List D->Option D):Prop:=∀(m:Int) (R L:Lpp) (xs:List D) (k:Wk) (u:Nat) (x:Str) (a b c e:Bool),QfY sub x a b c e->y [Qh m R L,.lst xs,wkD k u]=some x->d [Qh m R L,.lst xs,wkD k u]=some (QF a b c e)
def QwR{k p:Nat}{g:DS}{ds:List D}{d:D}(h:Run g (QgY k p ds) (Rt λd' fr'=>d'=d/\fr'=true)):QjW k p g ds=some d:=by
 obtain⟨o,h1,h2⟩:=h;unfold QjW;cases o with
 | rt d' fr'=>obtain⟨rfl,rfl⟩:=h2;rw[h1];rfl
 | _=>exact False.elim h2
def QuY{dk:Den}{y:List D->Option Str}{sub:Str->Str->Option Bool}(hk:Qg9 sub dk):Qi1 sub y (QjW 4 2 (Qe8 dk y sub)):=λm R L xs k u x a b c e hw hf=>by
 refine QwR ?_;have st:QgY 4 2 [Qh m R L,.lst xs,wkD k u]=[slF (Qh m R L),slF (.lst xs),some (wkD k u,true),none]:=rfl;rw[st];refine Qw (QnH (x:=x) (ρ':=[slF (Qh m R L),slF (.lst xs),none,none]) (λ_ _=>rfl) ?_ hw.he ?_)
 .show QnS ⟨3,2,y⟩ 2 [some (Qd 0),some (Qd 1),none] _=_;have ir:isRef (wkD k u)=true:=by cases k<;>rfl
  show(if(true && true && true && isRef (wkD k u))=true then(y [Qh m R L,.lst xs,wkD k u]).map _ else none)=_;rw[ir,hf];rfl
 exact Qw (QdW (QA (r:=⟨[.exc x],true,[]⟩) rfl (hk x a b c e hw) rfl) ⟨rfl,rfl⟩)
noncomputable def Qgu(QaC:Qcd):DS:=(Qe (sIf (Qv (dOp gEq (dOp QN vv0 kk3) kk0)) (Qe (QW (QkQ "Way")) Qi) Qi) (Qe (sIf (Qv (dOp gEq (dOp QN vv0 kk3) kk1)) (Qe (QW (QkQ "Together")) Qi) Qi) (Qe (QW (Qnd "Picked" ⟨2,0,QaC⟩ (Qa (QH (Qa vv0 (Qa (dOp QbU vv0 kk3) Qc))) Qc))) Qi)))
def QgX(d:Den):Prop:=∀n:Int,0<=n->∃k,Qrd k/\d [.int n]=some (wkD k 0,true)
def Qvf{ei:Qcd}(hi:QrC ei):QgX (Qu 1 (Qgu ei)):=λn h0=>by
 have e3:∀b:Int,Qv (dOp gEq (dOp QN (Qd 0) (dC (.int 3))) (dC (.int b))) (Qab 1 [.int n])=some (decide (n % 3=b)):=λb=>QC (QcV (b:=b) (Q1 (a:=n) (b:=3) rfl rfl rfl rfl ∅) rfl rfl rfl) rfl;by_cases z0:n % 3=0
 .refine⟨.plain,trivial,QaN ?_⟩;refine Qw (QX (b:=true) ((e3 0).trans (by rw[decide_eq_true z0])) (λ_=>?_) (λz=>by cases z));exact Qw (QdW (r:=⟨wkD .plain 0,true,[]⟩) rfl ⟨rfl,rfl⟩)
 by_cases z1:n % 3=1
 .refine⟨.both,trivial,QaN ?_⟩;refine Qw (QX (b:=false) ((e3 0).trans (by rw[decide_eq_false z0])) (λz=>by cases z) (λ_=>Qr ?_));refine Qw (QX (b:=true) ((e3 1).trans (by rw[decide_eq_true z1])) (λ_=>?_) (λz=>by cases z));exact Qw (QdW (r:=⟨wkD .both 0,true,[]⟩) rfl ⟨rfl,rfl⟩)
 .refine⟨.pick [n,n / 3],(by decide:2<=1000),QaN ?_⟩;refine Qw (QX (b:=false) ((e3 0).trans (by rw[decide_eq_false z0])) (λz=>by cases z) (λ_=>Qr ?_));refine Qw (QX (b:=false) ((e3 1).trans (by rw[decide_eq_false z1])) (λz=>by cases z) (λ_=>Qr ?_));refine Q8 (r:=⟨wkD (.pick [n,n / 3]) 0,true,[]⟩) ?_ ⟨rfl,rfl⟩;have ea:QH (Qa (Qd 0) (Qa (dOp QbU (Qd 0) (dC (.int 3))) Qc)) (Qab 1 [.int n])=some (reT (QbS [n,n / 3])):=(Qdu (Qp (r:=reI n) rfl (Qp (QeZ (a:=n) (b:=3) rfl rfl rfl rfl ∅ ∅) (Q0 _))) (show 2<=64 by decide)).trans rfl;unfold Qnd;rw[Qp ea (Q0 _),Za];show(if 2=1+1 then(ei [.obj (.ins "Picked" []) [],QbS [n,n / 3]]).bind _ else none)=_;rw[if_pos rfl,hi [n,n / 3]];rfl
section
variable {m:Nat}{R:Lpp}{f c:Mt1}
end
def Qke(d:Den):Prop:=∀(m:Nat) (W:List (Int×Int×Bool)) (cs:List Int) (kind room:Int),0<m->m<=1000->W.length+cs.length<=10000->(∀w∈W,GoodW m w)→
 ∃W' fr,d [Qai W,.lst (cs.map .int),.int m,.int kind,.int room]=some (Qai (W++W'),fr)/\W'.length<=cs.length/\(∀w∈W',GoodW m w)/\(W'=[]∨spr (Qay (W++W')) m<=room)/\(kind=0->∀w∈W',w.2.2=false)
def Qsh{QaT:Den}(hf:Ql8 QaT):Qke (Qu 10 (Qe5 QaT)):=λm W cs kind room h0 hm hl hg=>by
 have key:Run (Qe5 QaT) (Qab 10 [Qai W,.lst (cs.map .int),.int m,.int kind,.int room]) (Rt λd fr=>∃W',d=Qai (W++W')/\W'.length<=cs.length/\(∀w∈W',GoodW m w)/\(W'=[]∨spr (Qay (W++W')) m<=room)/\(kind=0->∀w∈W',w.2.2=false)):=by
  refine run_seq (QbM (toD:=D.int) cs (λi ρ=>∃W' b j4 j5 j6 j7 j8,W'.length<=i/\(∀w∈W',GoodW m w)/\(W'=[]∨spr (Qay (W++W')) m<=room)/\(kind=0->∀w∈W',w.2.2=false)/\ρ=[some (Qai (W++W'),b),slF (.lst (cs.map .int)),slI m,slI kind,slI room,j4,j5,j6,j7,j8]) (ir:=⟨cs.map .int,[]⟩) rfl rfl ⟨[],false,none,none,none,none,none,ZS _,λw hw=>absurd hw ⋯,.inl rfl,λ_ w hw=>absurd hw ⋯,by rw[Zs];rfl⟩ ?_ ?_)
  .rintro i c ρ hi ⟨W',b,j4,j5,j6,j7,j8,hw1,hw2,hw3,hw4,rfl⟩;have hil:i<cs.length:=(Zg.mp hi).1;have gw:=QrK h0 kind c;refine⟨_,rfl,Qtf h0 ?_⟩
   have eadd:Qx (Qd 0) (QH (Qa (Qd 9) Qc)) [some (Qai (W++W'),b),slF (.lst (cs.map .int)),slI m,slI kind,slI room,slI c,slI (QbT c),slI (mStart m c),slI (Qij m c),some (Qc4 (QdJ m kind c),true)]=some (reT (Qai (W++W'++[QdJ m kind c]))):=
    Qwo (A:=W++W') (B:=[QdJ m kind c]) (Qc3 rfl) (by cases b<;>rfl) rfl rfl (by simp;omega)
   have gg:∀w∈W++W'++[QdJ m kind c],GoodW m w:=λw hw=>by
    rcases Zr.mp hw with h | h
    .rcases Zr.mp h with h | h
     .exact hg w h
     .exact hw2 w h
    .have:w=QdJ m kind c:=by simpa using h
     rw[this];exact gw
   have hbf:=hf m (W++W'++[QdJ m kind c]) room hm (by simp;omega) gg;refine run_seq (QX (QC (QA (Qp (r:=reI m) rfl (Qp eadd (Qp (r:=reI room) rfl (Q0 _)))) hbf rfl) rfl) (λhfit=>run_seq (Qy eadd (Qr ?_))) (λ_=>Qr (Qr ⟨W',b,_,_,_,_,_,⋯,hw2,hw3,hw4,rfl⟩)));rw[QaA];refine Qr ⟨W'++[QdJ m kind c],true,_,_,_,_,_,by simp;omega,λw hw=>?_,.inr ?_,λhk w hw=>?_,by rw[Zau];rfl⟩
   .rcases Zr.mp hw with h | h
    .exact hw2 w h
    .have:w=QdJ m kind c:=by simpa using h
     rw[this];exact gw
   .rw[← Zau];exact of_decide_eq_true hfit
   .rcases Zr.mp hw with h | h
    .exact hw4 hk w h
    .have:w=QdJ m kind c:=by simpa using h
     rw[this,hk];unfold QdJ;simp
  .rintro ρ ⟨W',b,j4,j5,j6,j7,j8,hw1,hw2,hw3,hw4,rfl⟩;exact Q8 (Qc3 rfl) ⟨W',by cases b<;>rfl,hw1,hw2,hw3,hw4⟩
 obtain⟨o,h1,h2⟩:=key;cases o with
 | rt d fr=>
  obtain⟨W',rfl,h3,h4,h5,h6⟩:=h2;exact⟨W',fr,by unfold Qu;rw[h1];rfl,h3,h4,h5,h6⟩
 | _=>exact h2.elim
def Qk2(m:Nat)(R L:Lpp):Prop:=(m<=4/\spr (QG R L) m<=36)∨(5<m/\L=[])
def QuM{m:Nat}{t kind room:Int}{W' W:List (Int×Int×Bool)}(hk:(m<=4/\room=36)∨(5<m/\kind=0))(m0:0<m)(eW:W=QaV m t kind++W'∨W=(QaV m t kind++W').reverse)(h3:W'=[]∨spr (Qay (QaV m t kind++W')) m<=room)(h4:kind=0->∀w∈W',w.2.2=false)(nw:Qbc m (Qa4 W) (QaO W)):Qk2 m (Qa4 W) (QaO W):=by
 have es:spr (QG (Qa4 W) (QaO W)) m=spr (Qay (QaV m t kind++W')) m:=Qic λi _=>by
  rw[Qio];rcases eW with e | e
  .rw[e]
  .rw[e,Qip]
 have el:kind=0->QaO W=[]:=λhk=>by
  have nl:∀w∈W,w.2.2=false:=λw hw=>by
   have hw':w∈QaV m t kind++W':=by
    rcases eW with e | e
    .rw[e]at hw;exact hw
    .rw[e]at hw;exact ZbG.mp hw
   rcases Zr.mp hw' with z | z
   .unfold QaV at z;obtain⟨j,_,rfl⟩:=Zac.mp z;unfold Qen;rw[hk];simp
   .exact h4 hk w z
  unfold QaO;rw[List.filter_eq_nil_iff.mpr λw hw=>by rw[nl w hw];exact ZO];rfl
 rcases hk with⟨m4,rfl⟩ | ⟨m5,k0⟩
 .refine .inl ⟨m4,?_⟩;rw[es];rcases h3 with e | h
  .rw[e,Zs];refine Qrx m0 m4 (Qj0 ..) QjY Qo7 λi hi=>?_;have:=nw.Qkl hi;rw[Qio]at this;have e2:Qay W i=Qay (QaV m t kind++W') i:=by
    rcases eW with z | z
    .rw[z]
    .rw[z,Qip]
   rw[e2,e,Zs]at this;omega
  .exact h
 .exact .inr ⟨m5,el k0⟩
def QmT(ha:fa ρ=some ra)(ea:ra.d=Qb m f)(hb:fb ρ=some (reI x))(hm:m<=1000):Qx fa (QH (Qa fb Qc)) ρ=some (reT (Qb (m+1) (up f m x))):=by
 have hb:QH (Qa fb Qc) ρ=some (reT (.lst [.int x])):=(Qdu (Qp hb (Q0 _)) ⋯).trans rfl;unfold Qx;rw[ha,Za,hb,Za,ea];simp only[Qb,Zp,ZJ,QfT];rw[if_pos (by simp;omega)];unfold QaR;rw[if_pos (by rw[Qc5,Zi];exact⟨QbI (λ_=>rfl) _,rfl⟩)];congr 3;rw[ZbK,ZP];congr 1
 .refine ZQ λi hi=>?_;rw[QtB,if_neg (by have:=ZR.mp hi;omega)]
 .show _=[D.int (up f m x m)];rw[QtB,if_pos rfl]
def Qef(ha:fa ρ=some ra)(ea:ra.d=Qb m f)(hb:fb ρ=some rb)(eb:rb.d=Qb k g)(hl:m+k<=1000):Qx fa fb ρ=some (reT (Qb (m+k) (λi=>if i<m then f i else g (i-m)))):=by
 have e:Qb (m+k) (λi=>if i<m then f i else g (i-m))= .lst (((List.range m).map λi=>D.int (f i))++((List.range k).map λi=>D.int (g i))):=by
  unfold Qb;rw[List.range_add,ZP,Zah];congr 2
  .refine ZQ λi hi=>?_;show D.int (if i<m then f i else g (i-m))=_;rw[if_pos (ZR.mp hi)]
  .refine ZQ λi hi=>?_;show D.int (if m+i<m then f (m+i)else g (m+i-m))=_;rw[if_neg ⋯,Nat.add_sub_cancel_left]
 rw[e];unfold Qx;rw[ha,Za,hb,Za,ea,eb];simp only[Qb,Zp,ZJ,QfT];rw[if_pos ⋯];unfold QaR;rw[if_pos];rw[Qc5,Zi];exact⟨QbI (λ_=>rfl) _,QbI (λ_=>rfl) _⟩
def QkW{n:Nat}(ha:fa ρ=some ra)(ea:ra.d=Qb m f)(hb:fb ρ=some rb)(eb:rb.d= .int n)(h:n<=m):QcR fa (Qbu fb) QcB ρ=some (reT (Qb (m-n) λi=>f (n+i))):=by
 have cut:cutD ((List.range m).map λi=>D.int (f i)) (some (n:Int)) none=(List.range (m-n)).map λi=>D.int (f (n+i)):=by
  unfold cutD;simp only[Zp,ZJ,HT.Qj6,HT.QlI];rw[ZbJ h,← List.map_drop,← Zbx];have e:((List.range m).drop n).take (m-n)=(List.range (m-n)).map λi=>n+i:=by
   rw[ZaO ⋯];refine Zbb λi=>?_;rw[List.getElem?_drop,Zy];by_cases hi:i<m-n
   .rw[ZY ⋯,ZY hi];rfl
   .rw[Zw (by simp;omega),Zw (by simp;omega)];rfl
  rw[e,Zah];rfl
 unfold QcR QcB Qbu;simp only[ha,hb,Za,ea,eb,Qb,cut,QaR];have:Qak ((List.range (m-n)).map λi=>D.int (f (n+i)))=true:=by
  have:=QkA ((List.range (m-n)).map λi=>f (n+i));rw[Zah]at this;exact this
 rw[if_pos this]
def QwS{m:Nat}{R L:Lpp}{f:Mt1}(m0:0<m)(hm:m<=1000)(hw:Qbc m R L)(hf:∀j,j<m->0<=f j/\f j<2^200):∃c,Told m (Qt m (Ql R L)) f c:=
 let ⟨c,_,td⟩:=Qon (QnU QpI) Qp3 QkD m R L f m0 hm hw hf
 ⟨c,td⟩
def QmQ(b:Int):∀k:Nat,Qo k (λ_=>b)=b*k
 | 0=>by show(0:Int)=b*0;rw[Int.mul_zero]
 | k+1=>by rw[QS,QmQ b k];show b*(k:Int)+b=b*((k+1:Nat):Int);rw[show((k+1:Nat):Int)=(k:Int)+1 by omega,Zbv,Zbt]
def Qwm{r:IoR}{x i:Nat}{fs:List (Option DE)}{ρ:En}{rs:List (Option HS.R)}{d:D}{q:D×D}{Q:Out->Prop}(h:evs fs ρ=some rs)(hp:ρ[i]? =some (some (d,true)))(c:(decide (x≠i) && !(rsM rs).contains i && oneAt fs r.p && decide (fs.length=r.n))=true)(e:Qgt (λe=>if isRef e=true then r.den (rsD rs e)else none) d=some q)(k:Q (.nx ((ρ.set i (some (q.2,true))).set x (some (q.1,true))))):Run (Qoj r x i fs) ρ Q:=by
 refine⟨_,?_,k⟩;unfold Qoj;rw[h,Za,hp];show(if _ then _ else _)=_;rw[if_pos c,e];rfl
def Qj4{fs:DA}{ρ:En}{r:RA}(h:fs ρ=some r)(hl:r.ds.length<=64):Qbs fs ρ=some ⟨.tup r.ds,r.fr,r.M⟩:=by
 unfold Qbs;rw[h,Za,if_pos hl]
def Qzt{k:Wk}{u:Nat}{g:D->Option (D×D)}:Qgt (λe=>if isRef e=true then g e else none) (wkD k u)=g (wkD k u):=by cases k<;>rfl
noncomputable def QdF:DS:=(Qe (Qn 2 (dOp QN (Qac vv1 QpO) QfH)) (Qe (Qn 3 (dOp QN vv2 (dBf QaQ (Qa vv0 Qc)))) (Qe (Qn 4 (Qx (Qx (QcR vv0 QcB (Qbu vv3)) (QH (Qa (dOp QaW (QcW kk1) (dOp QN (dOp QbU vv2 QzK) QAb)) Qc))) (QcR vv0 (Qbu (Qx vv3 kk1)) QcB))) (Qe (sIf (Qv (dOp gEq (dOp QN (dOp QbU vv2 kk4) kk3) kk0)) (Qe (QW (QH (Qa (Qx vv0 (QH (Qa kk0 Qc))) (Qa vv4 (Qa (Qx vv4 (QH (Qa kk1 Qc))) Qc))))) Qi) Qi) (Qe (sIf (Qv (dOp gEq (dOp QN (dOp QbU vv2 kk4) kk3) kk1)) (Qe (QW (QH (Qa (Qx vv0 (QH (Qa kk1 (Qa kk2 Qc)))) (Qa vv4 (Qa (Qx vv4 (QH (Qa (QcW kk1) Qc))) Qc))))) Qi) Qi) (Qe (QW (QH (Qa (QcR vv0 (Qbu kk1) QcB) (Qa vv4 (Qa (Qx (QH (Qa (QcW kk1) Qc)) vv4) Qc))))) Qi))))))
def QiJ(d:Den):Prop:=∀(m:Nat) (f:Mt1) (v:Int),0<m->m<=8->∃(m1 m2 j:Nat) (h1 g h2:Mt1),d [Qb m f,.int v]=some (.lst [Qb m1 h1,Qb m g,Qb m2 h2],true)/\m1≠m/\m2≠m/\j<m/\g j<0
def Qq5:QiJ (Qu 5 QdF):=λm f v m0 m8=>by
 obtain⟨x,rx⟩:∃x,x=v*48271 % 2147483647:=⟨_,rfl⟩;have q1:=ZE x (by omega:(m:Int)≠0);have q2:=ZH x (by omega:(0:Int)<m);obtain⟨q,eq⟩:∃q:Nat,(q:Int)=x % m:=⟨(x % m).toNat,⋯⟩;have hq:q<m:= ⋯
 obtain⟨y,ry⟩:∃y,y= -1-x / 16 % 1000:=⟨_,rfl⟩;have y0:y<0:=by have:=ZE (x / 16) (by decide:(1000:Int)≠0);omega
 have hE:∃g:Nat->Int,g q=y/\Qx (Qx (QcR (Qd 0) QcB (Qbu (Qd 3))) (QH (Qa (dOp QaW (QcW (dC (.int 1))) (dOp QN (dOp QbU (Qd 2) (dC (.int 16))) (dC (.int 1000)))) Qc))) (QcR (Qd 0) (Qbu (Qx (Qd 3) (dC (.int 1)))) QcB) [slF (Qb m f),slI v,slI x,slI q,none]=some (reT (Qb m g)):=by
  have b0:QH (Qa (dOp QaW (QcW (dC (.int 1))) (dOp QN (dOp QbU (Qd 2) (dC (.int 16))) (dC (.int 1000)))) Qc) [slF (Qb m f),slI v,slI x,slI q,none]=some (reT (Qb 1 (λ_=>y))):=by
   rw[ry];exact(Qdu (Qp (Qaj (d:= .int (-1-x / 16 % 1000)) (ra:=reI (-1)) rfl (Q1 (b:=1000) (QeZ (a:=x) (b:=16) rfl rfl rfl rfl ∅ ∅) rfl rfl rfl ∅) rfl) (Q0 _)) (show 1<=64 by decide)).trans rfl
  have b1:=QpQ (fa:=Qd 0) (fb:=Qd 3) (ρ:=[slF (Qb m f),slI v,slI x,slI q,none]) (m:=m) (n:=q) (f:=f) (ra:=reF (Qb m f)) (rb:=reI q) rfl rfl rfl rfl ⋯;have b2:=Qef (k:=1) (g:=λ_=>y) b1 rfl b0 rfl ⋯;have b3:=QkW (fa:=Qd 0) (fb:=Qx (Qd 3) (dC (.int 1))) (ρ:=[slF (Qb m f),slI v,slI x,slI q,none]) (m:=m) (n:=q+1) (f:=f) (ra:=reF (Qb m f)) (rb:=reI ((q:Int)+1)) rfl rfl (Q6 (a:=q) (b:=1) rfl rfl rfl rfl) rfl ⋯;have b4:=Qef b2 rfl b3 rfl ⋯;rw[show q+1+(m-(q+1))=m by omega]at b4;refine⟨_,?_,b4⟩;rw[if_pos ⋯,if_neg ⋯]
 obtain⟨g,gq,hE⟩:=hE;have key:Run QdF (Qab 5 [Qb m f,.int v]) (Rt λd fr=>∃(m1 m2:Nat) (h1 h2:Mt1),d= .lst [Qb m1 h1,Qb m g,Qb m2 h2]/\fr=true/\m1≠m/\m2≠m):=by
  refine run_seq (Qy (r:=reI x) (by rw[rx];exact Q1 (b:=2147483647) (Qb2 (a:=v) (b:=48271) rfl rfl rfl rfl (Qdd ∅)) rfl rfl rfl ∅) ?_);refine run_seq (Qy (r:=reI q) (by rw[eq];exact Q1 (a:=x) (b:=m) rfl rfl (Qxi (m:=m) (f:=f) (r:=reF (Qb m f)) rfl rfl) rfl ⋯) ?_);change Nx _ (.nx [slF (Qb m f),slI v,slI x,slI q,none]);refine run_seq (Qy hE ?_);change Nx _ (.nx [slF (Qb m f),slI v,slI x,slI q,slT (Qb m g)]);have tst:∀b:Int,Qv (dOp gEq (dOp QN (dOp QbU (Qd 2) (dC (.int 4))) (dC (.int 3))) (dC (.int b))) [slF (Qb m f),slI v,slI x,slI q,slT (Qb m g)]=some (decide (x / 4 % 3=b)):=λb=>QC (QcV (b:=b) (Q1 (b:=3) (QeZ (a:=x) (b:=4) rfl rfl rfl rfl ∅ ∅) rfl rfl rfl ∅) rfl rfl rfl) rfl;refine Qw (QX (tst 0) (λ_=>?_) (λ_=>Qr ?_))
  .have a1:=QmT (fa:=Qd 0) (fb:=dC (.int 0)) (ρ:=[slF (Qb m f),slI v,slI x,slI q,slT (Qb m g)]) (m:=m) (f:=f) (ra:=reF (Qb m f)) rfl rfl rfl ⋯;have a2:=QmT (fa:=Qd 4) (fb:=dC (.int 1)) (ρ:=[slF (Qb m f),slI v,slI x,slI q,slT (Qb m g)]) (m:=m) (f:=g) (ra:=⟨Qb m g,true,[4]⟩) rfl rfl rfl ⋯;exact Qw (QdW ((Qdu (Qp a1 (Qp (fa:=Qd 4) (r:=⟨Qb m g,true,[4]⟩) rfl (Qp a2 (Q0 _)))) (show 3<=64 by decide)).trans rfl) ⟨m+1,m+1,_,_,rfl,rfl,⋯,⋯⟩)
  refine Qw (QX (tst 1) (λ_=>?_) (λ_=>Qr ?_))
  .have a1:=Qef (fa:=Qd 0) (fb:=QH (Qa (dC (.int 1)) (Qa (dC (.int 2)) Qc))) (ρ:=[slF (Qb m f),slI v,slI x,slI q,slT (Qb m g)]) (m:=m) (f:=f) (k:=2) (g:=λi=>if i=0 then 1 else 2) (ra:=reF (Qb m f)) (rb:=reT (.lst [.int 1,.int 2])) rfl rfl rfl rfl ⋯;have a2:=Qef (fa:=Qd 4) (fb:=QH (Qa (QcW (dC (.int 1))) Qc)) (ρ:=[slF (Qb m f),slI v,slI x,slI q,slT (Qb m g)]) (m:=m) (f:=g) (k:=1) (g:=λ_=> -1) (ra:=⟨Qb m g,true,[4]⟩) (rb:=reT (.lst [.int (-1)])) rfl rfl rfl rfl ⋯;exact Qw (QdW ((Qdu (Qp a1 (Qp (fa:=Qd 4) (r:=⟨Qb m g,true,[4]⟩) rfl (Qp a2 (Q0 _)))) (show 3<=64 by decide)).trans rfl) ⟨m+2,m+1,_,_,rfl,rfl,⋯,⋯⟩)
  .have a1:=QkW (fa:=Qd 0) (fb:=dC (.int 1)) (ρ:=[slF (Qb m f),slI v,slI x,slI q,slT (Qb m g)]) (m:=m) (n:=1) (f:=f) (ra:=reF (Qb m f)) (rb:=reI 1) rfl rfl rfl rfl ⋯;have a2:=Qef (fa:=QH (Qa (QcW (dC (.int 1))) Qc)) (fb:=Qd 4) (ρ:=[slF (Qb m f),slI v,slI x,slI q,slT (Qb m g)]) (m:=1) (f:=λ_=> -1) (k:=m) (g:=g) (ra:=reT (.lst [.int (-1)])) (rb:=⟨Qb m g,true,[4]⟩) rfl rfl rfl rfl ⋯;exact Q8 ((Qdu (Qp a1 (Qp (fa:=Qd 4) (r:=⟨Qb m g,true,[4]⟩) rfl (Qp a2 (Q0 _)))) (show 3<=64 by decide)).trans rfl) ⟨m-1,1+m,_,_,rfl,rfl,⋯,⋯⟩
 obtain⟨o,h1,h2⟩:=key;cases o with
 | rt d fr=>
  obtain⟨m1,m2,k1,k2,rfl,rfl,h3,h4⟩:=h2;exact⟨m1,m2,q,k1,g,k2,by unfold Qu;rw[h1];rfl,h3,h4,hq,⋯⟩
 | _=>exact h2.elim
noncomputable def Qe0(Qbv:Den)(QaJ:Den)(Qax:Den)(QcE:List D->Option D):DS:=(Qe (Qn 3 (QH (Qa (dC (.bl true)) (Qa (dC (.bl false)) (Qa (dC (.bl false)) (Qa (dC (.bl false)) Qc)))))) (Qe (Qn 4 (QH (Qa vv3 (Qa (QH (Qa (dC (.bl false)) (Qa (dC (.bl true)) (Qa (dC (.bl false)) (Qa (dC (.bl false)) Qc))))) (Qa vv3 Qc))))) (Qe (Qbm (QaD vv1 vv4) (.tp [5,6]) (Qe (sIf (bOr (Qv (dOp gNe (Qj 2 Qbv [] (Qa vv0 (Qa (dList (Qa vv5 Qc)) Qc))) vv6)) (Qv (dOp gNe (dCo ⟨3,2,QcE⟩ [some vv0,some (dList (Qa vv5 Qc)),some (Qj 1 QaJ [] (Qa vv2 Qc))]) vv6))) (Qe (QW (dC (.bl false))) Qi) Qi) (Qe (sIf (Qv (dOp gNe (Qz vv0 kk2) (QH Qc))) (Qe (Qn 6 (QH (Qa (dC (.bl false)) (Qa (dC (.bl false)) (Qa (dC (.bl true)) (Qa (dC (.bl false)) Qc)))))) Qi) Qi) (Qe (sIf (Qv (dOp gNe (Qj 2 Qax [] (Qa vv0 (Qa (dList (Qa vv5 Qc)) Qc))) vv6)) (Qe (QW (dC (.bl false))) Qi) Qi) Qi)))) (Qe (QW (dC (.bl true))) Qi))))
def Qil{fa:DE}{ρ:En}{ra:HS.R}{L:Lpp}(ha:fa ρ=some ra)(ea:ra.d=QP L):dOp gNe fa (QH Qc) ρ=some (reT (.bl (!L.isEmpty))):=by
 refine Qaj (rb:=reT (.lst [])) ha rfl ?_;rw[ea];show gNe (QP L) (.lst [])=_;unfold gNe;rw[show(QP L).sim 8=true from QmU 6 L];show some (D.bl (!deq (QP L) (.lst [])))=_;cases L<;>rfl
def Qmk(d:Den):Prop:=∀(m:Nat) (R L:Lpp) (m1 m2 j:Nat) (h1 g h2:Mt1) (n:Int),0<=n->m1≠m->m2≠m->j<m->g j<0->d [Qh m R L,.lst [Qb m1 h1,Qb m g,Qb m2 h2],.int n]=some (.bl true,true)
structure QkZ (sub:Str->Str->Option Bool):Prop where
 nr:QfY sub "NoRow" true false false false
 nh:QfY sub "NoHeap" false true false false
 np:QfY sub "NotPlain" false false true false
 tm:QfY sub "TooMany" false false false true
def QuI{dst dw dp:Den}{cr:List D->Option D}{xs y xp:List D->Option Str}{sub:Str->Str->Option Bool}(w:QkZ sub)(hs:QgT sub xs dst)(hp:QgT sub xp dp)(hr:Qi1 sub y cr)(hw:QgX dw)(sx:Qhx xs)(yx:Qk6 y)(px:Qha xp):Qmk (Qu 7 (Qe0 dst dw dp cr)):=λm R L m1 m2 j h1 g h2 n n0 e1 e2 hj hg=>by
 obtain⟨k,wk,ew⟩:=hw n n0;refine QaN ?_;refine run_seq (Qy (r:=⟨QF true false false false,true,[]⟩) rfl ?_);refine run_seq (Qy (r:=⟨.lst [QF true false false false,QF false true false false,QF true false false false],true,[3,3]⟩) rfl ?_);have eas:∃b3 b4,asg 4 ⟨.lst [QF true false false false,QF false true false false,QF true false false false],true,[3,3]⟩ [slF (Qh m R L),slF (.lst [Qb m1 h1,Qb m g,Qb m2 h2]),slI n,some (QF true false false false,true),none,none,none]=[slF (Qh m R L),slF (.lst [Qb m1 h1,Qb m g,Qb m2 h2]),slI n,b3,some (.lst [QF true false false false,QF false true false false,QF true false false false],b4),none,none]:=⟨_,_,rfl⟩;obtain⟨b3,b4,eas⟩:=eas;refine(congrArg (λρ=>Nx _ (.nx ρ)) eas).mpr ?_
 have one:∀(M:Nat) (h:Mt1) (x:Str) (a b:Bool),QfY sub x a b false false->xs [Qh m R L,Qb M h]=some x->y [Qh m R L,Qb M h,wkD k 0]=some x->(L=[]->xp [Qh m R L,Qb M h]=some x)->∀(b4:Bool) (v5 v6:Option (D×Bool)) (c5 c6:Bool),
   Run (Qe (sIf (bOr (Qv (dOp gNe (Qj 2 dst [] (Qa (Qd 0) (Qa (dList (Qa (Qd 5) Qc)) Qc))) (Qd 6))) (Qv (dOp gNe (dCo ⟨3,2,cr⟩ [some (Qd 0),some (dList (Qa (Qd 5) Qc)),some (Qj 1 dw [] (Qa (Qd 2) Qc))]) (Qd 6)))) (Qe (QW (dC (.bl false))) Qi) Qi) (Qe (sIf (Qv (dOp gNe (Qz (Qd 0) (dC (.int 2))) (QH Qc))) (Qe (Qn 6 (QH (Qa (dC (.bl false)) (Qa (dC (.bl false)) (Qa (dC (.bl true)) (Qa (dC (.bl false)) Qc)))))) Qi) Qi) (Qe (sIf (Qv (dOp gNe (Qj 2 dp [] (Qa (Qd 0) (Qa (dList (Qa (Qd 5) Qc)) Qc))) (Qd 6))) (Qe (QW (dC (.bl false))) Qi) Qi) Qi)))
    [slF (Qh m R L),slF (.lst [Qb m1 h1,Qb m g,Qb m2 h2]),slI n,b3,some (.lst [QF true false false false,QF false true false false,QF true false false false],b4),slF (Qb M h),some (QF a b false false,false)]
    (Nx λρ=>∃v5 v6,ρ=[slF (Qh m R L),slF (.lst [Qb m1 h1,Qb m g,Qb m2 h2]),slI n,b3,some (.lst [QF true false false false,QF false true false false,QF true false false false],b4),v5,v6]):=λM h x a b wx hx hy hxp b4 _ _ _ _=>by
  obtain⟨ρ,rρ⟩:∃ρ:En,ρ=[slF (Qh m R L),slF (.lst [Qb m1 h1,Qb m g,Qb m2 h2]),slI n,b3,some (.lst [QF true false false false,QF false true false false,QF true false false false],b4),slF (Qb M h),some (QF a b false false,false)]:=⟨_,rfl⟩;rw[← rρ];have v0:Qd 0 ρ=some (reF (Qh m R L)):=by rw[rρ];rfl
  have l5:dList (Qa (Qd 5) Qc) ρ=some (reT (Qb M h)):=Qcy (m:=M) (f:=h) (rs:=⟨[Qb M h],false,[]⟩) (by rw[rρ];rfl) rfl;have v6:Qd 6 ρ=some ⟨QF a b false false,false,[]⟩:=by rw[rρ];rfl
  have wy:Qj 1 dw [] (Qa (Qd 2) Qc) ρ=some ⟨wkD k 0,true,[]⟩:=QA (r:=⟨[.int n],true,[]⟩) (by rw[rρ];rfl) ew rfl;have c1:Qj 2 dst [] (Qa (Qd 0) (Qa (dList (Qa (Qd 5) Qc)) Qc)) ρ=some ⟨QF a b false false,true,[]⟩:=QA (Qp v0 (Qp l5 (Q0 _))) (hs m R L _ x a b false false wx hx) rfl;have c2:dCo ⟨3,2,cr⟩ [some (Qd 0),some (dList (Qa (Qd 5) Qc)),some (Qj 1 dw [] (Qa (Qd 2) Qc))] ρ=some ⟨QF a b false false,true,[]⟩:=by
   have ev:evs [some (Qd 0),some (dList (Qa (Qd 5) Qc)),some (Qj 1 dw [] (Qa (Qd 2) Qc))] ρ=some [some (reF (Qh m R L)),some (reT (Qb M h)),some ⟨wkD k 0,true,[]⟩]:=by
    simp only[evs,v0,l5,wy,Za,ZN]
   unfold dCo;rw[ev,Za];have ir:isRef (wkD k 0)=true:=by cases k<;>rfl
   show(if(true && true && isRef (wkD k 0) && true && true)=true then(cr [Qh m R L,Qb M h,wkD k 0]).map _ else none)=_;have hcr:cr [Qh m R L,Qb M h,wkD k 0]=some (QF a b false false):=hr m R L _ k 0 x a b false false wx hy;rw[ir,hcr];rfl
  refine Qw (QX (b:=false) (QeQ (a:=false) (b:=false) (QC (b:=false) (Qik (d:=QF a b false false) c1 rfl v6 rfl rfl) rfl) (QC (b:=false) (Qik (d:=QF a b false false) c2 rfl v6 rfl rfl) rfl)) (λz=>by cases z) (λ_=>Qr ?_));have i2:Qz (Qd 0) (dC (.int 2)) ρ=some (reF (QP L)):=by rw[rρ];rfl
  cases L with
  | nil=>
   refine Qw (QX (b:=false) (QC (b:=false) (Qil i2 rfl) rfl) (λz=>by cases z) (λ_=>Qr ?_));have c3:Qj 2 dp [] (Qa (Qd 0) (Qa (dList (Qa (Qd 5) Qc)) Qc)) ρ=some ⟨QF a b false false,true,[]⟩:=QA (Qp v0 (Qp l5 (Q0 _))) (hp m R [] _ x a b false false wx (hxp rfl)) rfl;refine Qw (QX (b:=false) (QC (b:=false) (Qik (d:=QF a b false false) c3 rfl v6 rfl rfl) rfl) (λz=>by cases z) (λ_=>Qr (Qr ?_)));exact⟨_,_,rρ⟩
  | cons p L=>
   have c3:∀ρ':En,Qd 0 ρ'=some (reF (Qh m R (p::L)))->dList (Qa (Qd 5) Qc) ρ'=some (reT (Qb M h))->Qj 2 dp [] (Qa (Qd 0) (Qa (dList (Qa (Qd 5) Qc)) Qc)) ρ'=some ⟨QF false false true false,true,[]⟩:=λρ' q0 q5=>QA (Qp q0 (Qp q5 (Q0 _))) (hp m R (p::L) _ "NotPlain" false false true false w.np (px.plain m R (p::L) _ (λz=>by cases z))) rfl;refine Qw (QX (b:=true) (QC (b:=true) (Qil i2 rfl) rfl) (λ_=>?_) (λz=>by cases z));refine Qw (Qy (r:=⟨QF false false true false,true,[]⟩) rfl (Qr ?_));rw[QaA,rρ];change Run _ [slF (Qh m R (p::L)),slF (.lst [Qb m1 h1,Qb m g,Qb m2 h2]),slI n,b3,some (.lst [QF true false false false,QF false true false false,QF true false false false],b4),slF (Qb M h),some (QF false false true false,true)] _;refine Qw (QX (b:=false) (QC (b:=false) (Qik (d:=QF false false true false) (c3 _ rfl (Qcy (m:=M) (f:=h) (rs:=⟨[Qb M h],false,[]⟩) rfl rfl)) rfl (rb:=⟨QF false false true false,true,[6]⟩) rfl rfl rfl) rfl) (λz=>by cases z) (λ_=>Qr (Qr ?_)));exact⟨_,_,rfl⟩
 have lr:∀(M:Nat) (h:Mt1),M≠m->((((List.range M).map λi=>D.int (h i)).length:Nat):Int)≠m:=λM h hM=>by rw[Zp,ZJ];omega
 have o1:=one m1 h1 "NoRow" true false w.nr (sx.row m R L _ (lr m1 h1 e1)) (yx.row m R L _ k 0 (lr m1 h1 e1)) (λz=>by subst z;exact px.row m R _ (by have:=lr m1 h1 e1;omega));have o2:=one m g "NoHeap" false true w.nh (sx.heap m R L g j hj hg) (yx.heap m R L g j k 0 hj hg) (λz=>by subst z;exact px.heap m R g j hj hg);have o3:=one m2 h2 "NoRow" true false w.nr (sx.row m R L _ (lr m2 h2 e2)) (yx.row m R L _ k 0 (lr m2 h2 e2)) (λz=>by subst z;exact px.row m R _ (by have:=lr m2 h2 e2;omega));have lp:Run (Qbm (QaD (Qd 1) (Qd 4)) (.tp [5,6]) (Qe (sIf (bOr (Qv (dOp gNe (Qj 2 dst [] (Qa (Qd 0) (Qa (dList (Qa (Qd 5) Qc)) Qc))) (Qd 6))) (Qv (dOp gNe (dCo ⟨3,2,cr⟩ [some (Qd 0),some (dList (Qa (Qd 5) Qc)),some (Qj 1 dw [] (Qa (Qd 2) Qc))]) (Qd 6)))) (Qe (QW (dC (.bl false))) Qi) Qi) (Qe (sIf (Qv (dOp gNe (Qz (Qd 0) (dC (.int 2))) (QH Qc))) (Qe (Qn 6 (QH (Qa (dC (.bl false)) (Qa (dC (.bl false)) (Qa (dC (.bl true)) (Qa (dC (.bl false)) Qc)))))) Qi) Qi) (Qe (sIf (Qv (dOp gNe (Qj 2 dp [] (Qa (Qd 0) (Qa (dList (Qa (Qd 5) Qc)) Qc))) (Qd 6))) (Qe (QW (dC (.bl false))) Qi) Qi) Qi)))) [slF (Qh m R L),slF (.lst [Qb m1 h1,Qb m g,Qb m2 h2]),slI n,b3,some (.lst [QF true false false false,QF false true false false,QF true false false false],b4),none,none] (Nx λρ=>True):=by
  refine QbM (toD:=λ(q:Nat×(Nat->Int)×Bool×Bool)=>D.tup [Qb q.1 q.2.1,QF q.2.2.1 q.2.2.2 false false]) [(m1,h1,true,false),(m,g,false,true),(m2,h2,true,false)] (λ_ ρ=>∃v5 v6,ρ=[slF (Qh m R L),slF (.lst [Qb m1 h1,Qb m g,Qb m2 h2]),slI n,b3,slF (.lst [QF true false false false,QF false true false false,QF true false false false]),v5,v6]) (ir:=⟨[.tup [Qb m1 h1,QF true false false false],.tup [Qb m g,QF false true false false],.tup [Qb m2 h2,QF true false false false]],if b4=true then [4]else []⟩) (by cases b4<;>rfl) rfl (by cases b4<;>exact⟨none,none,rfl⟩) ?_ (λρ _=>trivial);rintro i q ρ hq ⟨v5,v6,rfl⟩
  match i,hq with
  | 0,hq=>cases hq;exact⟨_,rfl,(o1 false none none false false).mono λo ho=>by cases o with | nx ρ=>exact ho | _=>exact ho.elim⟩
  | 1,hq=>cases hq;exact⟨_,rfl,(o2 false none none false false).mono λo ho=>by cases o with | nx ρ=>exact ho | _=>exact ho.elim⟩
  | 2,hq=>cases hq;exact⟨_,rfl,(o3 false none none false false).mono λo ho=>by cases o with | nx ρ=>exact ho | _=>exact ho.elim⟩
  | _+3,hq=>cases hq
 refine run_seq (lp.mono λo ho=>?_);cases o with
 | nx ρ=>exact Q8 (r:=reT (.bl true)) rfl ⟨rfl,rfl⟩
 | _=>exact ho.elim
noncomputable def Qea(m t:Nat):List (Int×Int):=((List.range (m-1)).map λk=>((((k+t) % m:Nat):Int),(((k+1+t) % m:Nat):Int)))++[((((m-1+t) % m:Nat):Int),(m:Int))]
noncomputable def QiS(m:Int):List (Int×Int×Bool)->Bool
 | []=>true
 | [w]=>decide (w.2.1=m)
 | w::w'::r=>decide (w.2.1=w'.1) && QiS m (w'::r)
def Qin{m:Nat}{A:Nat->Prop}:∀W:List (Int×Int×Bool),QiS m W=true->(∃w∈W,A w.1.toNat)->∃w∈W,A w.1.toNat/\(w.2.1=m∨¬A w.2.1.toNat)
 | [],_,⟨w,h,_⟩=>absurd h ⋯
 | [w],h,⟨w1,h1,h2⟩=>by
  rw[Zl.mp h1]at h2;exact⟨w,Zl.mpr rfl,h2,.inl (of_decide_eq_true h)⟩
 | w::w'::r,h,⟨w1,h1,h2⟩=>by
  have hb:(decide (w.2.1=w'.1) && QiS m (w'::r))=true:=h;rw[Zi]at hb;have e1:w.2.1=w'.1:=of_decide_eq_true hb.1;by_cases hA:A w'.1.toNat
  .obtain⟨w2,g1,g2⟩:=Qin (w'::r) hb.2 ⟨w',Zf,hA⟩;exact⟨w2,Zc _ g1,g2⟩
  .rcases Zn.mp h1 with z | z
   .subst z;exact⟨w1,Zf,h2,.inr (by rw[e1];exact hA)⟩
   .obtain⟨w2,g1,g2⟩:=Qin (w'::r) hb.2 ⟨w1,z,h2⟩;exact⟨w2,Zc _ g1,g2⟩
def QsC{m:Nat}{W:List (Int×Int×Bool)}(h:QiS m W=true)(h1:∀p,p<m->∃w∈W,w.1=(p:Nat))(h2:∀w∈W,w.1<m):Esc m W:=λA ⟨p,hp,ha⟩=>by
 obtain⟨w,hw,e⟩:=h1 p hp;obtain⟨w2,g1,g2,g3⟩:=Qin (A:=A) W h ⟨w,hw,by rw[e];exact ha⟩;exact⟨w2,g1,h2 w2 g1,g2,g3⟩
def Ten(m t:Nat):Prop:=(m=1/\t=0)∨(m=2/\t=0)∨(m=2/\t=1)∨(m=3/\t=0)∨(m=3/\t=1)∨(m=3/\t=2)∨(m=4/\t=0)∨(m=4/\t=1)∨(m=4/\t=2)∨(m=4/\t=3)
def QyK{m t:Nat}(m0:0<m)(m4:m<=4)(ht:t<m):Ten m t:=by unfold Ten;omega
noncomputable def Qf5(m t:Nat):List (Int×Int×Bool):=(Qea m t).map λs=>(s.1,s.2,true)
def Qt7{m t:Nat}(h:Ten m t):QiS m (Qf5 m t)=true/\(∀p,p<m->∃w∈Qf5 m t,w.1=(p:Nat))/\(∀w∈Qf5 m t,w.1<m)/\(∀w∈Qf5 m t,(0<=w.1/\0<=w.2.1/\w.1<=m/\w.2.1<=m/\w.1≠w.2.1)/\(w.2.2=true->w.1<m))/\(Qf5 m t).length<=200/\[]=Qa4 (Qf5 m t)/\Qea m t=QaO (Qf5 m t):=by
 rcases h with⟨rfl,rfl⟩ | ⟨rfl,rfl⟩ | ⟨rfl,rfl⟩ | ⟨rfl,rfl⟩ | ⟨rfl,rfl⟩ | ⟨rfl,rfl⟩ | ⟨rfl,rfl⟩ | ⟨rfl,rfl⟩ | ⟨rfl,rfl⟩ | ⟨rfl,rfl⟩<;>decide
def QuK{m t:Nat}(h:Ten m t):Qbc m [] (Qea m t):=by
 obtain⟨h1,h2,h3,h4,h5,h6,h7⟩:=Qt7 h;exact⟨Qf5 m t,QsC h1 h2 h3,h4,h5,h6,h7⟩
noncomputable def Qf2:DS:=(Qe (Qn 2 (QR (Qbe (dOp QaW vv0 kk1)) (.nm 1) [none,none,some 0,some 1] Qag (Qbs (Qa (dOp QN (Qx vv1 vv3) vv2) (Qa (dOp QN (Qx (Qx vv1 kk1) vv3) vv2) Qc))))) (Qe (QW (Qbs (Qa vv0 (Qa (QH Qc) (Qa (Qx vv2 (QH (Qa (Qbs (Qa (dOp QN (Qx (dOp QaW vv0 kk1) vv1) vv0) (Qa vv0 Qc))) Qc))) Qc))))) Qi))
def QdL{fa fb:DE}{ρ:En}{ra rb:HS.R}{a b:Int}(ha:fa ρ=some ra)(ea:ra.d= .int a)(hb:fb ρ=some rb)(eb:rb.d= .int b):dOp QaW fa fb ρ=some (reI (a-b)):=Qaj ha hb (by rw[ea,eb];rfl)
def Qnu(a b m:Nat):((a:Int)+b) % m=(((a+b) % m:Nat):Int):=by rw[Int.natCast_emod,ZbM]
def QrE{m t:Nat}(m0:0<m)(m4:m<=4):Qu 3 Qf2 [.int m,.int t]=slT (Qh m [] (Qea m t)):=by
 refine QaN ?_;refine run_seq (Qy (r:=reT (QP ((List.range (m-1)).map λk=>((((k+t) % m:Nat):Int),(((k+1+t) % m:Nat):Int))))) ?_ ?_)
 .refine(QaZ (toD:=λ(k:Nat)=>D.int (k:Int)) (out:=λ(k:Nat)=>pairD ((((k+t) % m:Nat):Int),(((k+1+t) % m:Nat):Int))) (List.range (m-1)) (Qei (n:=m-1) (QdL (a:=m) (b:=1) rfl rfl rfl rfl) (by show D.int ((m:Int)-1)=_;congr 1;omega) ⋯) rfl λk hk=>⟨[none,slI k,slI m,slI t],rfl,⟨pairD ((((k+t) % m:Nat):Int),(((k+1+t) % m:Nat):Int)),true,[]⟩,?_,rfl,rfl⟩).trans ?_
  .rw[← Qnu,← Qnu];exact(Qj4 (Qp (Q1 (b:=m) (Q6 (a:=k) (b:=t) rfl rfl rfl rfl) rfl rfl rfl ⋯) (Qp (Q1 (b:=m) (Q6 (a:=(k:Int)+1) (b:=t) (Q6 (a:=k) (b:=1) rfl rfl rfl rfl) rfl rfl rfl) rfl rfl rfl ⋯) (Q0 _))) (show 2<=64 by decide)).trans rfl
  .unfold QP;rw[Zah];rfl
 rw[QaA];have a1:Qbs (Qa (dOp QN (Qx (dOp QaW (Qd 0) (dC (.int 1))) (Qd 1)) (Qd 0)) (Qa (Qd 0) Qc)) [slI m,slI t,slT (QP ((List.range (m-1)).map λk=>((((k+t) % m:Nat):Int),(((k+1+t) % m:Nat):Int))))]=some ⟨pairD ((((m-1+t) % m:Nat):Int),(m:Int)),true,[]⟩:=by
  rw[← Qnu,show((m-1:Nat):Int)=(m:Int)-1 by omega];exact(Qj4 (Qp (Q1 (b:=m) (Q6 (a:=(m:Int)-1) (b:=t) (QdL (a:=m) (b:=1) rfl rfl rfl rfl) rfl rfl rfl) rfl rfl rfl ⋯) (Qp (fa:=Qd 0) (r:=reI m) rfl (Q0 _))) (show 2<=64 by decide)).trans rfl
 have a2:=Qlx (fa:=Qd 2) (A:=(List.range (m-1)).map λk=>((((k+t) % m:Nat):Int),(((k+1+t) % m:Nat):Int))) (B:=[((((m-1+t) % m:Nat):Int),(m:Int))]) (ra:=⟨QP ((List.range (m-1)).map λk=>((((k+t) % m:Nat):Int),(((k+1+t) % m:Nat):Int))),true,[2]⟩) (ρ:=[slI m,slI t,slT (QP ((List.range (m-1)).map λk=>((((k+t) % m:Nat):Int),(((k+1+t) % m:Nat):Int))))]) rfl rfl (Qdu (Qp a1 (Q0 _)) (show 1<=64 by decide)) rfl (by rw[Zp,ZJ];show _+1<=_;omega);exact Q8 ((Qj4 (Qp (fa:=Qd 0) (r:=reI m) rfl (Qp (fa:=QH Qc) (r:=reT (.lst [])) rfl (Qp a2 (Q0 _)))) (show 3<=64 by decide)).trans rfl) ⟨rfl,rfl⟩
def QfQ(g:Mt1):Qo 1 g=g 0:=by rw[show(1:Nat)=0+1 from rfl,QS];show 0+g 0=_;omega
def Qf9(g:Mt1):Qo 2 g=g 0+g 1:=by rw[show(2:Nat)=1+1 from rfl,QS,QfQ]
def QfV(g:Mt1):Qo 3 g=g 0+g 1+g 2:=by rw[show(3:Nat)=2+1 from rfl,QS,Qf9]
def Qhq(g:Mt1):Qo 4 g=g 0+g 1+g 2+g 3:=by rw[show(4:Nat)=3+1 from rfl,QS,QfV]
def QrD{m t:Nat}{f c:Mt1}(h:Ten m t)(td:Told m (Qt m (Ql [] (Qea m t))) f c):Qo m c=Qo m (λk=>((m:Int)-k)*f ((k+t) % m))/\∀j,j<m->Qm m (Qt m (Ql [] (Qea m t))) f c j=0:=by
 have ps:=td.pos;have st:=td.stb;have tt:∀i,i<m->∀j,j<m->Qt m (Ql [] (Qea m t)) i j=((if i=j then(-1:Int)else 0)+if(j+(m-t)) % m=(i+(m-t)) % m+1 then 1 else 0):=by
  rcases h with⟨rfl,rfl⟩ | ⟨rfl,rfl⟩ | ⟨rfl,rfl⟩ | ⟨rfl,rfl⟩ | ⟨rfl,rfl⟩ | ⟨rfl,rfl⟩ | ⟨rfl,rfl⟩ | ⟨rfl,rfl⟩ | ⟨rfl,rfl⟩ | ⟨rfl,rfl⟩<;>decide
 have z:∀j,j<m->Qm m (Qt m (Ql [] (Qea m t))) f c j=0:=λj hj=>by
  have h1:=ps j hj;have h2:=st j hj;have h3:=tt j hj j hj;rw[if_pos rfl,if_neg ⋯]at h3;omega
 refine⟨?_,z⟩;have eqs:∀j,j<m->f j+Qo m (λi=>c i*((if i=j then(-1:Int)else 0)+if(j+(m-t)) % m=(i+(m-t)) % m+1 then 1 else 0))=0:=λj hj=>by
  refine Eq.trans ?_ (z j hj);unfold Qm;congr 1;exact Q2 λi hi=>by rw[tt i hi j hj]
 clear ps st tt z td;rcases h with⟨rfl,rfl⟩ | ⟨rfl,rfl⟩ | ⟨rfl,rfl⟩ | ⟨rfl,rfl⟩ | ⟨rfl,rfl⟩ | ⟨rfl,rfl⟩ | ⟨rfl,rfl⟩ | ⟨rfl,rfl⟩ | ⟨rfl,rfl⟩ | ⟨rfl,rfl⟩
 .have e0:=eqs 0 ∅;simp[QfQ,Qf9,QfV,Qhq]at e0 ⊢;omega
 .have e0:=eqs 0 ∅;have e1:=eqs 1 ∅;simp[QfQ,Qf9,QfV,Qhq]at e0 e1 ⊢;omega
 .have e0:=eqs 0 ∅;have e1:=eqs 1 ∅;simp[QfQ,Qf9,QfV,Qhq]at e0 e1 ⊢;omega
 .have e0:=eqs 0 ∅;have e1:=eqs 1 ∅;have e2:=eqs 2 ∅;simp[QfQ,Qf9,QfV,Qhq]at e0 e1 e2 ⊢;omega
 .have e0:=eqs 0 ∅;have e1:=eqs 1 ∅;have e2:=eqs 2 ∅;simp[QfQ,Qf9,QfV,Qhq]at e0 e1 e2 ⊢;omega
 .have e0:=eqs 0 ∅;have e1:=eqs 1 ∅;have e2:=eqs 2 ∅;simp[QfQ,Qf9,QfV,Qhq]at e0 e1 e2 ⊢;omega
 all_goals
  have e0:=eqs 0 ∅;have e1:=eqs 1 ∅;have e2:=eqs 2 ∅;have e3:=eqs 3 ∅;simp[QfQ,Qf9,QfV,Qhq]at e0 e1 e2 e3 ⊢;omega
def Qz1{m t i j:Nat}(hj:j<i)(hi:i<m):(j+t) % m≠(i+t) % m:=λe=>by
 have h:=Nat.sub_mod_eq_zero_of_mod_eq e.symm;rw[show i+t-(j+t)=i-j by omega,Nat.mod_eq_of_lt ⋯]at h;omega
noncomputable def Qjc(m t i:Nat)(h:Mt1):Int:=Qo i λk=>((m:Int)-k)*h ((k+t) % m)
def QpS{m t i:Nat}{h:Mt1}{v:Int}(hi:i<m):Qjc m t (i+1) (up h ((i+t) % m) v)=Qjc m t i h+((m:Int)-i)*v:=by
 unfold Qjc;rw[QS];have e1:Qo i (λk=>((m:Int)-k)*up h ((i+t) % m) v ((k+t) % m))=Qo i λk=>((m:Int)-k)*h ((k+t) % m):=Q2 λk hk=>by
  unfold up;rw[if_neg (Qz1 hk hi)]
 rw[e1];unfold up;rw[if_pos rfl]
def Qt3{k:Wk}{u m:Nat}{T:Mt2}{s f:Mt1}{ts:List (List Nat)}(w:Qb6 k u m T s f ts):(ts.map λt=>(t.length:Int)).sum=Qo m (QL ts):=by
 have key:∀i,i<=ts.length->((ts.take i).map λt=>(t.length:Int)).sum=Qo m (QL (ts.take i)):=λi=>by
  induction i with
  | zero=>
   intro _;have:(QL []:Mt1)=λ_=>0:=by funext p;simp[QL]
   rw[Zbc,this,QT];rfl
  | succ i ih=>
   intro hi;have e:ts[i]? =some (ts[i]'⋯):=Zz ⋯;rw[QdO w e,← ih ⋯,Zbs,e,ZP,ZaA];simp
 have:=key ts.length (Zk _);rw[Zav]at this;exact this
def QrP(x:Int):gNe (.int x) (.int x)=some (.bl false):=by
 unfold gNe;rw[show(D.int x).sim 8=true from rfl,Qhm (n:=8) rfl];rfl
def QrZ(x:Int):gEq (.int x) (.int x)=some (.bl true):=by
 unfold gEq;rw[show(D.int x).sim 8=true from rfl,Qhm (n:=8) rfl];rfl
noncomputable def Qga(QI:Den)(QcP:Den)(QaJ:Den)(QdQ:Den)(Qff:Qcd)(QcE:List D->Option D):DS:=(Qe (Qn 1 (Qx kk1 (dOp QN (Qj 2 QI [] (Qa vv0 (Qa QBD Qc))) kk4))) (Qe (Qn 2 (dOp QN (Qj 2 QI [] (Qa vv0 (Qa QBr Qc))) vv1)) (Qe (Qn 3 (Qj 2 QcP [] (Qa vv1 (Qa vv2 Qc)))) (Qe (Qn 4 (Qx Qy3 (dOp QN (Qj 2 QI [] (Qa vv0 (Qa QBp Qc))) kk4))) (Qe (Qn 5 (QeU vv4)) (Qe (Qn 6 (Qac (QH (Qa kk0 Qc)) vv1)) (Qe (Qbm (Qbe (dOp QaW vv1 kk1)) (.nm 7) (Qe (Qn 8 (dOp QN (dOp QN (Qac (Qj 2 QI [] (Qa vv0 (Qa (Qx QBG vv7) Qc))) QlF) QpU) (Qx (dOp QbU vv4 (dOp QaW vv1 vv7)) kk1))) (Qe (QfF 6 QaP (dOp QN (Qx vv7 vv2) vv1) vv8) (Qe (Qn 4 (dOp QaW vv4 (Qac vv8 (dOp QaW vv1 vv7)))) Qi)))) (Qe (QfF 6 QaP (dOp QN (Qx (dOp QaW vv1 kk1) vv2) vv1) vv4) (Qe (Qn 9 (Qj 1 QaJ [] (Qa (dOp QN (Qj 2 QI [] (Qa vv0 (Qa QBQ Qc))) Qf0) Qc))) (Qe (sIf (Qv (dOp gGt vv5 Qtr)) (Qe (Qlm ⟨3,2,QcE⟩ gEq 9 [some vv3,some (dList (Qa vv6 Qc)),none] (QH (Qa (dC (.bl false)) (Qa (dC (.bl false)) (Qa (dC (.bl false)) (Qa (dC (.bl true)) Qc)))))) Qi) Qi) (Qe (Qoj ⟨3,2,Qff⟩ 10 9 [some vv3,some (dList (Qa vv6 Qc)),none]) (Qe (sIf (bOr (QbO (Qv (Qev "tuple" QlU))) (bOr (Qv (dOp gNe (dBf QaQ (Qa QlU Qc)) kk3)) (QbO (Qv (Qj 2 QdQ [] (Qa (Qz QlU kk0) (Qa (Qac (QH (Qa kk0 Qc)) vv1) Qc))))))) (Qe (QW (dC (.bl false))) Qi) Qi) (Qe (sIf (bOr (QbO (Qv (Qev "list" (Qz QlU kk1)))) (Qv (dOp gNe (dBf Qcj (Qa (Qz QlU kk1) Qc)) vv5))) (Qe (QW (dC (.bl false))) Qi) Qi) (Qe (QW (dOp gEq (dBf Qcj (Qa (QR (Qan (Qz QlU kk2)) (.nm 1) [none,none] Qag (dBf QaQ (Qa vv1 Qc))) Qc)) vv5)) Qi))))))))))))))
def Qkk(d:Den):Prop:=∀ns:List Int,d [.lst (ns.map .int)]=some (.bl true,true)
def QsH{dc dl dw di:Den}{er:Qcd}{cr:List D->Option D}{y:List D->Option Str}{sub:Str->Str->Option Bool}(w:QkZ sub)(hc:Qh2 dc)(hln:∀{m t:Nat},0<m->m<=4->dl [.int m,.int t]=slT (Qh m [] (Qea m t)))(hw:QgX dw)(hi:QoH di)(her:Qnf er)(hr:Qi1 sub y cr)(yx:Qk6 y):Qkk (Qu 11 (Qga dc dl dw di er cr)):=λns=>by
 have cell:∀(ρ:En) (k:Nat),ρ[0]? =some (slF (.lst (ns.map .int)))->Qj 2 dc [] (Qa (Qd 0) (Qa (dC (.int k)) Qc)) ρ=some (reI (ns.getD k 0)):=λρ k h0=>by
  refine QA (Qp (Qc3 h0) (Qp (Qgl _ _) (Q0 _))) ?_ rfl;exact hc ns k
 have a1:=ZE (ns.getD 18 0) (by decide:(4:Int)≠0);have a2:=ZH (ns.getD 18 0) (by decide:(0:Int)<4);obtain⟨m,em⟩:∃m:Nat,(m:Int)=1+ns.getD 18 0 % 4:=⟨(1+ns.getD 18 0 % 4).toNat,⋯⟩;have m0:0<m:= ⋯
 have m4:m<=4:= ⋯
 have b1:=ZE (ns.getD 19 0) (by omega:(m:Int)≠0);have b2:=ZH (ns.getD 19 0) (by omega:(0:Int)<m);obtain⟨t,et⟩:∃t:Nat,(t:Int)=ns.getD 19 0 % m:=⟨(ns.getD 19 0 % m).toNat,⋯⟩;have ten:=QyK (t:=t) m0 m4 ⋯;have nw:=QuK ten;obtain⟨L,rL⟩:∃L,L=Qea m t:=⟨_,rfl⟩;obtain⟨due,ed⟩:∃due:Int,due=1999+ns.getD 20 0 % 4:=⟨_,rfl⟩;have d1:=ZE (ns.getD 20 0) (by decide:(4:Int)≠0);have d2:=ZH (ns.getD 20 0) (by decide:(0:Int)<4);have v1:=ZE (ns.getD 25 0) (by decide:(1000003:Int)≠0);obtain⟨k,wk,ew⟩:=hw _ v1;refine QaN ?_;refine rsa (d:= .int m) (by rw[em];exact Q6 (a:=1) rfl rfl (Q1 (b:=4) (cell _ 18 rfl) rfl rfl rfl ∅) rfl) ?_;refine rsa (d:= .int t) (by rw[et];exact Q1 (b:=m) (cell _ 19 rfl) rfl rfl rfl ⋯) ?_;refine rsa (QA (r:=⟨[.int m,.int t],true,[]⟩) rfl (hln m0 m4) rfl) ?_;rw[← rL];refine rsa (d:= .int due) (by rw[ed];exact Q6 (a:=1999) rfl rfl (Q1 (b:=4) (cell _ 20 rfl) rfl rfl rfl ∅) rfl) ?_;refine run_seq (Qy (r:=reF (.int due)) rfl ?_);refine run_seq (Qy (QeV (z:=0) (n:=m) (r:=reI m) rfl rfl ⋯) ?_);change Run _ [slF (.lst (ns.map .int)),slI m,slI t,slT (Qh m [] L),slI due,slI due,slT (Qb m (λ_=>0)),none,none,none,none] _;have lp:Run (Qbm (Qbe (dOp QaW (Qd 1) (dC (.int 1)))) (.nm 7) (Qe (Qn 8 (dOp QN (dOp QN (Qac (Qj 2 dc [] (Qa (Qd 0) (Qa (Qx (dC (.int 21)) (Qd 7)) Qc))) (dC (.int 69621))) (dC (.int 65537))) (Qx (dOp QbU (Qd 4) (dOp QaW (Qd 1) (Qd 7))) (dC (.int 1))))) (Qe (QfF 6 QaP (dOp QN (Qx (Qd 7) (Qd 2)) (Qd 1)) (Qd 8)) (Qe (Qn 4 (dOp QaW (Qd 4) (Qac (Qd 8) (dOp QaW (Qd 1) (Qd 7))))) Qi)))) [slF (.lst (ns.map .int)),slI m,slI t,slT (Qh m [] L),slI due,slI due,slT (Qb m (λ_=>0)),none,none,none,none] (Nx λρ=>∃(h:Mt1) (left:Int) (v7 v8:Option (D×Bool)),0<=left/\left<=3000/\(∀j,0<=h j/\h j<=3000)/\Qjc m t (m-1) h+left=due/\ρ=[slF (.lst (ns.map .int)),slI m,slI t,slT (Qh m [] L),slI left,slI due,slT (Qb m h),v7,v8,none,none]):=by
  refine QbM (toD:=λ(i:Nat)=>D.int (i:Int)) (List.range (m-1)) (λi ρ=>∃(h:Mt1) (left:Int) (v7 v8:Option (D×Bool)),0<=left/\left<=3000/\(∀j,0<=h j/\h j<=3000)/\Qjc m t i h+left=due/\ρ=[slF (.lst (ns.map .int)),slI m,slI t,slT (Qh m [] L),slI left,slI due,slT (Qb m h),v7,v8,none,none]) (Qei (n:=m-1) (QdL (a:=m) (b:=1) rfl rfl rfl rfl) (by show D.int ((m:Int)-1)=_;congr 1;omega) ⋯) rfl ⟨λ_=>0,due,none,none,⋯,⋯,λ_=>⟨Zal _,by show(0:Int)<=3000;decide⟩,by show(0:Int)+due=due;omega,rfl⟩ ?_ (λρ h=>by rw[ZJ]at h;exact h);rintro i x ρ hx ⟨h,left,v7,v8,l0,l3,h0,hs,rfl⟩;have hi:i<m-1:=by have:=(Zg.mp hx).1;rw[ZJ]at this;exact this
  rw[ZY hi]at hx;cases hx;have e21:=hc ns (21+i);rw[show((21+i:Nat):Int)=21+(i:Int) by omega]at e21;have qp:0<left / ((m:Int)-i)+1:=by have:=ZbL l0 (by omega:0<=(m:Int)-i);omega
  obtain⟨x,rx⟩:∃x,x=ns.getD (21+i) 0*69621 % 65537 % (left / ((m:Int)-i)+1):=⟨_,rfl⟩;have x1:=ZE (ns.getD (21+i) 0*69621 % 65537) (by omega:left / ((m:Int)-i)+1≠0);have x2:=ZH (ns.getD (21+i) 0*69621 % 65537) qp;rw[← rx]at x1 x2;have xl:x*((m:Int)-i)<=left:=by
   have g1:x*((m:Int)-i)<=left / ((m:Int)-i)*((m:Int)-i):=Zaw ⋯ ⋯;have g2:=Int.ediv_mul_le left (by omega:(m:Int)-i≠0);omega
  have xs0:x<=left:=by
   have g3:x*1<=x*((m:Int)-i):=ZX ⋯ x1;omega
  have xn:0<=x*((m:Int)-i):=ZaH x1 ⋯;refine⟨_,rfl,?_⟩;change Run _ [slF (.lst (ns.map .int)),slI m,slI t,slT (Qh m [] L),slI left,slI due,slT (Qb m h),slI i,v8,none,none] _;refine run_seq (Qy (r:=reI x) ?_ ?_)
  .rw[rx];exact Q1 (b:=left / ((m:Int)-i)+1) (Q1 (b:=65537) (Qb2 (a:=ns.getD (21+i) 0) (b:=69621) (QA (Qp (r:=reF (.lst (ns.map .int))) rfl (Qp (Q6 (a:=21) (b:=i) rfl rfl rfl rfl) (Q0 _))) e21 rfl) rfl rfl rfl (Qdd ∅)) rfl rfl rfl ∅) rfl (Q6 (b:=1) (QeZ (a:=left) (b:=(m:Int)-i) rfl rfl (QdL (a:=m) (b:=i) rfl rfl rfl rfl) rfl ⋯ ⋯) rfl rfl rfl) rfl qp
  change Run _ [slF (.lst (ns.map .int)),slI m,slI t,slT (Qh m [] L),slI left,slI due,slT (Qb m h),slI i,slI x,none,none] _;have hlt:(i+t) % m<m:=Nat.mod_lt _ m0;have eix:dOp QN (Qx (Qd 7) (Qd 2)) (Qd 1) [slF (.lst (ns.map .int)),slI m,slI t,slT (Qh m [] L),slI left,slI due,slT (Qb m h),slI i,slI x,none,none]=some (reI (((i+t) % m:Nat):Int)):=by
   rw[← Qnu];exact Q1 (b:=m) (Q6 (a:=i) (b:=t) rfl rfl rfl rfl) rfl rfl rfl ⋯
  refine run_seq (Qkj (m:=m) (f:=h) (i:=(((i+t) % m:Nat):Int)) (v:=x) rfl eix rfl (ra:=reI x) rfl rfl ⋯ ⋯ ?_);rw[Zae];refine Qw (Qy (QdL (a:=left) (b:=x*((m:Int)-i)) rfl rfl (Qb2 (a:=x) (b:=(m:Int)-i) rfl rfl (QdL (a:=m) (b:=i) rfl rfl rfl rfl) rfl (Qdd ⋯)) rfl) (Qr ?_));refine⟨up h ((i+t) % m) x,left-x*((m:Int)-i),_,_,⋯,⋯,λj=>?_,?_,rfl⟩
  .unfold up;by_cases e:j=(i+t) % m
   .rw[if_pos e];exact⟨x1,⋯⟩
   .rw[if_neg e];exact h0 j
  .rw[QpS ⋯,ZaP];omega
 refine run_seq (lp.mono λo ho=>?_);cases o with
 | nx ρ=>
  obtain⟨h,left,v7,v8,l0,l3,h0,hs,rfl⟩:=ho;have hlt:(m-1+t) % m<m:=Nat.mod_lt _ m0;have eix:dOp QN (Qx (dOp QaW (Qd 1) (dC (.int 1))) (Qd 2)) (Qd 1) [slF (.lst (ns.map .int)),slI m,slI t,slT (Qh m [] L),slI left,slI due,slT (Qb m h),v7,v8,none,none]=some (reI (((m-1+t) % m:Nat):Int)):=by
   rw[← Qnu,show((m-1:Nat):Int)=(m:Int)-1 by omega];exact Q1 (b:=m) (Q6 (a:=(m:Int)-1) (b:=t) (QdL (a:=m) (b:=1) rfl rfl rfl rfl) rfl rfl rfl) rfl rfl rfl ⋯
  refine run_seq (Qkj (m:=m) (f:=h) (i:=(((m-1+t) % m:Nat):Int)) (v:=left) rfl eix rfl (ra:=reI left) rfl rfl ⋯ ⋯ ?_);rw[Zae];obtain⟨f,rf⟩:∃f,f=up h ((m-1+t) % m) left:=⟨_,rfl⟩;have f0:∀j,0<=f j/\f j<=3000:=λj=>by
   rw[rf];unfold up;by_cases e:j=(m-1+t) % m
   .rw[if_pos e];exact⟨l0,l3⟩
   .rw[if_neg e];exact h0 j
  have fs:Qjc m t m f=due:=by
   have:=QpS (t:=t) (h:=h) (v:=left) (by omega:m-1<m);rw[← rf,show m-1+1=m by omega,show(m:Int)-((m-1:Nat):Int)=1 by omega]at this;omega
  rw[← rf];change Run _ [slF (.lst (ns.map .int)),slI m,slI t,slT (Qh m [] L),slI left,slI due,slT (Qb m f),v7,v8,none,none] _;obtain⟨c,td⟩:=QwS m0 ⋯ nw (f:=f) λj _=>by have:=f0 j;omega
  obtain⟨cs,cz⟩:=QrD ten td;have csum:Qo m c=due:=cs.trans fs;rw[← rL]at nw td cz;refine rsa (QA (Qp (Q1 (a:=ns.getD 25 0) (b:=1000003) (cell _ 25 rfl) rfl rfl rfl ∅) (Q0 _)) ew rfl) ?_;change Run _ [slF (.lst (ns.map .int)),slI m,slI t,slT (Qh m [] L),slI left,slI due,slT (Qb m f),v7,v8,some (wkD k 0,true),none] _;by_cases big:2000<due
  .refine Qw (QX (b:=true) (QC (Qaj (d:= .bl true) (ra:=reI due) (rb:=reI 2000) rfl rfl (by show some (D.bl (decide ((2000:Int)<due)))=_;rw[decide_eq_true big])) rfl) (λ_=>?_) (λz=>by cases z));have hy:=yx.many k 0 m [] L f c wk m0 ⋯ nw (λj _=>(f0 j).1) td ⋯;have hcr:cr [Qh m [] L,Qb m f,wkD k 0]=some (QF false false false true):=hr m [] L _ k 0 "TooMany" false false false true w.tm hy;refine Qw ⟨.rt (.bl true) true,?_,⟨rfl,rfl⟩⟩;have e6:=Qcy (ρ:=[slF (.lst (ns.map .int)),slI m,slI t,slT (Qh m [] L),slI left,slI due,slT (Qb m f),v7,v8,some (wkD k 0,true),none]) (m:=m) (f:=f) (fs:=Qa (Qd 6) Qc) (rs:=⟨[Qb m f],true,[6]⟩) rfl rfl;have e3:Qd 3 [slF (.lst (ns.map .int)),slI m,slI t,slT (Qh m [] L),slI left,slI due,slT (Qb m f),v7,v8,some (wkD k 0,true),none]=some ⟨Qh m [] L,true,[3]⟩:=rfl;have ev:evs [some (Qd 3),some (dList (Qa (Qd 6) Qc)),none] [slF (.lst (ns.map .int)),slI m,slI t,slT (Qh m [] L),slI left,slI due,slT (Qb m f),v7,v8,some (wkD k 0,true),none]=some [some ⟨Qh m [] L,true,[3]⟩,some (reT (Qb m f)),none]:=by
    simp only[evs,e3,e6,Za,ZN]
   unfold Qlm;rw[ev,Za];have ir:isRef (wkD k 0)=true:=by cases k<;>rfl
   show(if(true && true && true && isRef (wkD k 0))=true then(cr [Qh m [] L,Qb m f,wkD k 0]).bind _ else none)=_;rw[ir,hcr];rfl
  refine Qw (QX (b:=false) (QC (Qaj (d:= .bl false) (ra:=reI due) (rb:=reI 2000) rfl rfl (by show some (D.bl (decide ((2000:Int)<due)))=_;rw[decide_eq_false big])) rfl) (λz=>by cases z) (λ_=>Qr ?_));obtain⟨ts,w2,fin,eqc,tl,e⟩:=her k 0 m [] L f c wk m0 ⋯ nw (λj _=>(f0 j).1) td ⋯;have hran:Qmj m (Qt m (Ql [] L)) f ts= .tup [Qb m (λ_=>0),Qb m c,Qae ts]:=by
   unfold Qmj hpA;rw[Qdi eqc,Qdi (f:=Qm m (Qt m (Ql [] L)) f (QL ts)) (g:=λ_=>0) λj hj=>(Qb5 j rfl eqc).trans (cz j hj)]
  rw[hran]at e;have lens:(ts.map λt=>(t.length:Int)).sum=due:=by rw[Qt3 w2,Q2 eqc,csum]
  refine run_seq (Qwm (rs:=[some ⟨Qh m [] L,true,[3]⟩,some (reT (Qb m f)),none]) ?_ rfl rfl (Qzt.trans e) ?_)
  .have e6:=Qcy (ρ:=[slF (.lst (ns.map .int)),slI m,slI t,slT (Qh m [] L),slI left,slI due,slT (Qb m f),v7,v8,some (wkD k 0,true),none]) (m:=m) (f:=f) (fs:=Qa (Qd 6) Qc) (rs:=⟨[Qb m f],true,[6]⟩) rfl rfl;have e3:Qd 3 [slF (.lst (ns.map .int)),slI m,slI t,slT (Qh m [] L),slI left,slI due,slT (Qb m f),v7,v8,some (wkD k 0,true),none]=some ⟨Qh m [] L,true,[3]⟩:=rfl;simp only[evs,e3,e6,Za,ZN]
  change Run _ [slF (.lst (ns.map .int)),slI m,slI t,slT (Qh m [] L),slI left,slI due,slT (Qb m f),v7,v8,some (wkD k (0+ts.length),true),slT (.tup [Qb m (λ_=>0),Qb m c,Qae ts])] _;have zr:di [Qb m (λ_=>0),Qb m (λ_=>0)]=slT (.bl true):=by rw[QiH];exact hi _
  have rp:Qac (QH (Qa (dC (.int 0)) Qc)) (Qd 1) [slF (.lst (ns.map .int)),slI m,slI t,slT (Qh m [] L),slI left,slI due,slT (Qb m f),v7,v8,some (wkD k (0+ts.length),true),slT (.tup [Qb m (λ_=>0),Qb m c,Qae ts])]=some (reT (Qb m (λ_=>0))):=QeV (z:=0) (n:=m) (r:=reI m) rfl rfl ⋯;refine Qw (QX (b:=false) (QeQ (a:=false) (b:=false) (QbY (b:=true) (QC (b:=true) rfl rfl)) (QeQ (a:=false) (b:=false) rfl (QbY (b:=true) (QC (b:=true) (QA (Qp (fa:=Qz (Qd 10) (dC (.int 0))) (r:=⟨Qb m (λ_=>0),true,[10]⟩) rfl (Qp rp (Q0 _))) zr rfl) rfl)))) (λz=>by cases z) (λ_=>Qr ?_));refine Qw (QX (b:=false) (QeQ (a:=false) (b:=false) (QbY (b:=true) (QC (b:=true) rfl rfl)) (QC (Qaj (d:= .bl false) (ra:=reI (Qo m c)) (rb:=reI due) (QlB (m:=m) (f:=c) (fa:=Qz (Qd 10) (dC (.int 1))) (r:=⟨Qb m c,true,[10]⟩) rfl rfl) rfl (by rw[csum];show gNe (.int due) (.int due)=_;exact QrP due)) rfl)) (λz=>by cases z) (λ_=>Qr ?_));have ls:QR (Qan (Qz (Qd 10) (dC (.int 2)))) (.nm 1) [none,none] Qag (dBf QaQ (Qa (Qd 1) Qc)) [slF (.lst (ns.map .int)),slI m,slI t,slT (Qh m [] L),slI left,slI due,slT (Qb m f),v7,v8,some (wkD k (0+ts.length),true),slT (.tup [Qb m (λ_=>0),Qb m c,Qae ts])]=some (reT (.lst ((ts.map λt=>(t.length:Int)).map .int))):=by
   refine(QaZ (toD:=Qq) (out:=λt=>D.int (t.length:Int)) (ir:=⟨ts.map Qq,[10]⟩) ts rfl rfl λt ht=>⟨[none,slF (Qq t)],rfl,reI (t.length:Int),Qjj (l:=t) (r:=reF (Qq t)) rfl rfl,rfl,rfl⟩).trans ?_;rw[Zah];rfl
  refine Q8 (Qaj (d:= .bl true) (rb:=reI due) (QpY (ns:=ts.map λt=>(t.length:Int)) ls rfl) rfl (by rw[lens];show gEq (.int due) (.int due)=_;exact QrZ due)) ⟨rfl,rfl⟩
 | _=>exact ho.elim
noncomputable def Qel(QI:Den)(QcM:Den)(QcI:Den):DS:=(Qe (Qn 3 (Qx kk1 (dOp QN (Qj 2 QI [] (Qa vv0 (Qa kk0 Qc))) vv1))) (Qe (Qn 4 (dOp QN (dOp QbU (Qj 2 QI [] (Qa vv0 (Qa kk1 Qc))) kk6) Qf0)) (Qe (Qn 5 (dOp QN (Qj 2 QI [] (Qa vv0 (Qa kk1 Qc))) kk6)) (Qe (Qn 6 (Qj 5 QcI [] (Qa (Qj 3 QcM [] (Qa vv3 (Qa vv4 (Qa vv5 Qc)))) (Qa (QcR vv0 (Qbu kk2) (Qbu QzH)) (Qa vv3 (Qa vv5 (Qa vv2 Qc))))))) (Qe (sIf (Qv (dOp gEq (dOp QN vv4 kk2) kk1)) (Qe (Qn 6 (QoE vv6 (QcW kk1))) Qi) Qi) (Qe (Qn 7 (QR (Qan vv6) (.tp [1,2,3]) [none,none,none,none] (QbO (Qv vv3)) (Qbs (Qa (dBf Qla (Qa vv1 (Qa vv2 Qc))) (Qa (dBf Qks (Qa vv1 (Qa vv2 Qc))) Qc))))) (Qe (Qn 8 (QR (Qan vv6) (.tp [1,2,3]) [none,none,none,none] (Qv vv3) (Qbs (Qa vv1 (Qa vv2 Qc))))) (Qe (QW (Qbs (Qa vv3 (Qa vv7 (Qa vv8 Qc))))) Qi))))))))
def Ql5(d:Den):Prop:=∀ns:List Int,ns.length<=63->∃(m:Nat) (R L:Lpp),d [.lst (ns.map .int),.int 4,.int 36]=some (Qh m R L,true)/\0<m/\m<=4/\Qbc m R L/\Qk2 m R L
def Qvb{dc db dm:Den}(hc:Qh2 dc)(hb:Qny db)(hm:Qke dm):Ql5 (Qu 9 (Qel dc db dm)):=λns hl=>by
 obtain⟨most,em4⟩:∃most:Nat,most=4:=⟨_,rfl⟩;have hm0:0<most:= ⋯
 have hm8:most<=8:= ⋯
 obtain⟨room,er36⟩:∃room:Int,room=36:=⟨_,rfl⟩;have b1:=ZE (ns.getD 0 0) (by omega:(most:Int)≠0);have b2:=ZH (ns.getD 0 0) (by omega:(0:Int)<most);obtain⟨m1,em1⟩:∃m:Nat,(m:Int)=1+ns.getD 0 0 % most:=⟨(1+ns.getD 0 0 % most).toNat,⋯⟩;have t1:=ZE (ns.getD 1 0 / 6) (by decide:(1000003:Int)≠0);have t2:=ZH (ns.getD 1 0 / 6) (by decide:(0:Int)<1000003);generalize et:ns.getD 1 0 / 6 % 1000003=t at t1 t2;generalize ek:ns.getD 1 0 % 6=kind;have key:Run (Qel dc db dm) (Qab 9 [.lst (ns.map .int),.int most,.int room]) (Rt λd fr=>∃(m:Nat) (R L:Lpp),d=Qh m R L/\fr=true/\0<m/\m<=most/\Qbc m R L/\Qk2 m R L):=by
  have cell:∀(ρ:En) (k:Nat),ρ[0]? =some (slF (.lst (ns.map .int)))->Qj 2 dc [] (Qa (Qd 0) (Qa (dC (.int k)) Qc)) ρ=some (reI (ns.getD k 0)):=λρ k h0=>QA (Qp (Qc3 h0) (Qp (Qgl _ _) (Q0 _))) (hc ns k) rfl;refine rsa (Q6 (a:=1) rfl rfl (Q1 (b:=most) (cell _ 0 rfl) rfl rfl rfl ⋯) rfl) ?_;rw[← em1];refine rsa (Q1 (b:=1000003) (QeZ (b:=6) (cell _ 1 rfl) rfl rfl rfl ∅ ∅) rfl rfl rfl ∅) ?_;rw[et];refine rsa (Q1 (b:=6) (cell _ 1 rfl) rfl rfl rfl ∅) ?_;rw[ek];have m0:0<m1:= ⋯
  have m8:m1<=most:= ⋯
  obtain⟨cs,hcs,esl⟩:=QuV (a:=2) (b:=12) (fa:=Qd 0) (ns:=ns) (ρ:=[slF (.lst (ns.map .int)),slI most,slI room,slI m1,slI t,slI kind,none,none,none]) (r:=reF (.lst (ns.map .int))) rfl rfl;have hbase:=hb m1 t kind ⋯ ⋯ t1 ⋯;obtain⟨W',fr,hmore,hw1,hw2,hw3,hw4⟩:=hm m1 (QaV m1 t kind) cs kind room ⋯ ⋯ (by rw[Qj0];omega) QjY;have gW:∀w∈QaV m1 t kind++W',GoodW m1 w:=λw hw=>(Zr.mp hw).elim (QjY w) (hw2 w);have easgM:∀fr,asg 6 (if fr=true then(reT (Qai (QaV m1 t kind++W')))else R.norm (reF (Qai (QaV m1 t kind++W')))) [slF (.lst (ns.map .int)),slI most,slI room,slI m1,slI t,slI kind,none,none,none]=[slF (.lst (ns.map .int)),slI most,slI room,slI m1,slI t,slI kind,some (Qai (QaV m1 t kind++W'),fr),none,none]:=λfr=>by cases fr<;>rfl
  refine run_seq (Qy (r:=if fr=true then(reT (Qai (QaV m1 t kind++W')))else R.norm (reF (Qai (QaV m1 t kind++W')))) ?_ ?_)
  .exact(QtK (Qp (QA (r:=⟨[.int m1,.int t,.int kind],true,[]⟩) rfl hbase rfl) (Qp esl (rs:=⟨[.int m1,.int kind,.int room],true,[]⟩) rfl)) hmore rfl).trans (by cases fr<;>rfl)
  refine(congrArg (λρ=>Run _ ρ _) (easgM fr)).mpr ?_;refine QfG (P:=λρ=>∃W b,(W=QaV m1 t kind++W'∨W=(QaV m1 t kind++W').reverse)/\(∀w∈QaV m1 t kind,w∈W)/\(∀w∈W,GoodW m1 w)/\W.length<=200/\ρ=[slF (.lst (ns.map .int)),slI most,slI room,slI m1,slI t,slI kind,some (Qai W,b),none,none]) ?_ ?_
  .have hlen:(QaV m1 t kind++W').length<=200:=by rw[Zo,Qj0];omega
   refine QX (QC (QcV (Q1 rfl rfl rfl rfl ∅) rfl rfl rfl) rfl) (λ_=>?_) (λ_=>?_)
   .refine run_seq (Qy (QtA rfl) (Qr ?_));rw[QaA];exact⟨_,true,.inr rfl,λw hw=>ZbG.mpr (Ze _ hw),λw hw=>gW w (ZbG.mp hw),by rw[Zbo];exact hlen,rfl⟩
   .exact Qr ⟨_,fr,.inl rfl,λw hw=>Ze _ hw,gW,hlen,rfl⟩
  .rintro ρ ⟨W,b,eW,w1,w2,w3,rfl⟩;have nw:Qbc m1 (Qa4 W) (QaO W):=⟨W,Qo7.mono w1,w2,w3,rfl,rfl⟩;have hsm:=QuM (.inl ⟨⋯,er36⟩) m0 eW hw3 hw4 nw;refine rsa (Qu4 (Qc3 rfl) (by cases b<;>rfl)) ?_;refine rsa (QuP (Qc3 rfl) (by cases b<;>rfl)) ?_;exact Q8 rfl ⟨m1,Qa4 W,QaO W,rfl,rfl,m0,m8,nw,hsm⟩
 obtain⟨o,h1,h2⟩:=key;cases o with
 | rt d fr=>
  obtain⟨m,R,L,rfl,rfl,h3,h4,h5,h6⟩:=h2;subst em4 er36;exact⟨m,R,L,by unfold Qu;refine(congrArg (λz=>Option.bind z _) h1).trans rfl,h3,h4,h5,h6⟩
 | _=>exact h2.elim
noncomputable def QmH(Qc7:Den)(QI:Den)(Qcv:Den)(QbL:Den)(QcN:Den)(Qax:Den)(QaE:Den)(QaJ:Den)(Qa8:Den)(Qff:Qcd):DS:=(Qe (Qn 1 (Qj 3 Qc7 [] (Qa vv0 (Qa kk4 (Qa QBR Qc))))) (Qe (Qn 2 (QR (Qbe (Qz vv1 kk0)) (.nm 1) [none,none,some 0] Qag (dOp QN (dOp QN (Qac (Qj 2 QI [] (Qa vv2 (Qa (Qx QzH vv1) Qc))) QlF) QpU) kk4))) (Qe (Qn 3 (Qj 2 Qcv [] (Qa vv2 (Qa (Qj 2 QI [] (Qa vv0 (Qa QzK Qc))) Qc)))) (Qe (sIf (QbO (Qv (Qj 3 QbL [] (Qa vv1 (Qa vv3 (Qa (dOp QN (Qj 2 QI [] (Qa vv0 (Qa Qrp Qc))) Qf0) Qc)))))) (Qe (QW (dC (.bl false))) Qi) Qi) (Qe (sIf (Qer (Qv (dOp gEq (dOp QN (Qj 2 QI [] (Qa vv0 (Qa Qrp Qc))) kk4) kk1)) (QbO (Qv (Qj 1 QcN [] (Qa vv0 Qc))))) (Qe (QW (dC (.bl false))) Qi) Qi) (Qe (sIf (Qer (Qv (dOp gNe (Qz vv1 kk2) (QH Qc))) (Qv (dOp gNe (Qj 2 Qax [] (Qa vv1 (Qa vv2 Qc))) (QH (Qa (dC (.bl false)) (Qa (dC (.bl false)) (Qa (dC (.bl true)) (Qa (dC (.bl false)) Qc)))))))) (Qe (QW (dC (.bl false))) Qi) Qi) (Qe (Qn 4 (Qj 2 QaE [] (Qa vv1 (Qa vv2 Qc)))) (Qe (Qn 5 (QoG ⟨3,2,Qff⟩ [some vv1,some vv2,some (Qj 1 QaJ [] (Qa (dOp QN (Qj 2 QI [] (Qa vv0 (Qa Qrp Qc))) Qf0) Qc))])) (Qe (sIf (Qer (Qv (dOp gEq (Qz vv1 kk2) (QH Qc))) (QbO (Qv (Qev "list" (Qj 2 Qa8 [] (Qa vv1 (Qa vv2 Qc))))))) (Qe (QW (dC (.bl false))) Qi) Qi) (Qe (QW (QcZ (Qev "tuple" vv4) (QcZ (Qev "tuple" vv5) (QcZ (dOp gEq (Qz vv4 kk0) (Qz vv5 kk0)) (dOp gEq (Qz vv4 kk1) (Qz vv5 kk1)))))) Qi))))))))))
def Qsi{fa:DE}{ρ:En}{ra:HS.R}{L:Lpp}(ha:fa ρ=some ra)(ea:ra.d=QP L):dOp gEq fa (QH Qc) ρ=some (reT (.bl L.isEmpty)):=by
 refine Qaj (rb:=reT (.lst [])) ha rfl ?_;rw[ea];show gEq (QP L) (.lst [])=_;unfold gEq;rw[show(QP L).sim 8=true from QmU 6 L];show some (D.bl (deq (QP L) (.lst [])))=_;cases L<;>rfl
def QAn{m:Nat}{R L:Lpp}{f c:Mt1}(m0:0<m)(m4:m<=4)(hw:Qbc m R L)(sm:Qk2 m R L)(f0:∀j,0<=f j/\f j<=3)(td:Told m (Qt m (Ql R L)) f c):Qo m c<=2000:=by
 have hP:spr (QG R L) m<=36:=by
  rcases sm with⟨_,h⟩ | ⟨h,_⟩
  .exact h
  .omega
 have hN:Qo m f<=12:=by
  have:=Qbd (m:=m) (f:=f) (g:=λ_=>3) λj _=>(f0 j).2;rw[QmQ]at this;omega
 have:=Quw hw m0 (λj _=>(f0 j).1) td hP hN ∅;rcases(by omega:m=1∨m=2∨m=3∨m=4)with rfl | rfl | rfl | rfl<;>omega
def QnG{g1 g2:DT}{ρ:En}(h:g1 ρ=some false):Qer g1 g2 ρ=some false:=by
 unfold Qer;rw[h];rfl
def Qym{dn dc dwr drf dlg dbp dst dw dlp:Den}{er:Qcd}{xp:List D->Option Str}{sub:Str->Str->Option Bool}(w:QkZ sub)(hn:Ql5 dn)(hc:Qh2 dc)(hwr:QiJ dwr)(hrf:Qmk drf)(hlg:Qkk dlg)(hbp:QgT sub xp dbp)(px:Qha xp)(hst:QlN dst)(hw:QgX dw)(hlp:QlR dst dlp)(her:Qnf er)(ns:List Int)(hl:ns.length<=63):Qu 6 (QmH dn dc dwr drf dlg dbp dst dw dlp er) [.lst (ns.map .int)]=slT (.bl true):=by
 obtain⟨m,R,L,en,m0,m4,nw,sm⟩:=hn ns hl;have cell:∀(ρ:En) (k:Nat),ρ[0]? =some (slF (.lst (ns.map .int)))->Qj 2 dc [] (Qa (Qd 0) (Qa (dC (.int k)) Qc)) ρ=some (reI (ns.getD k 0)):=λρ k h0=>by
  refine QA (Qp (Qc3 h0) (Qp (Qgl _ _) (Q0 _))) ?_ rfl;exact hc ns k
 obtain⟨f,rf⟩:∃f:Nat->Int,f=λk=>ns.getD (12+k) 0*69621 % 65537 % 4:=⟨_,rfl⟩;have fb:∀j,0<=f j/\f j<=3:=λj=>by
  rw[rf];have:=ZE (ns.getD (12+j) 0*69621 % 65537) (by decide:(4:Int)≠0);have:=ZH (ns.getD (12+j) 0*69621 % 65537) (by decide:(0:Int)<4);dsimp only;omega
 obtain⟨m1,m2,j,h1,g,h2,ewr,e1,e2,hj,hg⟩:=hwr m f (ns.getD 16 0) m0 ⋯;have v1:=ZE (ns.getD 17 0) (by decide:(1000003:Int)≠0);obtain⟨n,ekn⟩:∃n:Int,n=ns.getD 17 0 % 1000003:=⟨_,rfl⟩;rw[← ekn]at v1;have erf:=hrf m R L m1 m2 j h1 g h2 n v1 e1 e2 hj hg;obtain⟨k,wk,ew⟩:=hw n v1;obtain⟨c,es,td⟩:=hst m R L f m0 ⋯ nw λj _=>by have:=fb j;omega
 have sc:=QAn m0 m4 nw sm fb td;obtain⟨ts,_,_,eqc,tl,e⟩:=her k 0 m R L f c wk m0 ⋯ nw (λj _=>(fb j).1) td sc;have hpap:L=[]->∃P:List Nat,dlp [Qh m R L,Qb m f]=slT (Qq P):=λz=>by
  subst z;obtain⟨P,eP,_⟩:=hlp m R f c m0 ⋯ nw es td;exact⟨P,eP⟩
 obtain⟨T,rT⟩:∃T,T=Qt m (Ql R L):=⟨_,rfl⟩;rw[← rT]at es e;have hran:Qmj m T f ts= .tup [Qb m (Qm m T f c),Qb m c,Qae ts]:=by
  unfold Qmj hpA;rw[Qdi eqc,Qdi (f:=Qm m T f (QL ts)) (g:=Qm m T f c) λj _=>Qb5 j rfl eqc]
 rw[hran]at e;have cn:∀ρ:En,ρ[0]? =some (slF (.lst (ns.map .int)))->dOp QN (Qj 2 dc [] (Qa (Qd 0) (Qa (dC (.int 17)) Qc))) (dC (.int 1000003)) ρ=some (reI n):=λρ h0=>by
  rw[ekn];exact Q1 (b:=1000003) (cell ρ 17 h0) rfl rfl rfl ∅
 refine QaN ?_;refine run_seq (Qy (QA (r:=⟨[.lst (ns.map .int),.int 4,.int 36],false,[]⟩) rfl en rfl) ?_);change Nx _ (.nx [slF (.lst (ns.map .int)),slT (Qh m R L),none,none,none,none]);refine run_seq (Qy (r:=reT (Qb m f)) ?_ ?_)
 .refine(QaZ (toD:=λ(k:Nat)=>D.int (k:Int)) (out:=λ(k:Nat)=>D.int (f k)) (List.range m) (Qei (n:=m) (r:=reI m) rfl rfl ⋯) rfl λk hk=>?_).trans rfl;refine⟨[none,slI k,slF (.lst (ns.map .int))],rfl,reI (f k),?_,rfl,rfl⟩;rw[rf];have e12:=hc ns (12+k);rw[show((12+k:Nat):Int)=12+(k:Int) by omega]at e12;exact Q1 (b:=4) (Q1 (b:=65537) (Qb2 (a:=ns.getD (12+k) 0) (b:=69621) (QA (Qp (r:=reF (.lst (ns.map .int))) rfl (Qp (Q6 (a:=12) (b:=k) rfl rfl rfl rfl) (Q0 _))) e12 rfl) rfl rfl rfl (Qdd ∅)) rfl rfl rfl ∅) rfl rfl rfl ∅
 change Nx _ (.nx [slF (.lst (ns.map .int)),slT (Qh m R L),slT (Qb m f),none,none,none]);refine run_seq (Qy (QA (Qp (r:=⟨Qb m f,true,[2]⟩) rfl (Qp (cell _ 16 rfl) (Q0 _))) ewr rfl) ?_);change Nx _ (.nx [slF (.lst (ns.map .int)),slT (Qh m R L),slT (Qb m f),slT (.lst [Qb m1 h1,Qb m g,Qb m2 h2]),none,none]);refine Qw (QX (b:=false) (QbY (b:=true) (QC (b:=true) (QA (Qp (r:=⟨Qh m R L,true,[1]⟩) rfl (Qp (fa:=Qd 3) (r:=⟨.lst [Qb m1 h1,Qb m g,Qb m2 h2],true,[3]⟩) rfl (Qp (cn _ rfl) (Q0 _)))) erf rfl) rfl)) (λz=>by cases z) (λ_=>Qr ?_));have lg:Qj 1 dlg [] (Qa (Qd 0) Qc) [slF (.lst (ns.map .int)),slT (Qh m R L),slT (Qb m f),slT (.lst [Qb m1 h1,Qb m g,Qb m2 h2]),none,none]=some (reT (.bl true)):=QA (r:=⟨[.lst (ns.map .int)],false,[]⟩) rfl (hlg ns) rfl;refine Qw (QX (b:=false) ((QlL (QC (QcV (b:=1) (Q1 (b:=4) (cell _ 17 rfl) rfl rfl rfl ∅) rfl rfl rfl) rfl) (QbY (b:=true) (QC (b:=true) lg rfl))).trans (by rw[show(!true)=false from rfl,Zbr])) (λz=>by cases z) (λ_=>Qr ?_));refine Qw (QX (b:=false) ?_ (λz=>by cases z) (λ_=>Qr ?_))
 .have i2:Qz (Qd 1) (dC (.int 2)) [slF (.lst (ns.map .int)),slT (Qh m R L),slT (Qb m f),slT (.lst [Qb m1 h1,Qb m g,Qb m2 h2]),none,none]=some ⟨QP L,true,[1]⟩:=rfl;have n2:=Qil i2 rfl;by_cases hL:L=[]
  .rw[show L.isEmpty=true by rw[hL];rfl]at n2;exact QnG (QC (b:=false) n2 rfl)
  .have hb:=hbp m R L _ "NotPlain" false false true false w.np (px.plain m R L ((List.range m).map λi=>D.int (f i)) hL);exact(QlL (b:=false) (QC n2 rfl) (QC (b:=false) (Qik (d:=QF false false true false) (QA (r:=⟨[Qh m R L,Qb m f],true,[1,2]⟩) rfl hb rfl) rfl (rb:=⟨QF false false true false,true,[]⟩) rfl rfl rfl) rfl)).trans (by rw[Zbr])
 refine run_seq (Qy (QA (r:=⟨[Qh m R L,Qb m f],true,[1,2]⟩) rfl es rfl) ?_);change Nx _ (.nx [slF (.lst (ns.map .int)),slT (Qh m R L),slT (Qb m f),slT (.lst [Qb m1 h1,Qb m g,Qb m2 h2]),slT (.tup [Qb m (Qm m T f c),Qb m c]),none]);refine run_seq (Qy (r:=reT (.tup [Qb m (Qm m T f c),Qb m c,Qae ts])) ?_ ?_)
 .have wy:Qj 1 dw [] (Qa (dOp QN (Qj 2 dc [] (Qa (Qd 0) (Qa (dC (.int 17)) Qc))) (dC (.int 1000003))) Qc) [slF (.lst (ns.map .int)),slT (Qh m R L),slT (Qb m f),slT (.lst [Qb m1 h1,Qb m g,Qb m2 h2]),slT (.tup [Qb m (Qm m T f c),Qb m c]),none]=some ⟨wkD k 0,true,[]⟩:=QA (Qp (cn _ rfl) (Q0 _)) ew rfl;have w1:Qd 1 [slF (.lst (ns.map .int)),slT (Qh m R L),slT (Qb m f),slT (.lst [Qb m1 h1,Qb m g,Qb m2 h2]),slT (.tup [Qb m (Qm m T f c),Qb m c]),none]=some ⟨Qh m R L,true,[1]⟩:=rfl;have w2:Qd 2 [slF (.lst (ns.map .int)),slT (Qh m R L),slT (Qb m f),slT (.lst [Qb m1 h1,Qb m g,Qb m2 h2]),slT (.tup [Qb m (Qm m T f c),Qb m c]),none]=some ⟨Qb m f,true,[2]⟩:=rfl;have ev:evs [some (Qd 1),some (Qd 2),some (Qj 1 dw [] (Qa (dOp QN (Qj 2 dc [] (Qa (Qd 0) (Qa (dC (.int 17)) Qc))) (dC (.int 1000003))) Qc))] [slF (.lst (ns.map .int)),slT (Qh m R L),slT (Qb m f),slT (.lst [Qb m1 h1,Qb m g,Qb m2 h2]),slT (.tup [Qb m (Qm m T f c),Qb m c]),none]=some [some ⟨Qh m R L,true,[1]⟩,some ⟨Qb m f,true,[2]⟩,some ⟨wkD k 0,true,[]⟩]:=by
   simp only[evs,w1,w2,wy,Za,ZN]
  exact QyX rfl rfl ev rfl rfl rfl rfl (by cases k<;>rfl) e rfl
 rw[QaA];change Nx _ (.nx [slF (.lst (ns.map .int)),slT (Qh m R L),slT (Qb m f),slT (.lst [Qb m1 h1,Qb m g,Qb m2 h2]),slT (.tup [Qb m (Qm m T f c),Qb m c]),slT (.tup [Qb m (Qm m T f c),Qb m c,Qae ts])]);refine Qw (QX (b:=false) ?_ (λz=>by cases z) (λ_=>Qr ?_))
 .have i2:Qz (Qd 1) (dC (.int 2)) [slF (.lst (ns.map .int)),slT (Qh m R L),slT (Qb m f),slT (.lst [Qb m1 h1,Qb m g,Qb m2 h2]),slT (.tup [Qb m (Qm m T f c),Qb m c]),slT (.tup [Qb m (Qm m T f c),Qb m c,Qae ts])]=some ⟨QP L,true,[1]⟩:=rfl;have n2:=Qsi i2 rfl;by_cases hL:L=[]
  .obtain⟨P,eP⟩:=hpap hL;have isl:Qev "list" (Qj 2 dlp [] (Qa (Qd 1) (Qa (Qd 2) Qc))) [slF (.lst (ns.map .int)),slT (Qh m R L),slT (Qb m f),slT (.lst [Qb m1 h1,Qb m g,Qb m2 h2]),slT (.tup [Qb m (Qm m T f c),Qb m c]),slT (.tup [Qb m (Qm m T f c),Qb m c,Qae ts])]=some (reT (.bl true)):=by
    have ec:Qj 2 dlp [] (Qa (Qd 1) (Qa (Qd 2) Qc)) [slF (.lst (ns.map .int)),slT (Qh m R L),slT (Qb m f),slT (.lst [Qb m1 h1,Qb m g,Qb m2 h2]),slT (.tup [Qb m (Qm m T f c),Qb m c]),slT (.tup [Qb m (Qm m T f c),Qb m c,Qae ts])]=some (reT (Qq P)):=QA (r:=⟨[Qh m R L,Qb m f],true,[1,2]⟩) rfl eP rfl;unfold Qev;rw[ec];rfl
   exact(QlL (b:=false) (QC n2 rfl) (QbY (b:=true) (QC (b:=true) isl rfl))).trans (by rw[Zbr])
  .have hle:L.isEmpty=false:=by
    cases q:L with
    | nil=>exact absurd q hL
    | cons _ _=>rfl
   rw[hle]at n2;exact QnG (QC (b:=false) n2 rfl)
 refine Q8 (QlA (a:=true) (b:=true) rfl (QlA (a:=true) (b:=true) rfl (QlA (a:=true) (b:=true) (Qqr (d:=Qb m (Qm m T f c)) (ra:=⟨Qb m (Qm m T f c),true,[4]⟩) (rb:=⟨Qb m (Qm m T f c),true,[5]⟩) rfl rfl rfl rfl (QzZ 7 m _)) (Qqr (d:=Qb m c) (ra:=⟨Qb m c,true,[4]⟩) (rb:=⟨Qb m c,true,[5]⟩) rfl rfl rfl rfl (QzZ 7 m _))))) ⟨rfl,rfl⟩
end HS
namespace HS
open PySem PySem.Spec L2 PyProof.Rows
section
variable {P:Program}{w:World}{K:Fgg}{mg:Str->Option Value}{base:Heap}
def QwB{h:Heap}{x y:Str}{st:Stmt}{fa:Addr}{k n n':Nat}{Γ:List (Str×FnR)}{cs:List (Str×Cn)}{T:ObT}{C:List (Str×CoR)}{g:DS}(X:K.In h)(G:h.Ns mainGlobals mg)(hmg:mg x=some (.ref fa))
  (F:Fact K x st) (S:Qar (namesOf (Qg st)) [y] (Qg st)) (B:Q3 x st [y]) (M:QbR mg cs) (tab:∀base:Heap,QaK P w K mg base (k+1) Γ) (tabo:∀base:Heap,Qcx P w K mg base k T) (tabc:∀base:Heap,Qge P w K mg base (k+1) C) (hc:Q5 n (Qnz n' (Qbo st Γ cs) T C) (QY st)=some g):
  ∃fd:FuncData,(∀(s:Shared) (u:Value),BindsTo s fd ⟨[u],[]⟩ [(y,u)])∧
    ∀base:Heap,K.In base->base.Ns mainGlobals mg->Qau P w K mg base CX0 (k+2) fa fd [y] (spV K 1 (Qu (namesOf (Qg st)).length g)):=by
 obtain⟨f,fd,Fn,a⟩:=F.ex;have e:=hmg.symm.trans (Zai X G a);cases e;refine⟨fd,λs u=>?_,λbase _ _=>Qsk Fn S M (tab base) (tabo base) (tabc base) hc⟩;obtain⟨oc,od,kV,doc,pm,an,cdv,ct,osl,rfl,lk,hcd⟩:=Fn.ex;exact .of_eq (B kV doc pm an cdv ct [u] rfl)
def Quv{k:Nat}{x:Str}{r:XiR}(h:Qem P w K mg base k x r):∀y q,look y [(x,r)]=some q->Qem P w K mg base k y q:=λy q e=>by
 unfold look at e;split at e
 .rename_i hxy;cases e;have hxy:y=x:=by simpa using hxy
  rw[hxy];exact h
 .cases e
end
end HS
def HS.some_of{α:Type}{x:Option α}{d:α}(h:x.isSome=true):x=some (x.getD d):=by cases x with | none=>cases h | some a=>rfl
namespace Law
open PySem L2 HS
noncomputable section
def top(i:Nat):Stmt:=PySem.Challenge.pw_heapstill_k18_still_refused.main.body.getD i (.Pass ⟨0,0,0,0⟩)
abbrev cst:List (Str×Cn):=[("MOST_TOPPLINGS",2000)]
abbrev Sc(s:Stmt)(P:List Str):Prop:=Qar (namesOf (Qg s)) P (Qg s)
def scM{s:Stmt}{P:List Str}(h1:(Qg s).kind= .function)(h2:(Qg s).isCoroutine=false)(h3:(Qg s).isGenerator=false)(h4:(namesOf (Qg s)).Nodup/\(namesOf (Qg s)).take P.length=P/\(∀x∈P,(Qg s).names.lookup x=some .local ∨(Qg s).names.lookup x=some .cell)/\∀y∈(Qg s).names,y.2≠ .free):Sc s P:=⟨h1,h2,h3,h4.1,h4.2.1,h4.2.2.1,h4.2.2.2⟩
noncomputable abbrev Cp(s:Stmt)(Γ:List (Str×FnR)):Option DS:=Q5 60 (Qbo s Γ cst) (QY s)
noncomputable abbrev CpO(s:Stmt)(Γ:List (Str×FnR))(T:ObT)(p:Option Nat):Option DS:=Q5 60 (thO 60 (Qbo s Γ cst) T p) (QY s)
noncomputable abbrev Dn(s:Stmt)(g:DS):Den:=Qu (namesOf (Qg s)).length g
noncomputable abbrev Eu(s:Stmt)(p:Nat)(g:DS):Qcd:=QfM (namesOf (Qg s)).length p g
noncomputable abbrev Gc(x:Str)(n:Nat)(d:Den)(Γ:List (Str×FnR)):List (Str×FnR):=(x,⟨n,[],d⟩)::Γ
structure Kn (x:Str) (s:Stmt) (P:List Str) (Γ:List (Str×FnR)) (g:DS):Prop where
 a:Sc s P
 b:Q3 x s P
 c:Cp s Γ=some g
def kn{Pr:Program}{w:World}{K:Fgg}{mg:Str->Option Value}{base h:Heap}{x:Str}{s:Stmt}{P:List Str}{k:Nat}{Γ:List (Str×FnR)}{g:DS}(X:K.In h)(G:h.Ns mainGlobals mg)(F:Fact K x s)(q:Kn x s P Γ g)(M:QbR mg cst)(t:QaK Pr w K mg base k Γ):Known Pr w K mg base (k+1) x ⟨P.length,[],Dn s g⟩:=QdG X G F q.a q.b M t q.c
noncomputable abbrev cls:List Str:=["NoRow","NoHeap","TooMany","NotPlain"]
noncomputable abbrev QBT:List (Str×List (Str×Bool)):=[("NoRow",[("NoNet",false),("NoRow",true),("NoHeap",false),("ValueError",true),("NotPlain",false),("TooMany",false),("HeapError",true)]),("NoHeap",[("NoNet",false),("NoRow",false),("NoHeap",true),("ValueError",true),("NotPlain",false),("TooMany",false),("HeapError",true)]),("TooMany",[("NoNet",false),("NoRow",false),("NoHeap",false),("ValueError",true),("NotPlain",false),("TooMany",true),("HeapError",true)]),("NotPlain",[("NoNet",false),("NoRow",false),("NoHeap",false),("ValueError",true),("NotPlain",true),("TooMany",false),("HeapError",true)])]
noncomputable abbrev sub:=QvX QBT
noncomputable abbrev CpT(s:Stmt)(Γ:List (Str×FnR))(Γx:List (Str×(Nat×(List D->Option Str))))(hΓ:List (Str×FnR)):Option DS:=Q5 60 (thT 60 s Γ cst ⟨Γx,cls⟩ sub hΓ) (QY s)
noncomputable abbrev CpH(s:Stmt)(hΓ:List (Str×FnR)):Option DS:=Qh4 (Qbo s [] cst) sub hΓ (QY s)
noncomputable abbrev CpX(s:Stmt)(Γ:List (Str×FnR))(Γx:List (Str×(Nat×(List D->Option Str)))):Option DX:=Qd1 60 (Qbo s Γ cst) ⟨Γx,cls⟩ (QY s)
noncomputable abbrev CpY(s:Stmt)(Γ:List (Str×FnR))(Γx:List (Str×(Nat×(List D->Option Str))))(T:ObT)(p:Nat):Option DX:=Qiv 60 (thO 60 (Qbo s Γ cst) T (some p)) ⟨Γx,cls⟩ (QY s)
noncomputable abbrev CpC(s:Stmt)(Γ:List (Str×FnR))(Γi:List (Str×XiR))(hΓ:List (Str×FnR)):Option DS:=Q5 60 (thC 60 s Γ cst Γi sub hΓ) (QY s)
noncomputable abbrev Qir(s:Stmt)(Γ:List (Str×FnR))(T:ObT)(C:List (Str×CoR)):Option DS:=Q5 60 (Qnz 60 (Qbo s Γ cst) T C) (QY s)
noncomputable abbrev T0:ObT:=⟨HS.wCl,[],[],[],["Way","Together"]⟩
abbrev Qbg:=top 8
def Qih:Sc Qbg ["net","rows"]:=scM rfl rfl rfl nofun
def QjM:Q3 "need_rows" Qbg ["net","rows"]:=λ_ _ _ _ _ _=>lc λ_=>lc λ_=>l0 rfl
noncomputable def QhZ:=(CpX Qbg [] []).getD xNo
def QnR:CpX Qbg [] []=some QhZ:=some_of nofun
noncomputable abbrev Qcq:=Qa9 (namesOf (Qg Qbg)).length QhZ
noncomputable abbrev Qfu:List (Str×(Nat×(List D->Option Str))):=("need_rows",(2,Qcq))::[]
def QjC:=(Cp Qbg []).getD QD
def Qpx:Cp Qbg []=some QjC:=some_of nofun
abbrev Qad:=Dn Qbg QjC
abbrev Qds:=Gc "need_rows" 2 Qad []
abbrev Qa0:=top 9
def QhR:Sc Qa0 ["net","heaps"]:=scM rfl rfl rfl nofun
def Qis:Q3 "need_heaps" Qa0 ["net","heaps"]:=λ_ _ _ _ _ _=>lc λ_=>lc λ_=>l0 rfl
noncomputable def QhV:=(CpX Qa0 Qds Qfu).getD xNo
def QmY:CpX Qa0 Qds Qfu=some QhV:=some_of nofun
noncomputable abbrev QbW:=Qa9 (namesOf (Qg Qa0)).length QhV
noncomputable abbrev Qe6:List (Str×(Nat×(List D->Option Str))):=("need_heaps",(2,QbW))::Qfu
def Qh3:=(Cp Qa0 Qds).getD QD
def QnT:Cp Qa0 Qds=some Qh3:=some_of nofun
abbrev QU:=Dn Qa0 Qh3
abbrev Qfr:=Gc "need_heaps" 2 QU Qds
abbrev Qi3:=top 11
def Qqx:=(Cp Qi3 Qfr).getD QD
def QxA:Kn "steps" Qi3 ["roads","lanes"] Qfr Qqx:=⟨scM rfl rfl rfl nofun,λ_ _ _ _ _ _=>lc λ_=>lc λ_=>l0 rfl,some_of nofun⟩
abbrev QdT:=Dn Qi3 Qqx
abbrev Qmb:=Gc "steps" 2 QdT Qfr
abbrev QdY:=top 12
def QiK:=(Cp QdY Qmb).getD QD
def QoF:Kn "toll_table" QdY ["net"] Qmb QiK:=⟨scM rfl rfl rfl nofun,λ_ _ _ _ _ _=>lc λ_=>l0 rfl,some_of nofun⟩
abbrev QK:=Dn QdY QiK
abbrev QfC:=Gc "toll_table" 1 QK Qmb
abbrev QeI:=top 13
def QjE:=(Cp QeI QfC).getD QD
def Qpr:Kn "span_list" QeI ["net"] QfC QjE:=⟨scM rfl rfl rfl nofun,λ_ _ _ _ _ _=>lc λ_=>l0 rfl,some_of nofun⟩
abbrev QcJ:=Dn QeI QjE
abbrev Qdx:=Gc "span_list" 1 QcJ QfC
abbrev Qdf:=top 14
def QnK:Sc Qdf ["net","row","counts"]:=scM rfl rfl rfl nofun
def QpZ:Q3 "after" Qdf ["net","row","counts"]:=λ_ _ _ _ _ _=>lc λ_=>lc λ_=>lc λ_=>l0 rfl
noncomputable def QnA:=(CpX Qdf Qdx Qe6).getD xNo
def Qut:CpX Qdf Qdx Qe6=some QnA:=some_of nofun
noncomputable abbrev Qho:=Qa9 (namesOf (Qg Qdf)).length QnA
noncomputable abbrev Qft:List (Str×(Nat×(List D->Option Str))):=("after",(3,Qho))::Qe6
def QpM:=(Cp Qdf Qdx).getD QD
def Qxa:Cp Qdf Qdx=some QpM:=some_of nofun
abbrev QbX:=Dn Qdf QpM
abbrev Qmh:=Gc "after" 3 QbX Qdx
abbrev Qdp:=top 17
def QgN:=(Cp Qdp Qmh).getD QD
def QlM:Kn "ready_places" Qdp ["net","heap"] Qmh QgN:=⟨scM rfl rfl rfl nofun,λ_ _ _ _ _ _=>lc λ_=>lc λ_=>l0 rfl,some_of nofun⟩
abbrev Qaf:=Dn Qdp QgN
abbrev QZ:=Gc "ready_places" 2 Qaf Qmh
abbrev Qcu:=inClass (top 18) 0
def Qm1:Sc Qcu ["self","net","heap"]:=scM rfl rfl rfl nofun
def QnL:Qia "chosen" "Way.chosen" Qcu ["self","net","heap"]:=λ_ _ _ _ _ _=>lc λ_=>lc λ_=>lc λ_=>l0 rfl
def Qfy:=(CpO Qcu QZ T0 (some 0)).getD QD
def QnN:CpO Qcu QZ T0 (some 0)=some Qfy:=some_of nofun
noncomputable abbrev Qee:=Eu Qcu 0 Qfy
abbrev Qa3:=inClass (top 19) 0
def QiE:Sc Qa3 ["self","net","heap"]:=scM rfl rfl rfl nofun
def Qjv:Qia "chosen" "Together.chosen" Qa3 ["self","net","heap"]:=λ_ _ _ _ _ _=>lc λ_=>lc λ_=>lc λ_=>l0 rfl
def Qdr:=(CpO Qa3 QZ T0 (some 0)).getD QD
def Qjz:CpO Qa3 QZ T0 (some 0)=some Qdr:=some_of nofun
noncomputable abbrev Qcf:=Eu Qa3 0 Qdr
abbrev Qa6:=inClass (top 20) 0
def Qii:Sc Qa6 ["self","picks"]:=scM rfl rfl rfl nofun
def Qjy:Qia "__init__" "Picked.__init__" Qa6 ["self","picks"]:=λ_ _ _ _ _ _=>lc λ_=>lc λ_=>l0 rfl
def Qdq:=(CpO Qa6 QZ T0 (some 0)).getD QD
def Qjx:CpO Qa6 QZ T0 (some 0)=some Qdq:=some_of nofun
noncomputable abbrev QaC:=Eu Qa6 0 Qdq
abbrev Qby:=inClass (top 20) 1
def Qj1:Sc Qby ["self","net","heap"]:=scM rfl rfl rfl nofun
def Qk5:Qia "chosen" "Picked.chosen" Qby ["self","net","heap"]:=λ_ _ _ _ _ _=>lc λ_=>lc λ_=>lc λ_=>l0 rfl
def Qd5:=(CpO Qby QZ T0 (some 0)).getD QD
def Qk9:CpO Qby QZ T0 (some 0)=some Qd5:=some_of nofun
noncomputable abbrev QcU:=Eu Qby 0 Qd5
noncomputable abbrev T1:ObT:=⟨HS.wCl,(HS.wMe Qee Qcf QcU),[],[("Picked",⟨2,0,QaC⟩)],["Way","Together"]⟩
abbrev Qfg:=top 21
def Qtz:Sc Qfg ["net","heap","way"]:=scM rfl rfl rfl nofun
def QvL:Q3 "run" Qfg ["net","heap","way"]:=λ_ _ _ _ _ _=>lc λ_=>lc λ_=>lc λ_=>l0 rfl
noncomputable def Qr8:=(CpY Qfg QZ Qft T1 2).getD xNo
def Qyd:CpY Qfg QZ Qft T1 2=some Qr8:=some_of nofun
noncomputable abbrev Qfh:=xdU (namesOf (Qg Qfg)).length 2 Qr8
noncomputable abbrev Γi:List (Str×XiR):=[("run",⟨3,2,Qfh⟩)]
def QqV:=(CpO Qfg QZ T1 (some 2)).getD QD
def QAT:CpO Qfg QZ T1 (some 2)=some QqV:=some_of nofun
noncomputable abbrev Qff:=Eu Qfg 2 QqV
noncomputable abbrev T2:ObT:=⟨HS.wCl,(HS.wMe Qee Qcf QcU),[("run",⟨3,2,Qff⟩)],[("Picked",⟨2,0,QaC⟩)],["Way","Together"]⟩
abbrev Qfb:=top 23
def Qk3:=(Cp Qfb QZ).getD QD
def QqC:Kn "is_plain" Qfb ["net"] QZ Qk3:=⟨scM rfl rfl rfl nofun,λ_ _ _ _ _ _=>lc λ_=>l0 rfl,some_of nofun⟩
abbrev Qbi:=Dn Qfb Qk3
abbrev Qd4:=Gc "is_plain" 1 Qbi QZ
abbrev QaY:=top 24
def QhQ:Sc QaY ["net"]:=scM rfl rfl rfl nofun
def Qh0:Q3 "need_plain" QaY ["net"]:=λ_ _ _ _ _ _=>lc λ_=>l0 rfl
noncomputable def QhW:=(CpX QaY Qd4 Qft).getD xNo
def QmX:CpX QaY Qd4 Qft=some QhW:=some_of nofun
noncomputable abbrev QcF:=Qa9 (namesOf (Qg QaY)).length QhW
noncomputable abbrev Qe3:List (Str×(Nat×(List D->Option Str))):=("need_plain",(1,QcF))::Qft
def QiC:=(Cp QaY Qd4).getD QD
def Qnv:Cp QaY Qd4=some QiC:=some_of nofun
abbrev QaG:=Dn QaY QiC
abbrev QfO:=Gc "need_plain" 1 QaG Qd4
abbrev QfR:=top 27
def Qmp:=(Cp QfR QfO).getD QD
def Qtm:Kn "settled" QfR ["tolls","heap","counts"] QfO Qmp:=⟨scM rfl rfl rfl nofun,λ_ _ _ _ _ _=>lc λ_=>lc λ_=>lc λ_=>l0 rfl,some_of nofun⟩
abbrev Qbn:=Dn QfR Qmp
abbrev QeY:=Gc "settled" 3 Qbn QfO
abbrev Qde:=top 26
def QoV:Sc Qde ["net","heap"]:=scM rfl rfl rfl nofun
def Qqv:Q3 "still" Qde ["net","heap"]:=λ_ _ _ _ _ _=>lc λ_=>lc λ_=>l0 rfl
noncomputable def Qo6:=(CpX Qde QeY Qe3).getD xNo
def QtL:CpX Qde QeY Qe3=some Qo6:=some_of nofun
noncomputable abbrev QdE:=Qa9 (namesOf (Qg Qde)).length Qo6
noncomputable abbrev Qkn:List (Str×(Nat×(List D->Option Str))):=("still",(2,QdE))::Qe3
def Qqg:=(Cp Qde QeY).getD QD
def QwC:Cp Qde QeY=some Qqg:=some_of nofun
abbrev QaE:=Dn Qde Qqg
abbrev Qmn:=Gc "still" 2 QaE QeY
abbrev QdD:=top 29
def QhX:=(Cp QdD Qmn).getD QD
def Qm2:Kn "roads_among" QdD ["toll","place","places"] Qmn QhX:=⟨scM rfl rfl rfl nofun,λ_ _ _ _ _ _=>lc λ_=>lc λ_=>lc λ_=>l0 rfl,some_of nofun⟩
abbrev QaI:=Dn QdD QhX
abbrev QcC:=Gc "roads_among" 3 QaI Qmn
abbrev QaL:=top 28
def QgA:Sc QaL ["net","heap"]:=scM rfl rfl rfl nofun
def QhN:Q3 "least_paper" QaL ["net","heap"]:=λ_ _ _ _ _ _=>lc λ_=>lc λ_=>l0 rfl
noncomputable def Qg0:=(CpX QaL QcC Qkn).getD xNo
def QlS:CpX QaL QcC Qkn=some Qg0:=some_of nofun
noncomputable abbrev QbK:=Qa9 (namesOf (Qg QaL)).length Qg0
noncomputable abbrev Qda:List (Str×(Nat×(List D->Option Str))):=("least_paper",(2,QbK))::Qkn
def QhS:=(Cp QaL QcC).getD QD
def Qm3:Cp QaL QcC=some QhS:=some_of nofun
abbrev Qa8:=Dn QaL QhS
abbrev Qe4:=Gc "least_paper" 2 Qa8 QcC
abbrev Qdo:=top 31
def Qg2:=(Cp Qdo Qe4).getD QD
def Qma:Kn "_law_cell_at" Qdo ["_law_script","_law_k"] Qe4 Qg2:=⟨scM rfl rfl rfl nofun,λ_ _ _ _ _ _=>lc λ_=>lc λ_=>l0 rfl,some_of nofun⟩
abbrev QI:=Dn Qdo Qg2
abbrev Qes:=Gc "_law_cell_at" 2 QI Qe4
abbrev QeN:=top 32
def QjI:=(Cp QeN Qes).getD QD
def QpE:Kn "_law_base" QeN ["_law_many","_law_turn","_law_kind"] Qes QjI:=⟨scM rfl rfl rfl nofun,λ_ _ _ _ _ _=>lc λ_=>lc λ_=>lc λ_=>l0 rfl,some_of nofun⟩
abbrev QcM:=Dn QeN QjI
abbrev Qgn:=Gc "_law_base" 3 QcM Qes
abbrev Qez:=top 33
def QjF:=(Cp Qez Qgn).getD QD
def Qpf:Kn "_law_fits" Qez ["_law_many","_law_ways","_law_room"] Qgn QjF:=⟨scM rfl rfl rfl nofun,λ_ _ _ _ _ _=>lc λ_=>lc λ_=>lc λ_=>l0 rfl,some_of nofun⟩
abbrev QaT:=Dn Qez QjF
abbrev Qgi:=Gc "_law_fits" 3 QaT Qgn
abbrev QeF:=top 34
def QjG:=(Cp QeF Qgi).getD QD
def Qpq:Kn "_law_more" QeF ["_law_ways","_law_cells","_law_many","_law_kind","_law_room"] Qgi QjG:=⟨scM rfl rfl rfl nofun,λ_ _ _ _ _ _=>lc λ_=>lc λ_=>lc λ_=>lc λ_=>lc λ_=>l0 rfl,some_of nofun⟩
abbrev QcI:=Dn QeF QjG
abbrev Qgg:=Gc "_law_more" 5 QcI Qgi
abbrev Qfj:=top 35
def QkY:=(Cp Qfj Qgg).getD QD
def Qq7:Kn "_law_net" Qfj ["_law_script","_law_most","_law_room"] Qgg QkY:=⟨scM rfl rfl rfl nofun,λ_ _ _ _ _ _=>lc λ_=>lc λ_=>lc λ_=>l0 rfl,some_of nofun⟩
abbrev Qc7:=Dn Qfj QkY
abbrev Qhi:=Gc "_law_net" 3 Qc7 Qgg
abbrev Qf6:=top 37
def QmN:=(Cp Qf6 Qhi).getD QD
def Qty:Kn "_law_is" Qf6 ["_law_found","_law_due"] Qhi QmN:=⟨scM rfl rfl rfl nofun,λ_ _ _ _ _ _=>lc λ_=>lc λ_=>l0 rfl,some_of nofun⟩
abbrev QdQ:=Dn Qf6 QmN
abbrev Qit:=Gc "_law_is" 2 QdQ Qhi
abbrev QcL:=top 38
def QoX:Sc QcL ["_law_error"]:=scM rfl rfl rfl nofun
def QpC:Q3 "_law_word" QcL ["_law_error"]:=λ_ _ _ _ _ _=>lc λ_=>l0 rfl
def QjL:=(CpH QcL []).getD QD
def Qpt:CpH QcL []=some QjL:=some_of nofun
abbrev QaS:=Dn QcL QjL
noncomputable abbrev Qcp:=Gc "_law_word" 1 QaS []
abbrev Qbz:=top 39
def Qkf:Sc Qbz ["_law_net_here","_law_row"]:=scM rfl rfl rfl nofun
def Qkw:Q3 "_law_by_still" Qbz ["_law_net_here","_law_row"]:=λ_ _ _ _ _ _=>lc λ_=>lc λ_=>l0 rfl
def Qf8:=(CpT Qbz Qit Qda Qcp).getD QD
def QkS:CpT Qbz Qit Qda Qcp=some Qf8:=some_of nofun
abbrev Qbv:=Dn Qbz Qf8
abbrev Qb9:=Gc "_law_by_still" 2 Qbv Qit
abbrev QbV:=top 40
def Ql0:Sc QbV ["_law_net_here","_law_row","_law_way_here"]:=scM rfl rfl rfl nofun
def QmW:Q3 "_law_by_run" QbV ["_law_net_here","_law_row","_law_way_here"]:=λ_ _ _ _ _ _=>lc λ_=>lc λ_=>lc λ_=>l0 rfl
def QhY:=(CpC QbV Qb9 Γi Qcp).getD QD
def QcE:CpC QbV Qb9 Γi Qcp=some QhY:=some_of nofun
noncomputable abbrev Qcs:=QjW (namesOf (Qg QbV)).length 2 QhY
noncomputable abbrev ΓC:List (Str×CoR):=[("_law_by_run",⟨3,2,Qcs⟩)]
abbrev Qbw:=top 41
def Qkm:Sc Qbw ["_law_net_here","_law_row"]:=scM rfl rfl rfl nofun
def Qlb:Q3 "_law_by_paper" Qbw ["_law_net_here","_law_row"]:=λ_ _ _ _ _ _=>lc λ_=>lc λ_=>l0 rfl
def QfX:=(CpT Qbw Qb9 Qda Qcp).getD QD
def Qku:CpT Qbw Qb9 Qda Qcp=some QfX:=some_of nofun
abbrev Qax:=Dn Qbw QfX
abbrev Qec:=Gc "_law_by_paper" 2 Qax Qb9
abbrev Qc8:=top 42
def Qpk:Sc Qc8 ["_law_number"]:=scM rfl rfl rfl nofun
def QqI:Q3 "_law_way" Qc8 ["_law_number"]:=λ_ _ _ _ _ _=>lc λ_=>l0 rfl
def Qk4:=(Qir Qc8 Qec T2 ΓC).getD QD
def QqU:Qir Qc8 Qec T2 ΓC=some Qk4:=some_of nofun
abbrev QaJ:=Dn Qc8 Qk4
abbrev Qg7:=Gc "_law_way" 1 QaJ Qec
abbrev QdX:=top 43
def Qib:=(Cp QdX Qg7).getD QD
def Qo9:Kn "_law_wrong" QdX ["_law_heap","_law_cell"] Qg7 Qib:=⟨scM rfl rfl rfl nofun,λ_ _ _ _ _ _=>lc λ_=>lc λ_=>l0 rfl,some_of nofun⟩
abbrev Qcv:=Dn QdX Qib
abbrev Qfx:=Gc "_law_wrong" 2 Qcv Qg7
abbrev QbJ:=top 44
def Qle:Sc QbJ ["_law_net_here","_law_rows","_law_cell"]:=scM rfl rfl rfl nofun
def Qmd:Q3 "_law_refused" QbJ ["_law_net_here","_law_rows","_law_cell"]:=λ_ _ _ _ _ _=>lc λ_=>lc λ_=>lc λ_=>l0 rfl
def QgE:=(Qir QbJ Qfx T2 ΓC).getD QD
def Qlw:Qir QbJ Qfx T2 ΓC=some QgE:=some_of nofun
abbrev QbL:=Dn QbJ QgE
abbrev Qex:=Gc "_law_refused" 3 QbL Qfx
abbrev QeL:=top 45
def QjN:=(Cp QeL Qex).getD QD
def QpA:Kn "_law_line" QeL ["_law_many","_law_turn"] Qex QjN:=⟨scM rfl rfl rfl nofun,λ_ _ _ _ _ _=>lc λ_=>lc λ_=>l0 rfl,some_of nofun⟩
abbrev QcP:=Dn QeL QjN
abbrev Qgr:=Gc "_law_line" 2 QcP Qex
abbrev QcK:=top 46
def QoA:Sc QcK ["_law_script"]:=scM rfl rfl rfl nofun
def QpF:Q3 "_law_long" QcK ["_law_script"]:=λ_ _ _ _ _ _=>lc λ_=>l0 rfl
def QjO:=(Qir QcK Qgr T2 ΓC).getD QD
def QpG:Qir QcK Qgr T2 ΓC=some QjO:=some_of nofun
abbrev QcN:=Dn QcK QjO
abbrev QjA:=Gc "_law_long" 1 QcN Qgr
abbrev Qi5:=top 47
def Qzu:Sc Qi5 ["_law_script"]:=scM rfl rfl rfl nofun
def QAM:Q3 "law" Qi5 ["_law_script"]:=λ_ _ _ _ _ _=>lc λ_=>l0 rfl
def Qv0:=(Qir Qi5 QjA T2 ΓC).getD QD
def QBb:Qir Qi5 QjA T2 ΓC=some Qv0:=some_of nofun
abbrev Qrq:=Dn Qi5 Qv0
def QjD:Qad=Qu 3 (HS.Qdy):=by kernel_rfl
def QiO:QU=Qu 3 (HS.QcX Qad):=by kernel_rfl
def Qxy:QdT=Qu 4 (HS.Ql3):=by kernel_rfl
def Qok:QK=Qu 5 (HS.Qfz QdT):=by kernel_rfl
def Qpv:QcJ=Qu 1 (HS.Qgf QK):=by kernel_rfl
def Qqa:QbX=Qu 6 (HS.Qjm Qad QK):=by kernel_rfl
def Ql9:Qaf=Qu 2 (HS.QgL QU QcJ):=by kernel_rfl
def Qo2:Qfy=HS.Qiw Qaf:=by kernel_rfl
def Qju:Qdr=HS.Qfa Qaf:=by kernel_rfl
def Qjw:Qdq=HS.Qe9:=by kernel_rfl
def QkH:Qd5=HS.Qf3 Qaf:=by kernel_rfl
def QAu:QqV=HS.QvK QU QbX T1.me:=by kernel_rfl
def QqH:Qbi=Qu 1 (HS.Qlg):=by kernel_rfl
def Qiy:QaG=Qu 1 (HS.Qc1 Qbi):=by kernel_rfl
def Qs5:Qbn=Qu 9 (HS.QiR):=by kernel_rfl
def Qqj:QaE=Qu 8 (HS.Qgv QU QK Qbn):=by kernel_rfl
def QmZ:QaI=Qu 3 (HS.QhO):=by kernel_rfl
def QhP:Qa8=Qu 7 (HS.QcD QaG QaE QK QaI):=by kernel_rfl
def Qlp:QI=Qu 2 (HS.Qg3):=by kernel_rfl
def Qpn:QcM=Qu 7 (HS.QjH):=by kernel_rfl
def Qpi:QaT=Qu 9 (HS.QhU):=by kernel_rfl
def Qpj:QcI=Qu 10 (HS.Qe5 QaT):=by kernel_rfl
def QqJ:Qc7=Qu 9 (HS.Qel QI QcM QcI):=by kernel_rfl
def QrG:QdQ=Qu 4 (HS.QjK):=by kernel_rfl
def Qps:QaS=Qu 2 (HS.Qf4 sub):=by kernel_rfl
def QkR:Qbv=Qu 3 (HS.QcQ QaE QaS QdE sub):=by kernel_rfl
def Qm4:Qcs=QjW 4 2 (HS.Qe8 QaS Qfh sub):=by kernel_rfl
def Qlc:Qax=Qu 3 (HS.QcQ Qa8 QaS QbK sub):=by kernel_rfl
def QqS:QaJ=Qu 1 (HS.Qgu QaC):=by kernel_rfl
def Qol:Qcv=Qu 5 (HS.QdF):=by kernel_rfl
def QlC:QbL=Qu 7 (HS.Qe0 Qbv QaJ Qax Qcs):=by kernel_rfl
def Qpo:QcP=Qu 3 (HS.Qf2):=by kernel_rfl
def Qpm:QcN=Qu 11 (HS.Qga QI QcP QaJ QdQ Qff Qcs):=by kernel_rfl
def QA5:Qrq=Qu 6 (HS.QmH Qc7 QI Qcv QbL QcN Qax QaE QaJ Qa8 Qff):=by kernel_rfl
def QiN:Qcq=Qa9 3 (HS.QeK):=by kernel_rfl
def QhL:QbW=Qa9 3 (HS.Qeb Qad Qcq):=by kernel_rfl
def QtZ:Qho=Qa9 6 (HS.Ql1 QK Qad Qcq):=by kernel_rfl
def QhM:QcF=Qa9 1 (HS.Qd0 Qbi):=by kernel_rfl
def QoD:QdE=Qa9 8 (HS.QeJ Qbn QK QU QbW):=by kernel_rfl
def QgB:QbK=Qa9 7 (HS.Qck QaI QK QaE QaG QdE QcF):=by kernel_rfl
def Qyk:Qfh=xdU 8 2 (HS.QvI QbX QU T1.me Qho QbW):=by kernel_rfl
end
end Law
namespace HS
open PySem PySem.Spec L2
def Qu6(mg:Str->Option Value):List Str->Prop
 | []=>True
 | x::r=>mg x=none/\Qu6 mg r
def QnZ{mg:Str->Option Value}:∀{l:List Str},Qu6 mg l->∀x∈l,mg x=none
 | [],_,x,h=>by simp at h
 | y::r,h,x,hx=>by
  rcases Zn.mp hx with rfl | hx
  .exact h.1
  .exact QnZ h.2 x hx
def Qus(mg:Str->Option Value):List (Str×Cn)->Prop
 | []=>True
 | (x,i)::r=>(∃t,mg x=some (cnV i t))/\Qus mg r
def Qoq{mg:Str->Option Value}:∀{l:List (Str×Cn)},Qus mg l->∀x i,look x l=some i->∃t,mg x=some (cnV i t)
 | [],_,x,i,h=>by cases h
 | (y,j)::r,h,x,i,hx=>by
  unfold look at hx;split at hx
  .rename_i e;cases hx;subst e;exact h.1
  .exact Qoq h.2 x i hx
def Qy7{mg:Str->Option Value}{cs:List (Str×Cn)}(b:Qu6 mg QoI)(c:Qus mg cs):QbR mg cs:=⟨QnZ b,Qoq c⟩
end HS
def HS.QBa{K:Fgg}{mg:PySem.Str->Option PySem.Value}{h:PySem.Heap}{x:PySem.Str}{i:Int}{t:PySem.Tok}(X:K.In h)(G:h.Ns PySem.mainGlobals mg)(a:PySem.W.nsIn K PySem.mainGlobals x=some (some (.int i t))):∃t,mg x=some (.int i t):=⟨t,Zai X G a⟩
namespace Law
open HS
def QqF:Qh2 QI:=by rw[Qlp];exact Qxb
def QAZ:Qny QcM:=by rw[Qpn];exact Qxc
def QAB:Ql8 QaT:=by rw[Qpi];exact Qvn
def QAQ:Qke QcI:=by rw[Qpj];exact Qsh QAB
def QBM:Ql5 Qc7:=by rw[QqJ];exact Qvb QqF QAZ QAQ
def hIs:QoH QdQ:=by rw[QrG];exact QAN
def Qnc:Qfq QK:=by rw[Qok,Qxy];exact Qp3
def QBc:Qn9 QcJ:=by rw[Qpv];exact QwW Qnc
def Qrf:QiI Qad:=by rw[QjD];exact QpI
def Qky:Qfn QU:=by rw[QiO];exact QnU Qrf
def Qti:Qji QbX:=by rw[Qqa];exact QuR Qrf Qnc
def Quh:Qh1 Qbn:=by rw[Qs5];exact QkD
def Qy1:QlN QaE:=by rw[Qqj];exact Qon Qky Qnc Quh
def Qsr:Qjr Qbi:=by rw[QqH];exact QuA
def Qtc:Qi6 QaG:=by rw[Qiy];exact Qvt Qsr
def Qy6:Qml QaI:=by rw[QmZ];exact QtE
def QzO:QlR QaE Qa8:=by rw[QhP];exact Quu Qtc Qnc Qy6
def QnE:QgQ Qaf:=by rw[Ql9];exact Qvg Qky QBc
def QB6:Qhz .plain Qee:=by unfold Qee;rw[Qo2];exact QAa QnE
def QCh:Qhz .both Qcf:=by unfold Qcf;rw[Qju];exact Qpl QnE
def QA2(ps:List Int)(h:ps.length<=1000):Qhz (.pick ps) QcU:=by unfold QcU;rw[QkH];exact QrV QnE h
def QBh:QrC QaC:=λps=>by unfold QaC;rw[Qjw];exact Qw0 ps
def hMe:QqN T1.me:=QAs QB6 QCh QA2
def Qzl:Qnf Qff:=by unfold Qff;rw[QAu];exact QAh Qky Qti hMe
def hW:QgX QaJ:=by rw[QqS];exact Qvf QBh
def QoO:ApF Qad Qcq:=by rw[QjD,QiN];exact Qw2
def QBi:QqY Qcq:=by rw[QiN];exact Quq
def Qmm:ApF QU QbW:=by rw[QiO,QhL];exact QvB QoO
def Qts:QkJ QbW:=by rw[QhL];exact QsK QoO Qrf QBi
def QwK:ApF QbX Qho:=by rw[Qqa,QtZ];exact Qvq QoO
def QAg:Qk6 Qfh:=by rw[Qyk];exact QwV Qky Qti hMe Qmm QwK Qts
def QpX:ApF QaG QcF:=by rw[Qiy,QhM];exact Qvh
def QzF:Qn7 QcF:=by rw[QhM];exact Qr9 Qsr
def QlW:ApF QaE QdE:=by rw[Qqj,QoD];exact QqR Qmm
def Qst:Qhx QdE:=by rw[QoD];exact Qpp Qmm Qts
def Qxg:ApF Qa8 QbK:=by rw[QhP,QgB];exact Qrm QlW QpX
def Qs1:Qha QbK:=by rw[QgB];exact Qph QlW QpX Qtc Qst QzF
def Qrr:Qg9 sub QaS:=by rw[Qps];exact Qsx
def QBB:QgT sub QdE Qbv:=by rw[QkR];exact Qqq QlW Qrr
def Qys:QgT sub QbK Qax:=by rw[Qlc];exact Qqq Qxg Qrr
def Qzm:Qi1 sub Qfh Qcs:=by rw[Qm4];exact QuY Qrr
def Qt2:QkZ sub:=⟨⟨nofun,nofun,nofun,nofun,nofun,nofun,nofun⟩,⟨nofun,nofun,nofun,nofun,nofun,nofun,nofun⟩,⟨nofun,nofun,nofun,nofun,nofun,nofun,nofun⟩,⟨nofun,nofun,nofun,nofun,nofun,nofun,nofun⟩⟩
def QzW:QiJ Qcv:=by rw[Qol];exact Qq5
def QCg:Qmk QbL:=by rw[QlC];exact QuI Qt2 QBB Qys Qzm hW Qst QAg Qs1
def QBj{m t:Nat}(m0:0<m)(m4:m<=4):QcP [.int m,.int t]=slT (Qh m [] (Qea m t)):=by rw[Qpo];exact QrE m0 m4
def QAE:Qkk QcN:=by rw[Qpm];exact QsH Qt2 QqF QBj hW hIs Qzl Qzm QAg
def QAd(ns:List Int)(h:ns.length<=63):∃fr,Qrq [.lst (ns.map .int)]=some (.bl true,fr):=by
 rw[QA5];exact⟨true,Qym Qt2 QBM QqF QzW QCg QAE Qys Qs1 Qy1 hW QzO Qzl ns h⟩
end Law
namespace PySem.W.Fast
def tw3171975422406934591:=0
def tw5225924914877674515:=0
def tw11836898078174561815:=0
def tw2338953935686530926:=0
def tw13470619241312735099:=0
def tw8407715312164370889:=0
def tw679800046769169626:=0
def tw1715718377206073023:=0
def tw11053417277540833907:=0
def tw3099947396284174992:=0
def tw18108099937490153505:=0
def tw3239432370833870132:=0
def tw16698265506859098089:=0
def tw5767912433943462927:=0
def tw373260271351339242:=0
def tw3518128882241180499:=0
def tw2153815178628550098:=0
def tw8806666384543820083:=0
def tw12210304769168233792:=0
def tw15698098912444646380:=0
def tw11576900006997490352:=0
def tw16670745230625344859:=0
def tw35076337562914263:=0
def tw13198565481165532532:=0
def tw3344350392630662191:=0
def tw13457788085260741150:=0
def tw10790020086692662919:=0
def tw17534401647403113258:=0
def tw14583160718400258105:=0
def tw1021769930256821482:=0
def tw557155982482644619:=0
def tw6672295578639629360:=0
def tw18250401539751011815:=0
def tw17784766449216169488:=0
def tw8305469352402715766:=0
def tw16435376692910416896:=0
def tw13890592562574486495:=0
def tw8836586107441265400:=0
def tw8738088121808836157:=0
def tw8621249177618575925:=0
def tw12359175603283465355:=0
def tw14828919126548891521:=0
def tw16056303239449807728:=0
def tw15436498846291948166:=0
def tw10046134473495124342:=0
def tw14084428280650786909:=0
def tw12085337827843205779:=0
def tw7054096211170139296:=0
def tw12387312836340310904:=0
def tw6940707696717440891:=0
def tw15825701609929728987:=0
def tw3074418964143304783:=0
def tw7956239881340483522:=0
def tw10145721345386864356:=0
def tw10227128583631666119:=0
def tw13309923730473461994:=0
def tw15327238622255915156:=0
def tw6132548605287711698:=0
def tw8918064381600263504:=0
def tw5903999014794196426:=0
def tw8150304750551565023:=0
def tw1783759466471244953:=0
def tw14450167889188599829:=0
def tw11630767578848054403:=0
def tw7069033763931160140:=0
def tw10510562806713042684:=0
def tw10425909715374163818:=0
def tw11451981752588783782:=0
def tw2154753398749307960:=0
def tw15985437100179648888:=0
def tw6207766866545152400:=0
def tw9345497576378649291:=0
def tw16743632183264466920:=0
def tw7930709297758010787:=0
def tw18019861721286376406:=0
def tw12107443678880999043:=0
def tw11732188190696487462:=0
def tw8895145548233427461:=0
def tw2196927268216499472:=0
def tw12771355257580288015:=0
def tw845779184110807134:=0
def tw2391458893786573529:=0
def tw3876954248168151183:=0
def tw4344344402107252682:=0
def tw2038452295446653700:=0
def tw2660086572333862286:=0
def tw7672923273338865092:=0
def tw16305520328543566056:=0
def tw6423881732860490815:=0
def tw4886114387467594334:=0
def tw13607388045008736168:=0
def tw4898168829991005407:=0
def tw90116770330947119:=0
def tw16186096363010667060:=0
def tw9303907652506502280:=0
def tw6965061965419986645:=0
def tw15553517742786544506:=0
def tw2473188025291348164:=0
def tw12842485384427530004:=0
def tw4673203185025334881:=0
def tw8611408653309921676:=0
def tw13974738787335696057:=0
def tw15588507735729720190:=0
def tw11461731013063740225:=0
def tw9460791497330628605:=0
def tw16613669684551559550:=0
def tw17418616247660331553:=0
def tw14963037064646795529:=0
def tw851561717954281446:=0
def tw7516016646538029184:=0
def tw5895507242294485311:=0
def tw13861731731907745711:=0
def tw5515883930722816597:=0
def tw3713323852840883067:=0
def tw8972169738506242115:=0
def tw18376188543374232781:=0
def tw10464383183820970970:=0
def tw3089322160810415811:=0
def tw9953032806426254055:=0
def tw5270670234583882499:=0
def tw18039227317390925264:=0
def tw17948088376270698128:=0
def tw14026177085696857639:=0
end PySem.W.Fast
open PySem PySem.W PyProof.Rows HS
set_option maxRecDepth 100000 in
set_option maxHeartbeats 0 in
theorem PySem.Challenge.cw_heapstill_k18_still_refused_holds : PySem.Challenge.rw_heapstill_k18_still_refused.Holds := by
 w_on;o_law;k_head;(case hw=>w_witness2)
 k_fill
 refine HS.Quo (l:=PySem.Challenge.rw_heapstill_k18_still_refused) (k:=27) (x:= "_law_script") (den:=Law.Qrq) rfl rfl ⟨rfl,∅,∅⟩ (λw h Y=>PySem.W.kIn_of Y) Law.QAd ?F
 case F=>
  intro w mg fa h KX G hmg;obtain⟨f_need_rows,f_need_heaps,f_steps,f_toll_table,f_span_list,f_after,f_ready_places,f_run,f_is_plain,f_need_plain,f_settled,f_still,f_roads_among,f_least_paper,f__law_cell_at,f__law_base,f__law_fits,f__law_more,f__law_net,f__law_is,f__law_word,f__law_by_still,f__law_by_run,f__law_by_paper,f__law_way,f__law_wrong,f__law_refused,f__law_line,f__law_long,f_law⟩:HS.Fact (L2.KOf KX) "need_rows" Law.Qbg/\HS.Fact (L2.KOf KX) "need_heaps" Law.Qa0/\HS.Fact (L2.KOf KX) "steps" Law.Qi3/\HS.Fact (L2.KOf KX) "toll_table" Law.QdY/\HS.Fact (L2.KOf KX) "span_list" Law.QeI/\HS.Fact (L2.KOf KX) "after" Law.Qdf/\HS.Fact (L2.KOf KX) "ready_places" Law.Qdp/\HS.Fact (L2.KOf KX) "run" Law.Qfg/\HS.Fact (L2.KOf KX) "is_plain" Law.Qfb/\HS.Fact (L2.KOf KX) "need_plain" Law.QaY/\HS.Fact (L2.KOf KX) "settled" Law.QfR/\HS.Fact (L2.KOf KX) "still" Law.Qde/\HS.Fact (L2.KOf KX) "roads_among" Law.QdD/\HS.Fact (L2.KOf KX) "least_paper" Law.QaL/\HS.Fact (L2.KOf KX) "_law_cell_at" Law.Qdo/\HS.Fact (L2.KOf KX) "_law_base" Law.QeN/\HS.Fact (L2.KOf KX) "_law_fits" Law.Qez/\HS.Fact (L2.KOf KX) "_law_more" Law.QeF/\HS.Fact (L2.KOf KX) "_law_net" Law.Qfj/\HS.Fact (L2.KOf KX) "_law_is" Law.Qf6/\HS.Fact (L2.KOf KX) "_law_word" Law.QcL/\HS.Fact (L2.KOf KX) "_law_by_still" Law.Qbz/\HS.Fact (L2.KOf KX) "_law_by_run" Law.QbV/\HS.Fact (L2.KOf KX) "_law_by_paper" Law.Qbw/\HS.Fact (L2.KOf KX) "_law_way" Law.Qc8/\HS.Fact (L2.KOf KX) "_law_wrong" Law.QdX/\HS.Fact (L2.KOf KX) "_law_refused" Law.QbJ/\HS.Fact (L2.KOf KX) "_law_line" Law.QeL/\HS.Fact (L2.KOf KX) "_law_long" Law.QcK/\HS.Fact (L2.KOf KX) "law" Law.Qi5:=by
   refine⟨?_,?_,?_,?_,?_,?_,?_,?_,?_,?_,?_,?_,?_,?_,?_,?_,?_,?_,?_,?_,?_,?_,?_,?_,?_,?_,?_,?_,?_,?_⟩<;>(dsimp only[L2.KOf];refine' HS.fact_mk ?a ?l ?c ?k;(case a=>k_is);(case l=>k_is);(case c=>k_is);(case k=>k_is))
  have fm_Way_chosen:HS.Qjq (L2.KOf KX) "Way" "chosen" "Way.chosen" Law.Qcu:=by dsimp only[L2.KOf];refine' HS.Qhb ?a ?c1 ?c2 ?c3 ?c4 ?m1 ?m2 ?k ?l ?cd;(case a=>k_is);(case c1=>k_is);(case c2=>k_is);(case c3=>k_is);(case c4=>k_is);(case m1=>k_is);(case m2=>k_is);(case k=>k_is);(case l=>k_is);(case cd=>k_is)
  have fm_Together_chosen:HS.Qjq (L2.KOf KX) "Together" "chosen" "Together.chosen" Law.Qa3:=by dsimp only[L2.KOf];refine' HS.Qhb ?a ?c1 ?c2 ?c3 ?c4 ?m1 ?m2 ?k ?l ?cd;(case a=>k_is);(case c1=>k_is);(case c2=>k_is);(case c3=>k_is);(case c4=>k_is);(case m1=>k_is);(case m2=>k_is);(case k=>k_is);(case l=>k_is);(case cd=>k_is)
  have fm_Picked___init__:HS.Qjq (L2.KOf KX) "Picked" "__init__" "Picked.__init__" Law.Qa6:=by dsimp only[L2.KOf];refine' HS.Qhb ?a ?c1 ?c2 ?c3 ?c4 ?m1 ?m2 ?k ?l ?cd;(case a=>k_is);(case c1=>k_is);(case c2=>k_is);(case c3=>k_is);(case c4=>k_is);(case m1=>k_is);(case m2=>k_is);(case k=>k_is);(case l=>k_is);(case cd=>k_is)
  have fm_Picked_chosen:HS.Qjq (L2.KOf KX) "Picked" "chosen" "Picked.chosen" Law.Qby:=by dsimp only[L2.KOf];refine' HS.Qhb ?a ?c1 ?c2 ?c3 ?c4 ?m1 ?m2 ?k ?l ?cd;(case a=>k_is);(case c1=>k_is);(case c2=>k_is);(case c3=>k_is);(case c4=>k_is);(case m1=>k_is);(case m2=>k_is);(case k=>k_is);(case l=>k_is);(case cd=>k_is)
  have fc_Way:HS.Qko (L2.KOf KX) "Way" []:=by dsimp only[L2.KOf];refine' HS.Qka ?a ?b ?c ?d ?e ?f;(case a=>k_is);(case b=>k_is);(case c=>k_is);(case d=>k_is);(case e=>k_is);(case f=>exact trivial)
  have fc_Together:HS.Qko (L2.KOf KX) "Together" []:=by dsimp only[L2.KOf];refine' HS.Qka ?a ?b ?c ?d ?e ?f;(case a=>k_is);(case b=>k_is);(case c=>k_is);(case d=>k_is);(case e=>k_is);(case f=>exact trivial)
  have fc_Picked:HS.Qko (L2.KOf KX) "Picked" ["picks","used"]:=by dsimp only[L2.KOf];refine' HS.Qka ?a ?b ?c ?d ?e ?f;(case a=>k_is);(case b=>k_is);(case c=>k_is);(case d=>k_is);(case e=>k_is);(case f=>exact⟨(by show PySem.W.findIn _ _ _=some none;k_is),(by show PySem.W.findIn _ _ _=some none;k_is),trivial⟩)
  have fk_Way:HS.Qnh (L2.KOf KX) "Way" :=by dsimp only[L2.KOf];refine' HS.QnX ?a ?b ?c ?d;(case a=>k_is);(case b=>k_is);(case c=>k_is);(case d=>k_is)
  have fk_Together:HS.Qnh (L2.KOf KX) "Together" :=by dsimp only[L2.KOf];refine' HS.QnX ?a ?b ?c ?d;(case a=>k_is);(case b=>k_is);(case c=>k_is);(case d=>k_is)
  have fi_Picked:HS.Qnp (L2.KOf KX) "Picked" :=by dsimp only[L2.KOf];refine' HS.QuF ?a ?b ?c;(case a=>k_is);(case b=>k_is);(case c=>k_is)
  have M:HS.QbR mg Law.cst:=by
   obtain⟨n_range,n_enumerate,n_zip,n_len,n_list,n_min,n_max,n_sum,n_abs,n_isinstance,n_int,n_bool,n_tuple,n_str,n_divmod,n_sorted,n_any,n_all,n_set⟩:PySem.W.nsIn (L2.KOf KX) mainGlobals "range" =some none/\PySem.W.nsIn (L2.KOf KX) mainGlobals "enumerate" =some none/\PySem.W.nsIn (L2.KOf KX) mainGlobals "zip" =some none/\PySem.W.nsIn (L2.KOf KX) mainGlobals "len" =some none/\PySem.W.nsIn (L2.KOf KX) mainGlobals "list" =some none/\PySem.W.nsIn (L2.KOf KX) mainGlobals "min" =some none/\PySem.W.nsIn (L2.KOf KX) mainGlobals "max" =some none/\PySem.W.nsIn (L2.KOf KX) mainGlobals "sum" =some none/\PySem.W.nsIn (L2.KOf KX) mainGlobals "abs" =some none/\PySem.W.nsIn (L2.KOf KX) mainGlobals "isinstance" =some none/\PySem.W.nsIn (L2.KOf KX) mainGlobals "int" =some none/\PySem.W.nsIn (L2.KOf KX) mainGlobals "bool" =some none/\PySem.W.nsIn (L2.KOf KX) mainGlobals "tuple" =some none/\PySem.W.nsIn (L2.KOf KX) mainGlobals "str" =some none/\PySem.W.nsIn (L2.KOf KX) mainGlobals "divmod" =some none/\PySem.W.nsIn (L2.KOf KX) mainGlobals "sorted" =some none/\PySem.W.nsIn (L2.KOf KX) mainGlobals "any" =some none/\PySem.W.nsIn (L2.KOf KX) mainGlobals "all" =some none/\PySem.W.nsIn (L2.KOf KX) mainGlobals "set" =some none:=by refine⟨?_,?_,?_,?_,?_,?_,?_,?_,?_,?_,?_,?_,?_,?_,?_,?_,?_,?_,?_⟩<;>(dsimp only[L2.KOf];k_is)
   have n_MOST_TOPPLINGS:∃t,mg "MOST_TOPPLINGS" =some (.int 2000 t):=by refine' HS.QBa KX G ?a;(case a=>first | k_is | exact rfl | (dsimp only[L2.KOf];k_is))
   exact HS.Qy7 ⟨PySem.W.mg_none_of KX G n_range,PySem.W.mg_none_of KX G n_enumerate,PySem.W.mg_none_of KX G n_zip,PySem.W.mg_none_of KX G n_len,PySem.W.mg_none_of KX G n_list,PySem.W.mg_none_of KX G n_min,PySem.W.mg_none_of KX G n_max,PySem.W.mg_none_of KX G n_sum,PySem.W.mg_none_of KX G n_abs,PySem.W.mg_none_of KX G n_isinstance,PySem.W.mg_none_of KX G n_int,PySem.W.mg_none_of KX G n_bool,PySem.W.mg_none_of KX G n_tuple,PySem.W.mg_none_of KX G n_str,PySem.W.mg_none_of KX G n_divmod,PySem.W.mg_none_of KX G n_sorted,PySem.W.mg_none_of KX G n_any,PySem.W.mg_none_of KX G n_all,PySem.W.mg_none_of KX G n_set,True.intro⟩ ⟨n_MOST_TOPPLINGS,True.intro⟩
  have t0:∀base:Heap,HS.QaK (PySem.Challenge.rw_heapstill_k18_still_refused).prog w (L2.KOf KX) mg base 0 []:=λ_=>HS.QaK.nil;have o0:∀base:Heap,HS.Qcx (PySem.Challenge.rw_heapstill_k18_still_refused).prog w (L2.KOf KX) mg base 0 Law.T0:=λb=>HS.Qlu KX G ⟨fc_Way,fc_Together,fc_Picked,trivial⟩ trivial trivial trivial ⟨fk_Way,fk_Together,trivial⟩;have hcl:∀x∈Law.cls,HS.Qg6 (L2.KOf KX) x:=HS.QpN (by refine⟨?_,?_,?_,?_,trivial⟩<;>(dsimp only[L2.KOf];refine' HS.QwQ ?a ?b;(case a=>k_is);(case b=>k_exc)));have hsub:HS.Qbb (L2.KOf KX) Law.sub:=by
   refine HS.Qwz ⟨⟨?x0,?y0_0,?y0_1,?y0_2,?y0_3,?y0_4,?y0_5,?y0_6,trivial⟩,⟨?x1,?y1_0,?y1_1,?y1_2,?y1_3,?y1_4,?y1_5,?y1_6,trivial⟩,⟨?x2,?y2_0,?y2_1,?y2_2,?y2_3,?y2_4,?y2_5,?y2_6,trivial⟩,⟨?x3,?y3_0,?y3_1,?y3_2,?y3_3,?y3_4,?y3_5,?y3_6,trivial⟩,trivial⟩
   case x0=>(dsimp only[L2.KOf];refine' HS.Qni ?a ?b ?c ?d ?e ?f ?g;(case a=>k_is);(case b=>k_is);(case c=>k_is);(case d=>k_is);(case e=>k_is);(case f=>k_is);(case g=>k_is))
   case y0_0=>(dsimp only[L2.KOf];refine' HS.Q4 ?a ?b ?c ?d;(case a=>k_is);(case b=>k_is);(case c=>kts_exm);(case d=>kit_is))
   case y0_1=>(dsimp only[L2.KOf];refine' HS.Q4 ?a ?b ?c ?d;(case a=>k_is);(case b=>k_is);(case c=>kts_exm);(case d=>kit_is))
   case y0_2=>(dsimp only[L2.KOf];refine' HS.Q4 ?a ?b ?c ?d;(case a=>k_is);(case b=>k_is);(case c=>kts_exm);(case d=>kit_is))
   case y0_3=>(dsimp only[L2.KOf];refine' HS.Qjt ?a ?b ?c ?d;(case a=>k_is);(case b=>k_is);(case c=>kts_exm);(case d=>kit_is))
   case y0_4=>(dsimp only[L2.KOf];refine' HS.Q4 ?a ?b ?c ?d;(case a=>k_is);(case b=>k_is);(case c=>kts_exm);(case d=>kit_is))
   case y0_5=>(dsimp only[L2.KOf];refine' HS.Q4 ?a ?b ?c ?d;(case a=>k_is);(case b=>k_is);(case c=>kts_exm);(case d=>kit_is))
   case y0_6=>(dsimp only[L2.KOf];refine' HS.Q4 ?a ?b ?c ?d;(case a=>k_is);(case b=>k_is);(case c=>kts_exm);(case d=>kit_is))
   case x1=>(dsimp only[L2.KOf];refine' HS.Qni ?a ?b ?c ?d ?e ?f ?g;(case a=>k_is);(case b=>k_is);(case c=>k_is);(case d=>k_is);(case e=>k_is);(case f=>k_is);(case g=>k_is))
   case y1_0=>(dsimp only[L2.KOf];refine' HS.Q4 ?a ?b ?c ?d;(case a=>k_is);(case b=>k_is);(case c=>kts_exm);(case d=>kit_is))
   case y1_1=>(dsimp only[L2.KOf];refine' HS.Q4 ?a ?b ?c ?d;(case a=>k_is);(case b=>k_is);(case c=>kts_exm);(case d=>kit_is))
   case y1_2=>(dsimp only[L2.KOf];refine' HS.Q4 ?a ?b ?c ?d;(case a=>k_is);(case b=>k_is);(case c=>kts_exm);(case d=>kit_is))
   case y1_3=>(dsimp only[L2.KOf];refine' HS.Qjt ?a ?b ?c ?d;(case a=>k_is);(case b=>k_is);(case c=>kts_exm);(case d=>kit_is))
   case y1_4=>(dsimp only[L2.KOf];refine' HS.Q4 ?a ?b ?c ?d;(case a=>k_is);(case b=>k_is);(case c=>kts_exm);(case d=>kit_is))
   case y1_5=>(dsimp only[L2.KOf];refine' HS.Q4 ?a ?b ?c ?d;(case a=>k_is);(case b=>k_is);(case c=>kts_exm);(case d=>kit_is))
   case y1_6=>(dsimp only[L2.KOf];refine' HS.Q4 ?a ?b ?c ?d;(case a=>k_is);(case b=>k_is);(case c=>kts_exm);(case d=>kit_is))
   case x2=>(dsimp only[L2.KOf];refine' HS.Qni ?a ?b ?c ?d ?e ?f ?g;(case a=>k_is);(case b=>k_is);(case c=>k_is);(case d=>k_is);(case e=>k_is);(case f=>k_is);(case g=>k_is))
   case y2_0=>(dsimp only[L2.KOf];refine' HS.Q4 ?a ?b ?c ?d;(case a=>k_is);(case b=>k_is);(case c=>kts_exm);(case d=>kit_is))
   case y2_1=>(dsimp only[L2.KOf];refine' HS.Q4 ?a ?b ?c ?d;(case a=>k_is);(case b=>k_is);(case c=>kts_exm);(case d=>kit_is))
   case y2_2=>(dsimp only[L2.KOf];refine' HS.Q4 ?a ?b ?c ?d;(case a=>k_is);(case b=>k_is);(case c=>kts_exm);(case d=>kit_is))
   case y2_3=>(dsimp only[L2.KOf];refine' HS.Qjt ?a ?b ?c ?d;(case a=>k_is);(case b=>k_is);(case c=>kts_exm);(case d=>kit_is))
   case y2_4=>(dsimp only[L2.KOf];refine' HS.Q4 ?a ?b ?c ?d;(case a=>k_is);(case b=>k_is);(case c=>kts_exm);(case d=>kit_is))
   case y2_5=>(dsimp only[L2.KOf];refine' HS.Q4 ?a ?b ?c ?d;(case a=>k_is);(case b=>k_is);(case c=>kts_exm);(case d=>kit_is))
   case y2_6=>(dsimp only[L2.KOf];refine' HS.Q4 ?a ?b ?c ?d;(case a=>k_is);(case b=>k_is);(case c=>kts_exm);(case d=>kit_is))
   case x3=>(dsimp only[L2.KOf];refine' HS.Qni ?a ?b ?c ?d ?e ?f ?g;(case a=>k_is);(case b=>k_is);(case c=>k_is);(case d=>k_is);(case e=>k_is);(case f=>k_is);(case g=>k_is))
   case y3_0=>(dsimp only[L2.KOf];refine' HS.Q4 ?a ?b ?c ?d;(case a=>k_is);(case b=>k_is);(case c=>kts_exm);(case d=>kit_is))
   case y3_1=>(dsimp only[L2.KOf];refine' HS.Q4 ?a ?b ?c ?d;(case a=>k_is);(case b=>k_is);(case c=>kts_exm);(case d=>kit_is))
   case y3_2=>(dsimp only[L2.KOf];refine' HS.Q4 ?a ?b ?c ?d;(case a=>k_is);(case b=>k_is);(case c=>kts_exm);(case d=>kit_is))
   case y3_3=>(dsimp only[L2.KOf];refine' HS.Qjt ?a ?b ?c ?d;(case a=>k_is);(case b=>k_is);(case c=>kts_exm);(case d=>kit_is))
   case y3_4=>(dsimp only[L2.KOf];refine' HS.Q4 ?a ?b ?c ?d;(case a=>k_is);(case b=>k_is);(case c=>kts_exm);(case d=>kit_is))
   case y3_5=>(dsimp only[L2.KOf];refine' HS.Q4 ?a ?b ?c ?d;(case a=>k_is);(case b=>k_is);(case c=>kts_exm);(case d=>kit_is))
   case y3_6=>(dsimp only[L2.KOf];refine' HS.Q4 ?a ?b ?c ?d;(case a=>k_is);(case b=>k_is);(case c=>kts_exm);(case d=>kit_is))
  have x0:∀base:Heap,HS.Qep (PySem.Challenge.rw_heapstill_k18_still_refused).prog w (L2.KOf KX) mg base 0 []:=λ_=>HS.Qep.nil;have h0:∀base:Heap,HS.Qd9 (PySem.Challenge.rw_heapstill_k18_still_refused).prog w (L2.KOf KX) mg base 0 []:=λ_=>HS.Qd9.nil;have x_need_rows:=λb=>((x0 b).mono (k:=0) ∅).cons (HS.Qfo KX G f_need_rows Law.Qih Law.QjM M ((t0 b).rise (k:=0) ∅) ((x0 b).mono (k:=0) ∅) hcl Law.QnR);have t_need_rows:=λb=>(t0 b).cons (HS.QdG KX G f_need_rows Law.Qih Law.QjM M (t0 b) Law.Qpx);have x_need_heaps:=λb=>((x_need_rows b).mono (k:=1) ∅).cons (HS.Qfo KX G f_need_heaps Law.QhR Law.Qis M ((t_need_rows b).rise (k:=1) ∅) ((x_need_rows b).mono (k:=1) ∅) hcl Law.QmY);have t_need_heaps:=λb=>(t_need_rows b).cons (HS.QdG KX G f_need_heaps Law.QhR Law.Qis M (t_need_rows b) Law.QnT);have t_steps:=λb=>(t_need_heaps b).cons (Law.kn KX G f_steps Law.QxA M (t_need_heaps b));have t_toll_table:=λb=>(t_steps b).cons (Law.kn KX G f_toll_table Law.QoF M (t_steps b));have t_span_list:=λb=>(t_toll_table b).cons (Law.kn KX G f_span_list Law.Qpr M (t_toll_table b));have x_after:=λb=>((x_need_heaps b).mono (k:=5) ∅).cons (HS.Qfo KX G f_after Law.QnK Law.QpZ M ((t_span_list b).rise (k:=5) ∅) ((x_need_heaps b).mono (k:=5) ∅) hcl Law.Qut);have t_after:=λb=>(t_span_list b).cons (HS.QdG KX G f_after Law.QnK Law.QpZ M (t_span_list b) Law.Qxa);have t_ready_places:=λb=>(t_after b).cons (Law.kn KX G f_ready_places Law.QlM M (t_after b));have m_Way_chosen:=λb=>HS.Qno fm_Way_chosen Law.Qm1 Law.QnL M ((t_ready_places b).rise (k:=7) ∅) ((o0 b).mono (k:=6) ∅) Law.QnN HS.Qfv;have m_Together_chosen:=λb=>HS.Qno fm_Together_chosen Law.QiE Law.Qjv M ((t_ready_places b).rise (k:=7) ∅) ((o0 b).mono (k:=6) ∅) Law.Qjz HS.Qfv;have m_Picked___init__:=λb=>HS.Qno fm_Picked___init__ Law.Qii Law.Qjy M ((t_ready_places b).rise (k:=7) ∅) ((o0 b).mono (k:=6) ∅) Law.Qjx HS.Qfv;have m_Picked_chosen:=λb=>HS.Qno fm_Picked_chosen Law.Qj1 Law.Qk5 M ((t_ready_places b).rise (k:=7) ∅) ((o0 b).mono (k:=6) ∅) Law.Qk9 HS.Qfv;have o1:∀b:Heap,HS.Qcx (PySem.Challenge.rw_heapstill_k18_still_refused).prog w (L2.KOf KX) mg b 8 Law.T1:=λb=>HS.Qlu KX G ⟨fc_Way,fc_Together,fc_Picked,trivial⟩ ⟨⟨(m_Way_chosen b).mono (k:=8) ∅,trivial⟩,⟨(m_Together_chosen b).mono (k:=8) ∅,trivial⟩,⟨(m_Picked_chosen b).mono (k:=8) ∅,trivial⟩,trivial⟩ trivial ⟨⟨fi_Picked,(m_Picked___init__ b).mono (k:=8) ∅⟩,trivial⟩ ⟨fk_Way,fk_Together,trivial⟩;have Qfh:=λb=>HS.QvC KX G f_run Law.Qtz Law.QvL M ((t_ready_places b).rise (k:=9) ∅) ((o1 b).mono (k:=8) ∅) ((x_after b).mono (k:=9) ∅) hcl Law.Qyd;have i_run:=λb=>HS.QAD KX G f_run Law.Qtz Law.QvL M ((t_ready_places b).rise (k:=9) ∅) ((o1 b).mono (k:=8) ∅) Law.QAT HS.Qfv;have o2:∀b:Heap,HS.Qcx (PySem.Challenge.rw_heapstill_k18_still_refused).prog w (L2.KOf KX) mg b 10 Law.T2:=λb=>HS.Qlu KX G ⟨fc_Way,fc_Together,fc_Picked,trivial⟩ ⟨⟨(m_Way_chosen b).mono (k:=10) ∅,trivial⟩,⟨(m_Together_chosen b).mono (k:=10) ∅,trivial⟩,⟨(m_Picked_chosen b).mono (k:=10) ∅,trivial⟩,trivial⟩ ⟨(i_run b).mono (k:=10) ∅,trivial⟩ ⟨⟨fi_Picked,(m_Picked___init__ b).mono (k:=10) ∅⟩,trivial⟩ ⟨fk_Way,fk_Together,trivial⟩;have t_is_plain:=λb=>(t_ready_places b).cons (Law.kn KX G f_is_plain Law.QqC M (t_ready_places b));have x_need_plain:=λb=>((x_after b).mono (k:=8) ∅).cons (HS.Qfo KX G f_need_plain Law.QhQ Law.Qh0 M ((t_is_plain b).rise (k:=8) ∅) ((x_after b).mono (k:=8) ∅) hcl Law.QmX);have t_need_plain:=λb=>(t_is_plain b).cons (HS.QdG KX G f_need_plain Law.QhQ Law.Qh0 M (t_is_plain b) Law.Qnv);have t_settled:=λb=>(t_need_plain b).cons (Law.kn KX G f_settled Law.Qtm M (t_need_plain b));have x_still:=λb=>((x_need_plain b).mono (k:=10) ∅).cons (HS.Qfo KX G f_still Law.QoV Law.Qqv M ((t_settled b).rise (k:=10) ∅) ((x_need_plain b).mono (k:=10) ∅) hcl Law.QtL);have t_still:=λb=>(t_settled b).cons (HS.QdG KX G f_still Law.QoV Law.Qqv M (t_settled b) Law.QwC);have t_roads_among:=λb=>(t_still b).cons (Law.kn KX G f_roads_among Law.Qm2 M (t_still b));have x_least_paper:=λb=>((x_still b).mono (k:=12) ∅).cons (HS.Qfo KX G f_least_paper Law.QgA Law.QhN M ((t_roads_among b).rise (k:=12) ∅) ((x_still b).mono (k:=12) ∅) hcl Law.QlS);have t_least_paper:=λb=>(t_roads_among b).cons (HS.QdG KX G f_least_paper Law.QgA Law.QhN M (t_roads_among b) Law.Qm3);have t__law_cell_at:=λb=>(t_least_paper b).cons (Law.kn KX G f__law_cell_at Law.Qma M (t_least_paper b));have t__law_base:=λb=>(t__law_cell_at b).cons (Law.kn KX G f__law_base Law.QpE M (t__law_cell_at b));have t__law_fits:=λb=>(t__law_base b).cons (Law.kn KX G f__law_fits Law.Qpf M (t__law_base b));have t__law_more:=λb=>(t__law_fits b).cons (Law.kn KX G f__law_more Law.Qpq M (t__law_fits b));have t__law_net:=λb=>(t__law_more b).cons (Law.kn KX G f__law_net Law.Qq7 M (t__law_more b));have t__law_is:=λb=>(t__law_net b).cons (Law.kn KX G f__law_is Law.Qty M (t__law_net b));have h__law_word:=λb=>(h0 b).cons (HS.QxV KX G f__law_word Law.QoX Law.QpC M hsub (h0 b) Law.Qpt);have t__law_by_still:=λb=>((t__law_is b).rise (k:=19) ∅).cons (HS.Qqp KX G f__law_by_still Law.Qkf Law.Qkw M ((t__law_is b).rise (k:=19) ∅) ((x_least_paper b).mono (k:=19) ∅) hcl hsub ((h__law_word b).mono (k:=19) ∅) Law.QkS);have k__law_by_run:=λb=>HS.Qwx (p:=2) KX G f__law_by_run Law.Ql0 Law.QmW M ((t__law_by_still b).rise (k:=20) ∅) (HS.Quv ((Qfh b).mono (k:=20) ∅)) hsub ((h__law_word b).mono (k:=20) ∅) Law.QcE;have tc:∀b:Heap,HS.Qge (PySem.Challenge.rw_heapstill_k18_still_refused).prog w (L2.KOf KX) mg b 21 Law.ΓC:=λb=>HS.Qge.one (k__law_by_run b);have t__law_by_paper:=λb=>((t__law_by_still b).rise (k:=20) ∅).cons (HS.Qqp KX G f__law_by_paper Law.Qkm Law.Qlb M ((t__law_by_still b).rise (k:=20) ∅) ((x_least_paper b).mono (k:=20) ∅) hcl hsub ((h__law_word b).mono (k:=20) ∅) Law.Qku);have t__law_way:=λb=>((t__law_by_paper b).rise (k:=21) ∅).cons (HS.Qj9 KX G f__law_way Law.Qpk Law.QqI M ((t__law_by_paper b).rise (k:=21) ∅) ((o2 b).mono (k:=20) ∅) ((tc b).mono (k:=21) ∅) Law.QqU);have t__law_wrong:=λb=>(t__law_way b).cons (Law.kn KX G f__law_wrong Law.Qo9 M (t__law_way b));have t__law_refused:=λb=>((t__law_wrong b).rise (k:=23) ∅).cons (HS.Qj9 KX G f__law_refused Law.Qle Law.Qmd M ((t__law_wrong b).rise (k:=23) ∅) ((o2 b).mono (k:=22) ∅) ((tc b).mono (k:=23) ∅) Law.Qlw);have t__law_line:=λb=>(t__law_refused b).cons (Law.kn KX G f__law_line Law.QpA M (t__law_refused b));have t__law_long:=λb=>((t__law_line b).rise (k:=25) ∅).cons (HS.Qj9 KX G f__law_long Law.QoA Law.QpF M ((t__law_line b).rise (k:=25) ∅) ((o2 b).mono (k:=24) ∅) ((tc b).mono (k:=25) ∅) Law.QpG);exact HS.QwB KX G hmg f_law Law.Qzu Law.QAM M (λb=>((t__law_long b).rise (k:=26) ∅)) (λb=>((o2 b).mono (k:=25) ∅)) (λb=>(tc b).mono (k:=26) ∅) Law.QBb
