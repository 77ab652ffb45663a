import PyProof.Rows.All
import Wide.All
import OpenK.AllK
import Wide.FinOn
import Lean
import PyProof.EqAt
import PyProof.EqKinds
import PyProof.TupleCall
import PyProof.Rows.TupTab
import PyProof.DictRoadsH
import PyProof.StrWalks
import PyProof.SliceStr2
import PyProof.StrBlockI
import PyProof.StrBlockG
import PyProof.StrCalls2
import KE.KIntText
import PyProof.Rows.StrSplitMax
import PyProof.ZipIter
import PyProof.EnumMake
import PyProof.Rows.FactsT2
import PyProof.Rows.EnumRows
import PyProof.P3In
import PyProof.NeData
import KE.KUnpack
import PyProof.Rows.TupDisplay
import PyProof.Rows.SumAny
import PyProof.Rows.MinMaxN
import PyProof.Rows.ListRangeD
import PyProof.Rows.Range3
import PyProof.Rows.RuleM_int
import PyProof.Rows.SortShell
import PyProof.Rows.StrNews2
import PyProof.Rows.FStrParts
import PyProof.Rows.SeqMore
import PyProof.DictWalks
import PyProof.ListRange
import PyProof.Rows.SetFrom
import PyProof.CollectIter
import PyProof.SetRoads
import KE.KSortAsk
import OpenK.KTop
import KE.KTryOn
import PyProof.ExcBaseAll.ValueError
import PyProof.RulesAs
import PyProof.ExcAttrAll.ValueError
import PyProof.Rows.RegTopCatchBFacts
import KE.RegKTryMore
import KE.RegKIsAll
import KE.KPar
import PyProof.Rows.ReprOcc
import PyProof.StrLawsIdx
import PyProof.StrLawsIn
import PyProof.StrLawsJoin
import PyProof.StrLawsTight
import PyProof.StrLawsChain
import KE.IntTextText
import PySem.Challenge.RW_heapstill_k76_refusals_apart
set_option Elab.async false
set_option linter.all false
set_option maxRecDepth 100000
noncomputable section
local macro_rules | `(⋯)=> `(by first | with_reducible assumption | with_reducible exact Int.natCast_nonneg _ | with_reducible exact Int.ofNat_lt.2 (by assumption) | lia | simp)
local macro_rules | `(∅)=> `(by decide) | `(nofun)=> `(by decide+kernel)
def Za:= @Option.bind_some
def Zb:= @Option.map_eq_some_iff
def Zc:= @List.mem_cons_of_mem
def Zd:= @PySem.Heap.get?_push_of_some
def Ze:= @List.mem_append_right
def Zf:= @List.mem_cons_self
def Zg:= @List.getElem?_set_ne
def Zh:= @Bool.and_eq_true
def Zi:= @Nat.le_refl
def Zj:= @List.mem_singleton
def Zk:= @List.mem_append_left
def Zl:= @List.length_append
def Zm:= @List.getElem?_eq_some_iff
def Zn:= @List.mem_cons
def Zo:= @List.getElem?_set_self
def Zp:= @PySem.Heap.lt_size
def Zq:= @PySem.Heap.get?_push_size
def Zr:= @Nat.lt_of_lt_of_le
def Zs:= @List.length_cons
def Zt:= @List.length_map
def Zu:= @List.size_toArray
def Zv:= @List.lookup_cons
def Zw:= @List.getElem?_map
def Zx:= @List.mem_append
def Zy:= @Nat.le_trans
def Zz:= @List.map_cons
def ZA:= @List.getElem?_eq_none
def ZC:= @Nat.ne_of_lt
def ZD:= @Option.map_some
def ZE:= @Nat.lt_irrefl
def ZF:= @Bool.not_eq_true'
def ZG:= @List.append_nil
def ZH:= @List.drop_eq_getElem_cons
def ZI:= @List.count_eq_zero
def ZJ:= @Bool.false_ne_true
def ZK:= @Nat.zero_le
def ZL:= @PyProof.Rows.callWith_type1
def ZM:= @PySem.W.mg_of
def ZN:= @List.contains_iff_mem
def ZO:= @Array.length_toList
def ZP:= @List.nodup_append
def ZQ:= @PySem.mem_of_lookup
def ZR:= @List.getD_eq_getElem?_getD
def ZS:= @List.count_append
def ZT:= @List.nodup_nil
def ZU:= @List.all_eq_true
def ZV:= @List.getElem?_eq_getElem
def ZW:= @List.replicate_succ
def ZX:= @PySem.Heap.size_push
def ZY:= @List.nodup_iff_count
def ZZ:= @List.map_map
def Zaa:= @Int.toNat_natCast
def Zab:= @List.flatten_cons
def Zac:= @List.nodup_cons
def Zad:= @List.mem_filterMap
def Zae:= @Nat.le_succ
def Zaf:= @List.count_pos_iff
def Zag:= @List.mem_map
def Zah:= @List.mem_of_getElem?
def Zai:= @List.map_append
def Zaj:= @List.count_cons
def Zak:= @List.getElem?_range
def Zal:= @List.mem_range
def Zam:= @PySem.W.callWith_K
def Zan:= @List.set_eq_take_append_cons_drop
def Zao:= @List.getElem?_append_left
def Zap:= @List.length_set
def Zaq:= @PySem.W.kia_one
def Zar:= @Nat.lt_succ_of_lt
def Zas:= @List.length_range
def Zat:= @PySem.W.hideAll_get
def Zau:= @List.eq_nil_of_length_eq_zero
def Zav:= @PySem.W.of_hideAll
def Zaw:= @PySem.Heap.get?_update_other
def Zax:= @List.zip_cons_cons
def Zay:= @List.length_singleton
def Zaz:= @List.take_append_drop
def ZaA:= @List.append_assoc
def ZaB:= @Nat.lt_succ_self
def ZaC:= @List.sum_cons
def ZaD:= @Nat.ne_of_gt
def ZaE:= @PySem.W.cellsFrom_some
def ZaF:= @List.take_of_length_le
def ZaG:= @PySem.Heap.get?_update_self
def ZaH:= @List.length_take
def ZaI:= @List.cons_append
def ZaJ:= @List.mem_flatten
def ZaK:= @Nat.min_le_right
def ZaL:= @Nat.add_le_add_right
def ZaM:= @Bool.or_eq_false_iff
def ZaN:= @List.mem_filter
def ZaO:= @List.of_mem_zip
def ZaP:= @List.nil_append
def ZaQ:= @PyProof.Rows.boot_isinstance
def ZaR:= @PySem.PassesOwn.never
def ZaS:= @PySem.F.slot_zip_next
def ZaT:= @List.filterMap_cons
def ZaU:= @PySem.W.plainGet_of
def ZaV:= @List.map_nil
def ZaW:= @Bool.false_and
def ZaX:= @Int.fdiv_eq_ediv_of_nonneg
def ZaY:= @List.getElem?_append_right
def ZaZ:= @Nat.lt_of_le_of_lt
def Zba:= @Int.emod_lt_of_pos
def Zbb:= @List.getElem?_zip_eq_some
def Zbc:= @List.getElem?_replicate
def Zbd:= @List.length_drop
def Zbe:= @List.not_mem_nil
def Zbf:= @List.foldlM_cons
def Zbg:= @List.drop_length
def Zbh:= @PySem.F.plainAttrs_list
def Zbi:= @List.take_length
def Zbj:= @Nat.le_of_lt
def Zbk:= @List.any_map
def Zbl:= @PyProof.Rows.boot_list
def Zbm:= @List.drop_of_length_le
def Zbn:= @List.forIn_cons
def Zbo:= @Bool.or_eq_true
def Zbp:= @Int.emod_nonneg
def Zbq:= @Nat.log2_lt
def Zbr:= @Bool.and_false
def Zbs:= @Bool.true_and
abbrev Mt2:=Nat->Nat->Int
abbrev Mt1:=Nat->Int
abbrev Lpp:=List (Int×Int)
abbrev LAd:=List PySem.Addr
abbrev Fgg:=PySem.W.Frag
namespace L2
open PySem PySem.Spec PyProof.Rows
abbrev Key:=Sum Int Str
noncomputable def QjH:Key->Value->Bool
 | .inl k,v=>Value.isInt k v
 | .inr x,v=>Value.isStrOf x v
noncomputable def QED(w:World):Key->Int
 | .inl k=>hashInt k
 | .inr x=>hashStr w x
def Qbj:∀{k:Key}{v:Value},QjH k v=true->(∃i t,k=Sum.inl i/\v=Value.int i t)∨(∃x t,k=Sum.inr x/\v=Value.str x t)
 | .inl i,v,h=>by
  obtain⟨t,e⟩:=Value.isInt_shape (k:=i) (v:=v) h;exact .inl ⟨i,t,rfl,e⟩
 | .inr x,v,h=>by
  obtain⟨t,e⟩:=Value.isStrOf_shape (x:=x) (v:=v) h;exact .inr ⟨x,t,rfl,e⟩
def Quc(i:Int)(t:Tok):QjH (.inl i) (.int i t)=true:=by simp[QjH,Value.isInt]
def Qtj(x:Str)(t:Tok):QjH (.inr x) (.str x t)=true:=by simp[QjH,Value.isStrOf]
def QCg(a b:Int):decide ((Sum.inl a:Key)=Sum.inl b)=(a == b):=by
 by_cases e:a=b
 .subst e;simp
 .have h:¬(Sum.inl a:Key)=Sum.inl b:=λq=>e (Sum.inl.inj q);rw[decide_eq_false h];exact(beq_eq_false_iff_ne.mpr e).symm
def QAx(a b:Str):decide ((Sum.inr a:Key)=Sum.inr b)=decide (a=b):=by
 by_cases e:a=b
 .subst e;simp
 .have h:¬(Sum.inr a:Key)=Sum.inr b:=λq=>e (Sum.inr.inj q);rw[decide_eq_false h,decide_eq_false e]
def QBC(a:Int)(b:Str):decide ((Sum.inl a:Key)=Sum.inr b)=false:=decide_eq_false (λq=>nomatch q)
def QA6(a:Str)(b:Int):decide ((Sum.inr a:Key)=Sum.inl b)=false:=decide_eq_false (λq=>nomatch q)
def Qdl(prog:Program)(w:World):PySem.KeyKind prog w Key where
 is:=QjH
 hash:=QED w
 inj:=λv a b ha hb=>by
  rcases Qbj ha with⟨i,t,rfl,rfl⟩ | ⟨x,t,rfl,rfl⟩
  .rcases Qbj hb with⟨j,u,rfl,e⟩ | ⟨y,u,rfl,e⟩
   .injection e with e1 _;rw[e1]
   .exact nomatch e
  .rcases Qbj hb with⟨j,u,rfl,e⟩ | ⟨y,u,rfl,e⟩
   .exact nomatch e
   .injection e with e1 _;rw[e1]
 byValue:=λk v h=>by
  rcases Qbj h with⟨i,t,rfl,rfl⟩ | ⟨x,t,rfl,rfl⟩<;>rfl
 pyHash:=λhv h=>by
  rcases Qbj hv with⟨i,t,rfl,rfl⟩ | ⟨x,t,rfl,rfl⟩
  .exact wpAny_pyHash_int h
  .exact wpAny_pyHash_str h
 eqBool:=λhu hv h=>by
  rcases Qbj hu with⟨i,t,rfl,rfl⟩ | ⟨x,t,rfl,rfl⟩
  .rcases Qbj hv with⟨j,u,rfl,rfl⟩ | ⟨y,u,rfl,rfl⟩
   .rw[QCg]at h;exact wpAny_eqBool_int h
   .rw[QBC]at h;exact SeqAt.EqAt.int_str i t y u _ _ _ _ h
  .rcases Qbj hv with⟨j,u,rfl,rfl⟩ | ⟨y,u,rfl,rfl⟩
   .rw[QA6]at h;exact SeqAt.EqAt.str_int x t j u _ _ _ _ h
   .rw[QAx]at h;exact wpAny_eqBool_str h
 «strs» :=λk x t v h=>by
  rcases Qbj h with⟨i,u,rfl,e⟩ | ⟨y,u,rfl,e⟩
  .exact nomatch e
  .injection e with e1 _;subst e1;cases v<;>rfl
def Qp2(prog:Program)(w:World)(i:Int)(t:Tok):(Qdl prog w).is (.inl i) (.int i t)=true:=Quc i t
def Qqb(prog:Program)(w:World)(x:Str)(t:Tok):(Qdl prog w).is (.inr x) (.str x t)=true:=Qtj x t
inductive V where
 | non | bl (b:Bool) | int (i:Int) | str (x:Str) | byt (b:Array UInt8) | flt (b:UInt64) | ref (a:Addr) | ty (n:String)
 deriving DecidableEq
def RelV:V->Value->Prop
 | .non,u=>u=Value.none
 | .bl b,u=>u=Value.bool b
 | .int i,u=>∃t,u=Value.int i t
 | .str x,u=>∃t,u=Value.str x t
 | .byt b,u=>∃t,u=Value.bytes b t
 | .flt b,u=>∃t,u=Value.float b t
 | .ref a,u=>u=Value.ref a
 | .ty n,u=>u=Value.type n
abbrev Qt:List V->List Value->Prop:=Paired RelV
def Qt.length{xs:List V}{us:List Value}(r:Qt xs us):xs.length=us.length:=Paired.length r
def Qt.get:∀{xs:List V}{us:List Value}{i:Nat}{x:V},Qt xs us->xs[i]? =some x->∃u,us[i]? =some u/\RelV x u
 | _,_,_,_,.nil,e=>by simp at e
 | _,_,0,_,.cons r _,e=>by simp at e;subst e;exact⟨_,rfl,r⟩
 | _,_,i+1,x,.cons _ t,e=>by
  obtain⟨u,h1,h2⟩:=Qt.get (i:=i) (x:=x) t (by simpa using e);exact⟨u,by simpa using h1,h2⟩
def Qt.set{x:V}{u:Value}(r:RelV x u):∀{xs:List V}{us:List Value}(i:Nat),Qt xs us->Qt (xs.set i x) (us.set i u)
 | _,_,_,.nil=> .nil
 | _,_,0,.cons _ t=> .cons r t
 | _,_,i+1,.cons q t=> .cons q (Qt.set r i t)
def exK{α β γ δ:Type}{P Q R:α->β->γ->δ->Prop}{G:Prop}(k:∀a b c d,P a b c d->Q a b c d->R a b c d->G)(h:∃a b c d,P a b c d/\Q a b c d/\R a b c d):G:=let ⟨a,b,c,d,p,q,r⟩:=h;k a b c d p q r
def exJ{α β:Type}{P Q R:α->β->Prop}{G:Prop}(k:∀a b,P a b->Q a b->R a b->G)(h:∃a b,P a b/\Q a b/\R a b):G:=let ⟨a,b,p,q,r⟩:=h;k a b p q r
def Qt.append{xs ys:List V}{us ws:List Value}(h:Qt xs us)(s:Qt ys ws):Qt (xs++ys) (us++ws):=by
 induction h with
 | nil=>exact s
 | cons r t ih=>exact .cons r ih
def Qt.take:∀{xs:List V}{us:List Value}(n:Nat),Qt xs us->Qt (xs.take n) (us.take n)
 | _,_,0,_=> .nil
 | _,_,_+1,.nil=> .nil
 | _,_,n+1,.cons r t=> .cons r (Qt.take n t)
def Qt.drop:∀{xs:List V}{us:List Value}(n:Nat),Qt xs us->Qt (xs.drop n) (us.drop n)
 | _,_,0,r=>r
 | _,_,_+1,.nil=> .nil
 | _,_,n+1,.cons _ t=>Qt.drop n t
def Qev:Option V->Option Value->Prop
 | some v,some u=>RelV v u
 | none,none=>True
 | _,_=>False
def KV{κ:Type}:List (κ×V)->List (κ×Value)->Prop:=Paired λ(p:κ×V) (q:κ×Value)=>p.1=q.1/\RelV p.2 q.2
noncomputable def kV:Key->V
 | .inl i=> .int i
 | .inr x=> .str x
inductive HO where
 | lst (xs:List V)
 | tup (xs:List V)
 | dK (kvs:List (Key×V)) | dT (kvs:List (List Key×V))
 | set (S:Int->Bool) (n:Nat)
 | ins (C dx:Addr) (fs:List (Str×V))
 | own (x:Addr)
 | xd (fs:List (Str×V))
 | met (f x:Addr)
 | rng (lo hi:Int)
 | frz (o:Obj) (u:HO)
 | tbl (ps:Array Value)
 | ext (φ:Heap->Prop)
abbrev Hp:=Addr->Option HO
noncomputable def upd(H:Hp)(a:Addr)(o:HO):Hp:=λb=>if b=a then some o else H b
def Q4{H:Hp}{a:Addr}{o:HO}:upd H a o a=some o:=by unfold upd;rw[if_pos rfl]
def Qy{H:Hp}{a b:Addr}{o:HO}(h:b≠a):upd H a o b=H b:=by unfold upd;rw[if_neg h]
def QnS{H:Hp}{a b:Addr}{o u:HO}(h:H a=some o)(h':H b=some u)(d:o≠u):a≠b:=by
 intro e;subst e;rw[h]at h';exact d (Option.some.inj h')
def QbA{H:Hp}{a b:Addr}{o:HO}(h:H a=some o)(h':H b=none):a≠b:=by
 intro e;subst e;rw[h]at h';cases h'
section
variable (P:Program) (w:World)
def Qa7(H:Hp)(h:Heap)(a:Addr):HO->Prop
 | .lst xs=>xs.length<=sizeLine/\∃(its:List Value) (n:Nat),Qt xs its/\h.get? a=some {cls:= .type "list",data:= .seq its.toArray n}
 | .tup xs=>xs.length<=sizeLine/\∃its:List Value,Qt xs its/\IsTup h a its.toArray
 | .dK kvs=>kvs.length<=sizeLine/\(a == sysModules)=false/\∃vs,KV kvs vs/\h.DictOf (Qdl P w) a vs
 | .dT kvs=>kvs.length<=sizeLine/\(a == sysModules)=false/\∃xs:List (List Key×Addr×Value),
   Paired (λ(p:List Key×V) (q:List Key×Addr×Value)=>p.1=q.1/\H q.2.1=some (.tup (p.1.map kV))/\RelV p.2 q.2.2) kvs xs∧
   ∃o es ep,h.get? a=some o/\o.ExactDict/\o.data= .dict es ep/\es.toList=xs.map (entryOfKey (tupleKind (Qdl P w)))/\(xs.map (·.1)).Nodup
 | .set S n=>h.SetOf (intKind P w) a S n
 | .ins C dx fs=>H dx=some (.own a)/\fs.length<=1000/\dx≠a/\h.get? a=some (PySem.W.instObj C dx)∧
   ∃mA,h.Ns1 dx mA/\(∀f,Qev (fs.lookup f) (mA f))/\PySem.Within mA (fs.map (·.1))
 | .own _=>∃o,h.get? a=some o
 | .xd fs=>∃mA,h.Ns1 a mA/\∀f,Qev (fs.lookup f) (mA f)
 | .rng lo hi=>∃t u v,h.get? a=some {cls:= .type "range",data:= .fields #[.int lo t,.int hi u,.int 1 v]}
 | .frz o u=>h.get? a=some o/\Qa7 H h a u
 | .tbl ps=>h.get? a=some {cls:= .none,data:= .fields ps}
 | .met f x=>h.get? a=some (PySem.W.methodObj (.ref f) (.ref x))
 | .ext φ=>φ h/\(∃o,h.get? a=some o)/\∀h1 h2:Heap,φ h1->(∀o,h1.get? a=some o->h2.get? a=some o)->φ h2
def HOk(H:Hp)(h:Heap):Prop:=∀a o,H a=some o->Qa7 P w H h a o
end
section
variable {P:Program}{w:World}{H H':Hp}{h h':Heap}{a:Addr}{o:HO}
def Qa7.lt(x:Qa7 P w H h a o):a<h.objs.size:=by
 cases o with
 | lst xs=>obtain⟨_,_,_,_,e⟩:=x;exact Zp e
 | tup xs=>obtain⟨_,_,_,p⟩:=x;exact p.lt
 | dK kvs=>obtain⟨_,_,_,_,o,_,_,e,_⟩:=x;exact Zp e
 | dT kvs=>obtain⟨_,_,_,_,o,_,_,e,_⟩:=x;exact Zp e
 | set S n=>obtain⟨o,_,_,_,e,_⟩:=x;exact Zp e
 | ins C dx fs=>obtain⟨_,_,_,e,_⟩:=x;exact Zp e
 | own y=>obtain⟨_,e⟩:=x;exact Zp e
 | xd fs=>obtain⟨_,⟨_,_,_,e,_⟩,_⟩:=x;exact Zp e
 | rng lo hi=>obtain⟨_,_,_,e⟩:=x;exact Zp e
 | frz ob u=>obtain⟨e,_⟩:=x;exact Zp e
 | tbl ps=>exact Zp (show h.get? a=some _ from x)
 | met f y=>exact Zp (show h.get? a=some _ from x)
 | ext φ=>obtain⟨_,⟨_,e⟩,_⟩:=x;exact Zp e
def Paired.QmH{α β:Type}{F G:α->β->Prop}:∀{l₁:List α}{l₂:List β},Paired F l₁ l₂->(∀a b,F a b->G a b)->Paired G l₁ l₂
 | _,_,.nil,_=> .nil
 | _,_,.cons r t,f=> .cons (f _ _ r) (Paired.QmH t f)
def Qa7.QgI(x:Qa7 P w H h a o)(k:∀b u,(b=a∨H b=some (.own a))->h.get? b=some u->h'.get? b=some u)
  (ho:∀b,H b=some (.own a)->H' b=some (.own a)) (ht:∀b xs,H b=some (.tup xs)->H' b=some (.tup xs)):Qa7 P w H' h' a o:=by
 induction o with
 | lst xs=>obtain⟨z,its,n,r,e⟩:=x;exact⟨z,its,n,r,k _ _ (.inl rfl) e⟩
 | tup xs=>obtain⟨z,its,r,ob,e,c⟩:=x;exact⟨z,its,r,ob,k _ _ (.inl rfl) e,c⟩
 | dK kvs=>obtain⟨z,y,vs,r,ob,es,ep,e,c⟩:=x;exact⟨z,y,vs,r,ob,es,ep,k _ _ (.inl rfl) e,c⟩
 | dT kvs=>
  obtain⟨z,y,xs,r,ob,es,ep,e,c⟩:=x;exact⟨z,y,xs,Paired.QmH r λp q z=>⟨z.1,ht _ _ z.2.1,z.2.2⟩,ob,es,ep,k _ _ (.inl rfl) e,c⟩
 | set S n=>obtain⟨ob,es,ep,t,e,c⟩:=x;exact⟨ob,es,ep,t,k _ _ (.inl rfl) e,c⟩
 | ins C dx fs=>
  obtain⟨d,z,ne,e,mA,⟨od,es,ep,e2,c⟩,r⟩:=x;exact⟨ho _ d,z,ne,k _ _ (.inl rfl) e,mA,⟨od,es,ep,k _ _ (.inr d) e2,c⟩,r⟩
 | own y=>obtain⟨ob,e⟩:=x;exact⟨ob,k _ _ (.inl rfl) e⟩
 | xd fs=>obtain⟨mA,⟨od,es,ep,e,c⟩,r⟩:=x;exact⟨mA,⟨od,es,ep,k _ _ (.inl rfl) e,c⟩,r⟩
 | rng lo hi=>obtain⟨t,u,v,e⟩:=x;exact⟨t,u,v,k _ _ (.inl rfl) e⟩
 | frz ob u ih=>obtain⟨e,q⟩:=x;exact⟨k _ _ (.inl rfl) e,ih q⟩
 | tbl ps=>
  have e:h.get? a=some {cls:= .none,data:= .fields ps}:=x;show h'.get? a=some {cls:= .none,data:= .fields ps};exact k a _ (.inl rfl) e
 | met f y=>
  have e:h.get? a=some (PySem.W.methodObj (.ref f) (.ref y)):=x;show h'.get? a=some (PySem.W.methodObj (.ref f) (.ref y));exact k a _ (.inl rfl) e
 | ext φ=>obtain⟨p,⟨o,e⟩,st⟩:=x;exact⟨st _ _ p λo q=>k _ _ (.inl rfl) q,⟨o,k _ _ (.inl rfl) e⟩,st⟩
def HOk.lt(x:HOk P w H h)(e:H a=some o):a<h.objs.size:=(x a o e).lt
def HOk.fresh(x:HOk P w H h)(e:h.objs.size<=a):H a=none:=by
 cases q:H a with
 | none=>rfl
 | some u=>exact absurd (Zr (x.lt q) e) (ZE _)
def HOk.kept(x:HOk P w H h)(k:∀b u,h.get? b=some u->h'.get? b=some u):HOk P w H h':=λa o e=>
 (x a o e).QgI (λb u _ q=>k b u q) (λ_ q=>q) λ_ _ q=>q
def HOk.laid(x:HOk P w H h)(k:∀b u,h.get? b=some u->h'.get? b=some u)(hp:h.objs.size<=a)(new:Qa7 P w (upd H a o) h' a o):HOk P w (upd H a o) h':=λb u e=>by
 have hn:=x.fresh hp;by_cases hb:b=a
 .subst hb;rw[Q4]at e;cases e;exact new
 .rw[Qy hb]at e;exact(x b u e).QgI (λc v _ q=>k c v q) (λc q=>by rw[Qy (QbA q hn)];exact q) λc xs q=>by rw[Qy (QbA q hn)];exact q
end
def Rd(H:Hp)(a:Addr)(u:HO):Prop:=H a=some u∨∃o,H a=some (.frz o u)
def Rd.ok{P:Program}{w:World}{H:Hp}{h:Heap}{a:Addr}{u:HO}(r:Rd H a u)(x:HOk P w H h):Qa7 P w H h a u:=by
 rcases r with r | ⟨o,r⟩
 .exact x a u r
 .obtain⟨_,q⟩:=x a _ r;exact q
def Mut:Option HO->Prop
 | some (.lst _)=>True
 | some (.dK _)=>True
 | some (.dT _)=>True
 | some (.set _ _)=>True
 | some (.ins _ _ _)=>True
 | some (.ext _)=>True
 | _=>False
section
variable {P:Program}{w:World}{H:Hp}{h h':Heap}{x e:Addr}{o':HO}
def HOk.write(ok:HOk P w H h)(mu:Mut (H x))(he:e=x∨H e=some (.own x))(k:∀b u,b≠e->h.get? b=some u->h'.get? b=some u)(heo:∃u,h'.get? e=some u)
  (new:Qa7 P w (upd H x o') h' x o'):HOk P w (upd H x o') h':=λb u q=>by
 have nown:∀c y,H c=some (.own y)->c≠x:=λc y r z=>by subst z;rw[r]at mu;exact mu
 have ntup:∀c xs,H c=some (.tup xs)->c≠x:=λc xs r z=>by subst z;rw[r]at mu;exact mu
 by_cases hb:b=x
 .subst hb;rw[Q4]at q;cases q;exact new
 .rw[Qy hb]at q;by_cases hbe:b=e
  .have q':H b=some (.own x):=by
    rcases he with z | z
    .exact absurd (hbe.trans z) hb
    .rw[hbe];exact z
   rw[q]at q';cases q';obtain⟨v,hv⟩:=heo;exact⟨v,by rw[hbe];exact hv⟩
  .refine(ok b u q).QgI (λc v hc r=>k c v ?_ r) (λc r=>by rw[Qy (nown c b r)];exact r) λc xs r=>by rw[Qy (ntup c xs r)];exact r
   rcases hc with rfl | hc
   .exact hbe
   .rintro rfl;rcases he with z | z
    .exact nown c b hc z
    .rw[hc]at z;cases z;exact hb rfl
end
structure Un (fs ex:LAd) (H H':Hp) (h h':Heap):Prop where
 keep:∀b o,h.get? b=some o->H b=none->b∉fs->b∉ex->h'.get? b=some o
 slot:∀b o,h.get? b=some o->H b=none->b∈fs->b∉ex->∃sl,h'.get? b=some {o with slots:=sl}
 free:∀b o,h.get? b=some o->H b=none->b∉ex->H' b=none
 there:∀b o,h.get? b=some o->b∉ex->∃o',h'.get? b=some o'
 tups:∀b xs,H b=some (.tup xs)->H' b=some (.tup xs)
 frzs:∀b o u,H b=some (.frz o u)->H' b=some (.frz o u)
 tbls:∀b ps,H b=some (.tbl ps)->∃more,H' b=some (.tbl (ps++more))
section
variable {fs fs' ex ex':LAd}{H H1 H2:Hp}{h h1 h2 h':Heap}{a x e:Addr}{o:HO}
def Un.any(u:Un fs ex H H1 h h1){b:Addr}{ob:Obj}(q:h.get? b=some ob)(n:H b=none)(hx:b∉ex):∃sl,h1.get? b=some {ob with slots:=sl}:=by
 by_cases hb:b∈fs
 .exact u.slot b ob q n hb hx
 .exact⟨ob.slots,u.keep b ob q n hb hx⟩
def Un.kept(k:∀b u,h.get? b=some u->h'.get? b=some u):Un fs ex H H h h':=
 ⟨λb ob q _ _ _=>k b ob q,λb ob q _ _ _=>⟨ob.slots,k b ob q⟩,λ_ _ _ n _=>n,λb ob q _=>⟨ob,k b ob q⟩,λ_ _ q=>q,λ_ _ _ q=>q,λ_ ps q=>⟨#[],by rw[q];simp⟩⟩
def Un.refl:Un fs ex H H h h:=Un.kept λ_ _ q=>q
def Un.laid(k:∀b u,h.get? b=some u->h'.get? b=some u)(hp:h.objs.size<=a)(hn:H a=none):Un fs ex H (upd H a o) h h' where
 keep:=λb u q _ _ _=>k b u q
 slot:=λb u q _ _ _=>⟨u.slots,k b u q⟩
 free:=λb u q n _=>by rw[Qy (ZC (Zr (Zp q) hp))];exact n
 there:=λb u q _=>⟨u,k b u q⟩
 tups:=λb xs q=>by rw[Qy (QbA q hn)];exact q
 frzs:=λb u xs q=>by rw[Qy (QbA q hn)];exact q
 tbls:=λb ps q=>⟨#[],by rw[Qy (QbA q hn),q];simp⟩
def Un.write(mu:Mut (H x))(he:e=x∨H e=some (.own x))(k:∀b u,b≠e->h.get? b=some u->h'.get? b=some u)(heo:∃u,h'.get? e=some u):Un fs ex H (upd H x o) h h':=by
 have hx:∀b,H b=none->b≠x:=λb n z=>by subst z;rw[n]at mu;exact mu
 have hb:∀b,H b=none->b≠e:=λb n z=>by
  subst z;rcases he with r | r
  .exact hx b n r
  .rw[n]at r;cases r
 have hm:∀b u,H b=some u->¬Mut (some u)->b≠x:=λb u q nm z=>by subst z;rw[q]at mu;exact nm mu
 refine⟨λb u q n _ _=>k b u (hb b n) q,λb u q n _ _=>⟨u.slots,k b u (hb b n) q⟩,λb u q n _=>by rw[Qy (hx b n)];exact n,λb u q _=>?_,
  λb xs q=>by rw[Qy (hm b _ q λz=>z)];exact q,λb u xs q=>by rw[Qy (hm b _ q λz=>z)];exact q,λb ps q=>⟨#[],by rw[Qy (hm b _ q λz=>z),q];simp⟩⟩
 by_cases hbe:b=e
 .subst hbe;exact heo
 .exact⟨u,k b u hbe q⟩
end
noncomputable def trk(h:Heap)(H:Hp):List Addr:=(List.range h.objs.size).filter λa=>(H a).isSome
def QhW(h:Heap)(H:Hp):Heap:=PySem.W.hideAll h (trk h H)
def Qub(h:Heap)(H:Hp):(QhW h H).objs.size=h.objs.size:=PySem.W.hideAll_size _ _
def Qwk{h:Heap}{H:Hp}{b:Addr}{o:Obj}(e:h.get? b=some o)(n:H b=none):(QhW h H).get? b=some o:=
 Zat _ e λhm=>by
  have q:(H b).isSome=true:=(ZaN.mp hm).2;rw[n]at q;simp at q
def Qya{h:Heap}{H:Hp}{b:Addr}{o:Obj}(e:(QhW h H).get? b=some o):h.get? b=some o/\H b=none:=by
 have e':h.get? b=some o:=Zav (trk h H) e;refine⟨e',?_⟩;cases q:H b with
 | none=>rfl
 | some x=>
  have hm:b∈trk h H:=ZaN.mpr ⟨Zal.mpr (Zp e'),by simp[q]⟩;have z:(QhW h H).get? b=none:=PySem.W.hideAll_none (trk h H) hm;rw[z]at e;cases e
structure Mod (K:Fgg) (mg:Str->Option Value) (base:Heap):Prop where
 kin:K.In base
 glob:base.Ns mainGlobals mg
 blt:∃mb,base.Ns builtinsNs mb/\∀x:Str,x≠ "__name__" ->mb x=bootBuiltins x
 nolimit:base.NoLimit
structure Cx where
 prog:Program
 w:World
 K:PySem.W.Frag
 mg:Str->Option Value
 base:Heap
 A:Around
 N:List Str
 s₀:Shared
 H₀:Hp
 env:Env
 outer:List Env
 stack:List Env
 ex:List Addr
 fn:Str->Bool
 calm:Bool
 pn:List (Addr×Obj)
 xe:Value->Shared->Prop
noncomputable def frs(l:List Env):List Addr:=l.filterMap (·.frame)
abbrev Cx.fs(X:Cx):List Addr:=frs X.outer
def Vis(sc:Scope)(x:Str):Prop:=sc.names.lookup x=some .local ∨sc.names.lookup x=some .cell∨sc.names.lookup x=some .free
def Loc(sc:Scope)(x:Str):Prop:=sc.names.lookup x=some .local ∨sc.names.lookup x=some .cell
def Look(env:Env)(h:Heap)(m:Str->Option Value)(x:Str)(u:Value):Prop:=
 (env.kindOf x=some .local /\m x=some u)∨((env.kindOf x=some .cell∨env.kindOf x=some .free)/\∃c,env.cells.lookup x=some c/\h.IsCell c (some u))
structure Cx.Ok (X:Cx):Prop where
 mod:Mod X.K X.mg X.base
 kind:X.env.scope.kind= .function
 glob:X.env.globals=mainGlobals
 blt:X.env.builtins=builtinsNs
 above:X.s₀.heap.objs.size<=X.env.locals
 inj:∀x y c,X.env.cells.lookup x=some c->X.env.cells.lookup y=some c->x=y
 has:∀x,(X.env.kindOf x=some .cell∨X.env.kindOf x=some .free)->∃c,X.env.cells.lookup x=some c
 cab:∀x c,X.fn x=true->X.env.cells.lookup x=some c->X.s₀.heap.objs.size<=c
 hd:X.calm=true->X.A.handled=none
 frames:X.A.frames=some X.stack
 stk:X.stack=X.outer∨(X.stack=X.env::X.outer/\X.env.frame=some X.env.locals)
 exf:∀b∈X.ex,b≠X.env.locals/\∀x c,X.env.cells.lookup x=some c->c≠b
 bs:∀b o,X.base.get? b=some o->X.s₀.heap.get? b=some o/\X.H₀ b=none
 bsz:X.base.objs.size<=X.s₀.heap.objs.size
 noex:∀b o,X.base.get? b=some o->b∉X.ex
 exfs:∀b∈X.ex,b∉X.fs
 QdV:X.s₀.heap.FunFrames X.base X.outer
 frf:∀b∈X.fs,X.H₀ b=none
structure Inv (X:Cx) (pins:List (Addr×Obj)) (U:List (Option V)) (H:Hp) (s:Shared):Prop where
 ok:X.Ok
 os:s.os=X.s₀.os
 bare:AllBare s.gens
 base:Un X.fs X.ex X.H₀ H X.s₀.heap s.heap
 loc:∃m,s.heap.Ns X.env.locals m/\∀(i:Nat) (x:Str) (v:V),X.N[i]? =some x->U[i]? =some (some v)->Vis X.env.scope x->∃u,RelV v u/\Look X.env s.heap m x u
 cell:∀x c,X.env.cells.lookup x=some c->∃v,s.heap.IsCell c v
 free:H X.env.locals=none
 freeC:∀x c,X.env.cells.lookup x=some c->H c=none
 pin:∀p∈X.pn++pins,s.heap.get? p.1=some p.2/\H p.1=none/\p.1≠X.env.locals/\p.1∉X.fs/\∀v,p.2.data≠ .cell v
 hok:HOk X.prog X.w H s.heap
 len:U.length=X.N.length
section
variable {X:Cx}{pins:List (Addr×Obj)}{U:List (Option V)}{H H':Hp}{s:Shared}{h':Heap}
def Cx.Ok.QEE(ok:X.Ok){b:Addr}{o:Obj}(e:X.base.get? b=some o):b∉X.fs:=λhb=>by
 have:=(ok.QdV.mem hb).1;rw[e]at this;cases this
def Inv.bs(I:Inv X pins U H s):∀b o,X.base.get? b=some o->s.heap.get? b=some o/\H b=none:=λb o e=>
 ⟨I.base.keep b o (I.ok.bs b o e).1 (I.ok.bs b o e).2 (I.ok.QEE e) (I.ok.noex b o e),I.base.free b o (I.ok.bs b o e).1 (I.ok.bs b o e).2 (I.ok.noex b o e)⟩
def Inv.bk(I:Inv X pins U H s):∀b o,X.base.get? b=some o->s.heap.get? b=some o:=λb o e=>(I.bs b o e).1
def Inv.mod(I:Inv X pins U H s):Mod X.K X.mg X.base:=I.ok.mod
def Inv.kIn(I:Inv X pins U H s):X.K.In s.heap:=I.ok.mod.kin.keeps I.bk
def Inv.lt(I:Inv X pins U H s):X.env.locals<s.heap.objs.size:=let ⟨_,hn,_⟩:=I.loc;hn.lt
def Inv.sz(I:Inv X pins U H s):X.s₀.heap.objs.size<=s.heap.objs.size:=Zy I.ok.above (Zbj I.lt)
def Inv.QzY(I:Inv X pins U H s){a:Addr}(h:s.heap.objs.size<=a):a∉X.fs:=λhb=>by
 obtain⟨_,o,ho,_⟩:=I.ok.QdV.mem hb;exact absurd (Zr (Zp ho) (Zy I.sz h)) (ZE _)
def Inv.cne(I:Inv X pins U H s):∀x c,X.env.cells.lookup x=some c->c≠X.env.locals:=λx c e z=>by
 obtain⟨v,o,ho,hd⟩:=I.cell x c e;obtain⟨m,⟨o',es,ep,ho',hd',_⟩,_⟩:=I.loc;rw[z,ho']at ho;cases ho;rw[hd']at hd;cases hd
def Inv.QdV(I:Inv X pins U H s):s.heap.FunFrames X.base X.outer:=by
 have all:∀(l:List Env),(∀b∈frs l,b∈X.fs)->X.s₀.heap.FunFrames X.base l->s.heap.FunFrames X.base l:=by
  intro l
  induction l with
  | nil=>intro _ _;trivial
  | cons env r ih=>
   intro hs hl;obtain⟨hk,⟨L,o,hf,hn,ho,hd⟩,hr⟩:=hl;have hL:L∈X.fs:=hs L (by unfold frs;rw[ZaT,hf];exact Zf);obtain⟨sl,e⟩:=I.base.slot L o ho (I.ok.frf L hL) hL λz=>I.ok.exfs L z hL;exact⟨hk,⟨L,_,hf,hn,e,hd⟩,ih (λb hb=>hs b (by unfold frs;rw[ZaT,hf];exact Zc _ hb)) hr⟩
 exact all X.outer (λ_ hb=>hb) I.ok.QdV
def Inv.stack(I:Inv X pins U H s):s.heap.FunFrames X.base X.stack:=by
 rcases I.ok.stk with e | ⟨e,hf⟩
 .rw[e];exact I.QdV
 .rw[e];obtain⟨m,hn,_⟩:=I.loc;refine .cons (by rw[I.ok.kind];decide) hf hn ?_ I.QdV;exact Heap.get?_none_of_le (Zy I.ok.bsz I.ok.above)
def Inv.QdC(I:Inv X pins U H s):∀b∈frs X.stack,b∈X.env.locals::X.fs:=λb hb=>by
 rcases I.ok.stk with e | ⟨e,hf⟩
 .rw[e]at hb;exact Zc _ hb
 .rw[e]at hb;unfold frs at hb;rw[ZaT,hf]at hb;exact hb
def Inv.QlW(I:Inv X pins U H s):∀b∈frs X.stack,H b=none:=λb hb=>by
 rcases Zn.mp (I.QdC b hb)with e | hb
 .rw[e];exact I.free
 .obtain⟨_,o,ho,_⟩:=I.ok.QdV.mem hb;exact I.base.free b o ho (I.ok.frf b hb) λz=>I.ok.exfs b z hb
def Inv.step{g':Array GenState}{t':Nat}{d':Drawn}{ch:LAd}(I:Inv X pins U H s)
  (hch:∀b∈ch,(b∈X.ex∨X.s₀.heap.objs.size<=b)/\b≠X.env.locals/\(∀x c,X.env.cells.lookup x=some c->c≠b)/\∀p∈X.pn++pins,p.1≠b)
  (keep:∀b o,b≠X.env.locals->b∉X.fs->b∉ch->s.heap.get? b=some o->H b=none->h'.get? b=some o)
  (slot:∀b o,b≠X.env.locals->b∈X.fs->b∉ch->s.heap.get? b=some o->H b=none->∃sl,h'.get? b=some {o with slots:=sl}) (free:∀b o,b∉ch->s.heap.get? b=some o->H b=none->H' b=none)
  (there:∀b o,b∉ch->s.heap.get? b=some o->∃o',h'.get? b=some o')
  (tups:∀b xs,H b=some (.tup xs)->H' b=some (.tup xs)) (frzs:∀b o u,H b=some (.frz o u)->H' b=some (.frz o u)) (tbls:∀b ps,H b=some (.tbl ps)->∃more,H' b=some (.tbl (ps++more)))
  (ns:∀m,s.heap.Ns X.env.locals m->h'.Ns X.env.locals m) (hok:HOk X.prog X.w H' h') (hg:AllBare g'):
  Inv X pins U H' {s with heap:=h',gens:=g',drawn:=d',toks:=t'}:=by
 have neL:∀b o,X.s₀.heap.get? b=some o->b≠X.env.locals:=λb o e=>ZC (Zr (Zp e) I.ok.above);have neC:∀b o,X.s₀.heap.get? b=some o->b∉X.ex->b∉ch:=λb o e hx hb=>by
  rcases(hch b hb).1 with z | z
  .exact hx z
  .exact absurd (Zr (Zp e) z) (ZE _)
 have cellK:∀x c,X.env.cells.lookup x=some c->∀v,s.heap.IsCell c v->h'.IsCell c v:=λx c e v Z=>by
  obtain⟨o,ho,hd⟩:=Z;have nch:c∉ch:=λz=>(hch c z).2.2.1 x c e rfl;by_cases hc:c∈X.fs
  .obtain⟨sl,q⟩:=slot c o (I.cne x c e) hc nch ho (I.freeC x c e);exact⟨_,q,hd⟩
  .exact⟨o,keep c o (I.cne x c e) hc nch ho (I.freeC x c e),hd⟩
 refine⟨I.ok,I.os,hg,⟨λb o e n hb hx=>?_,λb o e n hb hx=>?_,λb o e n hx=>?_,λb o e hx=>?_,λb xs e=>tups b xs (I.base.tups b xs e),λb o xs e=>frzs b o xs (I.base.frzs b o xs e),λb ps e=>?_⟩,?_,λx c e=>?_,?_,λx c e=>?_,λp hp=>?_,hok,I.len⟩
 .exact keep b o (neL b o e) hb (neC b o e hx) (I.base.keep b o e n hb hx) (I.base.free b o e n hx)
 .obtain⟨sl,e1⟩:=I.base.slot b o e n hb hx;obtain⟨sl',e2⟩:=slot b _ (neL b o e) hb (neC b o e hx) e1 (I.base.free b o e n hx);exact⟨sl',e2⟩
 .obtain⟨o',e1⟩:=I.base.there b o e hx;exact free b o' (neC b o e hx) e1 (I.base.free b o e n hx)
 .obtain⟨o',e1⟩:=I.base.there b o e hx;exact there b o' (neC b o e hx) e1
 .obtain⟨m1,e1⟩:=I.base.tbls b ps e;obtain⟨m2,e2⟩:=tbls b _ e1;exact⟨m1++m2,by rw[e2,Array.append_assoc]⟩
 .obtain⟨m,hn,hl⟩:=I.loc;refine⟨m,ns m hn,λi x v e1 e2 e3=>?_⟩;obtain⟨u,r,l⟩:=hl i x v e1 e2 e3;refine⟨u,r,?_⟩;rcases l with l | ⟨k,c,e,z⟩
  .exact .inl l
  .exact .inr ⟨k,c,e,cellK x c e _ z⟩
 .obtain⟨v,z⟩:=I.cell x c e;exact⟨v,cellK x c e v z⟩
 .obtain⟨m,⟨o,_,_,ho,_⟩,_⟩:=I.loc;exact free _ o (λz=>(hch _ z).2.1 rfl) ho I.free
 .obtain⟨v,o,ho,hd⟩:=I.cell x c e;exact free c o (λz=>(hch c z).2.2.1 x c e rfl) ho (I.freeC x c e)
 .obtain⟨e,n,ne,nf,d⟩:=I.pin p hp;have nch:p.1∉ch:=λz=>(hch p.1 z).2.2.2 p hp rfl;exact⟨keep p.1 p.2 ne nf nch e n,free p.1 p.2 nch e n,ne,nf,d⟩
def Inv.un{t':Nat}(I:Inv X pins U H s)(u:Un X.fs [] H H' s.heap h')(hok:HOk X.prog X.w H' h'):Inv X pins U H' {s with heap:=h',toks:=t'}:=by
 obtain⟨m,⟨o,es,ep,ho,r⟩,_⟩:=id I.loc;obtain⟨sl,hL⟩:=u.any ho I.free ⋯;exact I.step (g':=s.gens) (d':=s.drawn) (ch:=[]) (λ_ z=>nomatch z) (λb o _ hb _ e n=>u.keep b o e n hb ⋯) (λb o _ hb _ e n=>u.slot b o e n hb ⋯) (λb o _ e n=>u.free b o e n ⋯) (λb o _ e=>u.there b o e ⋯) u.tups u.frzs u.tbls (λm' hm=>by
  obtain⟨o',es',ep',ho',r'⟩:=hm;rw[ho]at ho';cases ho';exact⟨_,es',ep',hL,r'⟩) hok I.bare
def Inv.call{g':Array GenState}{t':Nat}{d':Drawn}{ch:LAd}(I:Inv X pins U H s)(u:Un (frs X.stack) ch H H' s.heap h')(hok:HOk X.prog X.w H' h')(hg:AllBare g')
  (hch:∀b∈ch,(b∈X.ex∨X.s₀.heap.objs.size<=b)/\b≠X.env.locals/\(∀x c,X.env.cells.lookup x=some c->c≠b)/\∀p∈X.pn++pins,p.1≠b):
  Inv X pins U H' {s with heap:=h',gens:=g',drawn:=d',toks:=t'}:=by
 obtain⟨m,⟨o,es,ep,ho,r⟩,_⟩:=id I.loc;obtain⟨sl,hL⟩:=u.any ho I.free λz=>(hch _ z).2.1 rfl;exact I.step (ch:=ch) hch (λb o hL hb hc e n=>u.keep b o e n (λz=>(Zn.mp (I.QdC b z)).elim hL hb) hc) (λb o _ _ hc e n=>u.any e n hc) (λb o hc e n=>u.free b o e n hc) (λb o hc e=>u.there b o e hc) u.tups u.frzs u.tbls (λm' hm=>by
  obtain⟨o',es',ep',ho',r'⟩:=hm;rw[ho]at ho';cases ho';exact⟨_,es',ep',hL,r'⟩) hok hg
def Inv.turned{t':Nat}{it:Addr}(I:Inv X pins U H s)(k:∀b o,b≠it->s.heap.get? b=some o->h'.get? b=some o)(hn:H it=none)(hL:it≠X.env.locals)
  (h1:it∈X.ex∨X.s₀.heap.objs.size<=it) (h2:∀x c,X.env.cells.lookup x=some c->c≠it) (h3:∀p∈X.pn++pins,p.1≠it):Inv X pins U H {s with heap:=h',toks:=t'}:=by
 have nit:∀b u,H b=some u->b≠it:=λb u e z=>by rw[z,hn]at e;cases e
 refine I.step (g':=s.gens) (d':=s.drawn) (ch:=[it]) (λb hb=>?_) (λb o _ _ hc e _=>k b o (λz=>hc (by simp[z])) e) (λb o _ _ hc e _=>⟨o.slots,k b o (λz=>hc (by simp[z])) e⟩) (λ_ _ _ _ n=>n)
  (λb o hc e=>⟨o,k b o (λz=>hc (by simp[z])) e⟩) (λ_ _ e=>e) (λ_ _ _ e=>e) (λb ps e=>⟨#[],by rw[e];simp⟩) (λm hm=>?_) (λb u e=>?_) I.bare
 .have e:b=it:=by simpa using hb
  subst e;exact⟨h1,hL,h2,h3⟩
 .obtain⟨o,es,ep,ho,r⟩:=hm;exact⟨o,es,ep,k _ o (Ne.symm hL) ho,r⟩
 .refine(I.hok b u e).QgI (λc v hc q=>k c v ?_ q) (λ_ q=>q) λ_ _ q=>q;rcases hc with z | z
  .rw[z];exact nit b u e
  .exact nit c _ z
def Inv.tok(I:Inv X pins U H s)(t:Nat):Inv X pins U H {s with toks:=t}:=I.un (h':=s.heap) (t':=t) Un.refl I.hok
def Inv.kept{t':Nat}(I:Inv X pins U H s)(k:∀b u,s.heap.get? b=some u->h'.get? b=some u):Inv X pins U H {s with heap:=h',toks:=t'}:=I.un (Un.kept k) (I.hok.kept k)
def Inv.laid{a:Addr}{o:HO}{t':Nat}(I:Inv X pins U H s)(k:∀b u,s.heap.get? b=some u->h'.get? b=some u)(hp:s.heap.objs.size<=a)(new:Qa7 X.prog X.w (upd H a o) h' a o):
  Inv X pins U (upd H a o) {s with heap:=h',toks:=t'}:=I.un (Un.laid k hp (I.hok.fresh hp)) (I.hok.laid k hp new)
def Inv.write{x e:Addr}{o:HO}{t':Nat}(I:Inv X pins U H s)(mu:Mut (H x))(he:e=x∨H e=some (.own x))(k:∀b u,b≠e->s.heap.get? b=some u->h'.get? b=some u)(heo:∃u,h'.get? e=some u)
  (new:Qa7 X.prog X.w (upd H x o) h' x o):Inv X pins U (upd H x o) {s with heap:=h',toks:=t'}:=I.un (Un.write mu he k heo) (I.hok.write mu he k heo new)
def Inv.weak{U':List (Option V)}(I:Inv X pins U H s)(hl:U'.length=U.length)(w:∀(i:Nat) v,U'[i]? =some (some v)->U[i]? =some (some v)):Inv X pins U' H s:=
 ⟨I.ok,I.os,I.bare,I.base,let ⟨m,hn,hl'⟩:=I.loc;⟨m,hn,λi x v e1 e2 e3=>hl' i x v e1 (w i v e2) e3⟩,I.cell,I.free,I.freeC,I.pin,I.hok,hl.trans I.len⟩
def Inv.Qq5{pins':List (Addr×Obj)}(I:Inv X pins U H s)(h:∀p∈pins',s.heap.get? p.1=some p.2/\H p.1=none/\p.1≠X.env.locals/\p.1∉X.fs/\∀v,p.2.data≠ .cell v):Inv X pins' U H s:=
 ⟨I.ok,I.os,I.bare,I.base,I.loc,I.cell,I.free,I.freeC,λp hp=>(Zx.mp hp).elim (λz=>I.pin p (Zk _ z)) (h p),I.hok,I.len⟩
def Qkz{N:List Str}(hN:N.Nodup){i j:Nat}{x:Str}(a:N[i]? =some x)(b:N[j]? =some x):i=j:=by
 obtain⟨h1,e1⟩:=Zm.mp a;obtain⟨h2,e2⟩:=Zm.mp b;exact(List.getElem_inj hN).mp (e1.trans e2.symm)
def Qm5{M:Model}{A:Around}{E:Value->Shared->Prop}{i:Nat}{x:Str}{v:V}{u:Value}{Q:Unit->Shared->Prop}(I:Inv X pins U H s)(hN:X.N.Nodup)(hi:X.N[i]? =some x)(hx:Loc X.env.scope x)(r:RelV v u)
  (h:∀s',Inv X pins (U.set i (some v)) H s'->(∃a,Heap.SameBut a s.heap s'.heap/\(a=X.env.locals∨X.env.cells.lookup x=some a))->Q () s') (hf:X.fn x=true∨X.env.scope.names.lookup x=some .local :=by first | exact .inl rfl | exact .inr rfl | assumption):wpAny M A (storeName X.env x u) Q E s:=by
 obtain⟨m,hn,hl⟩:=id I.loc;have hcls:(X.env.scope.kind == .class || (X.env.scope.kind == .module && X.env.locals != X.env.globals))=false:=by rw[I.ok.kind];rfl
 have hiU:i<U.length:=by rw[I.len];exact(Zm.mp hi).1
 have cne:=I.cne;have tracked:∀{a:Addr}{h':Heap},(∃o,s.heap.get? a=some o/\H a=none)->Heap.SameBut a s.heap h'->HOk X.prog X.w H h':=λ{a h'} ha hs b ob e=>by
  obtain⟨_,_,hfree⟩:=ha;refine(I.hok b ob e).QgI (λc w' hc q=>(hs.2 c ?_).trans q) (λ_ q=>q) λ_ _ q=>q;rintro rfl;rcases hc with rfl | hc
  .rw[hfree]at e;cases e
  .rw[hfree]at hc;cases hc
 rcases hx with hk | hk
 .refine wpAny_storeName_local hk hn (λh' hn' hs=>?_) hcls;obtain⟨oL,_,_,hoL,_⟩:=id hn;refine h _ ⟨I.ok,I.os,I.bare,⟨λb o e n hb hx=>?_,λb o e n hb hx=>?_,I.base.free,λb o e hx=>?_,I.base.tups,I.base.frzs,I.base.tbls⟩,⟨_,hn',λj y v' e1 e2 e3=>?_⟩,λy c e=>?_,I.free,I.freeC,λp hp=>?_,tracked ⟨oL,hoL,I.free⟩ hs,by simpa using I.len⟩ ⟨_,hs,.inl rfl⟩
  .exact(hs.2 b (ZC (Zr (Zp e) I.ok.above))).trans (I.base.keep b o e n hb hx)
  .obtain⟨sl,e1⟩:=I.base.slot b o e n hb hx;exact⟨sl,(hs.2 b (ZC (Zr (Zp e) I.ok.above))).trans e1⟩
  .obtain⟨o',e1⟩:=I.base.there b o e hx;exact⟨o',(hs.2 b (ZC (Zr (Zp e) I.ok.above))).trans e1⟩
  .by_cases hj:j=i
   .subst hj;rw[hi]at e1;cases e1;rw[Zo hiU]at e2;cases e2;exact⟨u,r,.inl ⟨hk,⋯⟩⟩
   .rw[Zg (Ne.symm hj)]at e2;obtain⟨u',r',q⟩:=hl j y v' e1 e2 e3;refine⟨u',r',?_⟩;rcases q with⟨k,e⟩ | ⟨k,c,e,z⟩
    .refine .inl ⟨k,?_⟩;have:y≠x:=λe=>hj (Qkz hN e1 (e▸hi));simp[this,e]
    .exact .inr ⟨k,c,e,z.sameBut hs (cne y c e)⟩
  .obtain⟨w',z⟩:=I.cell y c e;exact⟨w',z.sameBut hs (cne y c e)⟩
  .obtain⟨e,n,ne,nf,d⟩:=I.pin p hp;exact⟨(hs.2 p.1 ne).trans e,n,ne,nf,d⟩
 .have hfn:X.fn x=true:=by
   rcases hf with z | z
   .exact z
   .rw[z]at hk;cases hk
  obtain⟨c,hc⟩:=I.ok.has x (.inl hk);obtain⟨w',z⟩:=I.cell x c hc;refine wpAny_storeName_cell I.ok.kind hk hc z (λh' hc' hs=>?_);obtain⟨oc,hoc,hocd⟩:=id z;refine h {s with heap:=h'} ⟨I.ok,I.os,I.bare,⟨λb o e n hb hx=>?_,λb o e n hb hx=>?_,I.base.free,λb o e hx=>?_,I.base.tups,I.base.frzs,I.base.tbls⟩,⟨m,hn.sameBut hs (Ne.symm (cne x c hc)),λj y v' e1 e2 e3=>?_⟩,λy c' e=>?_,I.free,I.freeC,λp hp=>?_,tracked ⟨oc,hoc,I.freeC x c hc⟩ hs,by simpa using I.len⟩ ⟨c,hs,.inr hc⟩
  .exact(hs.2 b (ZC (Zr (Zp e) (I.ok.cab x c hfn hc)))).trans (I.base.keep b o e n hb hx)
  .obtain⟨sl,e1⟩:=I.base.slot b o e n hb hx;exact⟨sl,(hs.2 b (ZC (Zr (Zp e) (I.ok.cab x c hfn hc)))).trans e1⟩
  .obtain⟨o',e1⟩:=I.base.there b o e hx;exact⟨o',(hs.2 b (ZC (Zr (Zp e) (I.ok.cab x c hfn hc)))).trans e1⟩
  .by_cases hj:j=i
   .subst hj;rw[hi]at e1;cases e1;rw[Zo hiU]at e2;cases e2;exact⟨u,r,.inr ⟨.inl hk,c,hc,hc'⟩⟩
   .rw[Zg (Ne.symm hj)]at e2;obtain⟨u',r',q⟩:=hl j y v' e1 e2 e3;refine⟨u',r',?_⟩;rcases q with q | ⟨k,c',e,z'⟩
    .exact .inl q
    .refine .inr ⟨k,c',e,z'.sameBut hs ?_⟩;rintro rfl;exact hj (Qkz hN e1 (I.ok.inj _ _ _ e hc▸hi))
  .by_cases hcc:c'=c
   .subst hcc;exact⟨_,hc'⟩
   .obtain⟨w2,z2⟩:=I.cell y c' e;exact⟨w2,z2.sameBut hs hcc⟩
  .obtain⟨e,n,ne,nf,d⟩:=I.pin p hp;refine⟨(hs.2 p.1 ?_).trans e,n,ne,nf,d⟩;intro q;rw[q,hoc]at e;have q':oc=p.2:=Option.some.inj e;exact d w' (by rw[← q'];exact hocd)
def QhT{M:Model}{A:Around}{E:Value->Shared->Prop}{i:Nat}{x:Str}{v:V}{u:Value}{Q:Unit->Shared->Prop}(I:Inv X pins U H s)(hN:X.N.Nodup)(hi:X.N[i]? =some x)(hx:Loc X.env.scope x)(r:RelV v u)
  (h:∀s',Inv X pins (U.set i (some v)) H s'->Q () s') (hf:X.fn x=true∨X.env.scope.names.lookup x=some .local :=by first | exact .inl rfl | exact .inr rfl | assumption):wpAny M A (storeName X.env x u) Q E s:=
 Qm5 I hN hi hx r (λs' I' _=>h s' I') hf
def Inv.Qlt{s':Shared}{ch:LAd}(I:Inv X pins U H s)(ho:s'.os=s.os)(u:Un (frs X.stack) ch H H' s.heap s'.heap)(hok:HOk X.prog X.w H' s'.heap)(hg:AllBare s'.gens)
  (hch:∀b∈ch,(b∈X.ex∨X.s₀.heap.objs.size<=b)/\b≠X.env.locals/\(∀x c,X.env.cells.lookup x=some c->c≠b)/\∀p∈X.pn++pins,p.1≠b):Inv X pins U H' s':=by
 obtain⟨h',g',d',t',o'⟩:=s';have e:o'=s.os:=ho;subst e;exact I.call (g':=g') (t':=t') (d':=d') u hok hg hch
end
abbrev XK:=Value->Option Addr->Hp->Prop
abbrev St:=List (Option V)
abbrev VK:=V->Hp->Prop
abbrev TE:=St->Hp->VK->Prop
abbrev TT:=St->Hp->(Bool->Hp->Prop)->Prop
abbrev TA:=St->Hp->(List V->Hp->Prop)->Prop
structure Ends where
 nx:St->Hp->Prop
 rt:VK
 bk:St->Hp->Prop:=λ_ _=>False
 ct:St->Hp->Prop:=λ_ _=>False
abbrev TS:=Ends->St->Hp->Prop
def EP(X:Cx)(pins:List (Addr×Obj))(U:St)(Q:VK)(u:Value)(s':Shared):Prop:=∃v H',Inv X pins U H' s'/\RelV v u/\Q v H'
def TP(X:Cx)(pins:List (Addr×Obj))(U:St)(Q:Bool->Hp->Prop)(b:Bool)(s':Shared):Prop:=∃H',Inv X pins U H' s'/\Q b H'
def AP(X:Cx)(pins:List (Addr×Obj))(U:St)(Q:List V->Hp->Prop)(us:List Value)(s':Shared):Prop:=∃vs H',Inv X pins U H' s'/\Qt vs us/\Q vs H'
def SP(X:Cx)(pins:List (Addr×Obj))(D:Ends)(f:Flow)(s':Shared):Prop:=
 match f with
 | .next=>∃U' H',Inv X pins U' H' s'/\D.nx U' H'
 | .brk=>∃U' H',Inv X pins U' H' s'/\D.bk U' H'
 | .cont=>∃U' H',Inv X pins U' H' s'/\D.ct U' H'
 | .ret u=>∃v U' H',Inv X pins U' H' s'/\RelV v u/\D.rt v H'
def PE(X:Cx)(e:Expr)(t:TE):Prop:=
 ∀(pins:List (Addr×Obj)) (s:Shared) (U:St) (H:Hp) (Q:VK),Inv X pins U H s->t U H Q->wpAny (model X.prog X.w) X.A (eval e X.env) (EP X pins U Q) X.xe s
def PT(X:Cx)(e:Expr)(t:TT):Prop:=
 ∀(pins:List (Addr×Obj)) (s:Shared) (U:St) (H:Hp) (Q:Bool->Hp->Prop),Inv X pins U H s->t U H Q->wpAny (model X.prog X.w) X.A (isTrue e X.env (eval e X.env)) (TP X pins U Q) X.xe s
def PW(X:Cx)(e:Expr)(t:TT):Prop:=
 ∀(whole:Sem Value) (pins:List (Addr×Obj)) (s:Shared) (U:St) (H:Hp) (Q:Bool->Hp->Prop),Inv X pins U H s->t U H Q->wpAny (model X.prog X.w) X.A (isTrue e X.env whole) (TP X pins U Q) X.xe s
def PW.pt{X:Cx}{e:Expr}{t:TT}(h:PW X e t):PT X e t:=h _
def PA(X:Cx)(es:List Expr)(t:TA):Prop:=
 ∀(pos:Pos) (pins:List (Addr×Obj)) (s:Shared) (U:St) (H:Hp) (Q:List V->Hp->Prop),Inv X pins U H s->t U H Q->wpAny (model X.prog X.w) X.A (spliced (backTo pos (starEach es X.env))) (AP X pins U Q) X.xe s
def PS(X:Cx)(st:Stmt)(t:TS):Prop:=
 ∀(pins:List (Addr×Obj)) (s:Shared) (U:St) (H:Hp) (D:Ends),Inv X pins U H s->t D U H->wpAny (model X.prog X.w) X.A (exec st X.env) (SP X pins D) X.xe s
def PSs(X:Cx)(st:List Stmt)(t:TS):Prop:=
 ∀(pins:List (Addr×Obj)) (s:Shared) (U:St) (H:Hp) (D:Ends),Inv X pins U H s->t D U H->wpAny (model X.prog X.w) X.A (execs st X.env) (SP X pins D) X.xe s
def thn{α:Type}{t:Sem α}{Q Q':α->Shared->Prop}{M:Model}{A:Around}{E:Value->Shared->Prop}{s:Shared}(h:wpAny M A t Q E s)(hQ:∀a s,Q a s->Q' a s):wpAny M A t Q' E s:=wpAny_mono h hQ λ_ _ x=>x
section
variable {X:Cx}
def Qdz(i:Nat):TE:=λU H Q=>∃v,U[i]? =some (some v)/\Q v H
def tC(v:V):TE:=λ_ H Q=>Q v H
def QBQ{i:Nat}{x:Str}{pos:Pos}(hN:X.N[i]? =some x)(hv:Vis X.env.scope x)(hd:(x == ("__debug__" :Str))=false:=by decide)(hcd:(x == ("__classdict__" :Str))=false:=by decide):PE X (.Name x pos) (Qdz i):=by
 intro pins s U H Q I h;obtain⟨v,e,h⟩:=h;obtain⟨m,hn,hl⟩:=I.loc;obtain⟨u,r,l⟩:=hl i x v hN e hv;have fin:EP X pins U Q u s:=⟨v,H,I,r,h⟩;rcases l with⟨hk,hm⟩ | ⟨hk,c,hc,hcell⟩
 .exact wpAny_Name (wpAny_loadName_local I.ok.kind hk hn hm fin) hd
 .rcases hk with hk | hk
  .exact wpAny_Name (wpAny_loadName_cell I.ok.kind hk hc hcell fin) hd
  .exact wpAny_Name (wpAny_loadName_free I.ok.kind hk hc hcell fin hcd) hd
def QAV{i j pos}:PE X (.Constant (.int i) j pos) (tC (.int i)):=λ_ _ _ H _ I h=>wpAny_Constant_int ⟨.int i,H,I.tok _,⟨_,rfl⟩,h⟩
def Qw2{b j pos}:PE X (.Constant (.bool b) j pos) (tC (.bl b)):=λ_ _ _ H _ I h=>Constant_bool ⟨.bl b,H,I,rfl,h⟩
def QAd{j pos}:PE X (.Constant .none j pos) (tC .non):=λ_ _ _ H _ I h=>Constant_none ⟨.non,H,I,rfl,h⟩
def QAC{x j pos}:PE X (.Constant (.str x) j pos) (tC (.str x)):=λ_ _ _ H _ I h=>Calls.Constant_str ⟨.str x,H,I.tok _,⟨_,rfl⟩,h⟩
def Gl(X:Cx)(x:Str):Prop:=X.env.kindOf x=some .globalImplicit
def QcF{E:Value->Shared->Prop}{pins:List (Addr×Obj)}{s:Shared}{U:St}{H:Hp}{x:Str}{u:Value}{pos:Pos}{Q:Value->Shared->Prop}(I:Inv X pins U H s)(hg:Gl X x)(hm:X.mg x=some u)(h:Q u s)
  (hd:(x == ("__debug__" :Str))=false:=by decide):wpAny (model X.prog X.w) X.A (eval (.Name x pos) X.env) Q E s:=
 Calls.Name_function_global I.ok.kind hg (Calls.loadGlobal_global (by rw[I.ok.glob];exact I.mod.glob.keeps I.bk) hm h) hd
def Qc4{E:Value->Shared->Prop}{pins:List (Addr×Obj)}{s:Shared}{U:St}{H:Hp}{x:Str}{u:Value}{pos:Pos}{Q:Value->Shared->Prop}(I:Inv X pins U H s)(hg:Gl X x)(hm:X.mg x=none)(hv:bootBuiltins x=some u)(h:Q u s)
  (hn:x≠ "__name__" :=by decide) (hd:(x == ("__debug__" :Str))=false:=by decide):wpAny (model X.prog X.w) X.A (eval (.Name x pos) X.env) Q E s:=by
 obtain⟨mb,h1,h2⟩:=I.mod.blt;exact Calls.Name_function_global I.ok.kind hg (Calls.loadGlobal_builtin (by rw[I.ok.glob];exact I.mod.glob.keeps I.bk) hm (by rw[I.ok.blt];exact h1.keeps I.bk) ((h2 x hn).trans hv) h) hd
def QmC{x:Str}{v:V}{u:Value}{pos:Pos}(hg:Gl X x)(hm:X.mg x=some u)(r:RelV v u)(hd:(x == ("__debug__" :Str))=false:=by decide):PE X (.Name x pos) (tC v):=
 λ_ _ _ H _ I h=>QcF I hg hm ⟨v,H,I,r,h⟩ hd
def Qhd{x:Str}{v:V}{u:Value}{pos:Pos}(hg:Gl X x)(hm:X.mg x=none)(hv:bootBuiltins x=some u)(r:RelV v u)(hn:x≠ "__name__" :=by decide)(hd:(x == ("__debug__" :Str))=false:=by decide):PE X (.Name x pos) (tC v):=
 λ_ _ _ H _ I h=>Qc4 I hg hm hv ⟨v,H,I,r,h⟩ hn hd
variable {a b:Expr}{ta tb:TE}{pos:Pos}
variable {tA tB':TT}{rest:List Expr}
def QEy(t u:TT):TT:=λU H Q=>t U H λc H1=>if c=true then u U H1 Q else Q false H1
def tOr(t u:TT):TT:=λU H Q=>t U H λc H1=>if c=true then Q true H1 else u U H1 Q
def QEK(t:TT):TT:=λU H Q=>t U H λc H1=>Q (!c) H1
def QxY(ha:PT X a tA):PW X (.BoolOp .And [a] pos) tA:=by
 intro wh pins s U H Q I h;refine isTrue_and (thn (ha pins s U H Q I h) λc s1 e=>?_);cases c with
 | true=>exact isTrue_and_nil e
 | false=>exact e
def QBb(ha:PT X a tA):PW X (.BoolOp .Or [a] pos) tA:=by
 intro wh pins s U H Q I h;refine isTrue_or (thn (ha pins s U H Q I h) λc s1 e=>?_);cases c with
 | false=>exact isTrue_or_nil e
 | true=>exact e
def QCs(ha:PT X a tA)(hb:PW X (.BoolOp .And (b::rest) pos) tB'):PW X (.BoolOp .And (a::b::rest) pos) (QEy tA tB'):=by
 intro wh pins s U H Q I h;refine isTrue_and (thn (ha pins s U H _ I h) λc s1 Z=>?_);obtain⟨H1,I1,q1⟩:=Z;cases c with
 | true=>exact hb wh pins s1 U H1 Q I1 q1
 | false=>exact⟨H1,I1,q1⟩
def QDB(ha:PT X a tA)(hb:PW X (.BoolOp .Or (b::rest) pos) tB'):PW X (.BoolOp .Or (a::b::rest) pos) (tOr tA tB'):=by
 intro wh pins s U H Q I h;refine isTrue_or (thn (ha pins s U H _ I h) λc s1 Z=>?_);obtain⟨H1,I1,q1⟩:=Z;cases c with
 | true=>exact⟨H1,I1,q1⟩
 | false=>exact hb wh pins s1 U H1 Q I1 q1
def QA0(ha:PT X a tA):PT X (.UnaryOp .Not a pos) (QEK tA):=by
 intro pins s U H Q I h;exact isTrue_not (ha pins s U H (λc H1=>Q (!c) H1) I h)
def QB2{op}{t:TE}(h:PE X a t):PE X (.BoolOp op [a] pos) t:=λpins s U H Q I hw=>BoolOp_one (h pins s U H Q I hw)
def tIf(t:TT)(ta tb:TE):TE:=λU H Q=>t U H λc H1=>if c=true then ta U H1 Q else tb U H1 Q
def Qpq{c:Expr}(hc:PT X c tA)(ha:PE X a ta)(hb:PE X b tb):PE X (.IfExp c a b pos) (tIf tA ta tb):=by
 intro pins s U H Q I h;refine wpAny_IfExp (thn (hc pins s U H _ I h) λd s1 Z=>?_);obtain⟨H1,I1,q1⟩:=Z;cases d with
 | true=>exact ha pins s1 U H1 Q I1 q1
 | false=>exact hb pins s1 U H1 Q I1 q1
end
def SqL(K:Fgg)(H:Hp)(a:Addr)(xs:List V):Prop:=
 Rd H a (.lst xs)∨
  ∃(o:Obj) (its:Array Value) (n:Nat),K.lookup a=some o/\o.cls= .type "list" /\o.dict=none/\o.data= .seq its n/\its.size<=sizeLine/\Qt xs its.toList
def SqT(K:Fgg)(H:Hp)(a:Addr)(xs:List V):Prop:=
 Rd H a (.tup xs)∨
  ∃(o:Obj) (its:Array Value) (n:Nat),K.lookup a=some o/\o.cls= .type "tuple" /\o.data= .seq its n/\its.size<=sizeLine/\Qt xs its.toList
noncomputable def QEO:Value->Option V
 | .none=>some .non
 | .bool b=>some (.bl b)
 | .int i _=>some (.int i)
 | .str x _=>some (.str x)
 | .bytes b _=>some (.byt b)
 | .float b _=>some (.flt b)
 | .ref a=>some (.ref a)
 | .type n=>some (.ty n)
 | _=>none
def RelV.abs{x:V}{u:Value}(r:RelV x u):QEO u=some x:=by
 cases x with
 | non=>cases r;rfl
 | bl _=>cases r;rfl
 | int _=>obtain⟨t,rfl⟩:=r;rfl
 | str _=>obtain⟨t,rfl⟩:=r;rfl
 | byt _=>obtain⟨t,rfl⟩:=r;rfl
 | flt _=>obtain⟨t,rfl⟩:=r;rfl
 | ref _=>cases r;rfl
 | ty _=>cases r;rfl
def RelV.inj{x y:V}{u:Value}(r:RelV x u)(q:RelV y u):x=y:=Option.some.inj (r.abs.symm.trans q.abs)
def Qt.inj:∀{xs ys:List V}{us:List Value},Qt xs us->Qt ys us->xs=ys
 | _,_,_,.nil,.nil=>rfl
 | _,_,_,.cons r t,.cons r' t'=>by rw[r.inj r',Qt.inj t t']
section
variable {X:Cx}{pins:List (Addr×Obj)}{U:St}{H:Hp}{s:Shared}{a:Addr}{xs ys:List V}
def SqL.of{K:Fgg}(h:H a=some (.lst xs)):SqL K H a xs:= .inl (.inl h)
def SqT.of{K:Fgg}(h:H a=some (.tup xs)):SqT K H a xs:= .inl (.inl h)
def Inv.list(I:Inv X pins U H s)(h:SqL X.K H a xs):∃its:List Value,Qt xs its/\PlainL s.heap a its.toArray/\xs.length<=sizeLine:=by
 rcases h with h | ⟨o,its,n,hk,hc,hd,hs,hz,r⟩
 .obtain⟨z,its,n,r,e⟩:=h.ok I.hok;exact⟨its,r,⟨_,n,e,rfl,rfl,rfl⟩,z⟩
 .refine⟨its.toList,r,⟨o,n,I.kIn a o hk,hc,hd,by simpa using hs⟩,?_⟩;have e:=r.length;simp only[ZO]at e;lia
def Inv.tuple(I:Inv X pins U H s)(h:SqT X.K H a xs):∃its:List Value,Qt xs its/\IsTup s.heap a its.toArray/\xs.length<=sizeLine:=by
 rcases h with h | ⟨o,its,n,hk,hc,hs,hz,r⟩
 .obtain⟨z,its,r,p⟩:=h.ok I.hok;exact⟨its,r,p,z⟩
 .refine⟨its.toList,r,⟨o,I.kIn a o hk,hc,n,by simpa using hs⟩,?_⟩;have e:=r.length;simp only[ZO]at e;lia
def Inv.Qf4(I:Inv X pins U H s)(h:SqL X.K H a xs)(h':SqL X.K H a ys):xs=ys:=by
 obtain⟨its,r,⟨o,n,e,_,_,d⟩,_⟩:=I.list h;obtain⟨its',r',⟨o',n',e',_,_,d'⟩,_⟩:=I.list h';rw[e]at e';cases e';rw[d]at d';injection d' with d1 _;have:its=its':=by simpa using congrArg Array.toList d1
 subst this;exact r.inj r'
def Inv.Qnb(I:Inv X pins U H s)(h:SqT X.K H a xs)(h':SqT X.K H a ys):xs=ys:=by
 obtain⟨its,r,⟨o,e,_,n,d⟩,_⟩:=I.tuple h;obtain⟨its',r',⟨o',e',_,n',d'⟩,_⟩:=I.tuple h';rw[e]at e';cases e';rw[d]at d';injection d' with d1 _;have:its=its':=by simpa using congrArg Array.toList d1
 subst this;exact r.inj r'
end
noncomputable abbrev Cx.Qd7(X:Cx)(E:Value->Shared->Prop):Cx:={X with xe:=E}
abbrev Cx.nox(X:Cx):Cx:=X.Qd7 λ_ _=>False
def Cx.Ok.Qd7{X:Cx}(ok:X.Ok)(E:Value->Shared->Prop):(X.Qd7 E).Ok:=
 ⟨ok.mod,ok.kind,ok.glob,ok.blt,ok.above,ok.inj,ok.has,ok.cab,ok.hd,ok.frames,ok.stk,ok.exf,ok.bs,ok.bsz,ok.noex,ok.exfs,ok.QdV,ok.frf⟩
def Cx.Ok.Qe5{X:Cx}{E:Value->Shared->Prop}(ok:(X.Qd7 E).Ok):X.Ok:=
 ⟨ok.mod,ok.kind,ok.glob,ok.blt,ok.above,ok.inj,ok.has,ok.cab,ok.hd,ok.frames,ok.stk,ok.exf,ok.bs,ok.bsz,ok.noex,ok.exfs,ok.QdV,ok.frf⟩
section
variable {X:Cx}{pins:List (Addr×Obj)}{U:St}{H:Hp}{s:Shared}{E:Value->Shared->Prop}
def Inv.Qd7(I:Inv X pins U H s)(E:Value->Shared->Prop):Inv (X.Qd7 E) pins U H s:=⟨I.ok.Qd7 E,I.os,I.bare,I.base,I.loc,I.cell,I.free,I.freeC,I.pin,I.hok,I.len⟩
def Inv.Qe5(I:Inv (X.Qd7 E) pins U H s):Inv X pins U H s:=⟨I.ok.Qe5,I.os,I.bare,I.base,I.loc,I.cell,I.free,I.freeC,I.pin,I.hok,I.len⟩
def SP.Qe5{D:Ends}{f:Flow}{s':Shared}(h:SP (X.Qd7 E) pins D f s'):SP X pins D f s':=by
 cases f with
 | next=>obtain⟨U',H',I,q⟩:=h;exact⟨U',H',I.Qe5,q⟩
 | brk=>obtain⟨U',H',I,q⟩:=h;exact⟨U',H',I.Qe5,q⟩
 | cont=>obtain⟨U',H',I,q⟩:=h;exact⟨U',H',I.Qe5,q⟩
 | ret u=>obtain⟨v,U',H',I,r,q⟩:=h;exact⟨v,U',H',I.Qe5,r,q⟩
def PSs.nox{st:List Stmt}{t:TS}(h:PSs X.nox st t):PSs X st t:=λpins s U H D I hw=>
 wpAny_mono (h pins s U H D (I.Qd7 _) hw) (λ_ _ q=>q.Qe5) λ_ _ z=>False.elim z
end
section
variable {X:Cx}{st:Stmt}{rest:List Stmt}{t u:TS}{e:Expr}{te:TE}{pos:Pos}
def Qr9:TS:=λD U H=>D.nx U H
def QES(t u:TS):TS:=λD U H=>t {D with nx:=u D} U H
def Qxv:PSs X [] Qr9:=λ_ _ U H _ I h=>wpAny_execs_nil ⟨U,H,I,h⟩
def QhM(h1:PS X st t)(h2:PSs X rest u):PSs X (st::rest) (QES t u):=by
 intro pins s U H D I h;refine wpAny_execs_cons (thn (h1 pins s U H {D with nx:=u D} I h) λf s1 q=>?_);cases f with
 | next=>
  obtain⟨U',H',I',q⟩:=q;exact h2 pins s1 U' H' D I' q
 | ret v=>exact q
 | brk=>exact q
 | cont=>exact q
def QAr:TS:=λD U H=>D.bk U H
def QCK:TS:=λD U H=>D.ct U H
def QyL:PS X (.Pass pos) Qr9:=λ_ _ U H _ I h=>wpAny_Pass ⟨U,H,I,h⟩
def Qvo:PS X (.Break pos) QAr:=λ_ _ U H _ I h=>wpAny_Break ⟨U,H,I,h⟩
def Qqe:PS X (.Continue pos) QCK:=λ_ _ U H _ I h=>wpAny_Continue ⟨U,H,I,h⟩
def Inv.quiet{pins:List (Addr×Obj)}{U:St}{H:Hp}{s:Shared}(I:Inv X pins U H s):interactive X.env=false:=by simp[interactive,I.ok.kind]
def QCr{x j pos pos'}:PS X (.Expr (.Constant (.str x) j pos) pos') Qr9:=λ_ s U H _ I h=>wpAny_Expr (Calls.Constant_str (show SP X _ _ .next {s with toks:=s.toks+1}from⟨U,H,I.tok _,h⟩)) I.quiet
def QhC(te:TE):TS:=λD U H=>te U H λ_ H1=>D.nx U H1
def QgW(he:PE X e te)(hs:swapsWith e none pos.line X.env=pure false:=by rfl):PS X (.Expr e pos) (QhC te):=by
 intro pins s U H D I h;exact wpAny_Expr_any (thn (he pins s U H _ I h) λv s1 ⟨x,H1,I1,r1,q1⟩=>⟨U,H1,I1,q1⟩) I.quiet hs
def QE5(te:TE):TS:=λD U H=>te U H D.rt
def QpI(he:PE X e te):PS X (.Return (some e) pos) (QE5 te):=by
 intro pins s U H D I h;exact wpAny_Return_some (thn (he pins s U H _ I h) λv s1 ⟨x,H1,I1,r1,q1⟩=>⟨x,U,H1,I1,r1,q1⟩)
def QDH:TS:=λD _ H=>D.rt .non H
def QxD:PS X (.Return none pos) QDH:=λ_ _ U H _ I h=>wpAny_Return_none ⟨.non,U,H,I,rfl,h⟩
def QE4(c:TT)(t u:TS):TS:=λD U H=>c U H λb H1=>if b=true then t D U H1 else u D U H1
def QwP{c:Expr}{a b:List Stmt}{tc:TT}(hc:PT X c tc)(ha:PSs X a t)(hb:PSs X b u):PS X (.If c a b pos) (QE4 tc t u):=by
 intro pins s U H D I h;refine wpAny_If (thn (hc pins s U H _ I h) λd s1 Z=>?_);obtain⟨H1,I1,q1⟩:=Z;cases d with
 | true=>exact ha pins s1 U H1 D I1 q1
 | false=>exact hb pins s1 U H1 D I1 q1
def QAv:TS:=λ_ _ _=>False
def Qvp:PS X st QAv:=λ_ _ _ _ _ _ h=>h.elim
end
abbrev TG:=V->St->Hp->(St->Hp->Prop)->Prop
abbrev TGs:=List V->St->Hp->(St->Hp->Prop)->Prop
def PG(X:Cx)(target:Expr)(t:TG):Prop:=
 ∀(pins:List (Addr×Obj)) (s:Shared) (U:St) (H:Hp) (v:V) (u:Value) (Q:St->Hp->Prop),Inv X pins U H s->RelV v u->t v U H Q→
  wpAny (model X.prog X.w) X.A (assign target X.env u) (λ_ s'=>∃U' H',Inv X pins U' H' s'/\Q U' H') X.xe s
def PGs(X:Cx)(ts:List Expr)(t:TGs):Prop:=
 ∀(pins:List (Addr×Obj)) (s:Shared) (U:St) (H:Hp) (vs:List V) (us:List Value) (Q:St->Hp->Prop),Inv X pins U H s->Qt vs us->t vs U H Q→
  wpAny (model X.prog X.w) X.A (assignInOrder ((assignEach ts X.env).map (·.2)) us) (λ_ s'=>∃U' H',Inv X pins U' H' s'/\Q U' H') X.xe s
abbrev Qog:=V->V->V->Hp->(Hp->Prop)->Prop
def QuV(X:Cx)(t:Qog):Prop:=
 ∀(pins:List (Addr×Obj)) (s:Shared) (U:St) (H:Hp) (o i v:V) (ov iv u:Value) (Q:Hp->Prop),Inv X pins U H s->RelV o ov->RelV i iv->RelV v u->t o i v H Q→
  wpAny (model X.prog X.w) X.A (setItem ov iv u) (λ_ s'=>∃H',Inv X pins U H' s'/\Q H') X.xe s
abbrev TIp:=V->V->Hp->VK->Prop
def PIp(X:Cx)(op:Operator)(t:TIp):Prop:=
 ∀(pins:List (Addr×Obj)) (s:Shared) (U:St) (H:Hp) (x y:V) (v u:Value) (Q:VK),Inv X pins U H s->RelV x v->RelV y u->t x y H Q→
  wpAny (model X.prog X.w) X.A (inplaceOp op v u) (EP X pins U Q) X.xe s
section
variable {X:Cx}{pos:Pos}
def QgD(i:Nat):TG:=λv U H Q=>Q (U.set i (some v)) H
def Qqt{i:Nat}{x:Str}(hN:X.N.Nodup)(hi:X.N[i]? =some x)(hx:Loc X.env.scope x)(hf:X.fn x=true∨X.env.scope.names.lookup x=some .local :=by first | exact .inl rfl | exact .inr rfl | assumption):PG X (.Name x pos) (QgD i):=by
 intro pins s U H v u Q I r h;exact wpAny_assign_Name (QhT I hN hi hx r (λs' I'=>⟨_,H,I',h⟩) hf)
def QCq:TGs:=λvs U H Q=>vs=[]/\Q U H
def QwT(t:TG)(u:TGs):TGs:=λvs U H Q=>∃v r,vs=v::r/\t v U H λU' H'=>u r U' H' Q
def Qzp:PGs X [] QCq:=by
 intro pins s U H vs us Q I r h;obtain⟨e,h⟩:=h;subst e;cases r;exact assignInOrder_nil ⟨U,H,I,h⟩
def QvD{e:Expr}{es:List Expr}{t:TG}{u:TGs}(h1:PG X e t)(h2:PGs X es u)
  (hs:(assignEach (e::es) X.env).map (·.2)=assign e X.env::(assignEach es X.env).map (·.2):=by rfl):PGs X (e::es) (QwT t u):=by
 intro pins s U H vs us Q I r h;obtain⟨v,vr,e1,h⟩:=h;subst e1;cases r with
 | cons r rr=>
  rw[hs];refine assignInOrder_cons (thn (h1 pins s U H _ _ _ I r h) λ_ s1 Z=>?_);obtain⟨U1,H1,I1,q1⟩:=Z;exact h2 pins s1 U1 H1 _ _ Q I1 rr q1
def QEk(K:Fgg)(n:Nat)(t:TGs):TG:=λv U H Q=>∃a xs,v= .ref a/\SqT K H a xs/\xs.length=n/\t xs U H Q
def QAb{es:List Expr}{k:Nat}{t:TGs}{n:Nat}(hc:X.calm=true)(h:PGs X es t)
  (hn:(assignEach es X.env).length=n:=by rfl) (hst:(assignEach es X.env).findIdx? (·.1)=none:=by rfl):PG X (.Tuple es k pos) (QEk X.K n t):=by
 intro pins s U H v u Q I r hw;obtain⟨a,xs,e1,hq,hl,hw⟩:=hw;subst e1;cases r;obtain⟨its,rv,ht,hz⟩:=I.tuple hq;refine assign_Tuple_tuple (I.ok.hd hc) ht (by simp[hn,← hl,rv.length]) hst λh' hx=>?_;have I1:Inv X pins U H {s with heap:=h'}:=I.kept (t':=s.toks) λb o e=>hx b o (ZC (Zp e)) e;exact h pins _ U H xs _ Q I1 (by simpa using rv) hw
def QdB(to ti:TE)(t:Qog):TG:=λv U H Q=>to U H λo H1=>ti U H1 λi H2=>t o i v H2 λH3=>Q U H3
def QBk{o i:Expr}{to ti:TE}{t:Qog}(ho:PE X o to)(hi:PE X i ti)(hs:QuV X t)
  (ha:∀v,assign (.Subscript o i pos) X.env v=(do
   let ov ← holding [v] (eval o X.env)
   let iv ← holding [v,ov] (eval i X.env)
   standAt pos
   holding [v,ov,iv] (setItem ov iv v)
   release [v,ov,iv] []):=by intro _;rfl):PG X (.Subscript o i pos) (QdB to ti t):=by
 intro pins s U H v u Q I r h;rw[ha];refine wpAny_bind (wpAny_holding (thn (ho pins s U H _ I h) λov s1=>exJ λx H1 I1 r1 q1=>?_));refine wpAny_bind (wpAny_holding (thn (hi pins s1 U H1 _ I1 q1) λiv s2=>exJ λy H2 I2 r2 q2=>?_));refine wpAny_bind (wpAny_standAt (wpAny_bind (wpAny_holding (thn (hs pins s2 U H2 x y v ov iv u _ I2 r1 r2 r q2) λ_ s3 Z=>?_))));obtain⟨H3,I3,q3⟩:=Z;exact wpAny_release ⟨U,H3,I3,q3⟩
def QmL(te:TE)(g:TG):TS:=λD U H=>te U H λx H1=>g x U H1 D.nx
def QBu{tg e:Expr}{te:TE}{g:TG}(he:PE X e te)(hg:PG X tg g)(hs:swapsWithSole [tg] e pos.line X.env=pure false:=by rfl)(hw:swappedStores [tg] e X.env=pure none:=by rfl)
  (h1:(assignEach [tg] X.env).map (·.2)=[assign tg X.env]:=by rfl):PS X (.Assign [tg] e pos) (QmL te g):=by
 intro pins s U H D I h;refine wpAny_Assign_stores (thn (he pins s U H _ I h) λv s1 ⟨x,H1,I1,r1,q1⟩=>?_) hs hw;rw[h1];exact thn (hg pins s1 U H1 x v _ I1 r1 q1) λ_ s2 q=>q
def Qg8{i:Nat}{x:Str}{e:Expr}{te:TE}{pos':Pos}(hN:X.N.Nodup)(hi:X.N[i]? =some x)(hx:Loc X.env.scope x)(he:PE X e te)(hs:swapsWith e (some (.Name x pos')) pos.line X.env=pure false:=by rfl)(hf:X.fn x=true∨X.env.scope.names.lookup x=some .local :=by first | exact .inl rfl | exact .inr rfl | assumption):
  PS X (.Assign [.Name x pos'] e pos) (QmL te (QgD i)):=by
 intro pins s U H D I h;refine wpAny_Assign_Name (thn (he pins s U H _ I h) λv s1 ⟨y,H1,I1,r1,q1⟩=>?_) hs;exact QhT I1 hN hi hx r1 (λs2 I2=>⟨_,H1,I2,q1⟩) hf
def QDq(to ti te:TE)(tget:V->V->Hp->VK->Prop)(tip:TIp)(tset:Qog):TS:=λD U H=>to U H λo H1=>ti U H1 λi H2=>tget o i H2 λx H3=>te U H3 λy H4=>tip x y H4 λz H5=>tset o i z H5 λH6=>D.nx U H6
def QzX(X:Cx)(t:V->V->Hp->VK->Prop):Prop:=
 ∀(pins:List (Addr×Obj)) (s:Shared) (U:St) (H:Hp) (o i:V) (ov iv:Value) (Q:VK),Inv X pins U H s->RelV o ov->RelV i iv->t o i H Q→
  wpAny (model X.prog X.w) X.A (getItem ov iv) (EP X pins U Q) X.xe s
def Qzc{o i e:Expr}{to ti te:TE}{tget:V->V->Hp->VK->Prop}{tip:TIp}{tset:Qog}{op:Operator}{tpos:Pos}(ho:PE X o to)(hi:PE X i ti)(hg:QzX X tget)(he:PE X e te)(hp:PIp X op tip)(hs:QuV X tset)
  (ha:∀ov iv new,augStore i ov iv new=(do holding [new,ov,iv] (setItem ov iv new);release [new,ov,iv] [];pure .next):=by intros;rfl):PS X (.AugAssign (.Subscript o i tpos) op e pos) (QDq to ti te tget tip tset):=by
 intro pins s U H D I h;refine wpAny_AugAssign_SubscriptAny (thn (ho pins s U H _ I h) λov s1 ⟨x1,H1,I1,r1,q1⟩=>?_) ha;refine thn (hi pins s1 U H1 _ I1 q1) λiv s2=>exJ λx2 H2 I2 r2 q2=>?_;refine thn (hg pins s2 U H2 x1 x2 ov iv _ I2 r1 r2 q2) λold s3=>exJ λx3 H3 I3 r3 q3=>?_;refine thn (he pins s3 U H3 _ I3 q3) λv s4=>exJ λx4 H4 I4 r4 q4=>?_;refine thn (hp pins s4 U H4 x3 x4 old v _ I4 r3 r4 q4) λnew s5=>exJ λx5 H5 I5 r5 q5=>?_;exact thn (hs pins s5 U H5 x1 x2 x5 ov iv new _ I5 r1 r2 r5 q5) λ_ s6 ⟨H6,I6,q6⟩=>⟨U,H6,I6,q6⟩
end
section
variable {X:Cx}{pos:Pos}
end
structure It where
 go:Nat->Hp->Prop
 yld:Nat->Hp->V->Hp->Prop
 stop:Nat->Hp->Prop
def Qcn(X:Cx)(pins:List (Addr×Obj))(H:Hp)(b:Addr):Prop:=
 H b=none/\b≠X.env.locals/\b∉X.fs/\(b∈X.ex∨X.s₀.heap.objs.size<=b)/\(∀x c,X.env.cells.lookup x=some c->c≠b)/\∀p∈X.pn++pins,p.1≠b
def Inv.QkI{X:Cx}{pins:List (Addr×Obj)}{U:St}{H H':Hp}{s:Shared}{b:Addr}(I:Inv X pins U H s)(hb:s.heap.objs.size<=b)(hn:H' b=none):Qcn X pins H' b:=by
 refine⟨hn,ZaD (Zr I.lt hb),I.QzY hb,.inr (Zy I.sz hb),λx c e z=>?_,λp hp z=>?_⟩
 .obtain⟨v,q⟩:=I.cell x c e;exact absurd (Zr q.lt (by rw[z];exact hb)) (ZE _)
 .exact absurd (Zr (Zp (I.pin p hp).1) (by rw[z];exact hb)) (ZE _)
structure Turn (P:Program) (w:World) (K:Fgg) (tg:Expr) (J:It) (fp:LAd) (it:Addr) (tn:Nat->Heap->Prop):Prop where
 mem:it∈fp
 obj:∀i h,tn i h->∀b∈fp,∃o,h.get? b=some o/\∀v,o.data≠ .cell v
 keep:∀i h h',tn i h->(∀b∈fp,∀o,h.get? b=some o->h'.get? b=some o)->tn i h'
 item:∀(X:Cx),X.prog=P->X.w=w->X.K=K->X.calm=true->∀(i:Nat) (pins:List (Addr×Obj)) (s:Shared) (U:St) (H:Hp) (E:Value->Shared->Prop),Inv X pins U H s->(∀b∈fp,Qcn X pins H b)->tn i s.heap->J.go i H→
  wpAny (model P w) X.A (pyNext (.ref it)) (λr s1=>∃u,r=some u∧
   wpAny (model P w) X.A (letOwnedTupleGo tg (.ref it) u) (λ_ s2=>∃x H',Inv X pins U H' s2/\RelV x u/\J.yld i H x H'/\tn (i+1) s2.heap/\∀b∈fp,H' b=none) E s1) E s
 done:∀(X:Cx),X.prog=P->X.w=w->X.K=K->X.calm=true->∀(i:Nat) (pins:List (Addr×Obj)) (s:Shared) (U:St) (H:Hp) (E:Value->Shared->Prop),Inv X pins U H s->(∀b∈fp,Qcn X pins H b)->tn i s.heap->J.stop i H→
  wpAny (model P w) X.A (pyNext (.ref it)) (λr s1=>r=none/\Inv X pins U H s1) E s
 self:∀(A:Around) (i:Nat) (s:Shared) (Q:Value->Shared->Prop) (E:Value->Shared->Prop),tn i s.heap->Q (.ref it) s->wpAny (model P w) A (pyIter (.ref it)) Q E s
abbrev TI:=St->Hp->(It->Hp->Prop)->Prop
def PIE(X:Cx)(pins:List (Addr×Obj))(U:St)(tg:Expr)(R:It->Hp->Prop)(itv:Value)(s2:Shared):Prop:=
 ∃(it:Addr) (fp:LAd) (tn:Nat->Heap->Prop) (J:It) (H':Hp),itv= .ref it/\Inv X pins U H' s2/\Turn X.prog X.w X.K tg J fp it tn/\tn 0 s2.heap/\(∀b∈fp,Qcn X pins H' b)/\R J H'
def PI(X:Cx)(tg iter:Expr)(wi:TI):Prop:=
 ∀(pins:List (Addr×Obj)) (s:Shared) (U:St) (H:Hp) (R:It->Hp->Prop),Inv X pins U H s->wi U H R→
  wpAny (model X.prog X.w) X.A (eval iter X.env) (λv s1=>wpAny (model X.prog X.w) X.A (pyIter v) (PIE X pins U tg R) X.xe s1) X.xe s
def QnQ{M:Model}{A:Around}{E:Value->Shared->Prop}{s:Shared}{tg:Expr}{it:Addr}{u:Value}{o:Obj}{n:String}{vs:Array Value}{Q:Unit->Shared->Prop}(ho:s.heap.get? it=some o)(hc:o.cls= .type n)(hd:o.data= .fields vs)
    (hn:["enumerate","zip","dict_itemiterator","dict_reverseitemiterator","odict_iterator","itertools.zip_longest","itertools.pairwise"].contains n=false) (hQ:Q () s):wpAny M A (letOwnedTupleGo tg (.ref it) u) Q E s:=by
  unfold letOwnedTupleGo
  cases tg<;>first
    | exact wpAny_pure hQ
    | (cases u<;>first
        | exact wpAny_pure hQ
        | (refine wpAny_bind (wpAny_load ho ?_)
           rw[hc,hd];show wpAny M A (if(["enumerate","zip","dict_itemiterator","dict_reverseitemiterator","odict_iterator","itertools.zip_longest","itertools.pairwise"].contains n && vs[0]? == some (rawInt _))=true then _ else _) Q E s;rw[if_neg (by intro h;rw[hn,ZaW]at h;cases h)];exact wpAny_pure hQ))
noncomputable def Itl(K:Fgg)(a:Addr):It:=
 ⟨λi H=>∃xs x,SqL K H a xs/\xs[i]? =some x,λi H x H'=>H'=H/\∀xs,SqL K H a xs->xs[i]? =some x,λi H=>∃xs,SqL K H a xs/\xs.length<=i⟩
noncomputable def Itt(K:Fgg)(a:Addr):It:=
 ⟨λi H=>∃xs x,SqT K H a xs/\xs[i]? =some x,λi H x H'=>H'=H/\∀xs,SqT K H a xs->xs[i]? =some x,λi H=>∃xs,SqT K H a xs/\xs.length<=i⟩
noncomputable def Itr(lo:Int)(n:Nat):It:=⟨λi _=>i<n,λi H x H'=>H'=H/\x= .int (lo+i),λi _=>n<=i⟩
def QtL{P:Program}{w:World}{K:Fgg}{tg:Expr}(a it:Addr):Turn P w K tg (Itl K a) [it] it (λi h=>h.IsListIter it a i) where
 mem:= ⋯
 obj:=λi h st b hb=>by
  have e:b=it:=by simpa using hb
  subst e;obtain⟨o,e,c,d⟩:=st;exact⟨o,e,λv z=>by rw[d]at z;cases z⟩
 keep:=λi h h' st k=>st.at λo e=>k it ⋯ o e
 item:=by
  intro X hP hw hK hc i pins s U H E I hf st hg;subst hP hw hK;obtain⟨xs,x,hq,hx⟩:=hg;obtain⟨its,rv,p,hz⟩:=I.list hq;obtain⟨u,hu,ru⟩:=rv.get hx;obtain⟨f0,f1,f2,f3,f4,f5⟩:=hf it ⋯;refine wpAny_pyNext_list_item st p.isList (x:=u) (by simpa using hu) λh' st' sb=>?_;have I1:Inv X pins U H {s with heap:=h'}:=I.turned (t':=s.toks) (λb o hb e=>(sb.2 b hb).trans e) f0 f1 f3 f4 f5;obtain⟨o,e,c,d⟩:=id st';exact⟨u,rfl,QnQ (s:={s with heap:=h'}) e c d ∅ ⟨x,H,I1,ru,⟨rfl,λys hy=>by rw[I.Qf4 hy hq];exact hx⟩,st',λb hb=>(hf b hb).1⟩⟩
 done:=by
  intro X hP hw hK hc i pins s U H E I hf st hg;subst hP hw hK;obtain⟨xs,hq,hx⟩:=hg;obtain⟨its,rv,p,hz⟩:=I.list hq;obtain⟨f0,f1,f2,f3,f4,f5⟩:=hf it ⋯;have hl:=rv.length;exact wpAny_pyNext_list_end (I.ok.hd hc) st p.isList (by simp;lia) λh' eb=>⟨rfl,I.turned (t':=s.toks) (λb o hb e=>eb b o hb e) f0 f1 f3 f4 f5⟩
 self:=λ_ _ _ _ _ st h=>wpAny_pyIter_listiter st h
def Qr2{P:Program}{w:World}{K:Fgg}{tg:Expr}(a it:Addr):Turn P w K tg (Itt K a) [it] it (λi h=>h.IsTupleIter it a i) where
 mem:= ⋯
 obj:=λi h st b hb=>by
  have e:b=it:=by simpa using hb
  subst e;obtain⟨o,e,c,d⟩:=st;exact⟨o,e,λv z=>by rw[d]at z;cases z⟩
 keep:=λi h h' st k=>st.at λo e=>k it ⋯ o e
 item:=by
  intro X hP hw hK hc i pins s U H E I hf st hg;subst hP hw hK;obtain⟨xs,x,hq,hx⟩:=hg;obtain⟨its,rv,p,hz⟩:=I.tuple hq;obtain⟨u,hu,ru⟩:=rv.get hx;obtain⟨f0,f1,f2,f3,f4,f5⟩:=hf it ⋯;refine wpAny_pyNext_tuple_item st (show s.heap.IsTuple a its.toArray from p) (x:=u) (by simpa using hu) λh' st' sb=>?_;have I1:Inv X pins U H {s with heap:=h'}:=I.turned (t':=s.toks) (λb o hb e=>(sb.2 b hb).trans e) f0 f1 f3 f4 f5;obtain⟨o,e,c,d⟩:=id st';exact⟨u,rfl,QnQ (s:={s with heap:=h'}) e c d ∅ ⟨x,H,I1,ru,⟨rfl,λys hy=>by rw[I.Qnb hy hq];exact hx⟩,st',λb hb=>(hf b hb).1⟩⟩
 done:=by
  intro X hP hw hK hc i pins s U H E I hf st hg;subst hP hw hK;obtain⟨xs,hq,hx⟩:=hg;obtain⟨its,rv,p,hz⟩:=I.tuple hq;obtain⟨f0,f1,f2,f3,f4,f5⟩:=hf it ⋯;have hl:=rv.length;exact wpAny_pyNext_tuple_end (I.ok.hd hc) st (show s.heap.IsTuple a its.toArray from p) (by simp;lia) λh' eb=>⟨rfl,I.turned (t':=s.toks) (λb o hb e=>eb b o hb e) f0 f1 f3 f4 f5⟩
 self:=λ_ _ _ _ _ st h=>wpAny_pyIter_tupleiter st h
def Qsb{P:Program}{w:World}{K:Fgg}{tg:Expr}(it:Addr)(lo:Int)(n:Nat):Turn P w K tg (Itr lo n) [it] it (λi h=>IsRangeIter h it (lo+(i:Nat)*1) ((n:Int)-(i:Nat)) 1) where
 mem:= ⋯
 obj:=λi h st b hb=>by
  have e:b=it:=by simpa using hb
  subst e;exact⟨_,st,λv z=>by
   have z':Data.fields _=Data.cell v:=z;cases z'⟩
 keep:=λi h h' st k=>k it ⋯ _ st
 item:=by
  intro X hP hw hK hc i pins s U H E I hf st hg;subst hP hw hK;obtain⟨f0,f1,f2,f3,f4,f5⟩:=hf it ⋯;have W:=Walks.range (prog:=X.prog) (w:=X.w) (I.ok.hd hc) it lo 1 n;refine W.item i s _ _ hg st λv h' tk hv st' kk=>?_;obtain⟨t,rfl⟩:=hv;have I1:Inv X pins U H {s with heap:=h',toks:=tk}:=I.turned (λb o hb e=>kk b o (by simpa using hb) e) f0 f1 f3 f4 f5;refine⟨_,rfl,QnQ (s:={s with heap:=h',toks:=tk}) (n:= "range_iterator") st' rfl rfl ∅ ⟨.int (lo+i),H,I1,⟨t,?_⟩,⟨rfl,rfl⟩,st',λb hb=>(hf b hb).1⟩⟩;rw[Int.mul_one]
 done:=by
  intro X hP hw hK hc i pins s U H E I hf st hg;subst hP hw hK;obtain⟨f0,f1,f2,f3,f4,f5⟩:=hf it ⋯;exact wpAny_pyNext_range_end (I.ok.hd hc) st (by have:n<=i:=hg;lia) λh' eb=>⟨rfl,I.turned (t':=s.toks) (λb o hb e=>eb b o hb e) f0 f1 f3 f4 f5⟩
 self:=λ_ _ _ _ _ st h=>wpAny_pyIter_rangeiter st h
section
variable {X:Cx}{tg:Expr}
def Qpf{pins:List (Addr×Obj)}{U:St}{H:Hp}{s:Shared}{R:It->Hp->Prop}{E:Value->Shared->Prop}{lo hi:Int}{t u v:Tok}{tk:Nat}(I:Inv X pins U H s)(h1: -(2^62)<=lo)(h2:lo<2^62)(h3: -(2^62)<=hi)(h4:hi<2^62)
  (q:R (Itr lo (hi-lo).toNat) H):wpAny (model X.prog X.w) X.A (pyIter (.ref s.heap.objs.size)) (PIE X pins U tg R) E {s with heap:=s.heap.push {cls:= .type "range",data:= .fields #[.int lo t,.int hi u,.int 1 v]},toks:=tk}:=by
 refine wpAny_pyIter_range (IsRange.new ..) (small_one h1 h2 h3 h4) ?_;have I1:Inv X pins U H {s with heap:=s.heap.push {cls:= .type "range",data:= .fields #[.int lo t,.int hi u,.int 1 v]},toks:=tk}:=I.kept λb o e=>Zd _ e
 refine⟨(s.heap.push {cls:= .type "range",data:= .fields #[.int lo t,.int hi u,.int 1 v]}).objs.size,[(s.heap.push {cls:= .type "range",data:= .fields #[.int lo t,.int hi u,.int 1 v]}).objs.size],_,_,H,rfl,
  I1.kept (t':=tk) λb o e=>Zd _ e,Qsb _ lo (hi-lo).toNat,?_,λb hb=>?_,q⟩
 .have e1:lo+((0:Nat):Int)*1=lo:= ⋯
  have e2:(((hi-lo).toNat:Nat):Int)-((0:Nat):Int)=Builtin.Range.rangeSize lo hi 1:=by rw[rangeSize_one];split<;>lia
  show IsRangeIter _ _ (lo+((0:Nat):Int)*1) ((((hi-lo).toNat:Nat):Int)-((0:Nat):Int)) 1;rw[e1,e2];exact Zq _ rfl
 .have e:b=(s.heap.push {cls:= .type "range",data:= .fields #[.int lo t,.int hi u,.int 1 v]}).objs.size:=by simpa using hb
  subst e;exact I1.QkI (Zi _) (I1.hok.fresh (Zi _))
def QD7(ta:TA):TI:=λU H R=>ta U H λvs H1=>∃j:Int,vs=[.int j]/\ -(2^62)<=j/\j<2^62/\R (Itr 0 j.toNat) H1
def QDU(ta:TA):TI:=λU H R=>ta U H λvs H1=>∃i j:Int,vs=[.int i,.int j]/\(-(2^62)<=i/\i<2^62/\ -(2^62)<=j/\j<2^62)/\R (Itr i (j-i).toNat) H1
def QsA{a:Expr}{ta:TA}{p pos:Pos}(hg:Gl X "range")(hm:X.mg "range" =none)(ha:PA X [a] ta)(hs:starEach [a] X.env=[(false,eval a X.env)]:=by rfl):PI X tg (.Call (.Name "range" p) [a] [] pos) (QD7 ta):=by
 intro pins s U H R I h;refine Call_ (Qc4 I hg hm boot_range (ZL (thn (ha pos pins s U H _ I h) λus s1 ⟨vs,H1,I1,r1,q1⟩=>?_) hs rfl));obtain⟨j,e,q1,q2,q⟩:=q1;subst e;cases r1 with
 | cons r rr=>
  cases rr;obtain⟨t,rfl⟩:=r;exact call_range_1 (Qpf I1 ⋯ ⋯ q1 q2 (by simpa using q))
def QuB{a b:Expr}{ta:TA}{p pos:Pos}(hg:Gl X "range")(hm:X.mg "range" =none)(ha:PA X [a,b] ta)(hs:starEach [a,b] X.env=[(false,eval a X.env),(false,eval b X.env)]:=by rfl)(hs2:starEach [b] X.env=[(false,eval b X.env)]:=by rfl):
  PI X tg (.Call (.Name "range" p) [a,b] [] pos) (QDU ta):=by
 intro pins s U H R I h;refine Call_ (Qc4 I hg hm boot_range (ZL (thn (ha pos pins s U H _ I h) λus s1 ⟨vs,H1,I1,r1,q1⟩=>?_) (by rw[hs,hs2]) (by rw[hs2];rfl)));obtain⟨i,j,e,⟨q1,q2,q3,q4⟩,q⟩:=q1;subst e;cases r1 with
 | cons r rr=>
  cases rr with
  | cons r' rr=>
   cases rr;obtain⟨t,rfl⟩:=r;obtain⟨t',rfl⟩:=r';exact call_range_2 (Qpf I1 q1 q2 q3 q4 q)
def QET(wi:TI)(g:TG)(tb:TS):TS:=λD U H=>wi U H λJ H1=>∃W:Nat->Nat->St->Hp->Prop,(∃m,W 0 m U H1)/\∀i m U H,W i m U H→
 (J.stop i H/\D.nx U H)∨(J.go i H/\∃N:St->Hp->Prop,(∀U' H',N U' H'->∃m',m'<m/\W (i+1) m' U' H')/\∀x H',J.yld i H x H'->g x U H' λU2 H2=>tb {D with nx:=N,ct:=N,bk:=D.nx} U2 H2)
noncomputable def Qhr(fp:LAd)(h:Heap):List (Addr×Obj):=fp.filterMap λb=>(h.get? b).map λo=>(b,o)
def Qfu{fp:LAd}{h:Heap}{b:Addr}{o:Obj}(hb:b∈fp)(e:h.get? b=some o):(b,o)∈Qhr fp h:=Zad.mpr ⟨b,hb,by rw[e];rfl⟩
def QtV{fp:LAd}{h:Heap}{p:Addr×Obj}(hp:p∈Qhr fp h):p.1∈fp/\h.get? p.1=some p.2:=by
 obtain⟨b,hb,e⟩:=Zad.mp hp;cases q:h.get? b with
 | none=>rw[q]at e;cases e
 | some o=>
  rw[q]at e;have e':(b,o)=p:=Option.some.inj e;subst e';exact⟨hb,q⟩
def Inv.pinned{pins:List (Addr×Obj)}{U:St}{H:Hp}{s:Shared}{fp:LAd}(I:Inv X pins U H s)(hf:∀b∈fp,Qcn X pins H b)(ho:∀b∈fp,∃o,s.heap.get? b=some o/\∀v,o.data≠ .cell v):Inv X (pins++Qhr fp s.heap) U H s:=
 I.Qq5 λp hp=>(Zx.mp hp).elim (λz=>I.pin p (Ze _ z)) λz=>by
  obtain⟨hb,e⟩:=QtV z;obtain⟨f0,f1,f2,_⟩:=hf p.1 hb;obtain⟨o,e',d⟩:=ho p.1 hb;rw[e]at e';cases e';exact⟨e,f0,f1,f2,d⟩
def Inv.Qgb{pins pl:List (Addr×Obj)}{U:St}{H:Hp}{s:Shared}(I:Inv X (pins++pl) U H s):Inv X pins U H s:=I.Qq5 λp hp=>I.pin p (Ze _ (Zk _ hp))
def QtW{iter:Expr}{body:List Stmt}{wi:TI}{g:TG}{tb:TS}{pos:Pos}(hp:PassesOwn (model X.prog X.w) X.A X.env X.xe)(hc:X.calm=true)(hi:PI X tg iter wi)(hg:PG X tg g)(hb:PSs X body tb)
  (hs:∀x,foldedSetIterable iter X.env x=pure x:=by intro _;rfl):PS X (.For tg iter body [] pos) (QET wi g tb):=by
 intro pins s U H D I h;refine wpAny_For (thn (hi pins s U H _ I h) λv s1 h1=>thn h1 λitv s2 h2=>?_) hs;obtain⟨it,fp,tn,J,H2,e,I2,T,st2,f2,W,⟨m0,w0⟩,turn⟩:=h2;subst e;have stat:∀{H':Hp},(∀b∈fp,H' b=none)->∀b∈fp,Qcn X pins H' b:=λhn b hb=>⟨hn b hb,(f2 b hb).2⟩;refine codeAny_forLoop_any (λn s'=>∃i U' H',Inv X pins U' H' s'/\tn i s'.heap/\(∀b∈fp,H' b=none)/\W i n U' H') ?_ m0 ⟨0,U,H2,I2,st2,λb hb=>(f2 b hb).1,w0⟩;rintro n s3 ⟨i,U3,H3,I3,st3,fr3,w3⟩;rcases turn i n U3 H3 w3 with⟨stop,qn⟩ | ⟨go,N,hN,step⟩
 .refine wpAny_passesOwn hp (thn (T.done X rfl rfl rfl hc i pins s3 U3 H3 X.xe I3 (stat fr3) st3 stop) λr s4 Z=>?_);obtain⟨hr,I4⟩:=Z;subst hr;exact wpAny_execs_nil ⟨U3,H3,I4,qn⟩
 .refine wpAny_passesOwn hp (thn (T.item X rfl rfl rfl hc i pins s3 U3 H3 X.xe I3 (stat fr3) st3 go) λr s4 Z=>?_);obtain⟨u,hr,h4⟩:=Z;subst hr;refine wpAny_passesOwn hp (thn h4 λ_ s5 Z=>?_);obtain⟨x,H5,I5,r5,y5,st5,fr5⟩:=Z;have I5':=I5.pinned (stat fr5) (T.obj _ _ st5);refine wpAny_passesOwn hp (thn (hg _ s5 U3 H5 x u _ I5' r5 (step x H5 y5)) λ_ s6 Z=>?_);obtain⟨U6,H6,I6,q6⟩:=Z;refine wpAny_passesOwn hp (thn (hb _ s6 U6 H6 _ I6 q6) λf s7 q7=>?_);have again:∀{U7:St}{H7:Hp},Inv X (pins++Qhr fp s5.heap) U7 H7 s7->N U7 H7->∃m,m<n/\∃i U' H',Inv X pins U' H' s7/\tn i s7.heap/\(∀b∈fp,H' b=none)/\W i m U' H':=λ{U7 H7} I7 n7=>by
   obtain⟨m',hm,w7⟩:=hN U7 H7 n7;refine⟨m',hm,i+1,U7,H7,I7.Qgb,T.keep _ _ _ st5 λb hb o e=>(I7.pin (b,o) (Ze _ (Ze _ (Qfu hb e)))).1,λb hb=>?_,w7⟩;obtain⟨o,e,d⟩:=T.obj _ _ st5 b hb;exact(I7.pin (b,o) (Ze _ (Ze _ (Qfu hb e)))).2.1
  cases f with
  | next=>obtain⟨U7,H7,I7,n7⟩:=q7;exact again I7 n7
  | cont=>obtain⟨U7,H7,I7,n7⟩:=q7;exact again I7 n7
  | brk=>obtain⟨U7,H7,I7,q7⟩:=q7;exact⟨U7,H7,I7.Qgb,q7⟩
  | ret v=>obtain⟨x7,U7,H7,I7,r7,q7⟩:=q7;exact⟨x7,U7,H7,I7.Qgb,r7,q7⟩
end
abbrev R2:=V->V->Hp->VK->Prop
def OpR(X:Cx)(f:Value->Value->Sem Value)(r:R2):Prop:=
 ∀(pins:List (Addr×Obj)) (s:Shared) (U:St) (H:Hp) (x y:V) (v u:Value) (Q:VK),Inv X pins U H s->RelV x v->RelV y u->r x y H Q→
  wpAny (model X.prog X.w) X.A (f v u) (EP X pins U Q) X.xe s
def UnR(X:Cx)(f:Value->Sem Value)(r:V->Hp->VK->Prop):Prop:=
 ∀(pins:List (Addr×Obj)) (s:Shared) (U:St) (H:Hp) (x:V) (v:Value) (Q:VK),Inv X pins U H s->RelV x v->r x H Q→
  wpAny (model X.prog X.w) X.A (f v) (EP X pins U Q) X.xe s
def QaS(X:Cx)(f:Value)(r:List V->Hp->VK->Prop):Prop:=
 ∀(pins:List (Addr×Obj)) (s:Shared) (U:St) (H:Hp) (xs:List V) (us:List Value) (Q:VK),Inv X pins U H s->Qt xs us->r xs H Q→
  wpAny (model X.prog X.w) X.A (call f us) (EP X pins U Q) X.xe s
def QE0(X:Cx)(r:V->Hp->(Bool->Hp->Prop)->Prop):Prop:=
 ∀(pins:List (Addr×Obj)) (s:Shared) (U:St) (H:Hp) (x:V) (v:Value) (Q:Bool->Hp->Prop),Inv X pins U H s->RelV x v->r x H Q→
  wpAny (model X.prog X.w) X.A (truthy v) (TP X pins U Q) X.xe s
def tOp(r:R2)(ta tb:TE):TE:=λU H Q=>ta U H λx H1=>tb U H1 λy H2=>r x y H2 Q
def tUn(r:V->Hp->VK->Prop)(ta:TE):TE:=λU H Q=>ta U H λx H1=>r x H1 Q
def rI(C:Int->Int->Prop)(g:Int->Int->V):R2:=λx y H Q=>∃i j,x= .int i/\y= .int j/\C i j/\Q (g i j) H
def rI0(g:Int->Int->V):R2:=λx y H Q=>∃i j,x= .int i/\y= .int j/\Q (g i j) H
def rU(g:Int->V):V->Hp->VK->Prop:=λx H Q=>∃i,x= .int i/\Q (g i) H
section
variable {X:Cx}{a b c:Expr}{ta tb tc:TE}{pos:Pos}
def Qsr(ha:PE X a ta)(hb:PE X b tb){pins:List (Addr×Obj)}{s:Shared}{U:St}{H:Hp}{R:V->V->Hp->Prop}(I:Inv X pins U H s)
  (h:ta U H λx H1=>tb U H1 λy H2=>R x y H2) {Q:Value->Shared->Prop}{f:Value->Value->Sem Value}
  (hf:∀v u s2 x y H2,Inv X pins U H2 s2->RelV x v->RelV y u->R x y H2->wpAny (model X.prog X.w) X.A (f v u) Q X.xe s2):
  wpAny (model X.prog X.w) X.A (eval a X.env) (λv s₁=>wpAny (model X.prog X.w) X.A (eval b X.env) (λu s₂=>wpAny (model X.prog X.w) X.A (f v u) Q X.xe s₂) X.xe s₁) X.xe s:=by
 refine thn (ha pins s U H _ I h) λv s1=>exJ λx H1 I1 r1 q1=>?_;refine thn (hb pins s1 U H1 _ I1 q1) λu s2=>exJ λy H2 I2 r2 q2=>?_;exact hf v u s2 x y H2 I2 r1 r2 q2
def Qry{op:Operator}{r:R2}(ho:OpR X (binaryOp op) r)(ha:PE X a ta)(hb:PE X b tb):PE X (.BinOp a op b pos) (tOp r ta tb):=by
 intro pins s U H Q I h;exact wpAny_BinOp (Qsr ha hb I h λv u s2 x y H2 I2 rx ry q=>ho pins s2 U H2 x y v u Q I2 rx ry q)
def QEb{op:UnaryOp}{r:V->Hp->VK->Prop}(ho:UnR X (unaryOp op) r)(ha:PE X a ta):PE X (.UnaryOp op a pos) (tUn r ta):=by
 intro pins s U H Q I h;exact UnaryOp_ (thn (ha pins s U H _ I h) λv s1 ⟨x,H1,I1,r1,q1⟩=>ho pins s1 U H1 x v Q I1 r1 q1)
def QEn{op:Operator}{r:R2}(ho:OpR X (inplaceOp op) r){pins:List (Addr×Obj)}{s:Shared}{U:St}{H:Hp}{x y:V}{v u:Value}{Q:VK}(I:Inv X pins U H s)
  (rx:RelV x v) (ry:RelV y u) (q:r x y H Q):wpAny (model X.prog X.w) X.A (inplaceOp op v u) (EP X pins U Q) X.xe s:=ho pins s U H x y v u Q I rx ry q
def opI{f:Value->Value->Sem Value}{C:Int->Int->Prop}{g:Int->Int->Int}
  (rule:∀(i j:Int) (t u:Tok) (s:Shared) (Q:Value->Shared->Prop) (E:Value->Shared->Prop),C i j->Q (.int (g i j) s.toks) {s with toks:=s.toks+1}->wpAny (model X.prog X.w) X.A (f (.int i t) (.int j u)) Q E s):
  OpR X f (rI C λi j=> .int (g i j)):=by
 intro pins s U H x y v u Q I rx ry h;obtain⟨i,j,rfl,rfl,hc,q⟩:=h;obtain⟨t,rfl⟩:=rx;obtain⟨t',rfl⟩:=ry;exact rule i j t t' s _ _ hc ⟨.int (g i j),H,I.tok _,⟨_,rfl⟩,q⟩
def Qpz{f:Value->Value->Sem Value}{g:Int->Int->Int}
  (rule:∀(i j:Int) (t u:Tok) (s:Shared) (Q:Value->Shared->Prop) (E:Value->Shared->Prop),Q (.int (g i j) s.toks) {s with toks:=s.toks+1}->wpAny (model X.prog X.w) X.A (f (.int i t) (.int j u)) Q E s):
  OpR X f (rI0 λi j=> .int (g i j)):=by
 intro pins s U H x y v u Q I rx ry h;obtain⟨i,j,rfl,rfl,q⟩:=h;obtain⟨t,rfl⟩:=rx;obtain⟨t',rfl⟩:=ry;exact rule i j t t' s _ _ ⟨.int (g i j),H,I.tok _,⟨_,rfl⟩,q⟩
def Qr3{f:Value->Value->Sem Value}{g:Int->Int->Bool}
  (rule:∀(i j:Int) (t u:Tok) (s:Shared) (Q:Value->Shared->Prop) (E:Value->Shared->Prop),Q (.bool (g i j)) s->wpAny (model X.prog X.w) X.A (f (.int i t) (.int j u)) Q E s):
  OpR X f (rI0 λi j=> .bl (g i j)):=by
 intro pins s U H x y v u Q I rx ry h;obtain⟨i,j,rfl,rfl,q⟩:=h;obtain⟨t,rfl⟩:=rx;obtain⟨t',rfl⟩:=ry;exact rule i j t t' s _ _ ⟨.bl (g i j),H,I,rfl,q⟩
def Qrl(k:Nat):(0:Int)<=2^k:=by
 rw[two_pow_cast];exact Int.natCast_nonneg _
def Qz6:OpR X (binaryOp .Add) (rI0 λi j=> .int (i+j)):=Qpz λ_ _ _ _ _ _ _ q=>add_int q
def QAl:OpR X (binaryOp .Sub) (rI0 λi j=> .int (i-j)):=Qpz λ_ _ _ _ _ _ _ q=>sub_int q
def Qz5:OpR X (binaryOp .RShift) (rI (λ_ j=>0<=j) λi j=> .int (i / 2^j.toNat)):=opI λi j _ _ _ _ _ hc q=>
 rshift_int hc (by rw[ZaX i (Qrl _)];exact q)
def QBD:OpR X (binaryOp .BitAnd) (rI0 λi j=> .int (Builtin.bitAnd i j)):=Qpz λ_ _ _ _ _ _ _ q=>and_int q
def QxE:OpR X (inplaceOp .Add) (rI0 λi j=> .int (i+j)):=Qpz λ_ _ _ _ _ _ _ q=>iadd_int q
def Qyi:OpR X (inplaceOp .Sub) (rI0 λi j=> .int (i-j)):=Qpz λ_ _ _ _ _ _ _ q=>isub_int q
def unI{f:Value->Sem Value}{g:Int->Int}
  (rule:∀(i:Int) (t:Tok) (s:Shared) (Q:Value->Shared->Prop) (E:Value->Shared->Prop),Q (.int (g i) s.toks) {s with toks:=s.toks+1}->wpAny (model X.prog X.w) X.A (f (.int i t)) Q E s):
  UnR X f (rU λi=> .int (g i)):=by
 intro pins s U H x v Q I rx h;obtain⟨i,rfl,q⟩:=h;obtain⟨t,rfl⟩:=rx;exact rule i t s _ _ ⟨.int (g i),H,I.tok _,⟨_,rfl⟩,q⟩
def QAP:UnR X (unaryOp .USub) (rU λi=> .int (-i)):=unI λ_ _ _ _ _ q=>neg_int q
end
section
variable {X:Cx}{a b c:Expr}{ta tb tc:TE}{pos:Pos}
def Qg1{pins:List (Addr×Obj)}{U:St}{H:Hp}{s:Shared}{Q:VK}{k k':Bool}(I:Inv X pins U H s)(q:Q (.bl k) H)(e:k=k'):EP X pins U Q (.bool k') s:=by
 subst e;exact⟨.bl k,H,I,rfl,q⟩
def QC4:OpR X (compareOp .Lt) (rI0 λi j=> .bl (decide (i<j))):=Qr3 λ_ _ _ _ _ _ _ q=>lt_int q
def QDf:OpR X (compareOp .LtE) (rI0 λi j=> .bl (decide (i<=j))):=Qr3 λ_ _ _ _ _ _ _ q=>le_int q
def QC8:OpR X (compareOp .Gt) (rI0 λi j=> .bl (decide (j<i))):=Qr3 λ_ _ _ _ _ _ _ q=>gt_int q
def QD9:OpR X (compareOp .GtE) (rI0 λi j=> .bl (decide (j<=i))):=Qr3 λ_ _ _ _ _ _ _ q=>ge_int q
def QsY:OpR X (compareOp .In) (λx y H Q=>∃i j,x= .str i/\y= .str j/\Q (.bl (!(Builtin.Str.occurrences j i 0 j.length 1).isEmpty)) H):=by
 intro pins s U H x y v u Q I rx ry h;obtain⟨i,j,rfl,rfl,q⟩:=h;obtain⟨t,rfl⟩:=rx;obtain⟨t',rfl⟩:=ry;exact in_str (Qg1 I q rfl)
def QB6:OpR X (compareOp .Is) (λx y H Q=>y= .non/\Q (.bl (decide (x= .non))) H):=by
 intro pins s U H x y v u Q I rx ry h;obtain⟨rfl,q⟩:=h;cases ry;refine is_none_gen (Qg1 I q ?_)
 cases x<;>first
  | (cases rx;rfl)
  | (obtain⟨t,rfl⟩:=rx;rfl)
def Qx5:OpR X (compareOp .IsNot) (λx y H Q=>y= .non/\Q (.bl (!decide (x= .non))) H):=by
 intro pins s U H x y v u Q I rx ry h;obtain⟨rfl,q⟩:=h;cases ry;refine isnot_none_gen (Qg1 I q ?_)
 cases x<;>first
  | (cases rx;rfl)
  | (obtain⟨t,rfl⟩:=rx;rfl)
def Qo4:OpR X (compareOp .NotIn) (λx y H Q=>∃i j,x= .str i/\y= .str j/\Q (.bl (!(!(Builtin.Str.occurrences j i 0 j.length 1).isEmpty))) H):=by
 intro pins s U H x y v u Q I rx ry h;obtain⟨i,j,rfl,rfl,q⟩:=h;obtain⟨t,rfl⟩:=rx;obtain⟨t',rfl⟩:=ry;exact notIn_str (Qg1 I q rfl)
def OpR.or{f:Value->Value->Sem Value}{r r':R2}(h:OpR X f r)(h':OpR X f r'):OpR X f (λx y H Q=>r x y H Q∨r' x y H Q):=by
 intro pins s U H x y v u Q I rx ry q;rcases q with q | q
 .exact h pins s U H x y v u Q I rx ry q
 .exact h' pins s U H x y v u Q I rx ry q
def Qxz{op:CmpOp}{r:R2}(ho:OpR X (compareOp op) r)(ha:PE X a ta)(hb:PE X b tb)(hm:behindInMarks op b=false):PE X (.Compare a [op] [b] pos) (tOp r ta tb):=by
 intro pins s U H Q I h;exact wpAny_Compare1 (Qsr ha hb I h λv u s2 x y H2 I2 rx ry q=>ho pins s2 U H2 x y v u Q I2 rx ry q) hm
def QDc(t:TE):TT:=λU H Q=>t U H λx H'=>∃k,x= .bl k/\Q k H'
def QqY{op:CmpOp}{r:R2}(ho:OpR X (compareOp op) r)(ha:PE X a ta)(hb:PE X b tb)(hm:behindInMarks op b=false):PT X (.Compare a [op] [b] pos) (QDc (tOp r ta tb)):=by
 intro pins s U H Q I h;refine wpAny_isTrue_Compare1 (thn (ha pins s U H _ I h) λv s1 ⟨x,H1,I1,r1,q1⟩=>thn (hb pins s1 U H1 _ I1 q1) λu s2 ⟨y,H2,I2,r2,q2⟩=>
  thn (ho pins s2 U H2 x y v u _ I2 r1 r2 q2) λc s3 ⟨z,H3,I3,r3,k,e,q3⟩=>?_) hm
 subst e;cases r3;exact wpAny_truthy_bool ⟨H3,I3,q3⟩
def QvA(K:Fgg)(x:V)(H:Hp)(k:Bool):Prop:=
 match x with
 | .non=>k=false
 | .bl b=>k=b
 | .int i=>k=(i != 0)
 | .str y=>y.length<=sizeLine/\k=((y.length:Int) != 0)
 | .byt y=>y.size<=sizeLine/\k=((y.size:Int) != 0)
 | .ref p=>(∃xs,SqL K H p xs/\k= !xs.isEmpty)∨(∃xs,SqT K H p xs/\k= !xs.isEmpty)∨∃kvs,H p=some (.dK kvs)/\k= !kvs.isEmpty
 | _=>False
def Qse{κ:Type}{kvs:List (κ×V)}{vs:List (κ×Value)}(r:KV kvs vs):(!vs.isEmpty)= !kvs.isEmpty:=by
 cases r<;>rfl
def QlP{xs:List V}{its:List Value}(r:Qt xs its):(!its.toArray.isEmpty)= !xs.isEmpty:=by
 cases r<;>simp
def Qgc:(sizeLine:Nat)<2^63:=by rw[sizeLine_eq];decide
def Qly:QE0 X (λx H Q=>∃k,QvA X.K x H k/\Q k H):=by
 intro pins s U H x v Q I rx h;obtain⟨k,e,q⟩:=h;have hl:=Qgc;have hs:sizeLine=16777216:=sizeLine_eq;cases x with
 | non=>
  cases rx;have e':k=false:=e;subst e';exact truthy_none ⟨H,I,q⟩
 | bl b=>
  cases rx;have e':k=b:=e;subst e';exact wpAny_truthy_bool ⟨H,I,q⟩
 | int i=>
  obtain⟨t,rfl⟩:=rx;have e':k=(i != 0):=e;subst e';exact PySem.P.truthy_int ⟨H,I,q⟩
 | str y=>
  obtain⟨t,rfl⟩:=rx;obtain⟨hy,e'⟩:y.length<=sizeLine/\k=((y.length:Int) != 0):=e;subst e';exact PySem.P.truthy_str ⋯ ⟨H,I.tok _,q⟩
 | byt y=>
  obtain⟨t,rfl⟩:=rx;obtain⟨hy,e'⟩:y.size<=sizeLine/\k=((y.size:Int) != 0):=e;subst e';exact PySem.W.truthy_bytes ⋯ ⟨H,I.tok _,q⟩
 | ref p=>
  cases rx;have e':(∃xs,SqL X.K H p xs/\k= !xs.isEmpty)∨(∃xs,SqT X.K H p xs/\k= !xs.isEmpty)∨∃kvs,H p=some (.dK kvs)/\k= !kvs.isEmpty:=e;rcases e' with⟨xs,hx,e'⟩ | ⟨xs,hx,e'⟩ | ⟨kvs,hx,e'⟩
  .subst e';obtain⟨its,r,pl,hz⟩:=I.list hx;have hlen:=r.length;exact wpAny_truthy_list pl.isList (by simp only[Zu];lia) ⟨H,I.tok _,by rw[QlP r];exact q⟩
  .subst e';obtain⟨its,r,pl,hz⟩:=I.tuple hx;have hlen:=r.length;exact truthy_tuple pl (by simp only[Zu];lia) ⟨H,I.tok _,by rw[QlP r];exact q⟩
  .subst e';obtain⟨hz,hS,vs,r,m⟩:kvs.length<=sizeLine/\(p == sysModules)=false/\∃vs,KV kvs vs/\s.heap.DictOf (Qdl X.prog X.w) p vs:=I.hok p _ hx;have hlen:kvs.length=vs.length:=Paired.length r;exact wpAny_truthy_dict hS m ⋯ ⟨H,I.tok _,by rw[Qse r];exact q⟩
 | _=>exact(show False from e).elim
def Qvz(ha:PE X a ta)(he:∀whole,isTrue a X.env whole=(do let v ← whole;standAt a.pos;holding [v] (truthy v))):
  PT X a (λU H Q=>ta U H λx H'=>∃k,QvA X.K x H' k/\Q k H'):=by
 intro pins s U H Q I h;exact isTrue_plain (thn (ha pins s U H _ I h) λv s1 ⟨x,H1,I1,r1,q1⟩=>Qly pins s1 U H1 x v Q I1 r1 q1) (he _)
def Qr1:OpR X (binaryOp .Add) (λx y H Q=>∃i j,x= .str i/\y= .str j/\i.length+j.length<=sizeLine/\Q (.str (i++j)) H):=by
 intro pins s U H x y v u Q I rx ry h;obtain⟨i,j,rfl,rfl,hz,q⟩:=h;obtain⟨t,rfl⟩:=rx;obtain⟨t',rfl⟩:=ry;exact add_str (λt' tk=>⟨.str (i++j),H,I.tok _,⟨_,rfl⟩,q⟩) hz
def QvO(b:Expr):Prop:=∀o i,subscripted b false o i=operate [o,i] (getItem o i)
def QpS(ha:PE X a ta)(hb:PE X b tb)(hs:QvO b):
  PE X (.Subscript a b pos) (tOp (λx y H Q=>∃z i c,x= .str z/\y= .int i/\0<=i/\i<2^63/\i<z.length/\z.cps[i.toNat]? =some c/\Q (.str ⟨#[c]⟩) H) ta tb):=by
 intro pins s U H Q I h;refine Subscript_ (Qsr ha hb I h λv u s2 x y H2 I2 rx ry q=>?_);obtain⟨z,i,c,rfl,rfl,h0,h63,h1,hc,q⟩:=q;obtain⟨t,rfl⟩:=rx;obtain⟨t',rfl⟩:=ry;have e:seqIndex? i z.length=some i.toNat:=PySem.StrLaws.seqIndex_nonneg h0 h1;exact tail_any (typeIs_str s2 z t) slot_str_getitem.lookup (getItem_str (c:=c) (by
  have e1:decide (i< -(2^63:Int))=false:=decide_eq_false ⋯;have e2:decide (i≥2^63)=false:=decide_eq_false ⋯;rw[e1,e2]<;>rfl) (by rw[e];exact hc) ⟨.str ⟨#[c]⟩,H2,I2.tok _,⟨_,rfl⟩,q⟩) (hs _ _)
def vals1{x:V}{us:List Value}(r:Qt [x] us):∃u,us=[u]/\RelV x u:=by
 cases r with
 | cons r1 r2=>cases r2;exact⟨_,rfl,r1⟩
def vals2{x y:V}{us:List Value}(r:Qt [x,y] us):∃u w',us=[u,w']/\RelV x u/\RelV y w':=by
 cases r with
 | cons r1 r2=>
  cases r2 with
  | cons r3 r4=>cases r4;exact⟨_,_,rfl,r1,r3⟩
def QtZ(hc:X.calm=true):QaS X (.builtin "max") (λxs H Q=>∃i j,xs=[.int i,.int j]/\Q (.int (if j>i then j else i)) H):=by
 intro pins s U H xs us Q I r h;obtain⟨i,j,rfl,q⟩:=h;obtain⟨u,w',rfl,⟨t,rfl⟩,⟨t',rfl⟩⟩:=vals2 r;refine max_two_ints (I.ok.hd hc) λh' tk k=>⟨_,H,I.kept k,?_,q⟩;by_cases hj:j>i
 .rw[if_pos hj,if_pos hj];exact⟨_,rfl⟩
 .rw[if_neg hj,if_neg hj];exact⟨_,rfl⟩
def Qul(hc:X.calm=true):QaS X (.builtin "min") (λxs H Q=>∃i j,xs=[.int i,.int j]/\Q (.int (if j<i then j else i)) H):=by
 intro pins s U H xs us Q I r h;obtain⟨i,j,rfl,q⟩:=h;obtain⟨u,w',rfl,⟨t,rfl⟩,⟨t',rfl⟩⟩:=vals2 r;refine min_two_ints (I.ok.hd hc) λh' tk k=>⟨_,H,I.kept k,?_,q⟩;by_cases hj:j<i
 .rw[if_pos hj,if_pos hj];exact⟨_,rfl⟩
 .rw[if_neg hj,if_neg hj];exact⟨_,rfl⟩
def QmZ:QaS X (.type "int") (λxs H Q=>(∃i,xs=[.int i]/\Q (.int i) H)∨∃k,xs=[.bl k]/\Q (.int (if k then 1 else 0)) H):=by
 intro pins s U H xs us Q I r h;rcases h with⟨i,rfl,q⟩ | ⟨k,rfl,q⟩
 .obtain⟨u,rfl,t,rfl⟩:=vals1 r;exact call_int_int ⟨.int i,H,I,⟨_,rfl⟩,q⟩
 .obtain⟨u,rfl,r1⟩:=vals1 r;cases r1;exact call_int_bool ⟨.int (if k then 1 else 0),H,I.tok _,⟨_,rfl⟩,q⟩
def Qn4:QaS X (.type "str") (λxs H Q=>∃i,xs=[.int i]/\i.natAbs.log2<1920/\Q (.str (toString i)) H):=by
 intro pins s U H xs us Q I r h;obtain⟨i,rfl,hz,q⟩:=h;obtain⟨u,rfl,t,rfl⟩:=vals1 r;exact PySem.P.str_of_int hz ⟨.str _,H,I.tok _,⟨_,rfl⟩,q⟩
end
structure Qkg (h:Heap) (x dx C:Addr) (mA:Str->Option Value):Prop where
 obj:h.get? x=some (PySem.W.instObj C dx)
 ns:h.Ns1 dx mA
 ne:dx≠x
def QtU{h:Heap}{dx:Addr}{mA:Str->Option Value}(n:h.Ns1 dx mA):∃od,h.get? dx=some od/\∀name,PySem.W.lookIn name od=some (mA name):=by
 obtain⟨o,es,ep,ho,hd,hk,_,hm⟩:=n;refine⟨o,ho,λname=>?_⟩;have e:=hm name;unfold nsFind findBy at e;rw[← Array.find?_toList]at e;unfold PySem.W.lookIn;rw[hd];dsimp only;split
 .rename_i y q;rw[q]at e;exact congrArg some e
 .rename_i q;rw[q]at e;have a:es.toList.any (·.refKey)=false:=by
   rw[List.any_eq_false];intro y hy;obtain⟨z,t,hkey⟩:=hk y (Array.mem_toList_iff.mp hy);simp[DictEntry.refKey,hkey]
  have a':¬es.toList.any (·.refKey)=true:=by rw[a];exact ZJ
  rw[if_neg a'];exact congrArg some e
def Qkg.look{h:Heap}{x dx C:Addr}{mA:Str->Option Value}(I:Qkg h x dx C mA):∃od,PySem.W.InstAt h x (PySem.W.instObj C dx) C (some od)/\∀name,PySem.W.lookIn name od=some (mA name):=
 let ⟨od,ho,hl⟩:=QtU I.ns
 ⟨od,⟨I.obj,rfl,rfl,ho⟩,hl⟩
section
variable {prog:Program}{w:World}{A:Around}{E:Value->Shared->Prop}{s:Shared}{K:Fgg}{x dx C f:Addr}{mA:Str->Option Value}{name:Str}{v:Value}
def get_map{expr:Bool}{Q:Value->Shared->Prop}(X:K.In s.heap)(I:Qkg s.heap x dx C mA)(hg:PySem.W.plainGet K C name=true)(hh:PySem.W.hasDictIn K C=true)
  (ha:PySem.W.findIn K (.ref C) name=some none) (hv:mA name=some v) (hv':PySem.W.handedIn v=true) (h:Q v {s with toks:=s.toks+1}):
  wpAny (model prog w) A (getAttr (.ref x) name expr) Q E s:=by
 obtain⟨od,J,hl⟩:=I.look;exact PySem.W.get_value X J (ZaU hg).1 (PySem.W.findObj_own hh ha rfl (by rw[hl,hv])) hv' h
def QuG{pl:Sem Bool}{Q:Value×List Value->Shared->Prop}(X:K.In s.heap)(I:Qkg s.heap x dx C mA)(hg:PySem.W.plainGet K C name=true)
  (hf:PySem.W.findIn K (.ref C) name=some (some (.ref f))) (ht:PySem.W.isFn K (.ref f)=true) (hv:mA name=none) (h:Q (.ref f,[.ref x]) s):
  wpAny (model prog w) A (getMethod (.ref x) name pl) Q E s:=by
 obtain⟨od,J,hl⟩:=I.look;exact PySem.W.method_fn X J (ZaU hg).1 (ZaU hg).2 hf (beq_iff_eq.mp ht) (by show(PySem.W.lookIn name od).map (·.isSome)=some false;rw[hl,hv];rfl) h
def QzO{ns:List Str}{Q:Unit->Shared->Prop}(X:K.In s.heap)(I:Qkg s.heap x dx C mA)
  (hs:PySem.W.findIn K (.ref C) "__setattr__" =some (some (.builtin "object.__setattr__"))) (hp:PySem.W.plainOver K C=true) (ht:PySem.W.takerIn K C name=some none) (hh:PySem.W.hasDictIn K C=true)
  (hw:PySem.Within mA ns) (hsz:ns.length<=sizeLine)
  (h:∀h',Qkg h' x dx C (λy=>if y=name then some v else mA y)->Heap.SameBut dx s.heap h'->Q () {s with heap:=h',toks:=s.toks+2}):
  wpAny (model prog w) A (setAttr (.ref x) name v) Q E s:=by
 obtain⟨od,J,hl⟩:=I.look;refine PySem.W.set_plain X J hs (PySem.W.osa_open (s:={s with toks:=s.toks+1}) (r:=none) X J hp ht λb=>?_);obtain⟨cd,hc,hd'⟩:=PySem.W.any_some hh;have hx:s.heap.get? x=some ⟨.ref C,some dx,.plain,#[]⟩:=I.obj;refine wpAny_bind (wpAny_pure (wpAny_bind (wpAny_bind (wpAny_loadPart hx (wpAny_bind (PySem.W.Looks.here (s:={s with toks:=s.toks+1}) (PySem.W.looks_clsIn X hc) ?_))))));rw[hd'];refine wpAny_pure (a:=some dx) (wpAny_bind (wpAny_pure (wpAny_bind ?_)));refine wpAny_nsSet1 (s:={s with toks:=s.toks+1}) I.ns λh' hn2 hs2=>?_;obtain⟨oD,esD,epD,hoD,hdD,hcD⟩:=hn2.count (PySem.Within.cons name v hw);refine wpAny_bind (wpAny_lookBehind hoD (by rw[hdD];exact pastItsLine_dict (Zy hcD (by rw[Zs];lia))) ?_);exact wpAny_pure (h _ ⟨(hs2.2 _ (Ne.symm I.ne)).trans I.obj,hn2,I.ne⟩ hs2)
def Qwn{R:Result->Shared->Prop}{vs:List Value}{kw:List (Str×Value)}(X:K.In s.heap)(hm:PySem.W.makesIn K C=true)
  (hi:PySem.W.findIn K (.ref C) "__init__" =some (some (.ref f))) (hf:PySem.W.typeIn K (.ref f)=some (.type "function"))
  (h:codeAny (model prog w) (A.under (.builtin "type.__call__" ⟨.ref C::vs,kw⟩)) (.call (.ref f) ⟨.ref (s.heap.objs.size+1)::vs,kw⟩) (PySem.W.InitBack (s.heap.objs.size+1) R)
   {s with heap:=(s.heap.push PySem.W.emptyDict).push (PySem.W.instObj C s.heap.objs.size)}):
  codeAny (model prog w) A (.call (.ref C) ⟨vs,kw⟩) R s:=by
 obtain⟨hh,g,d,t,os⟩:=s;exact PySem.W.make_core (PySem.W.makes_of X hm) (PySem.W.looks_findIn X hi) (λself=>PySem.W.bind_fn X self hf) (.inl rfl) h
end
noncomputable def Qbz(f:Str)(v:V):List (Str×V)->List (Str×V)
 | []=>[(f,v)]
 | (g,x)::r=>if g=f then(g,v)::r else(g,x)::Qbz f v r
def Qj4(f g:Str)(v:V):∀fs:List (Str×V),(Qbz f v fs).lookup g=if g=f then some v else fs.lookup g
 | []=>by
  show List.lookup g [(f,v)]=_;by_cases h:g=f
  .have hb:(g == f)=true:=beq_iff_eq.mpr h;simp only[List.lookup,hb,if_pos h]
  .have hb:(g == f)=false:=beq_eq_false_iff_ne.mpr h;simp only[List.lookup,hb,if_neg h]
 | (k,x)::r=>by
  have ih:=Qj4 f g v r;rw[show Qbz f v ((k,x)::r)=(if k=f then(k,v)::r else(k,x)::Qbz f v r)from rfl];by_cases hk:k=f
  .rw[if_pos hk];by_cases h:g=k
   .have hb:(g == k)=true:=beq_iff_eq.mpr h;simp only[List.lookup,hb,if_pos (h.trans hk)]
   .have hb:(g == k)=false:=beq_eq_false_iff_ne.mpr h;simp only[List.lookup,hb,if_neg (λe:g=f=>h (e.trans hk.symm))]
  .rw[if_neg hk];by_cases h:g=k
   .have hb:(g == k)=true:=beq_iff_eq.mpr h;simp only[List.lookup,hb,if_neg (λe:g=f=>hk (h.symm.trans e))]
   .have hb:(g == k)=false:=beq_eq_false_iff_ne.mpr h;simp only[List.lookup,hb];exact ih
def Qi9(f:Str)(v:V):∀fs:List (Str×V),f∈(Qbz f v fs).map (·.1)/\∀g,g∈fs.map (·.1)->g∈(Qbz f v fs).map (·.1)
 | []=>⟨by simp[Qbz],λg h=>by simp at h⟩
 | (k,x)::r=>by
  obtain⟨i1,i2⟩:=Qi9 f v r;rw[show Qbz f v ((k,x)::r)=(if k=f then(k,v)::r else(k,x)::Qbz f v r)from rfl];by_cases hk:k=f
  .rw[if_pos hk];subst hk;exact⟨⋯,λg h=>by simpa using h⟩
  .rw[if_neg hk];refine⟨?_,λg h=>?_⟩
   .rw[Zz];exact Zc _ i1
   .rw[Zz]at h ⊢;rcases Zn.mp h with e | e
    .exact Zn.mpr (.inl e)
    .exact Zc _ (i2 g e)
def Qj0(f:Str)(v:V):∀fs:List (Str×V),(Qbz f v fs).length<=fs.length+1
 | []=>by simp[Qbz]
 | (k,x)::r=>by
  have ih:=Qj0 f v r;rw[show Qbz f v ((k,x)::r)=(if k=f then(k,v)::r else(k,x)::Qbz f v r)from rfl];by_cases hk:k=f
  .rw[if_pos hk,Zs,Zs];lia
  .rw[if_neg hk,Zs,Zs];lia
def Qev.some_of{v:V}{o:Option Value}(r:Qev (some v) o):∃u,o=some u/\RelV v u:=by
 cases o with
 | none=>exact(show False from r).elim
 | some u=>exact⟨u,rfl,r⟩
def Qev.none_of{o:Option Value}(r:Qev none o):o=none:=by
 cases o with
 | none=>rfl
 | some u=>exact(show False from r).elim
def QtS{v:V}{u:Value}(r:RelV v u):PySem.W.handedIn u=true:=by
 cases v with
 | non=>cases(show u=Value.none from r);rfl
 | bl b=>cases(show u=Value.bool b from r);rfl
 | int i=>obtain⟨t,e⟩:=(show ∃t,u=Value.int i t from r);cases e;rfl
 | str x=>obtain⟨t,e⟩:=(show ∃t,u=Value.str x t from r);cases e;rfl
 | byt b=>obtain⟨t,e⟩:=(show ∃t,u=Value.bytes b t from r);cases e;rfl
 | flt b=>obtain⟨t,e⟩:=(show ∃t,u=Value.float b t from r);cases e;rfl
 | ref a=>cases(show u=Value.ref a from r);rfl
 | ty n=>cases(show u=Value.type n from r);rfl
section
variable {P:Program}{w:World}{H H':Hp}{h h':Heap}{a C dx:Addr}{fs fs':List (Str×V)}
def Qmq(hok:HOk P w H h)(e:H a=some (.ins C dx fs)):∃mA,Qkg h a dx C mA/\(∀f,Qev (fs.lookup f) (mA f))/\PySem.Within mA (fs.map (·.1))/\fs.length<=1000/\H dx=some (.own a):=by
 obtain⟨d,z,ne,ob,mA,n,r,q⟩:=(show Qa7 P w H h a (.ins C dx fs)from hok a _ e);exact⟨mA,⟨ob,n,ne⟩,r,q,z,d⟩
end
structure Cls (K:Fgg) (C:Addr):Prop where
 pg:PySem.W.plainGet K C Str.empty=true
 hd:PySem.W.hasDictIn K C=true
 po:PySem.W.plainOver K C=true
 sa:PySem.W.findIn K (.ref C) "__setattr__" =some (some (.builtin "object.__setattr__"))
def Cls.get{K:Fgg}{C:Addr}(c:Cls K C)(f:Str):PySem.W.plainGet K C f=true:=c.pg
def Qcy(K:Fgg)(C:Addr)(f:Str):Prop:=PySem.W.findIn K (.ref C) f=some none
def Qcy.QDg{K:Fgg}{C:Addr}{f:Str}(n:Qcy K C f):PySem.W.takerIn K C f=some none:=by
 unfold PySem.W.takerIn;rw[show PySem.W.findIn K (.ref C) f=some none from n];rfl
structure Con (K:Fgg) (C:Addr) (f:Str) (v:V) (u:Value):Prop where
 at_:PySem.W.findIn K (.ref C) f=some (some u)
 rel:RelV v u
 get:PySem.W.specialIn K u "__get__" =some none
 cp:PySem.W.copiedNames.contains f=false
structure QiD (K:Fgg) (C:Addr) (m:Str) (f:Addr):Prop where
 at_:PySem.W.findIn K (.ref C) m=some (some (.ref f))
 fn:PySem.W.isFn K (.ref f)=true
 kp:PySem.W.keepIn K (.ref f)=true
section
variable {X:Cx}{pins:List (Addr×Obj)}{U:St}{H:Hp}{s:Shared}{a C dx:Addr}{fs:List (Str×V)}{f:Str}{v:V}{A:Around}{E:Value->Shared->Prop}
def Qrq{b:Bool}{Q:Value->Shared->Prop}(I:Inv X pins U H s)(e:H a=some (.ins C dx fs))(c:Cls X.K C)(n:Qcy X.K C f)(l:fs.lookup f=some v)
  (h:∀u s',Inv X pins U H s'->RelV v u->Q u s'):wpAny (model X.prog X.w) A (getAttr (.ref a) f b) Q E s:=by
 obtain⟨mA,O,r,_,_,_⟩:=Qmq I.hok e;obtain⟨u,hu,ru⟩:=Qev.some_of (v:=v) (o:=mA f) (by rw[← l];exact r f);exact get_map I.kIn O (c.get f) c.hd n hu (QtS ru) (h u _ (I.tok _) ru)
def QlE{m:Str}{g:Addr}{pl:Sem Bool}{Q:Value×List Value->Shared->Prop}(I:Inv X pins U H s)(e:H a=some (.ins C dx fs))(c:Cls X.K C)(k:QiD X.K C m g)(l:fs.lookup m=none)
  (h:Q (.ref g,[.ref a]) s):wpAny (model X.prog X.w) A (getMethod (.ref a) m pl) Q E s:=by
 obtain⟨mA,O,r,_,_,_⟩:=Qmq I.hok e;have hn:mA m=none:=Qev.none_of (by rw[← l];exact r m);exact QuG I.kIn O (c.get m) k.at_ k.fn hn h
def Qsn{y:V}{u:Value}{Q:Unit->Shared->Prop}(I:Inv X pins U H s)(e:H a=some (.ins C dx fs))(c:Cls X.K C)(n:Qcy X.K C f)(hl:fs.length<1000)(ry:RelV y u)
  (h:∀s',Inv X pins U (upd H a (.ins C dx (Qbz f y fs))) s'->Q () s'):wpAny (model X.prog X.w) A (setAttr (.ref a) f u) Q E s:=by
 obtain⟨mA,O,r,wi,_,ho⟩:=Qmq I.hok e;have hz:(fs.map (·.1)).length<=sizeLine:=by rw[Zt,sizeLine_eq];lia
 refine QzO I.kIn O c.sa c.po n.QDg c.hd wi hz λh' O' sb=>h _ ?_;have hd:∃o,h'.get? dx=some o:=let ⟨o,_,_,e',_⟩:=O'.ns;⟨o,e'⟩;refine I.write (x:=a) (e:=dx) (by rw[e];exact True.intro) (.inr ho) (λb q hb z=>(sb.2 b hb).trans z) hd ?_;refine⟨by rw[Qy O.ne];exact ho,?_,O.ne,O'.obj,_,O'.ns,λg=>?_,λg hg=>?_⟩
 .have:=Qj0 f y fs;lia
 .show Qev ((Qbz f y fs).lookup g) (if g=f then some u else mA g);rw[Qj4];by_cases q:g=f
  .rw[if_pos q,if_pos q];exact ry
  .rw[if_neg q,if_neg q];exact r g
 .by_cases q:g=f
  .rw[q];exact(Qi9 f y fs).1
  .refine(Qi9 f y fs).2 g (wi g λz=>hg ?_);show(if g=f then some u else mA g)=none;rw[if_neg q];exact z
def Inv.made(I:Inv X pins U H s):Inv X pins U (upd (upd H s.heap.objs.size (.own (s.heap.objs.size+1))) (s.heap.objs.size+1) (.ins C s.heap.objs.size []))
  {s with heap:=(s.heap.push PySem.W.emptyDict).push (PySem.W.instObj C s.heap.objs.size)}:=by
 have e1:(s.heap.push PySem.W.emptyDict).get? s.heap.objs.size=some PySem.W.emptyDict:=Zq s.heap rfl;have e2:((s.heap.push PySem.W.emptyDict).push (PySem.W.instObj C s.heap.objs.size)).get? (s.heap.objs.size+1)=some (PySem.W.instObj C s.heap.objs.size):=by
  have:=Zq (s.heap.push PySem.W.emptyDict) (o:=PySem.W.instObj C s.heap.objs.size) rfl;rwa[ZX]at this
 have e3:(s.heap.push PySem.W.emptyDict).Ns s.heap.objs.size (λ_=>none):=⟨PySem.W.emptyDict,#[],_,e1,rfl,(λe he=>absurd he ⋯),λ_=>rfl⟩;have I1:=I.laid (a:=s.heap.objs.size) (o:= .own (s.heap.objs.size+1)) (h':=s.heap.push PySem.W.emptyDict) (t':=s.toks) (λb u q=>Zd _ q) (Zi _) ⟨_,e1⟩;refine I1.laid (a:=s.heap.objs.size+1) (o:= .ins C s.heap.objs.size []) (t':=s.toks) (λb u q=>Zd _ q) (Nat.le_of_eq (ZX _ _)) ?_;have ne:s.heap.objs.size≠s.heap.objs.size+1:=ZC (ZaB _);refine⟨by rw[Qy ne,Q4],ZK _,ne,e2,λ_=>none,(Heap.Ns1.of_empty e3).at λo q=>Zd _ q,λ_=>True.intro,λy hy=>absurd rfl hy⟩
def Qy7{prog:Program}{w:World}{env:Env}{e:Expr}{f:Str}{pos:Pos}{s:Shared}{Q:Value->Shared->Prop}(hb:attributeBase e f env (eval e env)=eval e env)
  (h:wpAny (model prog w) A (eval e env) (λo s₁=>wpAny (model prog w) A (getAttr o f true) Q E s₁) E s):wpAny (model prog w) A (eval (.Attribute e f pos) env) Q E s:=
 Attribute_any_ h (by rw[arm_eval_Attribute,hb])
end
def QE2(K:Fgg)(ta:TE)(f:Str):TE:=λU H Q=>ta U H λx H1=>∃a C dx fs v,x= .ref a/\H1 a=some (.ins C dx fs)/\Cls K C/\Qcy K C f/\fs.lookup f=some v/\Q v H1
def QEl(K:Fgg)(ta tv:TE)(f:Str):TS:=λD U H=>tv U H λy H1=>ta U H1 λx H2=>∃a C dx fs,x= .ref a/\H2 a=some (.ins C dx fs)/\Cls K C/\Qcy K C f/\fs.length<1000∧
 D.nx U (upd H2 a (.ins C dx (Qbz f y fs)))
section
variable {X:Cx}{o e value:Expr}{f:Str}{pos pos' tpos:Pos}{ta tv:TE}
def QBx(he:PE X e ta)(hb:attributeBase e f X.env (eval e X.env)=eval e X.env):PE X (.Attribute e f pos) (QE2 X.K ta f):=by
 intro pins s U H Q I h;refine Qy7 hb (thn (he pins s U H _ I h) λu s1 Z=>?_);obtain⟨x,H1,I1,rx,a,C,dx,fs,v,ex,ea,c,n,l,q⟩:=Z;subst ex;obtain rfl:u=Value.ref a:=rx;exact Qrq I1 ea c n l λu' s2 I2 ru=>⟨v,H1,I2,ru,q⟩
def QCp(ha:PE X o ta)(hv:PE X value tv)(hs:swapsWith value (some (.Attribute o f pos')) pos.line X.env=pure false):PS X (.Assign [.Attribute o f pos'] value pos) (QEl X.K ta tv f):=by
 intro pins s U H D I h;refine plainObj_wpAny_Assign_Attribute (thn (hv pins s U H _ I h) λu s1 ⟨y,H1,I1,ry,q⟩=>thn (ha pins s1 U H1 _ I1 q) λov s2 ⟨x,H2,I2,rx,a,C,dx,fs,ex,ea,c,n,l,q2⟩=>?_) hs;subst ex;obtain rfl:ov=Value.ref a:=rx;exact Qsn I2 ea c n l ry λs3 I3=>⟨U,_,I3,q2⟩
end
section
variable {X:Cx}{pins:List (Addr×Obj)}{U:St}{H:Hp}{s:Shared}{A:Around}{E:Value->Shared->Prop}{Q:Value->Shared->Prop}{c:Value}{b:Bool}
end
structure Q3 (k:Nat) (A:Around):Prop where
 hd:A.handled=none
 dp:A.depth+3*k+5<recursionLimit
 un:A.units+16*k+200<cLine
def Q3.mono{j k:Nat}{A:Around}(r:Q3 k A)(h:j<=k):Q3 j A:=⟨r.hd,by have:=r.dp;lia,by have:=r.un;lia⟩
def Q3.deeper{k:Nat}{A:Around}(r:Q3 (k+1) A)(env:Env):Q3 k (A.deeper env):=
 ⟨r.hd,by have:=r.dp;show A.depth+1+3*k+5<_;lia,by have:=r.un;show A.units+3+16*k+200<_;lia⟩
def Qrc{A:Around}{C:Addr}{us:List Value}{kw:List (Str×Value)}:(A.under (.builtin "type.__call__" ⟨.ref C::us,kw⟩)).depth=A.depth+1:=by
 first | rfl | simp[Around.under,Code.weight,Code.isCreation,Code.isGuard,Code.isCaller,Code.frames,Code.isFrame,guardIds]
def QrB{A:Around}{C:Addr}{us:List Value}{kw:List (Str×Value)}:(A.under (.builtin "type.__call__" ⟨.ref C::us,kw⟩)).units=A.units+1:=by
 first | rfl | simp[Around.under,Code.cUnits,Code.frames,Code.isFrame]
def Q3.make{k:Nat}{A:Around}(r:Q3 (k+1) A)(C:Addr)(us:List Value)(kw:List (Str×Value)):Q3 k (A.under (.builtin "type.__call__" ⟨.ref C::us,kw⟩)):=
 ⟨r.hd,by have:=r.dp;rw[Qrc];lia,by have:=r.un;rw[QrB];lia⟩
def Q3.depth{k:Nat}{A:Around}(r:Q3 k A):A.depth<recursionLimit:=by have:=r.dp;lia
def Q3.units{k:Nat}{A:Around}(r:Q3 k A):A.units+64<cLine:=by have:=r.un;lia
def QiP:TA:=λ_ H Q=>Q [] H
def QjO(ta:TE)(tr:TA):TA:=λU H Q=>ta U H λx H1=>tr U H1 λxs H2=>Q (x::xs) H2
section
variable {X:Cx}{e:Expr}{es:List Expr}{te:TE}{t:TA}{pos:Pos}
def Qc0:PA X [] QiP:=λ_ _ _ _ H Q I h=>Calls.spliced_nil ⟨[],H,I,.nil,h⟩
def Qa9(ha:PE X e te)(hr:PA X es t)(hs:starEach (e::es) X.env=(false,eval e X.env)::starEach es X.env:=by rfl):PA X (e::es) (QjO te t):=by
 intro pos pins s U H Q I h;rw[hs];show wpAny _ _ (spliced ((false,eval e X.env)::backTo pos (starEach es X.env))) _ _ s;refine Calls.spliced_cons (thn (ha pins s U H _ I h) λu s1=>exJ λx H1 I1 r1 q1=>?_);exact thn (hr pos pins s1 U H1 _ I1 q1) λus s2 ⟨xs,H2,I2,r2,q2⟩=>⟨x::xs,H2,I2,.cons r1 r2,q2⟩
def QEF(t:TA):TE:=λU H Q=>t U H λxs H1=>xs.length<=sizeLine/\∀p,H1 p=none->Q (.ref p) (upd H1 p (.tup xs))
def QEB(t:TA):TE:=λU H Q=>t U H λxs H1=>xs.length<=sizeLine/\∀p,H1 p=none->Q (.ref p) (upd H1 p (.lst xs))
def QzU{x1}(h:PA X es t):PE X (.Tuple es x1 pos) (QEF t):=by
 intro pins s U H Q I hq;refine wpAny_Tuple_spliced (thn (h pos pins s U H _ I hq) λus s1 ⟨xs,H1,I1,r,z,q⟩=>⟨by rw[← r.length];exact z,?_⟩);have hf:H1 s1.heap.objs.size=none:=I1.hok.fresh (Zi _);refine⟨.ref s1.heap.objs.size,upd H1 s1.heap.objs.size (.tup xs),I1.laid (t':=s1.toks) (λb u e=>Zd _ e) (Zi _) ?_,rfl,q _ hf⟩;exact⟨z,us,r,⟨_,Zq _ rfl,rfl,_,rfl⟩⟩
def QA8(h:PA X es t):PE X (.List es pos) (QEB t):=by
 intro pins s U H Q I hq;refine wpAny_List_spliced (thn (h pos pins s U H _ I hq) λus s1 ⟨xs,H1,I1,r,z,q⟩=>⟨by rw[← r.length];exact z,?_⟩);have hf:H1 s1.heap.objs.size=none:=I1.hok.fresh (Zi _);refine⟨.ref s1.heap.objs.size,upd H1 s1.heap.objs.size (.lst xs),I1.laid (t':=s1.toks) (λb u e=>Zd _ e) (Zi _) ?_,rfl,q _ hf⟩;exact⟨z,us,0,r,Zq _ rfl⟩
end
abbrev Sp:=List V->Hp->VK->XK->Prop
abbrev CXT:=List Env->Hp->Shared->XK->Value->Shared->Prop
structure QiU (P:Program) (w:World) (K:Fgg) (mg:Str->Option Value) (base:Heap) (A:Around) (outer:List Env) (s:Shared) (H:Hp):Prop where
 frames:A.frames=some outer
 mod:Mod K mg base
 bs:∀b o,base.get? b=some o->s.heap.get? b=some o/\H b=none
 bsz:base.objs.size<=s.heap.objs.size
 QdV:s.heap.FunFrames base outer
 frf:∀b∈frs outer,H b=none
 hok:HOk P w H s.heap
 bare:AllBare s.gens
def CE(outer:List Env)(P:Program)(w:World)(H:Hp)(s:Shared)(Q:VK)(u:Value)(s':Shared):Prop:=
 ∃v H',s'.os=s.os/\AllBare s'.gens/\Un (frs outer) [] H H' s.heap s'.heap/\HOk P w H' s'.heap/\RelV v u/\Q v H'
def CR(CX:CXT)(outer:List Env)(P:Program)(w:World)(H:Hp)(s:Shared)(Q:VK)(E:XK)(r:Result)(s':Shared):Prop:=
 match r with
 | .ok (.ret u)=>CE outer P w H s Q u s'
 | .ok _=>False
 | .error e=>CX outer H s E e s'
structure Qag (P:Program) (w:World) (K:Fgg) (mg:Str->Option Value) (base:Heap) (CX:CXT) (k:Nat) (f:Addr) (fd:FuncData) (ps:List Str) (sp:Sp):Prop where
 len:∀vs H Q E,sp vs H Q E->vs.length=ps.length
 run:∀(A:Around) (outer:List Env) (s:Shared) (H:Hp) (args:Args) (us:List Value) (vs:List V) (Q:VK) (E:XK),Q3 k A->QiU P w K mg base A outer s H->BindsTo s fd args (ps.zip us)->Qt vs us->sp vs H Q E→
  codeAny (model P w) A (.call (.ref f) args) (CR CX outer P w H s Q E) s
def Qag.mono{P:Program}{w:World}{K:Fgg}{mg:Str->Option Value}{base:Heap}{CX:CXT}{j k:Nat}{f:Addr}{fd:FuncData}{ps:List Str}{sp:Sp}(F:Qag P w K mg base CX j f fd ps sp)(h:j<=k):
  Qag P w K mg base CX k f fd ps sp:=⟨F.len,λA outer s H args us vs Q E hr=>F.run A outer s H args us vs Q E (hr.mono h)⟩
def QiU.make{P:Program}{w:World}{K:Fgg}{mg:Str->Option Value}{base:Heap}{A:Around}{outer:List Env}{s:Shared}{H:Hp}(e:QiU P w K mg base A outer s H)(C:Addr)(us:List Value)(kw:List (Str×Value)):
  QiU P w K mg base (A.under (.builtin "type.__call__" ⟨.ref C::us,kw⟩)) outer s H:=⟨by first | exact e.frames | (simpa[Around.under,Code.envs,Code.isFrame,pushEnvs]using e.frames),e.mod,e.bs,e.bsz,e.QdV,e.frf,e.hok,e.bare⟩
section
variable {X:Cx}{pins:List (Addr×Obj)}{U:St}{H:Hp}{s s':Shared}
def Inv.Qmx(I:Inv X pins U H s):QiU X.prog X.w X.K X.mg X.base X.A X.stack s H:=
 ⟨I.ok.frames,I.ok.mod,I.bs,Zy I.ok.bsz I.sz,I.stack,I.QlW,I.hok,I.bare⟩
def Inv.after{Q:VK}{u:Value}(I:Inv X pins U H s)(h:CE X.stack X.prog X.w H s Q u s'):EP X pins U Q u s':=by
 obtain⟨v,H',os,bare,un,hok,r,q⟩:=h;obtain⟨hh,g,d,t,os'⟩:=s';obtain rfl:os'=s.os:=os;exact⟨v,H',I.call (h':=hh) (g':=g) (d':=d) (t':=t) (ch:=[]) un hok bare (λb z=>absurd z ⋯),r,q⟩
end
def Qso(sp:Sp)(dvs:List V)(E:XK)(t:TA):TE:=λU H Q=>t U H λvs H1=>sp (vs++dvs) H1 Q E
def QDn(C:Addr)(m:Str)(sp:Sp)(dvs:List V)(E:XK)(ta:TE)(t:TA):TE:=λU H Q=>ta U H λx H1=>∃a dx fs,x= .ref a/\H1 a=some (.ins C dx fs)/\fs.lookup m=none∧
 t U H1 λvs H2=>sp (x::(vs++dvs)) H2 Q E
def Qxh(C:Addr)(sp:Sp)(dvs:List V)(E:XK)(t:TA):TE:=λU H Q=>t U H λvs H1=>∀x dx,H1 x=none->H1 dx=none->dx≠x→
 sp (.ref x::(vs++dvs)) (upd (upd H1 dx (.own x)) x (.ins C dx [])) (λv H2=>v= .non/\Q (.ref x) H2) E
def Binds(K:Fgg)(fd:FuncData)(ps:List Str)(ds:List Value):Prop:=
 ∀(s:Shared) (us:List Value),K.In s.heap->(us++ds).length=ps.length->BindsTo s fd ⟨us,[]⟩ (ps.zip (us++ds))
def Binds.all{K:Fgg}{fd:FuncData}{ps:List Str}(h:∀us:List Value,us.length=ps.length->bindArgs fd ⟨us,[]⟩=pure (ps.zip us)):Binds K fd ps []:=λs us _ hl=>by
 rw[ZG]at hl ⊢;exact .of_eq (h us hl)
def QfX(CX:CXT)(X:Cx)(E:XK):Prop:=∀(pins:List (Addr×Obj)) (U:St) (H:Hp) (s:Shared) (e:Value) (s':Shared),Inv X pins U H s->CX X.stack H s E e s'->X.xe e s'
section
variable {X:Cx}{CX:CXT}{k:Nat}{f C:Addr}{fd:FuncData}{ps:List Str}{sp:Sp}{dvs:List V}{ds:List Value}{E:XK}{x m:Str}{p pos apos:Pos}{e o:Expr}{es:List Expr}{ta:TE}{t:TA}
def QpF{pins:List (Addr×Obj)}{U:St}{H:Hp}{s:Shared}{Q:VK}{us:List Value}{vs:List V}(F:Qag X.prog X.w X.K X.mg X.base CX k f fd ps sp)(hr:Q3 k X.A)(hb:Binds X.K fd ps ds)(hd:Qt dvs ds)(hx:QfX CX X E)
  (I:Inv X pins U H s) (r:Qt vs us) (h:sp (vs++dvs) H Q E):wpAny (model X.prog X.w) X.A (call (.ref f) us) (EP X pins U Q) X.xe s:=by
 have r2:Qt (vs++dvs) (us++ds):=r.append hd;have hl:(us++ds).length=ps.length:=by rw[← r2.length];exact F.len _ _ _ _ h
 refine wpAny_call (codeAny_mono (F.run X.A X.stack s H ⟨us,[]⟩ (us++ds) (vs++dvs) Q E hr I.Qmx (hb s us I.kIn hl) r2 h) λr s' hq=>?_);cases r with
 | error e=>exact hx pins U H s e s' I hq
 | ok fl=>
  cases fl with
  | ret u=>exact I.after hq
  | next=>exact False.elim hq
  | brk=>exact False.elim hq
  | cont=>exact False.elim hq
def QxS(F:Qag X.prog X.w X.K X.mg X.base CX k f fd ps sp)(hr:Q3 k X.A)(hg:Gl X x)(hm:X.mg x=some (.ref f))(hk:PySem.W.keepIn X.K (.ref f)=true)(hb:Binds X.K fd ps ds)(hd:Qt dvs ds)(hx:QfX CX X E)
  (ha:PA X (e::es) t) (hdb:(x == ("__debug__" :Str))=false:=by decide) (he:starEach (e::es) X.env=(false,eval e X.env)::starEach es X.env:=by rfl) (hpl:(backTo pos (starEach es X.env)).any (·.1)=false:=by rfl):
  PE X (.Call (.Name x p) (e::es) [] pos) (Qso sp dvs E t):=by
 intro pins s U H Q I h;refine wpAny_Call_Name_kw (QcF I hg hm ?_ hdb);refine Zam (h₀:=X.base) I.ok.mod.kin hk (thn (ha pos pins s U H _ I h) λus s1 ⟨vs,H1,I1,r,q⟩=>⟨I1.kIn,?_⟩) he hpl;exact QpF F hr hb hd hx I1 r q
def Qvi(F:Qag X.prog X.w X.K X.mg X.base CX k f fd ps sp)(hr:Q3 k X.A)(hg:Gl X x)(hm:X.mg x=some (.ref f))(hk:PySem.W.keepIn X.K (.ref f)=true)(hb:Binds X.K fd ps ds)(hd:Qt dvs ds)(hx:QfX CX X E)
  (hdb:(x == ("__debug__" :Str))=false:=by decide):PE X (.Call (.Name x p) [] [] pos) (Qso sp dvs E QiP):=by
 intro pins s U H Q I h;refine wpAny_Call_Name_kw (QcF I hg hm ?_ hdb);exact PySem.W.callWith_K0 I.kIn hk (QpF (us:=[]) F hr hb hd hx I .nil h)
def Qqr{pl:Sem Bool}(he:PE X o ta)(c:Cls X.K C)(hm:QiD X.K C m f)(F:Qag X.prog X.w X.K X.mg X.base CX k f fd ps sp)(hr:Q3 k X.A)(hb:Binds X.K fd ps ds)(hd:Qt dvs ds)(hx:QfX CX X E)(ha:PA X (e::es) t)
  (hst:starEach (e::es) X.env=(false,eval e X.env)::starEach es X.env:=by rfl) (hpl:(backTo pos (starEach es X.env)).any (·.1)=false:=by rfl)
  (ht:eval (.Call (.Attribute o m apos) (e::es) [] pos) X.env=(do
   let ov ← eval o X.env
   standAt apos.atName
   let (f,first) ← holding [ov] (getMethod ov m pl)
   callWith pos f first (backTo pos (starEach (e::es) X.env)) (backToKw pos (keywordEach [] X.env))):=by rfl):
  PE X (.Call (.Attribute o m apos) (e::es) [] pos) (QDn C m sp dvs E ta t):=by
 intro pins s U H Q I h;refine PySem.W.methodCall_KW (pl:=pl) (thn (he pins s U H _ I h) λu s1 ⟨x,H1,I1,rx,a,dx,fs,ex,ea,l,q⟩=>?_) ht;subst ex;obtain rfl:u=Value.ref a:=rx;refine QlE I1 ea c hm l ?_;refine Zam (first:=[.ref a]) (h₀:=X.base) I.ok.mod.kin hm.kp (thn (ha pos pins s1 U H1 _ I1 q) λus s2 ⟨vs,H2,I2,r,q2⟩=>⟨I2.kIn,?_⟩) hst hpl;exact QpF (us:= .ref a::us) (vs:= .ref a::vs) F hr hb hd hx I2 (.cons rfl r) q2
structure Mk (K:Fgg) (C f:Addr):Prop where
 makes:PySem.W.makesIn K C=true
 init:PySem.W.findIn K (.ref C) "__init__" =some (some (.ref f))
 fn:PySem.W.isFn K (.ref f)=true
 kp:PySem.W.keepIn K (.ref C)=true
def Qvl{pins:List (Addr×Obj)}{U:St}{H:Hp}{s:Shared}{Q:VK}{us:List Value}{vs:List V}(M:Mk X.K C f)(F:Qag X.prog X.w X.K X.mg X.base CX k f fd ps sp)(hr:Q3 (k+1) X.A)(hb:Binds X.K fd ps ds)(hd:Qt dvs ds)
  (hx:QfX CX X E) (I:Inv X pins U H s) (r:Qt vs us)
  (h:∀x dx,H x=none->H dx=none->dx≠x->sp (.ref x::(vs++dvs)) (upd (upd H dx (.own x)) x (.ins C dx [])) (λv H2=>v= .non/\Q (.ref x) H2) E):
  wpAny (model X.prog X.w) X.A (call (.ref C) us) (EP X pins U Q) X.xe s:=by
 have hq:=h (s.heap.objs.size+1) s.heap.objs.size (I.hok.fresh (Zae _)) (I.hok.fresh (Zi _)) (ZC (ZaB _));have I2:=Inv.made (C:=C) I;have r2:Qt (V.ref (s.heap.objs.size+1)::(vs++dvs)) (Value.ref (s.heap.objs.size+1)::(us++ds)):= .cons rfl (r.append hd);have hl:(Value.ref (s.heap.objs.size+1)::us++ds).length=ps.length:=by
  have e:=r2.length;rw[F.len _ _ _ _ hq]at e;exact e.symm
 refine wpAny_call (Qwn (f:=f) I.kIn M.makes M.init (beq_iff_eq.mp M.fn) (codeAny_mono (F.run _ X.stack _ _ ⟨Value.ref (s.heap.objs.size+1)::us,[]⟩ (Value.ref (s.heap.objs.size+1)::(us++ds)) _ _ E (hr.make C us [])
  (I2.Qmx.make C us []) (hb _ (Value.ref (s.heap.objs.size+1)::us) I2.kIn hl) r2 hq) λr s' hq'=>?_))
 cases r with
 | error e=>exact hx pins U _ _ e s' I2 hq'
 | ok fl=>
  cases fl with
  | ret u=>
   obtain⟨v,H',I3,rv,ev,q3⟩:=I2.after hq';subst ev;exact⟨rv,⟨V.ref (s.heap.objs.size+1),H',I3,rfl,q3⟩⟩
  | next=>exact False.elim hq'
  | brk=>exact False.elim hq'
  | cont=>exact False.elim hq'
def QuN(M:Mk X.K C f)(F:Qag X.prog X.w X.K X.mg X.base CX k f fd ps sp)(hr:Q3 (k+1) X.A)(hg:Gl X x)(hm:X.mg x=some (.ref C))(hb:Binds X.K fd ps ds)(hd:Qt dvs ds)(hx:QfX CX X E)
  (hdb:(x == ("__debug__" :Str))=false:=by decide):PE X (.Call (.Name x p) [] [] pos) (Qxh C sp dvs E QiP):=by
 intro pins s U H Q I h;refine wpAny_Call_Name_kw (QcF I hg hm ?_ hdb);exact PySem.W.callWith_K0 I.kIn M.kp (Qvl (us:=[]) M F hr hb hd hx I .nil h)
end
section
variable {X:Cx}{CX:CXT}{k:Nat}{f C:Addr}{fd:FuncData}{ps ks:List Str}{sp:Sp}{E:XK}{x m:Str}{p pos apos kpos:Pos}{e o:Expr}{es:List Expr}{kws:List Keyword}{te ta:TE}{t tk:TA}{nm:Option Str}
structure QFd (K:Fgg) (fd:FuncData) (ps ks:List Str) (g:List Value->List Value->List Value) (gV:List V->List V->List V):Prop where
 to:∀(s:Shared) (us ws:List Value),K.In s.heap->(g us ws).length=ps.length->BindsTo s fd ⟨us,ks.zip ws⟩ (ps.zip (g us ws))
 rel:∀{vs:List V}{us:List Value}{zs:List V}{ws:List Value},Qt vs us->Qt zs ws->Qt (gV vs zs) (g us ws)
variable {g:List Value->List Value->List Value}{gV:List V->List V->List V}
end
structure QZ (N P:List Str) (sc:Scope):Prop where
 kind:sc.kind= .function
 co:sc.isCoroutine=false
 gen:sc.isGenerator=false
 nd:N.Nodup
 pre:N.take P.length=P
 par:∀x∈P,sc.names.lookup x=some .local ∨sc.names.lookup x=some .cell
 nofree:∀y∈sc.names,y.2≠ .free
def QmX{kindOf:Str->Option NameKind}{x:Str}:∀{binds:List (Str×Value)}{m:Str->Option Value},(∀v,(x,v)∉binds)->bindL kindOf binds m x=m x
 | [],_,_=>rfl
 | (n,v)::r,m,h=>by
  unfold bindL;rw[QmX λw hw=>h w (Zc _ hw)];split
  .have:x≠n:=by rintro rfl;exact h v Zf
   simp[this]
  .rfl
def QmV{kindOf:Str->Option NameKind}{x:Str}:∀{binds:List (Str×Value)}{m:Str->Option Value},(∀v,(x,v)∉binds)->bindC kindOf binds m x=m x
 | [],_,_=>rfl
 | (n,v)::r,m,h=>by
  unfold bindC;rw[QmV λw hw=>h w (Zc _ hw)];split
  .rfl
  .have:x≠n:=by rintro rfl;exact h v Zf
   simp[this]
def Qnc{kindOf:Str->Option NameKind}{x:Str}{v:Value}:∀{P:List Str}{vs:List Value}{i:Nat}{m:Str->Option Value},P.Nodup->P[i]? =some x->vs[i]? =some v->kindOf x=some .local →
  bindL kindOf (P.zip vs) m x=some v
 | [],_,_,_,_,h,_,_=>by simp at h
 | _::_,[],_,_,_,_,h,_=>by simp at h
 | p::P,w::vs,0,m,nd,h1,h2,hk=>by
  simp at h1 h2;subst h1;subst h2;show bindL kindOf ((p,w)::P.zip vs) m p=_;unfold bindL;rw[QmX λv hv=>(Zac.mp nd).1 (ZaO hv).1,if_pos hk];simp
 | p::P,w::vs,i+1,m,nd,h1,h2,hk=>by
  show bindL kindOf ((p,w)::P.zip vs) m x=_;unfold bindL;exact Qnc (i:=i) (Zac.mp nd).2 (by simpa using h1) (by simpa using h2) hk
def Qm9{kindOf:Str->Option NameKind}{x:Str}{v:Value}:∀{P:List Str}{vs:List Value}{i:Nat}{m:Str->Option Value},P.Nodup->P[i]? =some x->vs[i]? =some v->kindOf x≠some .local →
  bindC kindOf (P.zip vs) m x=some v
 | [],_,_,_,_,h,_,_=>by simp at h
 | _::_,[],_,_,_,_,h,_=>by simp at h
 | p::P,w::vs,0,m,nd,h1,h2,hk=>by
  simp at h1 h2;subst h1;subst h2;show bindC kindOf ((p,w)::P.zip vs) m p=_;unfold bindC;rw[QmV λv hv=>(Zac.mp nd).1 (ZaO hv).1,if_neg hk];simp
 | p::P,w::vs,i+1,m,nd,h1,h2,hk=>by
  show bindC kindOf ((p,w)::P.zip vs) m x=_;unfold bindC;exact Qm9 (i:=i) (Zac.mp nd).2 (by simpa using h1) (by simpa using h2) hk
noncomputable def start(N:List Str)(vs:List V):St:=vs.map some++List.replicate (N.length-vs.length) none
noncomputable def Qbv(CX:CXT)(P:Program)(w:World)(K:Fgg)(mg:Str->Option Value)(base:Heap)(N:List Str)(qual:Str)(scope:Scope)(f:Addr)(cd:Value)(A:Around)(outer:List Env)(s:Shared)(H:Hp)(E:XK):Cx where
 prog:=P
 w:=w
 K:=K
 mg:=mg
 base:=base
 A:=A.deeper (envOfC qual scope s.heap.objs.size f cd)
 N:=N
 s₀:=s
 H₀:=H
 env:=envOfC qual scope s.heap.objs.size f cd
 outer:=outer
 stack:=envOfC qual scope s.heap.objs.size f cd::outer
 ex:=[]
 calm:=decide (A.handled=none)
 fn:=λ_=>true
 pn:=[]
 xe:=λe s'=>wpAny (model P w) (A.deeper (envOfC qual scope s.heap.objs.size f cd)) (leaving (envOfC qual scope s.heap.objs.size f cd) e) (λ_ s''=>CX outer H s E e s'') (λe' s''=>CX outer H s E e' s'') s'
def QoE{sc:Scope}{n:Nat}{x:Str}(h:sc.names.lookup x=some .cell):∃c,(cellsFrom n sc.names []).lookup x=some c:=by
 have q:=ZaE sc.names n [] (.inl h);exact Option.isSome_iff_exists.mp q
def QmR{CX:CXT}{P:Program}{w:World}{K:Fgg}{mg:Str->Option Value}{base:Heap}{N ps:List Str}{qual:Str}{scope:Scope}{f:Addr}{cd:Value}{A:Around}{outer:List Env}{s s1:Shared}{H:Hp}{E:XK}{us:List Value}{vs:List V}
  (S:QZ N ps scope) (e0:QiU P w K mg base A outer s H) (hl:vs.length=ps.length) (r:Qt vs us)
  (x:InCallC s s.heap.objs.size (bindL (envOfC qual scope s.heap.objs.size f cd).kindOf (ps.zip us) λ_=>none) (cellsFrom (s.heap.objs.size+1) scope.names []) (bindC (envOfC qual scope s.heap.objs.size f cd).kindOf (ps.zip us) λ_=>none) s1):
  Inv (Qbv CX P w K mg base N qual scope f cd A outer s H E) [] (start N vs) H s1:=by
 have hpl:ps.length<=N.length:=by have:=congrArg List.length S.pre;rw[ZaH]at this;lia
 obtain⟨h1,tk,rfl,hk⟩:=x.done;have noA:∀b:Addr,b∉(Qbv CX P w K mg base N qual scope f cd A outer s H E).ex:=λb z=>absurd (show b∈([]:LAd)from z) ⋯
 refine⟨⟨e0.mod,S.kind,rfl,rfl,Zi _,λy z c h1 h2=>?_,λy hy=>?_,λy c _ h=>?_,λh=>of_decide_eq_true h,Around.frames_deeper e0.frames,.inr ⟨rfl,rfl⟩,λb z=>absurd z (noA b),e0.bs,e0.bsz,λb _ _=>noA b,λb z=>absurd z (noA b),e0.QdV,e0.frf⟩,
  rfl,e0.bare,Un.kept hk,⟨_,x.toInCall.ns,λi y v h1 h2 h3=>?_⟩,λy c h=>⟨_,x.cell y c h⟩,e0.hok.fresh (Zi _),λy c h=>?_,λp hp=>absurd (show p∈([]:List (Addr×Obj))from hp) ⋯,e0.hok.kept hk,?_⟩
 .exact name_of_addr x.apart (ZQ h1) (ZQ h2)
 .have hy:scope.names.lookup y=some .cell∨scope.names.lookup y=some .free:=hy;rcases hy with hy | hy
  .exact QoE hy
  .exact absurd rfl (S.nofree _ (ZQ hy))
 .exact Zbj (x.above y c (ZQ h))
 .have hi:i<vs.length:=by
   unfold start at h2;by_cases hi:i<vs.length
   .exact hi
   .rw[ZaY (by simpa using hi),Zbc]at h2;split at h2<;>cases h2
  have ha:vs[i]? =some v:=by
   unfold start at h2;rw[Zao (by simpa using hi),Zw]at h2;cases e:vs[i]? with
   | none=>rw[e]at h2;cases h2
   | some a=>rw[e]at h2;cases h2;rfl
  obtain⟨u,hu,rv⟩:=r.get ha;have hp:ps[i]? =some y:=by
   rw[← S.pre,List.getElem?_take_of_lt ⋯];exact h1
  have ndP:ps.Nodup:=by rw[← S.pre];exact S.nd.sublist (List.take_sublist _ _)
  refine⟨u,rv,?_⟩;rcases S.par y (Zah hp)with k | k
  .exact .inl ⟨k,Qnc ndP hp hu k⟩
  .obtain⟨c,e⟩:=QoE (n:=s.heap.objs.size+1) k;refine .inr ⟨.inl k,c,e,?_⟩;have q:=x.cell y c e;rw[Qm9 ndP hp hu (by show scope.names.lookup y≠_;rw[k];decide)]at q;exact q
 .exact e0.hok.fresh (Zbj (x.above y c (ZQ h)))
 .unfold start;show _=N.length;rw[Zl,Zt,List.length_replicate];lia
def QlK{CX:CXT}{P:Program}{w:World}{K:Fgg}{mg:Str->Option Value}{base:Heap}{k:Nat}{f:Addr}{name qual:Str}{params:Arguments}{body:List Stmt}{scope:Scope}{dV kV doc pm cdv ct oc:Value}{an od:Option Addr}
  {osl:Array (Option Value)}{N ps:List Str}{sp:Sp}(lk:K.lookup f=some ⟨oc,od,.func (PySem.W.fnOf name qual params body scope dV kV doc pm an cdv ct),osl⟩) (hcd:PySem.W.codeIn K cdv qual=true) (S:QZ N ps scope)
  (len:∀vs H Q E,sp vs H Q E->vs.length=ps.length)
  (hbody:∀(A:Around) (outer:List Env) (s:Shared) (H:Hp) (vs:List V) (Q:VK) (E:XK),Q3 k (A.deeper (envOfC qual scope s.heap.objs.size f cdv))->sp vs H Q E→
   ∃t,PSs (Qbv CX P w K mg base N qual scope f cdv A outer s H E) body t/\t {nx:=λ_ H'=>Q .non H',rt:=Q} (start N vs) H):
  Qag P w K mg base CX (k+1) f (PySem.W.fnOf name qual params body scope dV kV doc pm an cdv ct) ps sp:=by
 refine⟨len,λA outer s H args us vs Q E hr e0 hb r hsp=>?_⟩;have hl:=len _ _ _ _ hsp;have KX:K.In s.heap:=e0.mod.kin.keeps λb o e=>(e0.bs b o e).1;have lim:s.heap.NoLimit:=e0.mod.nolimit.keeps λb o e=>(e0.bs b o e).1;have hkind:∀y∈ps.zip us,scope.names.lookup y.1=some .local ∨(scope.names.lookup y.1=some .cell/\((cellsFrom (s.heap.objs.size+1) scope.names []).lookup y.1).isSome=true):=λZ hy=>by
  obtain⟨n,v⟩:=Z;rcases S.par n (ZaO hy).1 with q | q
  .exact .inl q
  .exact .inr ⟨q,ZaE _ _ _ (.inl q)⟩
 refine codeAny_call_function hr.depth (KX _ _ lk) rfl S.co S.gen rfl (PySem.W.codeRec_of KX hcd) (hb _ _ _ _ ?_);refine wpAny_newFunctionEnv_cells S.kind hkind λenv he s1 x=>?_;subst he;refine⟨lim.keeps x.toInCall.keep,codeAny_func ?_⟩;obtain⟨t,ht,hq⟩:=hbody A outer s H vs Q E (hr.deeper _) hsp;have I:Inv (Qbv CX P w K mg base N qual scope f cdv A outer s H E) [] (start N vs) H s1:=QmR S e0 hl r x;refine wpAny_mono (ht [] s1 (start N vs) H _ I hq) (λfl s' hs=>?_) λe s' hs=>hs
 have fin:∀{U':St}{H':Hp}{v:V}{u:Value},Inv (Qbv CX P w K mg base N qual scope f cdv A outer s H E) [] U' H' s'->RelV v u->Q v H'->CE outer P w H s Q u s':=
  λ{U' H' v u} J rv q=>⟨v,H',J.os,J.bare,J.base,J.hok,rv,q⟩
 cases fl with
 | ret u=>
  obtain⟨v,U',H',J,rv,q⟩:=hs;exact fin J rv q
 | next=>
  obtain⟨U',H',J,q⟩:=hs;exact fin (v:=V.non) (u:=Value.none) J rfl q
 | brk=>
  obtain⟨_,_,_,q⟩:=hs;exact False.elim q
 | cont=>
  obtain⟨_,_,_,q⟩:=hs;exact False.elim q
section
variable {X:Cx}{x:Str}{p pos:Pos}{e:Expr}{es:List Expr}{t:TA}{id T:String}{r:List V->Hp->VK->Prop}
def tCB(r:List V->Hp->VK->Prop)(t:TA):TE:=λU H Q=>t U H λvs H1=>r vs H1 Q
def Qkt(hc:QaS X (.builtin id) r)(hg:Gl X x)(hm:X.mg x=none)(hv:bootBuiltins x=some (.builtin id))(ha:PA X (e::es) t)(hn:x≠ "__name__" :=by decide)(hdb:(x == ("__debug__" :Str))=false:=by decide)
  (he:starEach (e::es) X.env=(false,eval e X.env)::starEach es X.env:=by rfl) (hpl:(backTo pos (starEach es X.env)).any (·.1)=false:=by rfl):PE X (.Call (.Name x p) (e::es) [] pos) (tCB r t):=by
 intro pins s U H Q I h;refine wpAny_Call_Name_kw (Qc4 I hg hm hv ?_ hn hdb);exact PyProof.Rows.callWith_builtin1 (thn (ha pos pins s U H _ I h) λus s1 ⟨vs,H1,I1,r1,q1⟩=>hc pins s1 U H1 vs us Q I1 r1 q1) he hpl
def QmW(hc:QaS X (.type T) r)(hg:Gl X x)(hm:X.mg x=none)(hv:bootBuiltins x=some (.type T))(ha:PA X (e::es) t)(hn:x≠ "__name__" :=by decide)(hdb:(x == ("__debug__" :Str))=false:=by decide)
  (he:starEach (e::es) X.env=(false,eval e X.env)::starEach es X.env:=by rfl) (hpl:(backTo pos (starEach es X.env)).any (·.1)=false:=by rfl):PE X (.Call (.Name x p) (e::es) [] pos) (tCB r t):=by
 intro pins s U H Q I h;refine wpAny_Call_Name_kw (Qc4 I hg hm hv ?_ hn hdb);exact ZL (thn (ha pos pins s U H _ I h) λus s1 ⟨vs,H1,I1,r1,q1⟩=>hc pins s1 U H1 vs us Q I1 r1 q1) he hpl
end
end L2
namespace HT
open PySem PyProof.Rows
section
open PySem.SeqAt
open PySem.AutoSeq1 (wpAny_loadPart')
open PySem.MeetsSeq PySem.MeetsSeq2 PySem.MeetsSeq3
end
section
variable {prog:Program}{w:World}{A:Around}{E:Value->Shared->Prop}{s:Shared}
noncomputable def sIx(n d:Nat):Option Int->Nat
 | none=>d
 | some v=>if v<0 then(v+(n:Int)).toNat else min v.toNat n
def QvE(n d:Nat):sIx n d none=d:=rfl
def QqK(n d k:Nat):sIx n d (some (k:Int))=min k n:=by
 show(if(k:Int)<0 then((k:Int)+(n:Int)).toNat else min (k:Int).toNat n)=min k n;rw[if_neg ⋯,Zaa]
end
end HT
namespace L2
open PySem PySem.Spec PyProof.Rows
abbrev TO:=St->Hp->(Option Int->Hp->Prop)->Prop
def PO(X:Cx)(e:Option Expr)(t:TO):Prop:=
 ∀(pins:List (Addr×Obj)) (s:Shared) (U:St) (H:Hp) (Q:Option Int->Hp->Prop),Inv X pins U H s->t U H Q→
  wpAny (model X.prog X.w) X.A (evalPart e X.env) (λu s'=>∃o H',Inv X pins U H' s'/\IsPart u o/\Q o H') X.xe s
def Qxn:TO:=λ_ H Q=>Q none H
def QD1(t:TE):TO:=λU H Q=>t U H λx H1=>∃i,x= .int i/\Q (some i) H1
def intsAre_of{ns:List Int}:∀{us:List Value},Qt (ns.map V.int) us->IntsAre us ns:=by
 induction ns with
 | nil=>intro us r;rw[ZaV]at r;cases r;exact .nil
 | cons n ns ih=>
  intro us r;rw[Zz]at r;cases r with
  | cons r1 r2=>
   obtain⟨t,e⟩:=r1;subst e;exact .cons n t (ih r2)
section
variable {X:Cx}{e:Expr}{te:TE}{lo hi:Option Expr}{tl th:TO}{pos p2:Pos}
def Qx9:PO X none Qxn:=by
 intro pins s U H Q I h;rw[evalPart_none];exact wpAny_pure ⟨none,H,I,.none,h⟩
def Qy3(h:PE X e te):PO X (some e) (QD1 te):=by
 intro pins s U H Q I hw;rw[evalPart_some];refine thn (h pins s U H _ I hw) λu s1=>exJ λx H1 I1 r1 q1=>?_;obtain⟨i,rfl,q⟩:=q1;obtain⟨t,rfl⟩:=r1;exact⟨some i,H1,I1,.int i t,q⟩
def SlR(X:Cx)(r:V->Option Int->Option Int->Hp->VK->Prop):Prop:=
 ∀(pins:List (Addr×Obj)) (s:Shared) (U:St) (H:Hp) (x:V) (v vl vu:Value) (lo hi:Option Int) (sl:Addr) (Q:VK),Inv X pins U H s->RelV x v->s.heap.IsSliceOf sl vl vu .none->IsPart vl lo->IsPart vu hi->r x lo hi H Q→
  ∃T id,typeLookup (.type T) "__getitem__" =pure (some (.builtin id))/\s.TypeIs v T/\wpAny (model X.prog X.w) X.A (getItem v (.ref sl)) (EP X pins U Q) X.xe s
def SlR.or{r r':V->Option Int->Option Int->Hp->VK->Prop}(h:SlR X r)(h':SlR X r'):SlR X (λx lo hi H Q=>r x lo hi H Q∨r' x lo hi H Q):=by
 intro pins s U H x v vl vu lo hi sl Q I rx hs pl pu q;rcases q with q | q
 .exact h pins s U H x v vl vu lo hi sl Q I rx hs pl pu q
 .exact h' pins s U H x v vl vu lo hi sl Q I rx hs pl pu q
def tSl(r:V->Option Int->Option Int->Hp->VK->Prop)(te:TE)(tl th:TO):TE:=λU H Q=>te U H λx H1=>tl U H1 λl H2=>th U H2 λu H3=>r x l u H3 Q
def QwD{r:V->Option Int->Option Int->Hp->VK->Prop}(hr:SlR X r)(he:PE X e te)(hl:PO X lo tl)(hu:PO X hi th):PE X (.Subscript e (.Slice lo hi none p2) pos) (tSl r te tl th):=by
 intro pins s U H Q I h;refine Subscript_ (thn (he pins s U H _ I h) λv s1=>exJ λx H1 I1 r1 q1=>?_);refine wpAny_Slice (thn (hl pins s1 U H1 _ I1 q1) λvl s2 ⟨l,H2,I2,pl,q2⟩=>thn (hu pins s2 U H2 _ I2 q2) λvu s3=>exJ λu H3 I3 pu q3=>?_);rw[evalPart_none];refine wpAny_pure ?_;have I4:Inv X pins U H3 {s3 with heap:=s3.heap.push {cls:= .type "slice",data:= .fields #[vl,vu,.none]}}:=I3.kept (t':=s3.toks) λb ob q=>Zd _ q;obtain⟨T,id,hT,ht,hg⟩:=hr pins {s3 with heap:=s3.heap.push {cls:= .type "slice",data:= .fields #[vl,vu,.none]}} U H3 x v vl vu l u s3.heap.objs.size Q I4 r1 (Heap.IsSliceOf.new ..) pl pu q3;show wpAny (model X.prog X.w) X.A (subscriptTail e (.Slice lo hi none p2) v (.ref s3.heap.objs.size)) (EP X pins U Q) X.xe {s3 with heap:=s3.heap.push {cls:= .type "slice",data:= .fields #[vl,vu,.none]}};exact tail_any (ops:=[.ref s3.heap.objs.size,v]) ht hT hg (by with_unfolding_all rfl)
def Qmt(xs:List V)(lo hi:Option Int):List V:=(xs.drop (HT.sIx xs.length 0 lo)).take (HT.sIx xs.length xs.length hi-HT.sIx xs.length 0 lo)
def QpU(xs:List V)(lo hi:Option Int):(Qmt xs lo hi).length<=xs.length:=by
 unfold Qmt;rw[ZaH,Zbd];lia
end
noncomputable def ixN(n:Nat)(i:Int):Option Nat:=if 0<=i then(if i<n then some i.toNat else none)else if-(n:Int)<=i then some (i+n).toNat else none
def atI{α:Type}(xs:List α)(i:Int):Option α:=(ixN xs.length i).bind λj=>xs[j]?
def QjN{n:Nat}{i:Int}{j:Nat}(h:ixN n i=some j):seqIndex? i n=some j/\j<n/\ -(n:Int)<=i/\i<n:=by
 unfold ixN at h;by_cases h0:0<=i
 .rw[if_pos h0]at h;by_cases h1:i<n
  .rw[if_pos h1]at h;have e:i.toNat=j:=Option.some.inj h;exact⟨by rw[seqIndex_of h0 h1,e],⋯,⋯,h1⟩
  .rw[if_neg h1]at h;cases h
 .rw[if_neg h0]at h;by_cases h1: -(n:Int)<=i
  .rw[if_pos h1]at h;have e:(i+n).toNat=j:=Option.some.inj h;exact⟨by rw[seqIndex_neg ⋯ h1,e],⋯,h1,⋯⟩
  .rw[if_neg h1]at h;cases h
def Ql3{α:Type}{xs:List α}{i:Int}{v:α}(h:atI xs i=some v):∃j,seqIndex? i xs.length=some j/\xs[j]? =some v/\j<xs.length/\ -(xs.length:Int)<=i/\i<xs.length:=by
 unfold atI at h;cases e:ixN xs.length i with
 | none=>rw[e]at h;cases h
 | some j=>
  rw[e]at h;obtain⟨h1,h2,h3,h4⟩:=QjN e;exact⟨j,h1,h,h2,h3,h4⟩
def Qhi(b:Expr):Prop:=∀o i,subscripted b false o i=operate [o,i] (getItem o i)
def IxR(X:Cx)(r:R2):Prop:=
 ∀(value slice:Expr) (pins:List (Addr×Obj)) (s:Shared) (U:St) (H:Hp) (x y:V) (v u:Value) (Q:VK),Inv X pins U H s->RelV x v->RelV y u->r x y H Q→
  subscripted slice false v u=operate [v,u] (getItem v u)->wpAny (model X.prog X.w) X.A (subscriptTail value slice v u) (EP X pins U Q) X.xe s
def MtR(X:Cx)(id:String)(r:V->List V->Hp->VK->Prop):Prop:=
 ∀(pins:List (Addr×Obj)) (s:Shared) (U:St) (H:Hp) (x:V) (xs:List V) (v:Value) (us:List Value) (Q:VK),Inv X pins U H s->RelV x v->Qt xs us->r x xs H Q→
  wpAny (model X.prog X.w) X.A (call (.builtin id) (v::us)) (EP X pins U Q) X.xe s
section
variable {X:Cx}{a b:Expr}{ta tb:TE}{pos:Pos}
def IxR.or{r r':R2}(h:IxR X r)(h':IxR X r'):IxR X (λx y H Q=>r x y H Q∨r' x y H Q):=by
 intro value slice pins s U H x y v u Q I rx ry q hs;rcases q with q | q
 .exact h value slice pins s U H x y v u Q I rx ry q hs
 .exact h' value slice pins s U H x y v u Q I rx ry q hs
def Qxj{r:R2}(hr:IxR X r)(ha:PE X a ta)(hb:PE X b tb)(hs:Qhi b):PE X (.Subscript a b pos) (tOp r ta tb):=by
 intro pins s U H Q I h;exact Subscript_ (Qsr ha hb I h λv u s2 x y H2 I2 rx ry q=>hr a b pins s2 U H2 x y v u Q I2 rx ry q (hs _ _))
def QBA(K:Fgg):R2:=λx y H Q=>∃p xs i v,x= .ref p/\y= .int i/\SqL K H p xs/\atI xs i=some v/\Q v H
def QE3(K:Fgg):R2:=λx y H Q=>∃p xs i v,x= .ref p/\y= .int i/\SqT K H p xs/\atI xs i=some v/\Q v H
def QqT:IxR X (QBA X.K):=by
 intro value slice pins s U H x y v u Q I rx ry h hs;obtain⟨p,xs,i,z,rfl,rfl,hq,he,q⟩:=h;cases rx;obtain⟨t,rfl⟩:=ry;obtain⟨its,r,pl,hz⟩:=I.list hq;obtain⟨j,h1,h2,h3,h4,h5⟩:=Ql3 he;obtain⟨w,ew,rw'⟩:=r.get h2;have hl:=r.length;have hn:=Qgc;have fin:EP X pins U Q w s:=⟨z,H,I,rw',q⟩;by_cases h0:0<=i
 .have hj:i.toNat=j:=by
   rw[seqIndex_of h0 h5]at h1;exact Option.some.inj h1
  exact item_listR pl.isList h0 ⋯ (by rw[hj];simpa using ew) fin hs
 .have hj:(i+(its.toArray.size:Int)).toNat=j:=by
   rw[seqIndex_neg ⋯ h4]at h1;rw[Zu,← hl];exact Option.some.inj h1
  exact subscriptTail_builtinR (x:=w) pl.isList.typeIs slot_list_getitem.lookup
   (wpAny_getItem_list_neg (Q:=λr s'=>r=w/\EP X pins U Q r s') pl.isList ⋯ (by rw[Zu]<;>lia) ⋯ (by rw[hj];simpa using ew) ⟨rfl,fin⟩) hs
def Qs9:IxR X (QE3 X.K):=by
 intro value slice pins s U H x y v u Q I rx ry h hs;obtain⟨p,xs,i,z,rfl,rfl,hq,he,q⟩:=h;cases rx;obtain⟨t,rfl⟩:=ry;obtain⟨its,r,pl,hz⟩:=I.tuple hq;obtain⟨j,h1,h2,h3,h4,h5⟩:=Ql3 he;obtain⟨w,ew,rw'⟩:=r.get h2;have hl:=r.length;have hn:=Qgc;have fin:EP X pins U Q w s:=⟨z,H,I,rw',q⟩
 exact subscriptTail_builtinR (x:=w) pl.typeIs slot_tuple_getitem.lookup
  (getItem_tuple (j:=j) (Q:=λr s'=>r=w/\EP X pins U Q r s') pl ⋯ ⋯ (by rw[Zu,← hl];exact h1) (by simpa using ew) ⟨rfl,fin⟩) hs
def Qrp(its:List Value)(n j:Nat)(u:Value):Obj.mapSeq (·.setIfInBounds j u) {cls:= .type "list",data:= .seq its.toArray n}={cls:= .type "list",data:= .seq (its.set j u).toArray n}:=by
 simp[Obj.mapSeq]
def Inv.lst{pins:List (Addr×Obj)}{U:St}{H:Hp}{s:Shared}{p:Addr}{xs:List V}(I:Inv X pins U H s)(h:H p=some (.lst xs)):
  ∃(its:List Value) (n:Nat),Qt xs its/\s.heap.get? p=some {cls:= .type "list",data:= .seq its.toArray n}/\xs.length<=sizeLine:=by
 obtain⟨z,its,n,r,e⟩:=I.hok p _ h;exact⟨its,n,r,e,z⟩
def Inv.QBa{pins:List (Addr×Obj)}{U:St}{H:Hp}{s:Shared}{p:Addr}{xs ys:List V}{its its':List Value}{n n':Nat}{f:Obj->Obj}(I:Inv X pins U H s)(h:H p=some (.lst xs))
  (ho:s.heap.get? p=some {cls:= .type "list",data:= .seq its.toArray n}) (hf:f {cls:= .type "list",data:= .seq its.toArray n}={cls:= .type "list",data:= .seq its'.toArray n'}) (r:Qt ys its') (hz:ys.length<=sizeLine) (t:Nat):
  Inv X pins U (upd H p (.lst ys)) {s with heap:=s.heap.update p f,toks:=t}:=by
 have e:(s.heap.update p f).get? p=some {cls:= .type "list",data:= .seq its'.toArray n'}:=by
  rw[ZaG f ho (by rw[hf]<;>rfl),hf]
 refine I.write (x:=p) (e:=p) (by rw[h];trivial) (.inl rfl) (λb u hb q=>(Zaw _ _ (Ne.symm hb)).trans q) ⟨_,e⟩ ?_;exact⟨hz,its',n',r,e⟩
def Qxb:V->V->V->Hp->(Hp->Prop)->Prop:=λo i v H Q=>∃p xs k j,o= .ref p/\i= .int k/\H p=some (.lst xs)/\ixN xs.length k=some j/\Q (upd H p (.lst (xs.set j v)))
def set_list:QuV X Qxb:=by
 intro pins s U H o i v ov iv u Q I ro ri rv h;obtain⟨p,xs,k,j,rfl,rfl,hp,hj,q⟩:=h;cases ro;obtain⟨t,rfl⟩:=ri;obtain⟨its,n,r,ho,hz⟩:=I.lst hp;obtain⟨h1,h2,h3,h4⟩:=QjN hj;have hl:=r.length;have hn:=Qgc
 have I':Inv X pins U (upd H p (.lst (xs.set j v))) {s with heap:=s.heap.update p (Obj.mapSeq (·.setIfInBounds j u))}:=
  I.QBa hp ho (Qrp its n j u) (r.set rv j) (by rw[Zap];exact hz) s.toks
 by_cases h0:0<=k
 .have hk:k.toNat=j:=by
   rw[seqIndex_of h0 h4]at h1;exact Option.some.inj h1
  exact PySem.W.ki_setAt ho h0 ⋯ (by rw[Zu,← hl];exact h4) (by rw[hk];exact⟨_,I',q⟩)
 .have hk:(k+(its.toArray.size:Int)).toNat=j:=by
   rw[seqIndex_neg ⋯ h3]at h1;rw[Zu,← hl];exact Option.some.inj h1
  exact PySem.W.ki_setBack ho ⋯ (by rw[Zu,← hl];exact h3) ⋯ (by rw[hk];exact⟨_,I',q⟩)
def Qo7(lo hi:Option Int)(n:Nat):(sliceBounds lo hi none n).1=((HT.sIx n 0 lo:Nat):Int)/\(sliceBounds lo hi none n).2.1=((HT.sIx n n hi:Nat):Int)/\(sliceBounds lo hi none n).2.2=1:=by
 refine⟨?_,?_,rfl⟩
 .cases lo with
  | none=>simp[sliceBounds,HT.sIx]
  | some i=>
   simp only[sliceBounds,HT.sIx,Option.getD_none,show(1:Int)>0 by decide,if_true];by_cases h:i<0
   .simp only[h,if_true]<;>lia
   .simp only[h,if_false]<;>lia
 .cases hi with
  | none=>simp[sliceBounds,HT.sIx]
  | some i=>
   simp only[sliceBounds,HT.sIx,Option.getD_none,show(1:Int)>0 by decide,if_true];by_cases h:i<0
   .simp only[h,if_true]<;>lia
   .simp only[h,if_false]<;>lia
def Qnw(its:List Value)(lo hi:Option Int):slicePick its.toArray lo hi none=((its.drop (HT.sIx its.length 0 lo)).take (HT.sIx its.length its.length hi-HT.sIx its.length 0 lo)).toArray:=by
 obtain⟨h1,h2,h3⟩:=Qo7 lo hi its.toArray.size;unfold slicePick;rw[h1,h2,h3];simp only[sliceRange_one,pick_run,Zu]<;>rfl
def QEu(K:Fgg):V->Option Int->Option Int->Hp->VK->Prop:=λx lo hi H Q=>∃a xs,x= .ref a/\SqL K H a xs/\∀p,H p=none->Q (.ref p) (upd H p (.lst (Qmt xs lo hi)))
def Qy9:SlR X (QEu X.K):=by
 intro pins s U H x v vl vu lo hi sl Q I rx hs pl pu h;obtain⟨a,xs,rfl,hx,q⟩:=h;cases rx;obtain⟨its,r,ht,hz⟩:=I.list hx;have hlen:=r.length;refine⟨"list",_,slot_list_getitem.lookup,ht.isList.typeIs,?_⟩;refine wpAny_getItem_list_slice ht.isList hs pl pu .none ⋯ ?_ (by rw[Zu]<;>lia);rw[Qnw,← hlen];refine⟨.ref s.heap.objs.size,_,I.laid (t':=s.toks) (o:= .lst (Qmt xs lo hi)) (λb ob q=>Zd _ q) (Zi _) ?_,rfl,q _ (I.hok.fresh (Zi _))⟩;exact⟨Zy (QpU xs lo hi) hz,_,0,(r.drop (HT.sIx xs.length 0 lo)).take (HT.sIx xs.length xs.length hi-HT.sIx xs.length 0 lo),Zq _ rfl⟩
def Qor:QaS X (.builtin "len") (λxs H Q=>∃p ys,xs=[.ref p]/\(SqL X.K H p ys∨SqT X.K H p ys)/\Q (.int ys.length) H):=by
 intro pins s U H xs us Q I r h;obtain⟨p,ys,rfl,hq,q⟩:=h;obtain⟨u,rfl,rx⟩:=vals1 r;cases rx;have hn:=Qgc;rcases hq with hq | hq
 .obtain⟨its,r',pl,hz⟩:=I.list hq;have hlen:=r'.length;exact Calls.call_len_list pl.isList (by simp only[Zu]<;>lia) ⟨.int ys.length,H,I.tok _,⟨s.toks+1,by rw[Zu,hlen]⟩,q⟩
 .obtain⟨its,r',pl,hz⟩:=I.tuple hq;have hlen:=r'.length;exact len_tuple pl (by simp only[Zu]<;>lia) ⟨.int ys.length,H,I.tok _,⟨s.toks+1,by rw[Zu,hlen]⟩,q⟩
def QoI:QaS X (.builtin "len") (λxs H Q=>∃z,xs=[.str z]/\z.length<=sizeLine/\Q (.int z.length) H):=by
 intro pins s U H xs us Q I r h;obtain⟨z,rfl,hz,q⟩:=h;obtain⟨u,rfl,t,rfl⟩:=vals1 r;have hn:=Qgc;exact len_str ⋯ ⟨.int z.length,H,I.tok _,⟨_,rfl⟩,q⟩
def QaS.or{f:Value}{r r':List V->Hp->VK->Prop}(h:QaS X f r)(h':QaS X f r'):QaS X f (λxs H Q=>r xs H Q∨r' xs H Q):=by
 intro pins s U H xs us Q I rs q;rcases q with q | q
 .exact h pins s U H xs us Q I rs q
 .exact h' pins s U H xs us Q I rs q
def Qof:QaS X (.type "list") (λxs H Q=>∃p ys,xs=[.ref p]/\(SqL X.K H p ys∨SqT X.K H p ys)/\∀l,H l=none->Q (.ref l) (upd H l (.lst ys))):=by
 intro pins s U H xs us Q I r h;obtain⟨p,ys,rfl,hq,q⟩:=h;obtain⟨u,rfl,rx⟩:=vals1 r;cases rx
 have fin:∀(its:List Value),Qt ys its->ys.length<=sizeLine->∀(h':Heap) (c':Nat),(∀b o',s.heap.get? b=some o'->h'.get? b=some o')→
   h'.get? s.heap.objs.size=some {cls:= .type "list",dict:=none,data:= .seq its.toArray c',slots:= #[]}->EP X pins U Q (.ref s.heap.objs.size) {s with heap:=h'}:=λits r' hz h' c' kp e=>
  ⟨.ref s.heap.objs.size,_,I.laid (t':=s.toks) kp (Zi _) (show Qa7 X.prog X.w _ h' _ (.lst ys)from⟨hz,its,c',r',e⟩),rfl,q _ (I.hok.fresh (Zi _))⟩
 rcases hq with hq | hq
 .obtain⟨its,r',pl,hz⟩:=I.list hq;have hlen:=r'.length;obtain⟨o,ho,hc,n,hd⟩:=pl.isList;exact call_list_seq p (.inl rfl) ho hc hd (λh' c' kp e=>fin its r' hz h' c' kp e) (by simp only[Zu]<;>lia)
 .obtain⟨its,r',pl,hz⟩:=I.tuple hq;have hlen:=r'.length;obtain⟨o,ho,hc,n,hd⟩:=pl;exact call_list_seq p (.inr rfl) ho hc hd (λh' c' kp e=>fin its r' hz h' c' kp e) (by simp only[Zu]<;>lia)
def tyV(K:Fgg)(T:String)(x:V)(H:Hp):Prop:=match x with
 | .str _=>T= "str"
 | .int _=>T= "int"
 | .ref p=>(T= "list" /\∃xs,SqL K H p xs)∨(T= "tuple" /\∃o,K.lookup p=some o/\o.cls= .type "tuple" /\o.dict=none)∨
   (T= "dict" /\((∃kvs,H p=some (.dK kvs))∨∃kvs,H p=some (.dT kvs)))∨(T= "set" /\∃S n,H p=some (.set S n))
 | _=>False
def QCf{pins:List (Addr×Obj)}{U:St}{H:Hp}{s:Shared}{T:String}{x:V}{v:Value}(I:Inv X pins U H s)(r:RelV x v)(ty:tyV X.K T x H):
  s.TypeIs v T/\∀a,v= .ref a->∃ob,s.heap.get? a=some ob/\ob.dict=none:=by
 cases x with
 | str z=>
  obtain⟨t,rfl⟩:=r;cases(show T= "str" from ty);exact⟨typeIs_str s z t,λ_ e=>nomatch e⟩
 | int i=>
  obtain⟨t,rfl⟩:=r;cases(show T= "int" from ty);exact⟨typeIs_int s i t,λ_ e=>nomatch e⟩
 | ref p=>
  cases r;rcases ty with⟨rfl,xs,hq⟩ | ⟨rfl,o,hk,hc,hd⟩ | ⟨rfl,hk⟩ | ⟨rfl,S,n,hk⟩
  .obtain⟨its,_,pl,_⟩:=I.list hq;refine⟨pl.isList.typeIs,λa e=>?_⟩;cases e;obtain⟨o,n,e,c,hd,_⟩:=pl;exact⟨o,e,hd⟩
  .refine⟨⟨o,I.kIn p o hk,hc⟩,λa e=>?_⟩;cases e;exact⟨o,I.kIn _ o hk,hd⟩
  .have z:∃o,s.heap.get? p=some o/\o.ExactDict:=by
    rcases hk with⟨kvs,hk⟩ | ⟨kvs,hk⟩
    .obtain⟨_,_,_,_,o,_,_,e,ex,_⟩:=I.hok p _ hk;exact⟨o,e,ex⟩
    .obtain⟨_,_,_,_,o,_,_,e,ex,_⟩:=I.hok p _ hk;exact⟨o,e,ex⟩
   obtain⟨o,e,ex⟩:=z;refine⟨⟨o,e,ex.1⟩,λa e2=>?_⟩;cases e2;exact⟨o,e,ex.2.1⟩
  .obtain⟨o,_,_,_,e,ex,_⟩:=I.hok p _ hk;refine⟨⟨o,e,ex.1⟩,λa e2=>?_⟩;cases e2;exact⟨o,e,ex.2.1⟩
 | _=>exact False.elim ty
def tBM(K:Fgg)(T:String)(r:V->List V->Hp->VK->Prop)(to:TE)(t:TA):TE:=λU H Q=>to U H λx H1=>tyV K T x H1/\t U H1 λxs H2=>r x xs H2 Q
variable {o e:Expr}{es:List Expr}{to:TE}{t:TA}{name:Str}{apos cpos:Pos}{T id:String}{r:V->List V->Hp->VK->Prop}
def QnE(pa:PlainAttrs T)(slot:Slot T name id)(hty:typeOf (.builtin id)=pure (.type "method_descriptor"))(hm:MtR X id r)(ho:PE X o to)(ha:PA X (e::es) t)
  (hbase:attributeBase o name X.env (eval o X.env)=eval o X.env:=by rfl)
  (hfew:((backTo cpos (starEach (e::es) X.env)).all (λx=> !x.1) && (backToKw cpos (keywordEach [] X.env)).all (λx=>x.1.isSome)
   && decide ((e::es).length+([]:List Keyword).length+(if([]:List Keyword).isEmpty then 0 else 1)<30))=true:=by rfl)
  (hline:(apos.endLine == cpos.line)=true:=by rfl) (hs:starEach (e::es) X.env=(false,eval e X.env)::starEach es X.env:=by rfl) (hplain:(backTo cpos (starEach es X.env)).any (·.1)=false:=by rfl):
  PE X (.Call (.Attribute o name apos) (e::es) [] cpos) (tBM X.K T r to t):=by
 intro pins s U H Q I h;refine wpAny_Call_method_late hbase hfew hline rfl (thn (ho pins s U H _ I h) λv s1 Z=>?_);obtain⟨x,H1,I1,r1,ty,q1⟩:=Z;obtain⟨h1,h2⟩:=QCf I1 r1 ty;refine⟨T,id,pa,slot,hty,h1,h2,?_⟩;have hA:=ha cpos pins s1 U H1 _ I1 q1;rw[hs]at hA ⊢;refine Calls.callWith_builtin (by show(false || (backTo cpos (starEach es X.env)).any (·.1))=false;rw[hplain]<;>rfl) (Calls.evalArgs_plain ?_);exact thn hA λus s2 ⟨vs,H2,I2,r2,q2⟩=>hm pins s2 U H2 x vs v us Q I2 r1 r2 q2
end
def MtM(X:Cx)(id:String)(r:V->List V->Hp->VK->Prop):Prop:=
 ∀(pins:List (Addr×Obj)) (s:Shared) (U:St) (H:Hp) (x:V) (xs:List V) (v:Value) (us:List Value) (Q:VK),Inv X pins U H s->RelV x v->Qt xs us->r x xs H Q→
  wpAny (model X.prog X.w) X.A (call (.builtin id) (v::us)) (EP X pins U Q) X.xe s
def Qt.one{x:V}{us:List Value}(r:Qt [x] us):∃u,us=[u]/\RelV x u:=vals1 r
def Qt.zero:∀{us:List Value},Qt [] us->us=[]
 | _,.nil=>rfl
def Qt.rep{xs:List V}{us:List Value}(h:Qt xs us):∀k:Nat,Qt (List.replicate k xs).flatten (List.replicate k us).flatten
 | 0=> .nil
 | k+1=>by
  rw[ZW,ZW,Zab,Zab];exact Qt.append h (Qt.rep h k)
def foldl_rep(its:List Value):∀(k:Nat) (acc:List Value),
  List.foldl (λx1 x2=>x1++x2) acc.toArray (List.replicate k its.toArray)=(acc++(List.replicate k its).flatten).toArray
 | 0,acc=>by simp
 | k+1,acc=>by
  have e:acc.toArray++its.toArray=(acc++its).toArray:= ⋯
  have e2:(acc++its)++(List.replicate k its).flatten=acc++(List.replicate (k+1) its).flatten:=by
   rw[ZW,Zab,ZaA]
  rw[← e2,← foldl_rep its k (acc++its),← e,ZW,List.foldl_cons]
section
variable {X:Cx}{pins:List (Addr×Obj)}{U:St}{H:Hp}{s:Shared}{l b:Addr}{xs ys zs:List V}
def Inv.QBE{its its':List Value}{n:Nat}{f:Array Value->Array Value}{t':Nat}(I:Inv X pins U H s)(hH:H l=some (.lst xs))
  (e:s.heap.get? l=some {cls:= .type "list",data:= .seq its.toArray n}) (hf:f its.toArray=its'.toArray) (hv:Qt ys its') (hz:ys.length<=sizeLine):
  Inv X pins U (upd H l (.lst ys)) {s with heap:=s.heap.update l (Obj.mapSeq f),toks:=t'}:=by
 have q:=PySem.IsL.update e f;rw[hf]at q;refine I.write (x:=l) (e:=l) (by rw[hH];exact trivial) (.inl rfl) (λb' u hb hu=>(Zaw s.heap (Obj.mapSeq f) (Ne.symm hb)).trans hu) ⟨_,q⟩ ?_;exact⟨hz,its',_,hv,q⟩
def Inv.QBT{its:List Value}{t':Nat}(I:Inv X pins U H s)(hv:Qt ys its)(hz:ys.length<=sizeLine):
  Inv X pins U (upd H s.heap.objs.size (.lst ys)) {s with heap:=s.heap.push {cls:= .type "list",data:= .seq its.toArray},toks:=t'}:=
 I.laid (λ_ _ q=>Zd _ q) (Zi _) ⟨hz,its,0,hv,Zq _ rfl⟩
def Inv.fresh(I:Inv X pins U H s):H s.heap.objs.size=none:=I.hok.fresh (Zi _)
def Inv.Qwp(I:Inv X pins U H s)(hH:H l=some (.lst xs)):xs.length<=sizeLine/\∃(its:List Value) (n:Nat),Qt xs its/\xs.length=its.length/\s.heap.get? l=some {cls:= .type "list",data:= .seq its.toArray n}:=by
 obtain⟨z,its,n,r,e⟩:=I.hok l _ hH;exact⟨z,its,n,r,r.length,e⟩
def QpE{n:Nat}(h:n<=sizeLine):Builtin.List.listTooLong n=false:=by
 unfold Builtin.List.listTooLong;exact decide_eq_false ⋯
end
section
variable {X:Cx}
def Qqn:V->List V->Hp->VK->Prop:=λx vs H Q=>∃l xs y,x= .ref l/\vs=[y]/\H l=some (.lst xs)/\xs.length<sizeLine/\Q .non (upd H l (.lst (xs++[y])))
def QiO:MtM X "list.append" Qqn:=by
 intro pins s U H x vs v us Q I rx rv h;obtain⟨l,xs,y,rfl,rfl,hH,hz,q⟩:=h;cases rx;obtain⟨u,rfl,ru⟩:=rv.one;obtain⟨z,its,n,r,hl,e⟩:=I.Qwp hH;refine call_meets F.slot_list_append ⟨_,e,rfl⟩ F.entry_list_append (F.args_list_append_2 _ _) (PySem.list_append l its.toArray n u (by rw[Zu];lia)) ⟨e,?_⟩;refine⟨.non,_,I.QBE (its':=its++[u]) hH e ⋯ (r.append (.cons ru .nil)) ?_,rfl,q⟩;rw[Zl,Zay];lia
def len_rep{α:Type}(xs:List α)(k:Nat):(List.replicate k xs).flatten.length=k*xs.length:=by
 induction k with
 | zero=>simp
 | succ k ih=>rw[ZW,Zab,Zl,ih,Nat.succ_mul,Nat.add_comm]
end
section
variable {prog:Program}{w:World}{A:Around}{E:Value->Shared->Prop}{s:Shared}
end
section
variable {X:Cx}
end
end L2
namespace Att
open PySem PySem.W PySem.Calls PyProof.Rows
def QlO{P:Params}{h:Heap}:∀(ns:List Int) (vs:List Value),WellAll P h vs (ns.map WData.int)->IntsAre vs ns:=by
 intro ns
 induction ns with
 | nil=>
  intro vs w;rw[ZaV]at w;cases w;exact .nil
 | cons n ns ih=>
  intro vs w;rw[Zz]at w;cases w with
  | cons a b=>
   cases a;exact .cons _ _ (ih _ b)
def Qsz{l:OpenLaw}{n:Nat}(hn:l.most=some n){P:Params}{h:Heap}{args:List WData}{vals:List Value}
  (hpre:l.row.toRowW.claim.pre args=true) (hwl:WellAll P h vals args):
  ∃a vs ns,vals=[Value.ref a]/\args=[WData.list (ns.map WData.int)]/\h.get? a=some {cls:= .type "list",data:= .seq vs.toArray}/\IntsAre vs ns/\ns.length<=n:=by
 have hsh:WShape.hasAll [] args [.list .int]=true:=(pre_splitW hpre).1;have hc:l.pre.holds [] {args:=args}=true:=(pre_splitW hpre).2;obtain⟨d,r,rfl,h1,h2⟩:=hasAllW_cons hsh;obtain rfl:=hasAllW_nil h2;obtain⟨xs,rfl,h3⟩:=hasW_list h1;obtain⟨ns,rfl⟩:=items_int h3;have hlen:ns.length<=n:=by
  unfold OpenLaw.pre at hc;have h4:(WTm.not (.lt (.lit (.int (n:Int))) (.len (.arg 0)))).holds [] {args:=[.list (ns.map .int)]}=true:=by
   have h4:=(holds_andW hc).1;rw[hn]at h4;exact h4
  have h5:=condW_of h4 (w_not (w_lt w_lit (w_len_list (w_arg rfl))));rw[Zt]at h5;refine Nat.le_of_not_lt λq=>?_;have q':(n:Int)<((ns.length:Nat):Int):= ⋯
  first
   | (rw[decide_eq_true q']at h5;exact absurd h5 ∅)
   | (simp at h5;lia)
 cases hwl with
 | cons w1 w2=>
  cases w2;cases w1 with
  | list ho hall=>exact⟨_,_,ns,rfl,rfl,ho,QlO ns _ hall,hlen⟩
def QuA(l:OpenLaw)(args:List WData):l.row.toRowW.claim.post args (.bool true) args=true:=
 postW_of (r:=l.row.toRowW) (X:=(true == true))
  (show WShape.has [] (.bool true) .bool=true by first | rfl | decide | simp[WShape.has,WShape.arms,WShape.armsAll])
  (show(WTm.eq .res (.lit (.bool true))).value [] {args:=args,res:=some (.bool true),after:=args}=some (.bool (true == true))from w_eq_bool (w_res rfl) w_lit) rfl
def QpY{l:OpenLaw}{n:Nat}{q:Program}{loose:List Str}{XP:(Str->Option Value)->Heap->Prop}{YP:World->Heap->Prop}{d:DefRec}
  (hn:l.most=some n) (hdf:d.params.defaults=[])
  (call:∀(w:World) (s₀ s₁:Shared) (mg mb:Str->Option Value) (fa:Addr) (o:Obj) (pm cd doc:Value) (a:Addr) (vs:List Value) (ns:List Int),
   Ground q loose [] XP w s₀ mg mb s₁.heap->YP w s₁.heap→
   s₁.heap.get? fa=some o->o.data= .func (docDef d.name d.params d.body d.scope pm cd doc)->s₁.heap.CodeRec cd d.name->mg d.name=some (.ref fa)→
   s₁.heap.get? a=some {cls:= .type "list",data:= .seq vs.toArray}->IntsAre vs ns->ns.length<=n->s₁.gens= #[]→
   codeAny (model l.prog w) callerA (.call (.ref fa) ⟨[.ref a],[]⟩) (λr s'=>r= .ok (.ret (.bool true))/\OldK s₁.heap s'.heap/\s'.os=s₁.os/\AllBare s'.gens) s₁):
  WalkO q loose XP YP l.row.toRowW d [] (λf vs=>PySem.call f vs):=by
 intro w s₀ s₁ mg mb G Y fa o pm cd doc dV kV ho hd hcd hD hmg hg args vals as hpre hlay hrd hwl hlo;obtain rfl:dV= .none:=Dflts.none hD hdf;obtain rfl:kV= .none:=Dflts.noKw hD;obtain⟨a,vs,ns,rfl,rfl,hobj,hints,hlen⟩:=Qsz hn hpre hwl;refine enter_call (codeAny_mono (call w s₀ s₁ mg mb fa o pm cd doc a vs ns G Y ho (fd_plain hd) hcd hmg hobj hints hlen hg) λr s' hq=>?_);obtain⟨rfl,h2,h3,h4⟩:=hq;exact⟨.inl ⟨.bool true,.bool true,[],rfl,λ_=>rfl,.bool true,QuA l _,λ_=>⟨List.Pairwise.nil,λ_ hm=>(nomatch hm)⟩⟩,h2,h3,h4⟩
section
variable {prog:Program}{w:World}{A:Around}{E:Value->Shared->Prop}{s:Shared}{K:Frag}
end
end Att
namespace L2
open PySem PySem.Spec PyProof.Rows
def QcY:∀{vs:List Value}{ns:List Int},IntsAre vs ns->Qt (ns.map V.int) vs
 | _,_,.nil=> .nil
 | _,_,.cons n t h=> .cons ⟨t,rfl⟩ (QcY h)
def QBo(H:Hp):Prop:=∀b,H b=none∨∃o xs,H b=some (.frz o (.lst xs))
def Qwm{P:Program}{w:World}{K:Fgg}{mg mb:Str->Option Value}{CX:CXT}{k:Nat}{fa a:Addr}{fd:FuncData}{x:Str}{sp:Sp}{s₁:Shared}{vs:List Value}{ns:List Int}
  (KX:K.In s₁.heap) (hns:s₁.heap.Ns mainGlobals mg) (hb:s₁.heap.Ns builtinsNs mb) (hbb:∀x:Str,x≠ "__name__" ->mb x=bootBuiltins x) (hlim:s₁.heap.NoLimit) (hg:s₁.gens= #[])
  (ha:s₁.heap.get? a=some {cls:= .type "list",data:= .seq vs.toArray}) (hi:IntsAre vs ns) (hl:ns.length<=sizeLine) (hr:Q3 k callerA)
  (F:∀base:Heap,K.In base->base.Ns mainGlobals mg->Qag P w K mg base CX k fa fd [x] sp) (hbind:∀(s:Shared) (u:Value),BindsTo s fd ⟨[u],[]⟩ [(x,u)])
  (hsp:∀H:Hp,QBo H->SqL K H a (ns.map V.int)->sp [.ref a] H (λv _=>v= .bl true) λ_ _ _=>False)
  (hCX:∀H e s',CX [] H s₁ (λ_ _ _=>False) e s'->False):
  codeAny (model P w) callerA (.call (.ref fa) ⟨[.ref a],[]⟩) (λr s'=>r= .ok (.ret (.bool true))/\OldK s₁.heap s'.heap/\s'.os=s₁.os/\AllBare s'.gens) s₁:=by
 have rv:=QcY hi;have lenV:=hi.length
 have core:∀H:Hp,QBo H->SqL K H a (ns.map V.int)->HOk P w H s₁.heap->(∀b,H b≠none->b=a)->(H a≠none->K.lookup a=none)→
   codeAny (model P w) callerA (.call (.ref fa) ⟨[.ref a],[]⟩) (λr s'=>r= .ok (.ret (.bool true))/\OldK s₁.heap s'.heap/\s'.os=s₁.os/\AllBare s'.gens) s₁:=by
  intro H hO hS hok hA hK;have base_of:∀{b:Addr}{o:Obj},s₁.heap.get? b=some o->H b=none->(QhW s₁.heap H).get? b=some o:=λe n=>Qwk e n;have noA:∀{b:Addr}{o:Obj}{es:Array DictEntry}{ep:Nat},s₁.heap.get? b=some o->o.data= .dict es ep->H b=none:=λ{b o es ep} e d=>by
   cases q:H b with
   | none=>rfl
   | some u=>
    have e':b=a:=hA b (by rw[q];simp);subst e';rw[ha]at e;cases e;have d':Data.seq vs.toArray _=Data.dict es ep:=d;cases d'
  have nsK:∀{b:Addr}{m:Str->Option Value},s₁.heap.Ns b m->(QhW s₁.heap H).Ns b m:=λ{b m} ⟨o,es,ep,e,d,r⟩=>⟨o,es,ep,base_of e (noA e d),d,r⟩;have hKb:K.In (QhW s₁.heap H):=λb o e=>base_of (KX b o e) (by
   cases q:H b with
   | none=>rfl
   | some u=>
    have e':b=a:=hA b (by rw[q];simp);subst e';rw[hK (by rw[q];simp)]at e;cases e)
  have hM:Mod K mg (QhW s₁.heap H):=⟨hKb,nsK hns,⟨mb,nsK hb,hbb⟩,let ⟨mc,h1,h2⟩:=hlim;⟨mc,nsK h1,h2⟩⟩;have e0:QiU P w K mg (QhW s₁.heap H) callerA [] s₁ H:=⟨rfl,hM,λb o e=>Qya e,Nat.le_of_eq (Qub _ _),trivial,λb hb=>absurd (show b∈([]:LAd)from hb) ⋯,hok,.of_eq hg⟩;refine codeAny_mono ((F _ hKb (nsK hns)).run callerA [] s₁ H ⟨[.ref a],[]⟩ [.ref a] [.ref a] _ _ hr e0 (hbind s₁ (.ref a)) (.cons rfl .nil) (hsp H hO hS)) λr s' h=>?_;cases r with
  | error e=>exact(hCX H e s' h).elim
  | ok fl=>
   cases fl with
   | next=>exact False.elim h
   | brk=>exact False.elim h
   | cont=>exact False.elim h
   | ret u=>
    obtain⟨v,H',os,bare,un,hok',r',q⟩:=h;have q':v= .bl true:=q;subst q';obtain rfl:u=Value.bool true:=r';refine⟨rfl,OldK.of_keep λb o e=>?_,os,bare⟩;cases q:H b with
    | none=>exact un.keep b o e q (by intro z;exact absurd (show b∈([]:LAd)from z) ⋯) ⋯
    | some u=>
     rcases hO b with z | ⟨ob,xs,z⟩
     .rw[q]at z;cases z
     .have z2:=un.frzs b ob _ z;obtain⟨e1,_⟩:=hok b _ z;obtain⟨e2,_⟩:=hok' b _ z2;rw[e]at e1;cases e1;exact e2
 cases hk:K.lookup a with
 | some o=>
  have e:=KX a o hk;rw[ha]at e;cases e;refine core (λ_=>none) (λ_=> .inl rfl) (.inr ⟨_,vs.toArray,_,hk,rfl,rfl,rfl,by rw[Zu,lenV];exact hl,by simpa using rv⟩) (λb u z=>by have z':(none:Option HO)=some u:=z;cases z') (λb z=>absurd rfl z) λz=>absurd rfl z
 | none=>
  refine core (λb=>if b=a then some (.frz {cls:= .type "list",data:= .seq vs.toArray} (.lst (ns.map V.int)))else none) (λb=>?_) (.inl (.inr ⟨{cls:= .type "list",data:= .seq vs.toArray},if_pos rfl⟩)) (λb u z=>?_) (λb z=>?_) λ_=>hk
  .by_cases hb:b=a
   .exact .inr ⟨_,_,if_pos hb⟩
   .exact .inl (if_neg hb)
  .by_cases hb:b=a
   .have z':=(if_pos hb).symm.trans z;cases z';subst hb;exact⟨ha,by rw[Zt];exact hl,vs,_,rv,ha⟩
   .have z':=(if_neg hb).symm.trans z;cases z'
  .by_cases hb:b=a
   .exact hb
   .exact absurd (if_neg hb) z
noncomputable abbrev KOf{K:Fgg}{h:Heap}(_:K.In h):PySem.W.Frag:=K
noncomputable def inClass(s:Stmt)(j:Nat):Stmt:=match s with
 | .ClassDef _ _ _ body _ _ _ _ _ _ _=>body.getD j (.Pass ⟨0,0,0,0⟩)
 | _=> .Pass ⟨0,0,0,0⟩
noncomputable def QaQ(s:Stmt):Arguments:=match s with
 | .FunctionDef _ a _ _ _ _ _ _ _ _=>a
 | _=>{posonlyargs:=[],args:=[],vararg:=none,kwonlyargs:=[],kw_defaults:=[],kwarg:=none,defaults:=[]}
noncomputable def Qx(s:Stmt):List Stmt:=match s with
 | .FunctionDef _ _ b _ _ _ _ _ _ _=>b
 | _=>[]
noncomputable def Qd(s:Stmt):Scope:=match s with
 | .FunctionDef _ _ _ _ _ _ sc _ _ _=>sc
 | _=>{kind:= .function,names:=[],isGenerator:=false,isCoroutine:=false}
abbrev CX0:CXT:=λ_ _ _ _ _ _=>False
abbrev E0:XK:=λ_ _ _=>False
def QjK{X:Cx}:QfX CX0 X E0:=λ_ _ _ _ _ _ _ h=>h.elim
structure Fun (K:Fgg) (x qual:Str) (st:Stmt) (f:Addr) (fd:FuncData):Prop where
 ex:∃(oc:Value) (od:Option Addr) (kV doc pm:Value) (an:Option Addr) (cdv ct:Value) (osl:Array (Option Value)),
  fd=PySem.W.fnOf x qual (QaQ st) (Qx st) (Qd st) .none kV doc pm an cdv ct/\K.lookup f=some ⟨oc,od,.func fd,osl⟩/\PySem.W.codeIn K cdv qual=true
 kp:PySem.W.keepIn K (.ref f)=true
section
variable {P:Program}{w:World}{K:Fgg}{mg:Str->Option Value}{base:Heap}
def Fun.ok{x qual:Str}{st:Stmt}{f:Addr}{fd:FuncData}{N ps:List Str}{k:Nat}{sp:Sp}(F:Fun K x qual st f fd)(S:QZ N ps (Qd st))(len:∀vs H Q E,sp vs H Q E->vs.length=ps.length)
  (hbody:∀(cdv:Value) (A:Around) (outer:List Env) (s:Shared) (H:Hp) (vs:List V) (Q:VK) (E:XK),Q3 k (A.deeper (envOfC qual (Qd st) s.heap.objs.size f cdv))->sp vs H Q E→
   ∃t,PSs (Qbv CX0 P w K mg base N qual (Qd st) f cdv A outer s H E).nox (Qx st) t/\t {nx:=λ_ H'=>Q .non H',rt:=Q} (start N vs) H):Qag P w K mg base CX0 (k+1) f fd ps sp:=by
 obtain⟨oc,od,kV,doc,pm,an,cdv,ct,osl,rfl,lk,hcd⟩:=F.ex;refine QlK lk hcd S len λA outer s H vs Q E hr hsp=>?_;obtain⟨t,h,q⟩:=hbody cdv A outer s H vs Q E hr hsp;exact⟨t,h.nox,q⟩
def Fun.binds{x qual:Str}{st:Stmt}{f:Addr}{fd:FuncData}{ps:List Str}(F:Fun K x qual st f fd)
  (h:∀(kV doc pm:Value) (an:Option Addr) (cdv ct:Value) (us:List Value),us.length=ps.length->bindArgs (PySem.W.fnOf x qual (QaQ st) (Qx st) (Qd st) .none kV doc pm an cdv ct) ⟨us,[]⟩=pure (ps.zip us)):Binds K fd ps []:=by
 obtain⟨oc,od,kV,doc,pm,an,cdv,ct,osl,rfl,lk,hcd⟩:=F.ex;exact .all (h kV doc pm an cdv ct)
def QsP{x qual:Str}{st:Stmt}{f:Addr}{oc:Value}{od an:Option Addr}{osl:Array (Option Value)}{kV doc pm cdv ct:Value}(l:K.lookup f=some ⟨oc,od,.func (PySem.W.fnOf x qual (QaQ st) (Qx st) (Qd st) .none kV doc pm an cdv ct),osl⟩)
  (c:PySem.W.codeIn K cdv qual=true) (k:PySem.W.keepIn K (.ref f)=true):Fun K x qual st f (PySem.W.fnOf x qual (QaQ st) (Qx st) (Qd st) .none kV doc pm an cdv ct):=⟨⟨oc,od,kV,doc,pm,an,cdv,ct,osl,rfl,l,c⟩,k⟩
end
section
variable {X:Cx}
end
def Qrw{A B:Prop}(h:B):if false=true then A else B:=by
 rw[if_neg ZJ];exact h
def QrM{A B:Prop}(h:A):if true=true then A else B:=by
 rw[if_pos rfl];exact h
def Qs(H H':Hp):Prop:=∀b o,H b=some o->H' b=some o
def Qs.refl(H:Hp):Qs H H:=λ_ _ h=>h
def Qs.trans{H H1 H2:Hp}(a:Qs H H1)(b:Qs H1 H2):Qs H H2:=λc o h=>b c o (a c o h)
def Qs.free{H H':Hp}(e:Qs H H'){l:Addr}(h:H' l=Option.none):H l=Option.none:=by
 cases q:H l with
 | none=>rfl
 | some o=>
  rw[e l o q]at h;cases h
section
variable {κ:Type} [DecidableEq κ]
noncomputable def Qji(kvs:List (κ×V))(k:κ):Option V:=(kvs.find? λkv=>decide (kv.1=k)).map (·.2)
def Qn7{p:κ×V}{r:List (κ×V)}{k:κ}(e:p.1=k):Qji (p::r) k=some p.2:=by simp[Qji,List.find?_cons,e]
def Qob{p:κ×V}{r:List (κ×V)}{k:κ}(e:¬p.1=k):Qji (p::r) k=Qji r k:=by simp[Qji,List.find?_cons,e]
def Qev.Quo{o:Option V}{u:Option Value}(r:Qev o u):o.isSome=u.isSome:=by
 cases o with
 | none=>cases u with
  | none=>rfl
  | some _=>exact(show False from r).elim
 | some _=>cases u with
  | none=>exact(show False from r).elim
  | some _=>rfl
def KV.val{kvs:List (κ×V)}{vs:List (κ×Value)}(r:KV kvs vs)(k:κ):Qev (Qji kvs k) (valueAt vs k):=by
 unfold KV at r
 induction r with
 | nil=>exact True.intro
 | @cons p q ps qs h t ih=>
  obtain⟨h1,h2⟩:=h;by_cases e:p.1=k
  .have e':q.1=k:=h1.symm.trans e;have b:valueAt (q::qs) k=some q.2:=by simp[valueAt,List.find?_cons,e']
   rw[Qn7 e,b];exact h2
  .have e':¬q.1=k:=λz=>e (h1.trans z);have b:valueAt (q::qs) k=valueAt qs k:=by simp[valueAt,List.find?_cons,e']
   rw[Qob e,b];exact ih
end
def QwX{P:Program}{w:World}{k:Key}{u:Value}(r:RelV (kV k) u):(Qdl P w).is k u=true:=by
 cases k with
 | inl i=>obtain⟨t,e⟩:=(show ∃t,u=Value.int i t from r);subst e;exact Qp2 P w i t
 | inr x=>obtain⟨t,e⟩:=(show ∃t,u=Value.str x t from r);subst e;exact Qqb P w x t
section
variable {P:Program}{w:World}{H:Hp}{h:Heap}{a:Addr}
def QCZ{u:HO}(ok:HOk P w H h)(e:Rd H a u):Qa7 P w H h a u:=e.ok ok
def QDI{kvs:List (Key×V)}(ok:HOk P w H h)(e:Rd H a (.dK kvs)):kvs.length<=sizeLine/\(a == sysModules)=false/\∃vs,KV kvs vs/\h.DictOf (Qdl P w) a vs:=
 show Qa7 P w H h a (.dK kvs)from QCZ ok e
def QDw{kvs:List (Key×V)}(ok:HOk P w H h)(e:H a=some (.dK kvs)):kvs.length<=sizeLine/\(a == sysModules)=false/\∃vs,KV kvs vs/\h.DictOf (Qdl P w) a vs:=QDI ok (.inl e)
end
section
variable {X:Cx}{pins:List (Addr×Obj)}{U:St}{H:Hp}{s:Shared}{a:Addr}{y v:V}{u r:Value}{o:Option V}{A:Around}{E:Value->Shared->Prop}
def Inv.big(I:Inv X pins U H s):sysModules<s.heap.objs.size:=by
 have h:mainGlobals<s.heap.objs.size:=(I.mod.glob.keeps I.bk).lt;exact Nat.lt_trans ∅ h
end
section
variable {X:Cx}{pins:List (Addr×Obj)}{U:St}{H:Hp}{s:Shared}{a:Addr}{kvs:List (Key×V)}{k:Key}{u:Value}{A:Around}{E:Value->Shared->Prop}
end
def QEP(i:Expr):Prop:=∀ov iv,subscripted i false ov iv=operate [ov,iv] (getItem ov iv)
def Qxx{prog:Program}{w:World}{A:Around}{E:Value->Shared->Prop}{s:Shared}{env:Env}{value slice:Expr}{pos:Pos}{T id:String}{Q:Value->Shared->Prop}
  (hl:typeLookup (.type T) "__getitem__" =pure (some (.builtin id))) (hs:QEP slice)
  (h:wpAny (model prog w) A (eval value env) (λo s₁=>wpAny (model prog w) A (eval slice env) (λi s₂=>s₂.TypeIs o T/\wpAny (model prog w) A (getItem o i) Q E s₂) E s₁) E s):
  wpAny (model prog w) A (eval (.Subscript value slice pos) env) Q E s:=by
 refine Subscript_ (wpAny_mono h (λo s₁ h₁=>wpAny_mono h₁ (λi s₂ h₂=>?_) λ_ _ x=>x) λ_ _ x=>x);obtain⟨hT,h₂⟩:=h₂;unfold subscriptTail;refine wpAny_bind ?_;rw[getitemInPython_of_ne hT.not_modules];refine wpAny_bind (wpAny_specialOf hT hl ?_);have fin:wpAny (model prog w) A (subscripted slice false o i) (λr s₃=>wpAny (model prog w) A (letTemporaryGo value o r >>= λ_=>pure r) Q E s₃) E s₂:=by
  rw[hs o i];exact wpAny_operating (wpAny_mono h₂ (λr s₃ h₃=>wpAny_bind (wpAny_letTemporaryGo (wpAny_pure h₃))) λ_ _ x=>x)
 first
  | exact wpAny_pure (wpAny_bind fin)
  | exact wpAny_bind (wpAny_pure (wpAny_bind fin))
  | exact wpAny_bind fin
section
variable {X:Cx}{o i e value:Expr}{pos pos' tpos:Pos}{td ty tv:TE}
end
def QuZ{P:Program}{w:World}{H:Hp}(h:Heap)(hb:sysModules<h.objs.size):Qa7 P w H (h.push {cls:= .type "dict",data:= .dict #[]}) h.objs.size (.dK []):=
 ⟨ZK _,beq_eq_false_iff_ne.mpr (Ne.symm (ZC hb)),[],.nil,Heap.DictOf.new h⟩
def QCC:TE:=λ_ H Q=>∀p,H p=none->Q (.ref p) (upd H p (.dK []))
section
variable {X:Cx}{pos:Pos}
def Qvf:PE X (.Dict [] [] pos) QCC:=λpins s U H Q I h=>
 wpAny_Dict_empty ⟨.ref s.heap.objs.size,_,I.laid (a:=s.heap.objs.size) (o:= .dK []) (t':=s.toks) (λ_ _ q=>Zd _ q) (Zi _) (QuZ s.heap I.big),rfl,h _ (I.hok.fresh (Zi _))⟩
end
end L2
namespace HS
open PySem PySem.Spec L2 PyProof.Rows
noncomputable def Itx(x:Str):It:=⟨λi _=>i<x.cps.size,λi H v H'=>H'=H/\∃c,x.cps[i]? =some c/\v= .str ⟨#[c]⟩,λi _=>i=x.cps.size⟩
def QvW{P:Program}{w:World}{K:Fgg}{tg:Expr}{it:Addr}{x:Str}{t:Tok}{T:String}(hW:∀A':Around,A'.handled=none->Walks P w A' it [it] [it] x.cps.size (SignAt x) (λi h=>h.IsStrIter it T x t i))
  (hT:["enumerate","zip","dict_itemiterator","dict_reverseitemiterator","odict_iterator","itertools.zip_longest","itertools.pairwise"].contains T=false)
  (hS:∀(A:Around) (i:Nat) (s:Shared) (Q:Value->Shared->Prop) (E:Value->Shared->Prop),s.heap.IsStrIter it T x t i->Q (.ref it) s->wpAny (model P w) A (pyIter (.ref it)) Q E s):Turn P w K tg (Itx x) [it] it (λi h=>h.IsStrIter it T x t i) where
 mem:= ⋯
 obj:=λi h st b hb=>by
  have e:b=it:=by simpa using hb
  subst e;obtain⟨o,e,c,d⟩:=st;exact⟨o,e,λv z=>by rw[d]at z;cases z⟩
 keep:=λi h h' st k=>let ⟨o,e,r⟩:=st;⟨o,k it ⋯ o e,r⟩
 item:=by
  intro X hP hw hK hc i pins s U H E I hf st hg;subst hP hw hK;obtain⟨f0,f1,f2,f3,f4,f5⟩:=hf it ⋯;refine(hW X.A (I.ok.hd hc)).item i s _ _ hg st λv h' tk hv st' kk=>?_;obtain⟨c,u,hcx,rfl⟩:=hv;have I1:Inv X pins U H {s with heap:=h',toks:=tk}:=I.turned (λb o hb e=>kk b o (by simpa using hb) e) f0 f1 f3 f4 f5;obtain⟨o,e,c',d⟩:=id st';exact⟨_,rfl,QnQ (s:={s with heap:=h',toks:=tk}) (n:=T) e c' d hT ⟨.str ⟨#[c]⟩,H,I1,⟨u,rfl⟩,⟨rfl,c,hcx,rfl⟩,st',λb hb=>(hf b hb).1⟩⟩
 done:=by
  intro X hP hw hK hc i pins s U H E I hf st hg;subst hP hw hK;obtain⟨f0,f1,f2,f3,f4,f5⟩:=hf it ⋯;have hg:i=x.cps.size:=hg;subst hg;exact(hW X.A (I.ok.hd hc)).done s _ _ st λh' tk kk=>⟨rfl,I.turned (λb o hb e=>kk b o (by simpa using hb) e) f0 f1 f3 f4 f5⟩
 self:=λA i s Q E st h=>hS A i s Q E st h
def QEM(tl:TE):TI:=λU H R=>tl U H λx H1=>∃y,x= .str y/\R (Itx y) H1
def QA5{X:Cx}{tg l:Expr}{tl:TE}(hl:PE X l tl):PI X tg l (QEM tl):=by
 intro pins s U H R I h;refine thn (hl pins s U H _ I h) λv s1=>exJ λx H1 I1 r1 q1=>?_;obtain⟨y,e,q⟩:=q1;subst e;obtain⟨t,rfl⟩:=(show ∃t,v=Value.str y t from r1)
 have fin:∀(o:Obj) (T:String),(∀A':Around,A'.handled=none->Walks X.prog X.w A' s1.heap.objs.size [s1.heap.objs.size] [s1.heap.objs.size] y.cps.size (SignAt y) (λi h=>h.IsStrIter s1.heap.objs.size T y t i))->["enumerate","zip","dict_itemiterator","dict_reverseitemiterator","odict_iterator","itertools.zip_longest","itertools.pairwise"].contains T=false→
   (∀(A:Around) (i:Nat) (s:Shared) (Q:Value->Shared->Prop) (E:Value->Shared->Prop),s.heap.IsStrIter s1.heap.objs.size T y t i->Q (.ref s1.heap.objs.size) s->wpAny (model X.prog X.w) A (pyIter (.ref s1.heap.objs.size)) Q E s)→
   (s1.heap.push o).IsStrIter s1.heap.objs.size T y t 0->PIE X pins U tg R (.ref s1.heap.objs.size) {s1 with heap:=s1.heap.push o}:=λo T hW hT hS h0=>by
  refine⟨s1.heap.objs.size,[s1.heap.objs.size],_,_,H1,rfl,I1.kept (t':=s1.toks) λb o e=>Zd _ e,QvW hW hT hS,h0,λb hb=>?_,q⟩;have e:b=s1.heap.objs.size:=by simpa using hb
  subst e;exact I1.QkI (Zi _) (I1.hok.fresh (Zi _))
 cases ha:y.cps.all (· <128)
 .exact wpAny_pyIter_wide ha (fin _ _ (λA' hA=>Walks.strWide hA _ y t) ∅ (λA i s Q E st h=>wpAny_pyIter_striter_wide st h) ⟨_,Zq _ rfl,rfl,rfl⟩)
 .exact wpAny_pyIter_ascii ha (fin _ _ (λA' hA=>Walks.strAscii hA _ y t) ∅ (λA i s Q E st h=>wpAny_pyIter_striter_ascii st h) ⟨_,Zq _ rfl,rfl,rfl⟩)
section
variable {X:Cx}
def QxH{e:Expr}{t u:TE}(h1:PE X e t)(h2:PE X e u):PE X e (λU H Q=>t U H Q∨u U H Q):=λpins s U H Q I q=>q.elim (h1 pins s U H Q I) (h2 pins s U H Q I)
def QoO{v:Value}{o:Option Int}(h:IsPart v o):∃l:Option (Int×Tok),v=partValue l/\o=l.map (·.1):=by
 cases h with
 | none=>exact⟨none,rfl,rfl⟩
 | int i t=>exact⟨some (i,t),rfl,rfl⟩
def QAy:SlR X (λx lo hi H Q=>∃z,x= .str z/\z.length<=sizeLine/\Q (.str (Txt.slice z lo hi)) H):=by
 intro pins s U H x v vl vu lo hi sl Q I rx hs pl pu q;obtain⟨z,rfl,hz,q⟩:=q;obtain⟨t,rfl⟩:=(show ∃t,v=Value.str z t from rx);obtain⟨l,rfl,rfl⟩:=QoO pl;obtain⟨u,rfl,rfl⟩:=QoO pu;obtain⟨o,ho,hc,hd⟩:=hs;exact⟨"str",_,F.slot_str_getitem.lookup,typeIs_str _ _ _,wpAny_getItem_str_slice (l:=l) (u:=u) (st:=none) ⟨o,ho,hc,hd⟩ rfl (post_val_or_str ⟨Zy (Txt.slice_le z _ _) hz,λt' k=>⟨.str _,H,I.tok _,⟨t',rfl⟩,q⟩⟩)⟩
def Qjk:∀l:List (Str×Tok),Qt (l.map λp=>V.str p.1) (strValues l)
 | []=> .nil
 | p::l=> .cons ⟨p.2,rfl⟩ (Qjk l)
def Qni:∀{ts:List Str}{its:List Value},Qt (ts.map V.str) its->∃l:List (Str×Tok),its=strValues l/\l.map (·.1)=ts
 | [],its,h=>by cases h;exact⟨[],rfl,rfl⟩
 | t::ts,its,h=>by
  cases h with
  | cons r h=>
   obtain⟨l,rfl,e⟩:=Qni h;obtain⟨k,rfl⟩:=r;exact⟨(t,k)::l,rfl,by rw[Zz,e]⟩
def Qtz:MtR X "str.split" (λx xs H Q=>∃z y,x= .str z/\xs=[.str y]/\(y.length == 0)=false/\z.length+2<=sizeLine/\∀l,H l=none->Q (.ref l) (L2.upd H l (.lst ((Txt.split z y).map .str)))):=by
 intro pins s U H x xs v us Q I rx rs q;obtain⟨z,y,rfl,rfl,hy,hsz,q⟩:=q;obtain⟨t,rfl⟩:=(show ∃t,v=Value.str z t from rx);obtain⟨u',rfl,ru⟩:=vals1 rs;obtain⟨u,rfl⟩:=(show ∃t,u'=Value.str y t from ru);have hn:(Builtin.Str.partsBetween z (Builtin.Str.occurrences z y 0 z.length (z.length+1)) y.length).length<=sizeLine:=by
  have e1:=StrLaws.occ_length_le_len z y 0 z.length (z.length+1);rw[length_partsBetween];lia
 have fin:∀(l:List (Str×Tok)) (k:Nat),l.length<=sizeLine->l.map (·.1)=Txt.split z y->EP X pins U Q (.ref s.heap.objs.size) {s with heap:=s.heap.push {cls:= .type "list",data:= .seq (strValues l).toArray},toks:=k}:=λl k hl e=>by
  have e2:(Txt.split z y).map V.str=l.map λp=>V.str p.1:=by rw[← e,ZZ];rfl
  refine⟨.ref s.heap.objs.size,_,I.laid (t':=k) (λb o h=>Zd _ h) (Zi _) (show Qa7 X.prog X.w _ _ _ (.lst ((Txt.split z y).map .str))from⟨by rw[e2,Zt];exact hl,strValues l,0,by rw[e2];exact Qjk l,Zq _ rfl⟩),rfl,q _ (I.hok.fresh (Zi _))⟩
 cases h1:(decide (z.length<y.length) || decide (Builtin.Str.strKind z<Builtin.Str.strKind y))
 .cases hf:(Builtin.Str.occurrences z y 0 z.length (z.length+1)).isEmpty
  .refine call_meets F.slot_str_split (typeIs_str _ _ _) F.entry_str_split (F.args_str_split_2 _ _) (meets_str_split_sep z y t u h1 hy hf ⋯ hn) ?_;show wants _ _ _ {s with toks:=_,heap:=s.heap.push {cls:= .type "list",data:= .seq (strsFrom s.toks (Builtin.Str.partsBetween z (Builtin.Str.occurrences z y 0 z.length (z.length+1)) y.length)).toArray}};rw[strsFrom_eq];have en:=numbered_texts s.toks (Builtin.Str.partsBetween z (Builtin.Str.occurrences z y 0 z.length (z.length+1)) y.length);exact fin (numbered s.toks _) _ (by rw[← Zt (f:=(·.1)),en];exact hn) (en.trans ((if_neg (ne_true_of_eq_false h1)).trans (if_neg (ne_true_of_eq_false hf))).symm)
  .exact call_meets F.slot_str_split (typeIs_str _ _ _) F.entry_str_split (F.args_str_split_2 _ _) (meets_str_split_not_found z y t u h1 hy hf) (fin [(z,t)] s.toks (show 1<=sizeLine by decide) ((if_neg (ne_true_of_eq_false h1)).trans (if_pos hf)).symm)
 .exact call_meets F.slot_str_split (typeIs_str _ _ _) F.entry_str_split (F.args_str_split_2 _ _) (meets_str_split_cannot_occur z y t u h1) (fin [(z,t)] s.toks (show 1<=sizeLine by decide) (if_pos h1).symm)
def QyZ:MtR X "str.join" (λx xs H Q=>∃z p ts,x= .str z/\xs=[.ref p]/\SqL X.K H p (ts.map V.str)/\JoinOk z ts=true/\Q (.str (Txt.join z ts)) H):=by
 intro pins s U H x xs v us Q I rx rs q;obtain⟨z,p,ts,rfl,rfl,hq,hj,q⟩:=q;obtain⟨t,rfl⟩:=(show ∃t,v=Value.str z t from rx);obtain⟨u',rfl,ru⟩:=vals1 rs;cases ru;obtain⟨its,rv,pl,hz⟩:=I.list hq;obtain⟨l,rfl,e⟩:=Qni rv;exact SC.join pl.isList e hj λt' k=>⟨.str _,H,I.tok _,⟨t',rfl⟩,q⟩
def Qs4:MtR X "str.startswith" (λx xs H Q=>∃z y,x= .str z/\xs=[.str y]/\Q (.bl (Txt.startswith z y)) H):=by
 intro pins s U H x xs v us Q I rx rs q;obtain⟨z,y,rfl,rfl,q⟩:=q;obtain⟨t,rfl⟩:=(show ∃t,v=Value.str z t from rx);obtain⟨u',rfl,ru⟩:=vals1 rs;obtain⟨u,rfl⟩:=(show ∃t,u'=Value.str y t from ru);exact SC.startswith ⟨.bl _,H,I,rfl,q⟩
def Qoe:QaS X (.type "int") (λxs H Q=>∃z n,xs=[.str z]/\PySem.intText? z=some n/\z.length<=640/\Q (.int n) H):=by
 intro pins s U H xs us Q I rs q;obtain⟨z,n,rfl,hn,hl,q⟩:=q;obtain⟨u',rfl,ru⟩:=vals1 rs;obtain⟨u,rfl⟩:=(show ∃t,u'=Value.str z t from ru);exact PySem.W.KIN.call_text hn hl ⟨.int n,H,I.tok _,⟨_,rfl⟩,q⟩
end
end HS
namespace L2
open PySem PySem.Spec PyProof.Rows
def Ql4(env:Env)(body:Str×NameKind->List (Str×Addr)->Sem (ForInStep (List (Str×Addr))))
  (hb:∀n k cs,body (n,k) cs=if(k == NameKind.free)=true then(do let c ← cellOf env n;pure (ForInStep.yield ((n,c)::cs)))else pure (ForInStep.yield cs)):
  ∀(names:List (Str×NameKind)) (acc:List (Str×Addr)),(∀y∈names,y.2= .free->∃c,env.cells.lookup y.1=some c)->(∀x c,acc.lookup x=some c->env.cells.lookup x=some c)→
   ∃cl,forIn names acc body=(pure cl:Sem _)/\(∀x c,cl.lookup x=some c->env.cells.lookup x=some c)/\(∀x,acc.lookup x≠none->cl.lookup x≠none)/\∀y∈names,y.2= .free->cl.lookup y.1≠none
 | [],acc,_,ha=>⟨acc,rfl,ha,λ_ h=>h,λy hy=>by simp at hy⟩
 | (n,k)::r,acc,hn,ha=>by
  rw[Zbn,hb];have hr:∀y∈r,y.2= .free->∃c,env.cells.lookup y.1=some c:=λy hy=>hn y (Zc _ hy);by_cases hk:k= .free
  .subst hk;obtain⟨c,hc⟩:=hn (n,.free) Zf rfl;have hce:cellOf env n=pure c:=by unfold cellOf;rw[show env.cells.lookup n=some c from hc]
   rw[if_pos (by rfl),hce];obtain⟨cl,e,h1,h2,h3⟩:=Ql4 env body hb r ((n,c)::acc) hr (λx c' e=>by
    rw[Zv]at e;cases q:x == n with
    | true=>rw[q]at e;cases e;rw[beq_iff_eq]at q;rw[q];exact hc
    | false=>rw[q]at e;exact ha x c' e)
   have hcons:∀x,((n,c)::acc).lookup x≠none->cl.lookup x≠none:=h2;refine⟨cl,by simpa using e,h1,λx hx=>hcons x ?_,λy hy hf=>?_⟩
   .rw[Zv];cases x == n with
    | true=>simp
    | false=>exact hx
   .rcases Zn.mp hy with rfl | hy
    .exact hcons _ (by simp[Zv])
    .exact h3 y hy hf
  .rw[if_neg (by simpa using hk)];obtain⟨cl,e,h1,h2,h3⟩:=Ql4 env body hb r acc hr ha;refine⟨cl,by simpa using e,h1,h2,λy hy hf=>?_⟩;rcases Zn.mp hy with rfl | hy
   .exact absurd hf hk
   .exact h3 y hy hf
def QqS(h:∀y∈scope.names,y.2= .free->∃c,env.cells.lookup y.1=some c):
  ∃cl,closureFor scope env=pure cl/\(∀x c,cl.lookup x=some c->env.cells.lookup x=some c)/\∀y∈scope.names,y.2= .free->∃c,cl.lookup y.1=some c:=by
 unfold closureFor;obtain⟨cl,e,h1,_,h3⟩:=Ql4 env (λx cs=>match x with | (name,kind)=>if(kind == NameKind.free)=true then(do let c ← cellOf env name;pure (ForInStep.yield ((name,c)::cs)))else pure (ForInStep.yield cs)) (λ_ _ _=>rfl) scope.names [] h (λx c e=>by simp at e);refine⟨cl,?_,h1,λy hy hf=>Option.ne_none_iff_exists'.mp (h3 y hy hf)⟩;show(forIn scope.names [] _ >>= λr=>pure r)=_;rw[e];rfl
noncomputable def cxc(X:Cx)(N':List Str)(scope:Scope)(cl:List (Str×Addr))(C:Addr)(fp:LAd)(s3:Shared)(H3:Hp):Cx:=
 {X with N:=N',s₀:=s3,H₀:=H3,env:=compEnvC scope cl C X.env,outer:=X.stack,ex:=fp,fn:=λx=>decide (scope.names.lookup x=some .cell),pn:=[],xe:=λ_ _=>False}
def PTs(X:Cx)(ifs:List Expr)(t:TT):Prop:=
 ∀(pins:List (Addr×Obj)) (s:Shared) (U:St) (H:Hp) (Q:Bool->Hp->Prop),Inv X pins U H s->t U H Q→
  wpAny (model X.prog X.w) X.A (forIn ifs true λc r=>if r=true then do let ok ← isTrue c X.env (eval c X.env);pure (ForInStep.yield ok)else pure (ForInStep.yield r)) (TP X pins U Q) X.xe s
def QEA:TT:=λ_ H Q=>Q true H
def QxV:PTs X [] QEA:=λ_ _ _ H _ I h=>wpAny_tests_nil ⟨H,I,h⟩
def QyJ(h:PT X c t):PTs X [c] t:=λpins s U H Q I q=>wpAny_tests_one (h pins s U H Q I q)
def Qjx(X:Cx)(N':List Str)(scope:Scope)(U U':St):Prop:=
 U'.length=N'.length/\∀(j:Nat) (x:Str) (v:V),N'[j]? =some x->U'[j]? =some (some v)->scope.names.lookup x=some .free/\∃i:Nat,X.N[i]? =some x/\U[i]? =some (some v)/\(X.env.kindOf x=some .cell∨X.env.kindOf x=some .free)
def QnD(wi:TI)(cap:St->St->Prop)(g:TG)(tc:TT)(te:TE):TE:=λU H Q=>wi U H λJ H1=>∃Uc,cap U Uc/\∀D,H1 D=none->∃W:Nat->Nat->List V->Hp->Prop,
 (∃m,W 0 m [] (upd H1 D (.lst [])))/\∀i m acc H2,W i m acc H2->(J.stop i H2/\Q (.ref D) H2)∨
  (J.go i H2/\∀x H3,J.yld i H2 x H3->g x Uc H3 λU2 H4=>(∀(j:Nat) v,Uc[j]? =some (some v)->U2[j]? =some (some v))/\tc U2 H4 λb H5=>if b=true then
   te U2 H5 λy H6=>H6 D=some (.lst acc)/\acc.length<sizeLine/\∃m',m'<m/\W (i+1) m' (acc++[y]) (upd H6 D (.lst (acc++[y])))
   else ∃m',m'<m/\W (i+1) m' acc H5)
def QcR{env:Env}:∀{names:List (Str×NameKind)}{x:Str},names.lookup x=some .free→
  (names.map λ(n,k)=>if(k == NameKind.free && env.scope.kind == .function && env.kindOf n == some .cell)then(n,NameKind.cell)else(n,k)).lookup x=some .cell∨
  (names.map λ(n,k)=>if(k == NameKind.free && env.scope.kind == .function && env.kindOf n == some .cell)then(n,NameKind.cell)else(n,k)).lookup x=some .free
 | [],_,h=>by simp at h
 | (n,k)::r,x,h=>by
  have ih:= @QcR env r x;rw[Zz];cases hx:x == n with
  | true=>
   simp only[Zv,hx]at h;cases h;dsimp only;split
   .left;simp[Zv,hx]
   .right;simp[Zv,hx]
  | false=>
   simp only[Zv,hx]at h;dsimp only;split
   .simp only[Zv,hx];exact ih h
   .simp only[Zv,hx];exact ih h
def Qe1{env:Env}:∀{names:List (Str×NameKind)}{x:Str},
  ((names.map λ(n,k)=>if(k == NameKind.free && env.scope.kind == .function && env.kindOf n == some .cell)then(n,NameKind.cell)else(n,k)).lookup x=some .cell∨
  (names.map λ(n,k)=>if(k == NameKind.free && env.scope.kind == .function && env.kindOf n == some .cell)then(n,NameKind.cell)else(n,k)).lookup x=some .free)→
  ∃k,(x,k)∈names/\(k= .free∨k= .cell)
 | [],_,h=>by simp at h
 | (n,k)::r,x,h=>by
  have ih:= @Qe1 env r x;rw[Zz]at h;cases hx:x == n with
  | true=>
   have hn:x=n:=by simpa using hx
   subst hn;dsimp only at h;split at h
   .rename_i hc;simp only[Zh]at hc;refine⟨k,Zf,.inl (by simpa using hc.1.1)⟩
   .simp only[Zv,hx]at h;refine⟨k,Zf,?_⟩;rcases h with h | h
    .exact .inr (Option.some.inj h)
    .exact .inl (Option.some.inj h)
  | false=>
   dsimp only at h;have:∃k,(x,k)∈r/\(k= .free∨k= .cell):=by
    apply ih;split at h
    .simpa only[Zv,hx]using h
    .simpa only[Zv,hx]using h
   obtain⟨k',h1,h2⟩:=this;exact⟨k',Zc _ h1,h2⟩
def QfF:∀(names:List (Str×NameKind)) (n:Nat) (acc:List (Str×Addr)) (x:Str) (c:Addr),(cellsFrom n names acc).lookup x=some c->acc.lookup x=some c∨(n<=c/\(x,NameKind.cell)∈names)
 | [],_,_,_,_,h=> .inl h
 | (nm,k)::r,n,acc,x,c,h=>by
  unfold cellsFrom at h;split at h
  .rename_i hk;have hk:k= .cell:=by simpa using hk
   rcases QfF r (n+1) ((nm,n)::acc) x c h with h | ⟨h1,h2⟩
   .rw[Zv]at h;cases q:x == nm with
    | true=>
     rw[q]at h;cases h;have:x=nm:=by simpa using q
     exact .inr ⟨Zi _,by rw[this,hk];exact Zf⟩
    | false=>rw[q]at h;exact .inl h
   .exact .inr ⟨⋯,Zc _ h2⟩
  .rcases QfF r n acc x c h with h | ⟨h1,h2⟩
   .exact .inl h
   .exact .inr ⟨h1,Zc _ h2⟩
def Qow:∀(names:List (Str×NameKind)) (n:Nat) (acc:List (Str×Addr)) (x:Str) (c:Addr),(x,NameKind.cell)∈names->(cellsFrom n names acc).lookup x=some c->n<=c
 | (nm,k)::r,n,acc,x,c,hm,h=>by
  unfold cellsFrom at h;split at h
  .by_cases hr:(x,NameKind.cell)∈r
   .have:=Qow r (n+1) _ x c hr h;lia
   .have hx:x=nm:=by
     rcases Zn.mp hm with e | e
     .exact(Prod.mk.inj e).1
     .exact absurd e hr
    rcases QfF r (n+1) ((nm,n)::acc) x c h with h | ⟨h1,_⟩
    .rw[Zv,show(x == nm)=true by simpa using hx]at h;cases h;exact Zi _
    .lia
  .rename_i hk;rcases Zn.mp hm with e | e
   .exact absurd (by rw[← (Prod.mk.inj e).2];rfl) hk
   .exact Qow r n acc x c e h
def Qpg:∀(names:List (Str×NameKind)) (n:Nat) (acc:List (Str×Addr)),(∀x y c,acc.lookup x=some c->acc.lookup y=some c->x=y)->(∀x c,acc.lookup x=some c->c<n)→
  ∀x y c,(cellsFrom n names acc).lookup x=some c->(cellsFrom n names acc).lookup y=some c->x=y
 | [],_,_,hi,_,x,y,c,h1,h2=>hi x y c h1 h2
 | (nm,k)::r,n,acc,hi,hb,x,y,c,h1,h2=>by
  unfold cellsFrom at h1 h2;split at h1
  .rename_i hk;rw[if_pos hk]at h2;refine Qpg r (n+1) ((nm,n)::acc) (λx y c h1 h2=>?_) (λx c h=>?_) x y c h1 h2
   .rw[Zv]at h1 h2;cases qx:x == nm with
    | true=>
     rw[qx]at h1;cases h1;cases qy:y == nm with
     | true=>rw[show x=nm by simpa using qx,show y=nm by simpa using qy]
     | false=>rw[qy]at h2;exact absurd (hb y _ h2) (ZE _)
    | false=>
     rw[qx]at h1;cases qy:y == nm with
     | true=>rw[qy]at h2;cases h2;exact absurd (hb x _ h1) (ZE _)
     | false=>rw[qy]at h2;exact hi x y c h1 h2
   .rw[Zv]at h;cases qx:x == nm with
    | true=>rw[qx]at h;cases h;exact ZaB _
    | false=>rw[qx]at h;exact Zar (hb x c h)
  .rename_i hk;rw[if_neg hk]at h2;exact Qpg r n acc hi hb x y c h1 h2
def Qhl:∀(names:List (Str×NameKind)) (n:Nat) (acc:List (Str×Addr)) (x:Str),(∃c,acc.lookup x=some c)->∃c,(cellsFrom n names acc).lookup x=some c
 | [],_,_,_,h=>h
 | (nm,k)::r,n,acc,x,h=>by
  unfold cellsFrom;split
  .refine Qhl r (n+1) _ x ?_;rw[Zv];cases x == nm with
   | true=>exact⟨n,rfl⟩
   | false=>exact h
  .exact Qhl r n acc x h
def QoM:∀(names:List (Str×NameKind)) (n:Nat) (acc:List (Str×Addr)) (x:Str),(x,NameKind.cell)∈names->∃c,(cellsFrom n names acc).lookup x=some c
 | (nm,k)::r,n,acc,x,hm=>by
  unfold cellsFrom;rcases Zn.mp hm with e | e
  .obtain⟨e1,e2⟩:=Prod.mk.inj e;subst e1;rw[← e2,if_pos (by rfl)];exact Qhl r (n+1) _ x ⟨n,by simp[Zv]⟩
  .split
   .exact QoM r (n+1) _ x e
   .exact QoM r n acc x e
def QmE(lo:Nat):∀(names:List (Str×NameKind)) (h:Heap) (acc:List (Str×Addr)),(∀x c,acc.lookup x=some c->lo<=c->h.IsCell c none)->lo<=h.objs.size→
  ∀x c,(cellsFrom h.objs.size names acc).lookup x=some c->lo<=c->(pushCells h names).IsCell c none
 | [],_,_,ha,_,x,c,e,hl=>ha x c e hl
 | (nm,k)::r,h,acc,ha,hlo,x,c,e,hl=>by
  unfold cellsFrom at e;unfold pushCells;split at e
  .rename_i hk;rw[if_pos hk];have hs:=ZX h {cls:= .type "cell",data:= .cell none};refine QmE lo r (h.push {cls:= .type "cell",data:= .cell none}) ((nm,h.objs.size)::acc) (λx c e hl=>?_) (by rw[hs];lia) x c (by rw[hs];exact e) hl;rw[Zv]at e;cases q:x == nm with
   | true=>rw[q]at e;cases e;exact⟨_,Zq _ rfl,rfl⟩
   | false=>rw[q]at e;exact(ha x c e hl).keeps λb o e=>Zd _ e
  .rename_i hk;rw[if_neg hk];exact QmE lo r h acc ha hlo x c e hl
def Qk9
  (hQ:∀h':Heap,h'.Ns s.heap.objs.size (λ_=>none)->(∀b o,s.heap.get? b=some o->h'.get? b=some o)->((∀x c,cl.lookup x=some c->c<s.heap.objs.size)->∀x c,(cellsFrom (s.heap.objs.size+1) scope.names cl).lookup x=some c->s.heap.objs.size+1<=c->h'.IsCell c none)→
   Q (newEnv scope s.heap.objs.size globals (cellsFrom (s.heap.objs.size+1) scope.names cl) qual none .none (some env) builtins) {s with heap:=h'}):
  wpAny M A (newFunctionEnv scope globals cl [] qual none .none (some env) builtins) Q E s:=by
 simp only[newFunctionEnv,Option.isSome_some,if_true];refine wpAny_bind (wpAny_alloc ?_);refine wpAny_bind (wpAny_layCells _ (λname kind cells=>by cases hkc:kind == NameKind.cell<;>simp[hkc]) _ _ _ _ ?_);have hs:=ZX s.heap {cls:= .type "dict",data:= .dict #[]};rw[show({s with heap:=s.heap.push {cls:= .type "dict",data:= .dict #[]}}:Shared).heap.objs.size=s.heap.objs.size+1 from hs];refine wpAny_bind (wpAny_pure (wpAny_pure ?_));refine hQ _ ((Heap.Ns.new s.heap (.type "dict")).keeps (pushCells_keeps _ _)) (λb o e=>pushCells_keeps _ _ b o (Zd _ e)) λhb x c e hl=>?_;refine QmE (s.heap.objs.size+1) scope.names (s.heap.push {cls:= .type "dict",data:= .dict #[]}) cl (λx c e hl=>?_) (by rw[hs];exact Zi _) x c (by rw[hs];exact e) hl;exact absurd (Zr (hb x c e) (Zy (Zae _) hl)) (ZE _)
section
variable {X:Cx}{tg iter elt:Expr}{ifs:List Expr}{scope:Scope}{N':List Str}{pos:Pos}
structure Qcw (X:Cx) (N':List Str) (scope:Scope):Prop where
 kind:scope.kind= .function
 own:∀y∈scope.names,y.2= .cell->scope.names.lookup y.1=some .cell
 loc:∀y∈scope.names,y.2= .local ->scope.names.lookup y.1=some .local
 free:∀y∈scope.names,y.2= .free->X.env.kindOf y.1=some .cell∨X.env.kindOf y.1=some .free
def Qoy{pins:List (Addr×Obj)}{U Uc:St}{H3:Hp}{s3:Shared}{fp:LAd}{cl:List (Str×Addr)}{h':Heap}{tk:Nat}(S:Qcw X N' scope)(I:Inv X pins U H3 s3)
  (hf:∀b∈fp,Qcn X pins H3 b) (hfl:∀b∈fp,b<s3.heap.objs.size) (hc1:∀x c,cl.lookup x=some c->X.env.cells.lookup x=some c) (hc2:∀y∈scope.names,y.2= .free->∃c,cl.lookup y.1=some c) (cap:Qjx X N' scope U Uc)
  (hns:h'.Ns s3.heap.objs.size (λ_=>none)) (hk:∀b o,s3.heap.get? b=some o->h'.get? b=some o)
  (hown:(∀x c,cl.lookup x=some c->c<s3.heap.objs.size)->∀x c,(cellsFrom (s3.heap.objs.size+1) scope.names cl).lookup x=some c->s3.heap.objs.size+1<=c->h'.IsCell c none):
  Inv (cxc X N' scope (cellsFrom (s3.heap.objs.size+1) scope.names cl) s3.heap.objs.size fp s3 H3) [] Uc H3 {s3 with heap:=h',toks:=tk}:=by
 have nold:∀b,b∈fp->b≠s3.heap.objs.size:=λb hb e=>absurd (hfl b hb) (by rw[e];exact ZE _);have cellOld:∀x c,cl.lookup x=some c->∃v,s3.heap.IsCell c v:=λx c e=>I.cell x c (hc1 x c e);have cellLt:∀x c,cl.lookup x=some c->c<s3.heap.objs.size:=λx c e=>let ⟨v,q⟩:=cellOld x c e;q.lt;have cellNew:∀c v,s3.heap.IsCell c v->h'.IsCell c v:=λc v ⟨o,ho,hd⟩=>⟨o,hk c o ho,hd⟩;have hown:=hown cellLt;have look:∀x c,(cellsFrom (s3.heap.objs.size+1) scope.names cl).lookup x=some c->cl.lookup x=some c∨(s3.heap.objs.size+1<=c/\(x,NameKind.cell)∈scope.names):=QfF scope.names _ cl
 refine⟨⟨I.ok.mod,S.kind,I.ok.glob,I.ok.blt,Zi _,Qpg scope.names _ cl (λx y c h1 h2=>I.ok.inj x y c (hc1 x c h1) (hc1 y c h2)) (λx c e=>Zar (cellLt x c e)),λx hx=>?_,λx c e1 e2=>?_,I.ok.hd,I.ok.frames,.inl rfl,λb hb=>⟨nold b hb,λx c e=>?_⟩,
  I.bs,Zy I.ok.bsz I.sz,λb o e hb=>?_,λb hb hs=>?_,I.stack,I.QlW⟩,rfl,I.bare,Un.kept hk,⟨_,hns,λj x v h1 h2 h3=>?_⟩,λx c e=>?_,I.hok.fresh (Zi _),λx c e=>?_,λp hp=>absurd (show p∈([]:List (Addr×Obj))from hp) ⋯,I.hok.kept hk,cap.1⟩
 .obtain⟨k,hm,hk'⟩:=Qe1 hx;rcases hk' with rfl | rfl
  .exact Qhl scope.names _ cl x (hc2 _ hm rfl)
  .exact QoM scope.names _ cl x hm
 .have e1:decide (scope.names.lookup x=some .cell)=true:=e1;have:=Qow scope.names _ cl x c (ZQ (of_decide_eq_true e1)) e2;exact Zy (Zae _) this
 .rcases look x c e with e | ⟨e,_⟩
  .exact(hf b hb).2.2.2.2.1 x c (hc1 x c e)
  .intro z;rw[z]at e;exact absurd (Zr (hfl b hb) (Zy (Zae _) e)) (ZE _)
 .rcases(hf b hb).2.2.2.1 with z | z
  .exact I.ok.noex b o e z
  .exact absurd (Zr (Zp e) (Zy I.ok.bsz z)) (ZE _)
 .rcases Zn.mp (I.QdC b hs)with e | z
  .exact(hf b hb).2.1 e
  .exact(hf b hb).2.2.1 z
 .obtain⟨hl,i,e1,e2,e3⟩:=cap.2 j x v h1 h2;obtain⟨m,hn,look'⟩:=I.loc;obtain⟨u,r,l⟩:=look' i x v e1 e2 (e3.elim (λz=> .inr (.inl z)) λz=> .inr (.inr z));refine⟨u,r,.inr ⟨QcR hl,?_⟩⟩;rcases l with⟨k,_⟩ | ⟨_,c,ec,hcell⟩
  .rcases e3 with z | z<;>(rw[k]at z;cases z)
  .obtain⟨c',ec'⟩:=Qhl scope.names (s3.heap.objs.size+1) cl x (hc2 (x,.free) (ZQ hl) rfl);rcases look x c' ec' with q | ⟨_,q⟩
   .have:=hc1 x c' q;rw[ec]at this;cases this;exact⟨c,ec',cellNew c _ hcell⟩
   .have:=S.own _ q rfl;rw[hl]at this;cases this
 .rcases look x c e with q | ⟨q,_⟩
  .obtain⟨v,q⟩:=cellOld x c q;exact⟨v,cellNew c v q⟩
  .exact⟨none,hown x c e q⟩
 .rcases look x c e with q | ⟨q,_⟩
  .exact I.freeC x c (hc1 x c q)
  .exact I.hok.fresh ⋯
def Qtm(J:Nat->Shared->Prop)
  (turn:∀n s,J n s->wpAny (model prog w) A (pyNext it) (λr s1=>match r with
   | none=>R (.ok .next) s1
   | some v=>wpAny (model prog w) A (letOwnedTupleGo tg it v) (λ_ s2=>wpAny (model prog w) A (assign tg env v) (λ_ s3=>
     wpAny (model prog w) A (forIn ifs true λc r=>if r=true then do let ok ← isTrue c env (eval c env);pure (ForInStep.yield ok)else pure (ForInStep.yield r)) (λok s4=>
      if ok=true then wpAny (model prog w) A (eval elt env) (λx s5=>wpAny (model prog w) A (call (.builtin "list.append") [acc,x]) (λ_ s6=>∃m,m<n/\J m s6) (λ_ _=>False) s5) (λ_ _=>False) s4
      else ∃m,m<n/\J m s4) (λ_ _=>False) s3) (λ_ _=>False) s2) (λ_ _=>False) s1) (λ_ _=>False) s)
  (n:Nat) (h:J n s0):codeAny (model prog w) A (.compLoop (.ListComp elt [⟨tg,iter,ifs,0⟩] scope pos) 0 it acc env) R s0:=by
 have up:∀{α:Type}{t:Sem α}{Q:α->Shared->Prop}{E:Value->Shared->Prop}{s:Shared},wpAny (model prog w) A t Q (λ_ _=>False) s->wpAny (model prog w) A t Q E s:=λh=>wpAny_mono h (λ_ _ q=>q) λ_ _ f=>f.elim;refine codeAny_loop (by rfl) J (λk sk hk=>?_) n h;show wpAny (model prog w) A ((compTurn (.ListComp elt [⟨tg,iter,ifs,0⟩] scope pos) 0 it acc env).onRaise (λx=>do noteFrame x env;theTreesLotGoes x)) _ _ sk;refine wpAny_noted (up ?_);rw[compTurn_list];refine wpAny_bind (wpAny_standAt (wpAny_bind (thn (turn k sk hk) λr s1 h1=>?_)));cases r with
 | none=>exact wpAny_pure h1
 | some v=>
  refine wpAny_bind (thn h1 λ_ s2 h2=>wpAny_bind (thn h2 λ_ s3 h3=>wpAny_bind (thn h3 λok s4 h4=>?_)));cases ok with
  | false=>exact wpAny_pure ⟨rfl,h4⟩
  | true=>exact wpAny_bind (wpAny_bind (thn h4 λx s5 h5=>wpAny_bind (thn h5 λ_ s6 h6=>wpAny_pure (wpAny_pure ⟨rfl,h6⟩))))
def QwB{it D C:Addr}{fp:LAd}{tn:Nat->Heap->Prop}{J:It}{cl:List (Str×Addr)}{s3 s4:Shared}{H3:Hp}{Uc:St}{g:TG}{tc:TT}{te:TE}{Q:Hp->Prop}(hcalm:X.calm=true)
  (T:Turn X.prog X.w X.K tg J fp it tn)
  (hg:PG (cxc X N' scope cl C fp s3 H3) tg g) (ht:PTs (cxc X N' scope cl C fp s3 H3) ifs tc) (he:PE (cxc X N' scope cl C fp s3 H3) elt te)
  (I:Inv (cxc X N' scope cl C fp s3 H3) [] Uc H3 s4) (st:tn 0 s4.heap) (ff:∀b∈fp,Qcn (cxc X N' scope cl C fp s3 H3) [] H3 b)
  (W:Nat->Nat->List V->Hp->Prop) (hw:∃m,W 0 m [] H3)
  (turn:∀i m acc H2,W i m acc H2->(J.stop i H2/\Q H2)∨
   (J.go i H2/\∀x H5,J.yld i H2 x H5->g x Uc H5 λU2 H6=>(∀(j:Nat) v,Uc[j]? =some (some v)->U2[j]? =some (some v))/\tc U2 H6 λb H7=>if b=true then
    te U2 H7 λy H8=>H8 D=some (.lst acc)/\acc.length<sizeLine/\∃m',m'<m/\W (i+1) m' (acc++[y]) (upd H8 D (.lst (acc++[y])))
    else ∃m',m'<m/\W (i+1) m' acc H7))
  {R:Result->Shared->Prop}(hR:∀H' s',Inv (cxc X N' scope cl C fp s3 H3) [] Uc H' s'->Q H'->R (.ok .next) s'):
  codeAny (model X.prog X.w) X.A (.compStart (.ListComp elt [⟨tg,iter,ifs,0⟩] scope pos) 0 (.ref it) (.ref D) (compEnvC scope cl C X.env)) R s4:=by
 obtain⟨m0,w0⟩:=hw;have stat:∀{H':Hp},(∀b∈fp,H' b=none)->∀b∈fp,Qcn (cxc X N' scope cl C fp s3 H3) [] H' b:=λhn b hb=>⟨hn b hb,(ff b hb).2⟩;have loop:codeAny (model X.prog X.w) X.A (.compLoop (.ListComp elt [⟨tg,iter,ifs,0⟩] scope pos) 0 (.ref it) (.ref D) (compEnvC scope cl C X.env)) R s4:=by
  refine Qtm (λn s'=>∃i acc H',Inv (cxc X N' scope cl C fp s3 H3) [] Uc H' s'/\tn i s'.heap/\(∀b∈fp,H' b=none)/\W i n acc H') ?_ m0 ⟨0,[],H3,I,st,λb hb=>(ff b hb).1,w0⟩;rintro n s5 ⟨i,acc,H5,I5,st5,fr5,w5⟩;rcases turn i n acc H5 w5 with⟨stop,q⟩ | ⟨go,step⟩
  .refine thn (T.done (cxc X N' scope cl C fp s3 H3) rfl rfl rfl hcalm i [] s5 Uc H5 _ I5 (stat fr5) st5 stop) λr s6 Z=>?_;obtain⟨hr,I6⟩:=Z;subst hr;exact hR H5 s6 I6 q
  .refine thn (T.item (cxc X N' scope cl C fp s3 H3) rfl rfl rfl hcalm i [] s5 Uc H5 _ I5 (stat fr5) st5 go) λr s6 Z=>?_;obtain⟨u,hr,h6⟩:=Z;subst hr;refine thn h6 λ_ s7 Z=>?_;obtain⟨x,H7,I7,r7,y7,st7,fr7⟩:=Z;have I7':=I7.pinned (stat fr7) (T.obj _ _ st7);refine thn (hg _ s7 Uc H7 x u _ I7' r7 (step x H7 y7)) λ_ s8=>exJ λU8 H8 I8 k8 q8=>?_;refine thn (ht _ s8 U8 H8 _ I8 q8) λok s9 Z=>?_;obtain⟨H9,I9,q9⟩:=Z
   have again:∀{H':Hp}{s':Shared}{acc':List V},Inv (cxc X N' scope cl C fp s3 H3) ([]++Qhr fp s7.heap) U8 H' s'->(∃m',m'<n/\W (i+1) m' acc' H')→
     ∃m,m<n/\∃i acc H',Inv (cxc X N' scope cl C fp s3 H3) [] Uc H' s'/\tn i s'.heap/\(∀b∈fp,H' b=none)/\W i m acc H':=λ{H' s' acc'} I' ⟨m',hm,w'⟩=>by
    have pin:∀b∈fp,∀o,s7.heap.get? b=some o->s'.heap.get? b=some o/\H' b=none:=λb hb o e=>by
     have z:=I'.pin (b,o) (Ze _ (Ze _ (Qfu hb e)));exact⟨z.1,z.2.1⟩
    refine⟨m',hm,i+1,acc',H',?_,T.keep _ _ _ st7 λb hb o e=>(pin b hb o e).1,λb hb=>?_,w'⟩
    .exact I'.Qgb.weak (I.len.trans I8.len.symm) k8
    .obtain⟨o,e,_⟩:=T.obj _ _ st7 b hb;exact(pin b hb o e).2
   cases ok with
   | false=>
    rw[if_neg ZJ]at q9 ⊢;exact again I9 q9
   | true=>
    rw[if_pos rfl]at q9 ⊢;refine thn (he _ s9 U8 H9 _ I9 q9) λyv s10 Z=>?_;obtain⟨y,H10,I10,r10,e10,l10,q10⟩:=Z;refine thn (QiO _ s10 U8 H10 (.ref D) [y] (.ref D) [yv] (λv H11=>H11=upd H10 D (.lst (acc++[y]))) I10 rfl (.cons r10 .nil) ⟨D,acc,y,rfl,rfl,e10,l10,rfl⟩) λ_ s11 Z=>?_;obtain⟨_,H11,I11,_,e11⟩:=Z;subst e11;exact again I11 q10
 exact codeAny_compStart_list loop (T.self _ 0 _ _ _ st loop)
def QoN{wi:TI}{g:TG}{tc:TT}{te:TE}{cp:Pos}{use:Option (Value->Sem Unit)}{pins:List (Addr×Obj)}{s:Shared}{U:St}{H:Hp}{QV:Value->Shared->Prop}{Q:VK}(hcalm:X.calm=true)(S:Qcw X N' scope)(hi:PI X tg iter wi)
  (hin:∀cl C fp s3 H3,PG (cxc X N' scope cl C fp s3 H3) tg g/\PTs (cxc X N' scope cl C fp s3 H3) ifs tc/\PE (cxc X N' scope cl C fp s3 H3) elt te)
  (hs:∀x,foldedSetIterable iter X.env x=pure x) (I:Inv X pins U H s) (h:QnD wi (Qjx X N' scope) g tc te U H Q)
  (fin:∀(D C:Addr) (H':Hp) (s':Shared),Inv X pins U H' s'->H' C=none->C≠X.env.locals->X.s₀.heap.objs.size<=C->(∀x c,X.env.cells.lookup x=some c->c≠C)->(∀p∈X.pn++pins,p.1≠C)->(∃m,s'.heap.Ns C m)->Q (.ref D) H'→
   compPost (model X.prog X.w) X.A X.xe use QV (.ref D) C (.ok .next) s'):
  wpAny (model X.prog X.w) X.A (comprehension (.ListComp elt [⟨tg,iter,ifs,0⟩] scope pos) scope X.env cp (newList []) false (eval iter X.env) use) QV X.xe s:=by
 obtain⟨cl,hcl,hc1,hc2⟩:=QqS λy hy hf=>I.ok.has y.1 (S.free y hy hf);refine wpAny_comprehension_free rfl hs hcl S.kind S.loc ?_;refine thn (hi pins s U H _ I h) λv s1 h1=>thn h1 λitv s2 h2=>?_;obtain⟨it,fp,tn,J,H2,e,I2,T,st2,f2,Uc,cap,hw⟩:=h2;subst e;have hD0:H2 s2.heap.objs.size=none:=I2.hok.fresh (Zi _);obtain⟨W,hW0,turn⟩:=hw _ hD0;have fpl:∀b∈fp,b<s2.heap.objs.size:=λb hb=>let ⟨o,e,_⟩:=T.obj _ _ st2 b hb;Zp e;have hlist:∀D:Addr,D=s2.heap.objs.size->∃x,x=D:=λD _=>⟨D,rfl⟩;refine wpAny_newObj_type ?_
 have I3:Inv X pins U (upd H2 s2.heap.objs.size (.lst [])) {s2 with heap:=s2.heap.push {cls:= .type "list",dict:=none,data:= .seq ([]:List Value).toArray}}:=
  I2.laid (t':=s2.toks) (λb o e=>Zd _ e) (Zi _) ⟨ZK _,[],0,.nil,Zq _ rfl⟩
 generalize hs3:({s2 with heap:=s2.heap.push {cls:= .type "list",dict:=none,data:= .seq ([]:List Value).toArray}}:Shared)=s3 at I3;have hs3':s3.heap=s2.heap.push {cls:= .type "list",dict:=none,data:= .seq ([]:List Value).toArray}:=by rw[← hs3]
 have sz3:s3.heap.objs.size=s2.heap.objs.size+1:=by rw[hs3',ZX]
 have old3:∀b o,s2.heap.get? b=some o->s3.heap.get? b=some o:=λb o e=>by rw[hs3'];exact Zd _ e
 have f3:∀b∈fp,Qcn X pins (upd H2 s2.heap.objs.size (.lst [])) b:=λb hb=>⟨by rw[Qy (ZC (fpl b hb))];exact(f2 b hb).1,(f2 b hb).2⟩;have fpl3:∀b∈fp,b<s3.heap.objs.size:=λb hb=>by rw[sz3];exact Zar (fpl b hb)
 refine Qk9 (λh4 hns4' keep4 hown4=>?_);have I4:=Qoy (tk:=s3.toks) S I3 f3 fpl3 hc1 hc2 cap hns4' keep4 hown4;have hout:∀H' s',Inv (cxc X N' scope (cellsFrom (s3.heap.objs.size+1) scope.names cl) s3.heap.objs.size fp s3 (upd H2 s2.heap.objs.size (.lst []))) [] Uc H' s'->Inv X pins U H' s':=λH' s' J'=>
  I3.Qlt J'.os J'.base J'.hok J'.bare λb hb=>⟨(f3 b hb).2.2.2.1,(f3 b hb).2.1,(f3 b hb).2.2.2.2.1,(f3 b hb).2.2.2.2.2⟩
 obtain⟨hg,ht,he⟩:=hin (cellsFrom (s3.heap.objs.size+1) scope.names cl) s3.heap.objs.size fp s3 (upd H2 s2.heap.objs.size (.lst []));have fc:∀b∈fp,Qcn (cxc X N' scope (cellsFrom (s3.heap.objs.size+1) scope.names cl) s3.heap.objs.size fp s3 (upd H2 s2.heap.objs.size (.lst []))) [] (upd H2 s2.heap.objs.size (.lst [])) b:=λb hb=>
  ⟨(f3 b hb).1,ZC (fpl3 b hb),λhs'=>(Zn.mp (I3.QdC b hs')).elim (f3 b hb).2.1 (f3 b hb).2.2.1,.inl hb,λx c e=>(by
   rcases QfF scope.names _ cl x c e with e | ⟨e,_⟩
   .exact(f3 b hb).2.2.2.2.1 x c (hc1 x c e)
   .intro z;rw[z]at e;exact absurd (Zr (fpl3 b hb) (Zy (Zae _) e)) (ZE _)),λp hp=>absurd (show p∈([]:List (Addr×Obj))from hp) ⋯⟩
 have hC1:s3.heap.objs.size≠X.env.locals:=Ne.symm (ZC I3.lt);refine QwB (W:=W) hcalm T hg ht he I4 (T.keep _ _ _ st2 λb hb o e=>keep4 b o (old3 b o e)) fc hW0 turn λH' s' J' q=>?_;have O:=hout H' s' J';refine fin _ _ H' s' O J'.free hC1 (Zy I3.sz (Zi _)) (λx c e z=>?_) (λp hp z=>?_) (let ⟨m,hn,_⟩:=J'.loc;⟨m,hn⟩) q
 .obtain⟨v,o,ho,_⟩:=I3.cell x c e;exact absurd (Zp ho) (by rw[z];exact ZE _)
 .exact absurd (Zp (I3.pin p hp).1) (by rw[z];exact ZE _)
def Inv.QrN(I:Inv X pins U H s)(hs:Heap.SameBut C s.heap h')(hn:H C=none)(hL:C≠X.env.locals)(h1:X.s₀.heap.objs.size<=C)
  (h2:∀x c,X.env.cells.lookup x=some c->c≠C) (h3:∀p∈X.pn++pins,p.1≠C):Inv X pins U H {s with heap:=h'}:=
 I.turned (t':=s.toks) (λb o hb e=>(hs.2 b hb).trans e) hn hL (.inr h1) h2 h3
def Qqo(hcalm:X.calm=true)(S:Qcw X N' scope)(hi:PI X tg iter wi)
  (hin:∀cl C fp s3 H3,PG (cxc X N' scope cl C fp s3 H3) tg g/\PTs (cxc X N' scope cl C fp s3 H3) ifs tc/\PE (cxc X N' scope cl C fp s3 H3) elt te)
  (hs:∀x,foldedSetIterable iter X.env x=pure x:=by intro _;rfl):PE X (.ListComp elt [⟨tg,iter,ifs,0⟩] scope pos) (QnD wi (Qjx X N' scope) g tc te):=by
 intro pins s U H Q I h;rw[eval_ListComp];refine QoN hcalm S hi hin hs I h λD C H' s' O h1 h2 h3 h4 h5 Z q=>?_;obtain⟨m,hm⟩:=Z;exact⟨m,hm,λh' hs'=>⟨.ref D,H',O.QrN hs' h1 h2 h3 h4 h5,rfl,q⟩⟩
def QzD(hN:X.N.Nodup)(hx1:X.N[i]? =some x)(hx:Loc X.env.scope x)(hf:X.fn x=true∨X.env.scope.names.lookup x=some .local)(hcalm:X.calm=true)(S:Qcw X N' scope)(hi:PI X tg iter wi)
  (hin:∀cl C fp s3 H3,PG (cxc X N' scope cl C fp s3 H3) tg g/\PTs (cxc X N' scope cl C fp s3 H3) ifs tc/\PE (cxc X N' scope cl C fp s3 H3) elt te)
  (hs:∀x,foldedSetIterable iter X.env x=pure x:=by intro _;rfl):
  PS X (.Assign [.Name x pos'] (.ListComp elt [⟨tg,iter,ifs,0⟩] scope pos) spos) (QmL (QnD wi (Qjx X N' scope) g tc te) (QgD i)):=by
 have hb:∃b,swapsWith (.ListComp elt [⟨tg,iter,ifs,0⟩] scope pos) (some (.Name x pos')) spos.line X.env=pure b:=⟨_,rfl⟩;obtain⟨b,hb⟩:=hb;cases b with
 | false=>exact Qg8 hN hx1 hx (Qqo hcalm S hi hin hs) hb hf
 | true=>
  intro pins s U H D I h;rw[exec_Assign_Name_used _ _ _ _ hb];refine wpAny_bind (wpAny_standAt (wpAny_bind ?_));show wpAny _ X.A (do let _ ← comprehension (.ListComp elt [⟨tg,iter,ifs,0⟩] scope pos) scope X.env _ (newList []) false (eval iter X.env) (some (assign (.Name x pos') X.env))) _ _ s;refine wpAny_bind (thn (QoN hcalm S hi hin hs I h λDl C H' s' O h1 h2 h3 h4 h5 ⟨m,hm⟩ q=>?_) λ_ s' hq=>wpAny_pure (wpAny_pure hq));refine wpAny_assign_Name (Qm5 O hN hx1 hx (v:= .ref Dl) rfl (λs2 I2 hsb=>?_) hf);obtain⟨a,sb,ha⟩:=hsb;have haC:C≠a:=by
   rcases ha with rfl | ha
   .exact h2
   .exact Ne.symm (h4 _ _ ha)
  exact⟨m,hm.sameBut sb haC,λh' hs'=>⟨_,H',I2.QrN hs' h1 h2 h3 h4 h5,q⟩⟩
end
section
def Inv.QrX{t':Nat}{ch:LAd}{T:Addr}{ts:List V}(I:Inv X pins U H s)(hf:∀b∈ch,Qcn X pins H b)(k:∀b o,b∉ch->s.heap.get? b=some o->h'.get? b=some o)(hp:∀b∈ch,∃o,h'.get? b=some o)
  (hT:s.heap.objs.size<=T) (hnew:ts.length<=sizeLine/\∃its:List Value,Qt ts its/\IsTup h' T its.toArray):Inv X pins U (upd H T (.tup ts)) {s with heap:=h',toks:=t'}:=by
 have hn:H T=none:=I.hok.fresh hT;have neT:∀b u,H b=some u->b≠T:=λb u e=>QbA e hn;have nch:∀b u,H b=some u->b∉ch:=λb u e hb=>by rw[(hf b hb).1]at e;cases e
 have ltT:∀b o,s.heap.get? b=some o->b≠T:=λb o e=>ZC (Zr (Zp e) hT)
 refine I.step (g':=s.gens) (d':=s.drawn) (ch:=ch) (λb hb=>?_) (λb o _ _ hc e _=>k b o hc e) (λb o _ _ hc e _=>⟨o.slots,k b o hc e⟩) (λb o _ e n=>by rw[Qy (ltT b o e)];exact n)
  (λb o hc e=>⟨o,k b o hc e⟩) (λb xs e=>by rw[Qy (neT b _ e)];exact e) (λb o u e=>by rw[Qy (neT b _ e)];exact e) (λb ps e=>⟨#[],by rw[Qy (neT b _ e),e];simp⟩) (λm hm=>?_) (λb u e=>?_) I.bare
 .obtain⟨f0,f1,f2,f3,f4,f5⟩:=hf b hb;exact⟨f3,f1,f4,f5⟩
 .obtain⟨o,es,ep,ho,r⟩:=hm;exact⟨o,es,ep,k _ o (λz=>(hf _ z).2.1 rfl) ho,r⟩
 .by_cases hb:b=T
  .subst hb;rw[Q4]at e;cases e;exact hnew
  .rw[Qy hb]at e;refine(I.hok b u e).QgI (λc v hc q=>k c v ?_ q) (λc q=>by rw[Qy (neT c _ q)];exact q) λc xs q=>by rw[Qy (neT c _ q)];exact q
   rcases hc with z | z
   .rw[z];exact nch b u e
   .exact nch c _ z
def Inv.turns{t':Nat}{ch:LAd}(I:Inv X pins U H s)(hf:∀b∈ch,Qcn X pins H b)(k:∀b o,b∉ch->s.heap.get? b=some o->h'.get? b=some o):Inv X pins U H {s with heap:=h',toks:=t'}:=by
 have nch:∀b u,H b=some u->b∉ch:=λb u e hb=>by rw[(hf b hb).1]at e;cases e
 refine I.step (g':=s.gens) (d':=s.drawn) (ch:=ch) (λb hb=>?_) (λb o _ _ hc e _=>k b o hc e) (λb o _ _ hc e _=>⟨o.slots,k b o hc e⟩) (λb o _ e n=>n)
  (λb o hc e=>⟨o,k b o hc e⟩) (λb xs e=>e) (λb o u e=>e) (λb ps e=>⟨#[],by rw[e];simp⟩) (λm hm=>?_) (λb u e=>?_) I.bare
 .obtain⟨f0,f1,f2,f3,f4,f5⟩:=hf b hb;exact⟨f3,f1,f4,f5⟩
 .obtain⟨o,es,ep,ho,r⟩:=hm;exact⟨o,es,ep,k _ o (λz=>(hf _ z).2.1 rfl) ho,r⟩
 .refine(I.hok b u e).QgI (λc v hc q=>k c v ?_ q) (λc q=>q) λc xs q=>q;rcases hc with z | z
  .rw[z];exact nch b u e
  .exact nch c _ z
end
def Ite(K:Fgg)(a:Addr):It:=
 ⟨λi H=>∃xs x,SqL K H a xs/\xs[i]? =some x,λi H v H'=>∃p x,v= .ref p/\H p=none/\H'=upd H p (.tup [.int i,x])/\∀xs,SqL K H a xs->xs[i]? =some x,λi H=>∃xs,SqL K H a xs/\xs.length<=i⟩
def mm0{a:Addr}{l:LAd}:a∈a::l:= .head _
def mm1{a b:Addr}{l:LAd}:a∈b::a::l:= .tail _ mm0
def mm2{a b c:Addr}{l:LAd}:a∈b::c::a::l:= .tail _ mm1
def mm3{a b c d:Addr}{l:LAd}:a∈b::c::d::a::l:= .tail _ mm2
def mm4{a b c d e:Addr}{l:LAd}:a∈b::c::d::e::a::l:= .tail _ mm3
def nmm{a b:Addr}{l:LAd}(hb:b∉l)(ha:a∈l):b≠a:=λe=>hb (e▸ha)
def fa1{p:Addr->Prop}{a:Addr}{l:LAd}(h:p a)(t:∀x∈l,p x):∀x∈a::l,p x:=List.forall_mem_cons.2 ⟨h,t⟩
def NL(h:Heap)(b:Addr):Prop:=∃o,h.get? b=some o/\o.cls≠ .type "list" /\∀v,o.data≠ .cell v
def NL.it{h:Heap}(q:h.IsListIter b l k):NL h b:=by
 obtain⟨o,ho,hc,hd⟩:=q;exact⟨o,ho,by rw[hc];simp,λv z=>by rw[hd]at z;cases z⟩
def NL.zip(hz:IsZip h z T1 T2 x):NL h z:=⟨_,hz,⋯,λv z=>by cases z⟩
def NL.tup{h:Heap}(q:h.get? b=some {cls:= .type "tuple",data:= .seq a}):NL h b:=⟨_,q,⋯,λv z=>by cases z⟩
def NL.obj(n:NL h b):∃o,h.get? b=some o/\∀v,o.data≠ .cell v:=let ⟨o,e,_,v⟩:=n;⟨o,e,v⟩
def NL.ex(n:NL h b):∃o,h.get? b=some o:=let ⟨o,e,_⟩:=n;⟨o,e⟩
def NL.lt(n:NL h b):b<h.objs.size:=let ⟨_,e⟩:=n.ex;Zp e
def NL.apart{X:Cx}{H:Hp}{s:Shared}(n:NL s.heap b)(I:Inv X pins U H s)(hn:H b=none)(hq:SqL X.K H l ys):l≠b:=λe=>by
 subst e;rcases hq with(hq | ⟨_,hq⟩) | ⟨o',its,k,hk,hc',_⟩
 .rw[hn]at hq;cases hq
 .rw[hn]at hq;cases hq
 .obtain⟨o,ho,hc,_⟩:=n;rw[I.kIn l o' hk]at ho;exact hc (Option.some.inj ho▸hc')
def Qs5{P:Program}{w:World}{K:Fgg}{es:List Expr}{tk:Nat}{tpos:Pos}(a e it:Addr)(hne:e≠it):Turn P w K (.Tuple es tk tpos) (Ite K a) [e,it] e (λi h=>∃old,IsEnum h e it (i:Int) old/\h.IsListIter it a i) where
 mem:=mm0
 obj:=λi h st b hb=>by
  obtain⟨old,he,hi⟩:=st;exact(fa1 (p:=NL h) ⟨_,he,⋯,λv z=>by cases z⟩ (fa1 (.it hi) (List.forall_mem_nil _)) b hb).obj
 keep:=λi h h' st k=>by
  obtain⟨old,he,hi⟩:=st;exact⟨old,k e mm0 _ he,hi.at (k it mm1)⟩
 item:=by
  intro X hP hw hK hc i pins s U H E I hf st hg;subst hP hw hK;obtain⟨old,he,hi⟩:=st;obtain⟨xs,x,hq,hx⟩:=hg;obtain⟨its,rv,p,hz⟩:=I.list hq;obtain⟨u,hu,ru⟩:=rv.get hx;refine wpAny_pyNext_enum_item he hi p.isList (x:=u) (by simpa using hu) hne λh1 heo hi1 ht1 hz1 hk1=>?_;refine⟨.ref s.heap.objs.size,rfl,wpAny_letOwnedTupleGo_enum heo λh2 he2 hs2=>?_⟩
  replace hs2:Heap.SameBut e h1 h2:=hs2
  have helt:e<s.heap.objs.size:=Zp he;have hilt:it<s.heap.objs.size:=by obtain⟨o,ho,_⟩:=hi;exact Zp ho
  have ht2:IsTup h2 s.heap.objs.size [Value.int i s.toks,u].toArray:=⟨_,(hs2.2 _ (ZaD helt)).trans ht1,rfl,_,rfl⟩;have hi2:h2.IsListIter it a (i+1):=hi1.extBut hs2.extBut (Ne.symm hne);have kk:∀b o,b∉[e,it]->s.heap.get? b=some o->h2.get? b=some o:=λb o hb q=>by
   have h1:b≠e:=λz=>hb (by simp[z]);have h2:b≠it:=λz=>hb (by simp[z]);exact hs2.extBut b o h1 (hk1 b o h1 h2 q)
  refine⟨.ref s.heap.objs.size,upd H s.heap.objs.size (.tup [.int i,x]),I.QrX (t':=s.toks+1) hf kk (λb hb=>?_) (Zi _) ⟨by show 2<=sizeLine;decide,_,.cons ⟨_,rfl⟩ (.cons ru .nil),ht2⟩,rfl,
   ⟨_,x,rfl,I.hok.fresh (Zi _),rfl,λys hy=>by rw[I.Qf4 hy hq];exact hx⟩,⟨u,?_,hi2⟩,λb hb=>?_⟩
  .have hb:b=e∨b=it:=by simpa using hb
   rcases hb with rfl | rfl
   .exact⟨_,he2⟩
   .obtain⟨o,ho,_⟩:=hi2;exact⟨o,ho⟩
  .have:((i+1:Nat):Int)=(i:Int)+1:=by push_cast;rfl
   rw[this];exact he2
  .have hb':b=e∨b=it:=by simpa using hb
   have:b≠s.heap.objs.size:=by
    rcases hb' with rfl | rfl
    .exact ZC helt
    .exact ZC hilt
   rw[Qy this];exact(hf b hb).1
 done:=by
  intro X hP hw hK hc i pins s U H E I hf st hg;subst hP hw hK;obtain⟨old,he,hi⟩:=st;obtain⟨xs,hq,hx⟩:=hg;obtain⟨its,rv,p,hz⟩:=I.list hq;have hl:=rv.length;refine wpAny_pyNext_enum_end (I.ok.hd hc) he hi p.isList (by simp;lia) λh1 eb=>⟨rfl,?_⟩;exact I.turns (t':=s.toks) hf λb o hb q=>eb b o (λz=>hb (by simp[z])) q
 self:=λ_ _ _ _ _ st h=>by
  obtain⟨old,he,hi⟩:=st;exact wpAny_pyIter_enum he h
section
def QD4(K:Fgg)(ta:TA):TI:=λU H R=>ta U H λvs H1=>∃a,vs=[.ref a]/\(∃xs,SqL K H1 a xs)/\R (Ite K a) H1
def QzA{a:Expr}{ta:TA}{p pos:Pos}{es:List Expr}{tk:Nat}{tpos:Pos}(hg:Gl X "enumerate")(hm:X.mg "enumerate" =none)(ha:PA X [a] ta)(hs:starEach [a] X.env=[(false,eval a X.env)]):
  PI X (.Tuple es tk tpos) (.Call (.Name "enumerate" p) [a] [] pos) (QD4 X.K ta):=by
 intro pins s U H R I h;refine Call_ (Qc4 I hg hm PyProof.Rows.boot_enumerate (ZL (thn (ha pos pins s U H _ I h) λus s1 ⟨vs,H1,I1,r1,q1⟩=>?_) hs rfl));obtain⟨l,e,⟨xs,hq⟩,q⟩:=q1;subst e;obtain⟨u,rfl,ru⟩:=vals1 r1;cases ru;obtain⟨its,rv,pl,hz⟩:=I1.list hq;refine call_enumerate_list pl.isList λh2 he2 hi2 hz2 hk2=>?_;have I2:Inv X pins U H1 {s1 with heap:=h2}:=I1.kept (t':=s1.toks) hk2;refine wpAny_pyIter_enum he2 ⟨_,[s1.heap.objs.size+1,s1.heap.objs.size],_,_,H1,rfl,I2,Qs5 l _ _ (Nat.succ_ne_self _),⟨_,he2,hi2⟩,λb hb=>?_,q⟩;have hb:b=s1.heap.objs.size+1∨b=s1.heap.objs.size:=by simpa using hb
 have hle:s1.heap.objs.size<=b:=by rcases hb with rfl | rfl<;>lia
 exact I1.QkI hle (I1.hok.fresh hle)
end
def Itz(K:Fgg)(a b:Addr):It:=
 ⟨λi H=>∃xs ys x y,SqL K H a xs/\SqL K H b ys/\xs[i]? =some x/\ys[i]? =some y,λi H v H'=>∃p x y,v= .ref p/\H p=none/\H'=upd H p (.tup [x,y])/\(∀xs,SqL K H a xs->xs[i]? =some x)/\∀ys,SqL K H b ys->ys[i]? =some y,
  λi H=>∃xs ys,SqL K H a xs/\SqL K H b ys/\(xs.length<=i∨ys.length<=i)⟩
structure Qmp (z TI TO i1 i2:Addr):Prop where
 a:TI≠z
 b:TO≠z
 c:i1≠z
 d:i2≠z
 e:TI≠TO
 f:TI≠i1
 g:TI≠i2
 h:TO≠i1
 i:TO≠i2
 j:i1≠i2
def QkM{h:Heap}(hz:IsZip h z T1 T2 x)(hA:IsPair h T1 a b)(hB:IsPair h T2 c d)(h1:h.IsListIter i1 l1 k)(h2:h.IsListIter i2 l2 k):∀b∈[z,T1,T2,i1,i2],NL h b:=
 fa1 (.zip hz) (fa1 (.tup hA) (fa1 (.tup hB) (fa1 (.it h1) (fa1 (.it h2) λ_ h=>nomatch h))))
def QtN{X:Cx}{s:Shared}(D:Qmp z T1 T2 i1 i2)(I:Inv X pins U H s)(hf:∀b∈[z,T1,T2,i1,i2],Qcn X pins H b)(O:∀b∈[z,T1,T2,i1,i2],NL s.heap b)(hq1:SqL X.K H l1 xs)(hq2:SqL X.K H l2 ys):ZipApart z T1 T2 i1 i2 l1 l2:=by
 have A1:=λb hb=>(O b hb).apart I (hf b hb).1 hq1;have A2:=λb hb=>(O b hb).apart I (hf b hb).1 hq2;exact⟨D.a,D.b,D.c,D.d,D.e,D.f,D.g,D.h,D.i,D.j,A1 z mm0,A1 T2 mm2,A1 i1 mm3,A1 i2 mm4,A2 z mm0,A2 T2 mm2,A2 i1 mm3,A2 i2 mm4⟩
def QuY{P:Program}{w:World}{K:Fgg}{es:List Expr}{tk:Nat}{tpos:Pos}(l1 l2 z TI TO i1 i2:Addr)(D:Qmp z TI TO i1 i2):
  Turn P w K (.Tuple es tk tpos) (Itz K l1 l2) [z,TI,TO,i1,i2] z (λi h=>IsZip h z TI TO .none/\IsPair h TI (.ref i1) (.ref i2)/\(∃a b,IsPair h TO a b)/\h.IsListIter i1 l1 i/\h.IsListIter i2 l2 i) where
 mem:=mm0
 obj:=λi h st b hb=>by
  obtain⟨hz,hTI,⟨p,q,hTO⟩,h1,h2⟩:=st;exact(QkM hz hTI hTO h1 h2 b hb).obj
 keep:=λi h h' st k=>by
  obtain⟨hz,hTI,⟨p,q,hTO⟩,h1,h2⟩:=st;exact⟨k z mm0 _ hz,k TI mm1 _ hTI,⟨p,q,k TO mm2 _ hTO⟩,h1.at (k i1 mm3),h2.at (k i2 mm4)⟩
 item:=by
  intro X hP hw hK hc i pins s U H E I hf st hg;subst hP hw hK;obtain⟨hz,hTI,⟨a0,b0,hTO⟩,h1,h2⟩:=st;obtain⟨xs,ys,x,y,hq1,hq2,hx,hy⟩:=hg;obtain⟨its,rv,p,hzz⟩:=I.list hq1;obtain⟨its2,rv2,p2,hzz2⟩:=I.list hq2;obtain⟨u,hu,ru⟩:=rv.get hx;obtain⟨u2,hu2,ru2⟩:=rv2.get hy;have O:=QkM hz hTI hTO h1 h2;refine wpAny_pyNext_zip_item (QtN D I hf O hq1 hq2) hz hTI hTO h1 h2 p.isList p2.isList (x:=u) (y:=u2) (by simpa using hu) (by simpa using hu2) λh3 z3 TO3 a3 b3 T3 sz3 k3=>?_;refine⟨.ref s.heap.objs.size,rfl,wpAny_letOwnedTupleGo_zip z3 λh4 z4 hs4=>?_⟩
  replace hs4:Heap.SameBut z h3 h4:=hs4
  have kk:∀b o,b∉[z,TI,TO,i1,i2]->s.heap.get? b=some o->h4.get? b=some o:=λb o hb q=>
   hs4.extBut b o (nmm hb mm0) (k3 b o (nmm hb mm0) (nmm hb mm2) (nmm hb mm3) (nmm hb mm4) q)
  have TI4:IsPair h4 TI (.ref i1) (.ref i2):=hs4.extBut _ _ D.a (k3 _ _ D.a D.e D.f D.g hTI);have TO4:IsPair h4 TO u u2:=hs4.extBut _ _ D.b TO3;have a4:h4.IsListIter i1 l1 (i+1):=a3.extBut hs4.extBut D.c;have b4:h4.IsListIter i2 l2 (i+1):=b3.extBut hs4.extBut D.d
  exact⟨.ref s.heap.objs.size,upd H s.heap.objs.size (.tup [x,y]),I.QrX (t':=s.toks) hf kk (λb hb=>(QkM z4 TI4 TO4 a4 b4 b hb).ex) (Zi _) ⟨by show 2<=sizeLine;decide,_,.cons ru (.cons ru2 .nil),_,(hs4.2 _ (ZaD (O z mm0).lt)).trans T3,rfl,_,rfl⟩,rfl,
   ⟨_,x,y,rfl,I.hok.fresh (Zi _),rfl,λzs hy'=>by rw[I.Qf4 hy' hq1];exact hx,λzs hy'=>by rw[I.Qf4 hy' hq2];exact hy⟩,⟨z4,TI4,⟨_,_,TO4⟩,a4,b4⟩,λb hb=>by rw[Qy (ZC (O b hb).lt)];exact(hf b hb).1⟩
 done:=by
  intro X hP hw hK hc i pins s U H E I hf st hg;subst hP hw hK;obtain⟨hz,hTI,⟨a0,b0,hTO⟩,h1,h2⟩:=st;obtain⟨xs,ys,hq1,hq2,hx⟩:=hg;obtain⟨its,rv,p,hzz⟩:=I.list hq1;obtain⟨its2,rv2,p2,hzz2⟩:=I.list hq2;have hl:=rv.length;have hl2:=rv2.length;refine wpAny_pyNext_zip_end (I.ok.hd hc) (QtN D I hf (QkM hz hTI hTO h1 h2) hq1 hq2) hz hTI hTO h1 h2 p.isList p2.isList (by rcases hx with hx | hx;(left;simp;lia);(right;simp;lia)) λh3 k3=>⟨rfl,?_⟩;exact I.turns (t':=s.toks) hf λb o hb q=>k3 b o (nmm hb mm0) (nmm hb mm2) (nmm hb mm3) (nmm hb mm4) q
 self:=λ_ _ _ _ _ st h=>wpAny_pyIter_zip st.1 h
section
def QEL(K:Fgg)(ta:TA):TI:=λU H R=>ta U H λvs H1=>∃a b,vs=[.ref a,.ref b]/\(∃xs,SqL K H1 a xs)/\(∃ys,SqL K H1 b ys)/\R (Itz K a b) H1
def QA2{a b:Expr}{ta:TA}{p pos:Pos}{es:List Expr}{tk:Nat}{tpos:Pos}(hg:Gl X "zip")(hm:X.mg "zip" =none)(ha:PA X [a,b] ta)(hs:starEach [a,b] X.env=[(false,eval a X.env),(false,eval b X.env)])(hs2:starEach [b] X.env=[(false,eval b X.env)]):
  PI X (.Tuple es tk tpos) (.Call (.Name "zip" p) [a,b] [] pos) (QEL X.K ta):=by
 intro pins s U H R I h;refine Call_ (Qc4 I hg hm PyProof.Rows.boot_zip (ZL (thn (ha pos pins s U H _ I h) λus s1 ⟨vs,H1,I1,r1,q1⟩=>?_) (by rw[hs,hs2]) (by rw[hs2];rfl)));obtain⟨l,l2,e,⟨xs,hq⟩,⟨ys,hq2⟩,q⟩:=q1;subst e;obtain⟨u,u2,rfl,ru,ru2⟩:=vals2 r1;cases ru;cases ru2;obtain⟨its,rv,pl,hz⟩:=I1.list hq;obtain⟨its2,rv2,pl2,hz2⟩:=I1.list hq2;refine call_zip_2 pl.isList pl2.isList λh2 hz hTI hTO h1 h2' hsz hk2=>?_;have I2:Inv X pins U H1 {s1 with heap:=h2}:=I1.kept (t':=s1.toks) hk2;refine wpAny_pyIter_zip hz ⟨_,[s1.heap.objs.size+4,s1.heap.objs.size+2,s1.heap.objs.size+3,s1.heap.objs.size,s1.heap.objs.size+1],_,_,H1,rfl,I2,QuY l l2 _ _ _ _ _ ⟨?_,?_,?_,?_,?_,?_,?_,?_,?_,?_⟩,⟨hz,hTI,⟨_,_,hTO⟩,h1,h2'⟩,λb hb=>?_,q⟩
 iterate 10 (exact(by intro e;first | (have e':(s1.heap.objs.size:Nat)+_=_:=e;lia) | (have e':(s1.heap.objs.size:Nat)=_:=e;lia)))
 have hle:s1.heap.objs.size<=b:=by
  simp only[Zn,Zbe,or_false]at hb;rcases hb with rfl | rfl | rfl | rfl | rfl<;>first | exact Zi _ | exact Nat.le_add_right _ _
 exact I1.QkI hle (I1.hok.fresh hle)
end
end L2
namespace L2
open PySem PySem.Spec
section
variable {prog:Program}{w:World}{A:Around}{E:Value->Shared->Prop}{s:Shared}
end
section
variable {prog:Program}{w:World}{A:Around}{E:Value->Shared->Prop}{s:Shared}
end
open PyProof.Rows
section
end
end L2
namespace HS
open PySem PySem.Spec PyProof.Rows L2
inductive Ob where
 | ins (x:Str) (ns:List Str) | pin (a:Addr) | pair
 | dic (ks:List Str)
noncomputable def Ob.n:Ob->Nat
 | .ins _ _=>1
 | .pin _=>0
 | .pair=>0
 | .dic _=>1
inductive D where
 | non | bl (b:Bool) | int (i:Int) | str (x:Str) | tup (xs:List D) | lst (xs:List D) | exc (x:Str) | dk (ks:List (List Int))
 | obj (o:Ob) (xs:List D)
mutual
noncomputable def D.flat:D->Bool
 | .lst _=>false
 | .tup xs=>QY xs
 | .non=>true
 | .bl _=>true
 | .int _=>true
 | .str _=>true
 | .exc _=>true
 | .dk _=>false
 | .obj _ _=>false
noncomputable def QY:List D->Bool
 | []=>true
 | d::ds=>d.flat && QY ds
end
mutual
noncomputable def D.nl:D->Nat
 | .lst xs=>nls xs+1
 | .tup xs=>nls xs
 | .non=>0
 | .bl _=>0
 | .int _=>0
 | .str _=>0
 | .exc _=>0
 | .dk _=>1
 | .obj o xs=>nls xs+o.n
noncomputable def nls:List D->Nat
 | []=>0
 | d::ds=>d.nl+nls ds
end
mutual
def Qdr:∀(d:D),d.flat=true->d.nl=0
 | .non,_=>rfl
 | .bl _,_=>rfl
 | .int _,_=>rfl
 | .str _,_=>rfl
 | .exc _,_=>rfl
 | .dk _,h=>by simp[D.flat]at h
 | .obj _ _,h=>by simp[D.flat]at h
 | .tup xs,h=>by simp only[D.nl];simp only[D.flat]at h;exact Qh8 xs h
 | .lst xs,h=>by simp[D.flat]at h
def Qh8:∀(ds:List D),QY ds=true->nls ds=0
 | [],_=>rfl
 | d::ds,h=>by simp only[QY,Zh]at h;simp only[nls,Qdr d h.1,Qh8 ds h.2]
end
def Fix(K:Fgg)(H:Hp)(a:Addr)(vs:List V):Prop:=
 (∃o,H a=some (.frz o (.lst vs)))∨
  ∃(its:List Value) (n:Nat),K.lookup a=some {cls:= .type "list",data:= .seq its.toArray n}/\vs.length<=sizeLine/\Qt vs its
def QdP(a C:Addr)(h:Heap):Prop:=∃o vs,h.get? a=some o/\o.cls= .ref C/\o.data= .fields vs
def ExcAt(K:Fgg)(H:Hp)(a:Addr)(x:Str):Prop:=∃C,PySem.W.nsIn K mainGlobals x=some (some (.ref C))/\H a=some (.ext (QdP a C))
def Qsi{K:Fgg}{H H':Hp}{a:Addr}{x:Str}(s:Qs H H')(h:ExcAt K H a x):ExcAt K H' a x:=by
 obtain⟨C,h1,h2⟩:=h;exact⟨C,h1,s _ _ h2⟩
def Qt9{K:Fgg}{H:Hp}{a p:Addr}{x:Str}{zs ys:List V}(hp:H p=some (.lst zs))(h:ExcAt K H a x):ExcAt K (upd H p (.lst ys)) a x:=by
 obtain⟨C,h1,h2⟩:=h;exact⟨C,h1,by rw[Qy (QnS h2 hp (by intro z;cases z))];exact h2⟩
noncomputable def dkC(ks:List (List Int)):List (List Key×V):=ks.map λk=>(k.map Sum.inl,V.bl true)
noncomputable def dsC(ks:List Str)(vs:List V):List (Key×V):=(ks.map Sum.inr).zip vs
def QcQ(K:Fgg)(H:Hp)(v:V)(vs:List V)(A:LAd):Ob->Prop
 | .ins x ns=>∃a C dx,v= .ref a/\A=[a]/\PySem.W.nsIn K mainGlobals x=some (some (.ref C))/\H a=some (.ins C dx (ns.zip vs))/\ns.length=vs.length
 | .pin a=>v= .ref a/\vs=[v]/\A=[]
 | .pair=>A=[]/\v≠ .non/\∃u,vs=[v,u]
 | .dic ks=>ks.length=vs.length/\∃a,v= .ref a/\A=[a]/\H a=some (.dK (dsC ks vs))
def QcQ.same{K:Fgg}{H H':Hp}{v:V}{vs:List V}{A:LAd}(s:Qs H H'):∀{o:Ob},QcQ K H v vs A o->QcQ K H' v vs A o
 | .ins _ _,⟨a,C,dx,e1,e2,e3,e4,e5⟩=>⟨a,C,dx,e1,e2,e3,s _ _ e4,e5⟩
 | .pin _,h=>h
 | .pair,h=>h
 | .dic _,⟨e1,a,e2,e3,e4⟩=>⟨e1,a,e2,e3,s _ _ e4⟩
def QcQ.upd{K:Fgg}{H:Hp}{v:V}{vs:List V}{A:LAd}{p:Addr}{u:HO}(hn:p∉A):∀{o:Ob},QcQ K H v vs A o->QcQ K (upd H p u) v vs A o
 | .ins _ _,⟨a,C,dx,e1,e2,e3,e4,e5⟩=>⟨a,C,dx,e1,e2,e3,by rw[Qy (λz=>hn (by rw[e2,← z];exact List.mem_singleton_self a))];exact e4,e5⟩
 | .pin _,h=>h
 | .pair,h=>h
 | .dic _,⟨e1,a,e2,e3,e4⟩=>⟨e1,a,e2,e3,by rw[Qy (λz=>hn (by rw[e3,← z];exact List.mem_singleton_self a))];exact e4⟩
def QcQ.mem{K:Fgg}{H:Hp}{v:V}{vs:List V}{A:LAd}:∀{o:Ob},QcQ K H v vs A o->∀a∈A,∃u,H a=some u
 | .ins _ _,⟨a,C,dx,e1,e2,e3,e4,e5⟩,b,hb=>by rw[e2]at hb;rw[Zj.mp hb];exact⟨_,e4⟩
 | .pin _,⟨_,_,e⟩,b,hb=>by rw[e]at hb;simp at hb
 | .pair,⟨e,_⟩,b,hb=>by rw[e]at hb;simp at hb
 | .dic _,⟨e1,a,e2,e3,e4⟩,b,hb=>by rw[e3]at hb;rw[Zj.mp hb];exact⟨_,e4⟩
def QcQ.len{K:Fgg}{H:Hp}{v:V}{vs:List V}{A:LAd}:∀{o:Ob},QcQ K H v vs A o->A.length=o.n
 | .ins _ _,⟨a,C,dx,e1,e2,e3,e4,e5⟩=>by rw[e2];rfl
 | .pin _,⟨_,_,e⟩=>by rw[e];rfl
 | .pair,⟨e,_⟩=>by rw[e];rfl
 | .dic _,⟨_,_,_,e,_⟩=>by rw[e];rfl
def QcQ.ne{K:Fgg}{H:Hp}{v:V}{vs:List V}{A:LAd}:∀{o:Ob},QcQ K H v vs A o->v≠ .non
 | .ins _ _,⟨a,C,dx,e1,_⟩=>by rw[e1];exact V.noConfusion
 | .pin _,⟨e,_,_⟩=>by rw[e];exact V.noConfusion
 | .pair,⟨_,h,_⟩=>h
 | .dic _,⟨_,a,e,_⟩=>by rw[e];exact V.noConfusion
mutual
def Rp(K:Fgg)(H:Hp):D->V->List Addr->Prop
 | .non,v,F=>v= .non/\F=[]
 | .bl b,v,F=>v= .bl b/\F=[]
 | .int i,v,F=>v= .int i/\F=[]
 | .str x,v,F=>v= .str x/\F=[]
 | .exc x,v,F=>(∃a,v= .ref a/\ExcAt K H a x)/\F=[]
 | .dk ks,v,F=>∃a,v= .ref a/\F=[a]/\H a=some (.dT (dkC ks))
 | .obj o ds,v,F=>∃vs A G,F=A++G/\QcQ K H v vs A o/\Rps K H ds vs G
 | .tup ds,v,F=>∃a vs,v= .ref a/\SqT K H a vs/\Rps K H ds vs F
 | .lst ds,v,F=>ds.length<=sizeLine/\∃a vs,v= .ref a/\((∃G,F=a::G/\H a=some (.lst vs)/\Rps K H ds vs G)∨(Fix K H a vs/\Rps K H ds vs F))
def Rps(K:Fgg)(H:Hp):List D->List V->List Addr->Prop
 | [],vs,F=>vs=[]/\F=[]
 | d::ds,vs,F=>∃v ws F1 F2,vs=v::ws/\F=F1++F2/\Rp K H d v F1/\Rps K H ds ws F2
end
def Qpn{K:Fgg}{H H':Hp}{a:Addr}{vs:List V}(s:Qs H H')(h:SqT K H a vs):SqT K H' a vs:=by
 rcases h with(h | ⟨o,h⟩) | h
 .exact .inl (.inl (s _ _ h))
 .exact .inl (.inr ⟨o,s _ _ h⟩)
 .exact .inr h
def QoA{K:Fgg}{H H':Hp}{a:Addr}{vs:List V}(s:Qs H H')(h:Fix K H a vs):Fix K H' a vs:=by
 rcases h with⟨o,h⟩ | h
 .exact .inl ⟨o,s _ _ h⟩
 .exact .inr h
def QqW{K:Fgg}{H:Hp}{a p:Addr}{vs zs ys:List V}(hp:H p=some (.lst zs))(h:SqT K H a vs):SqT K (upd H p (.lst ys)) a vs:=by
 rcases h with(h | ⟨o,h⟩) | h
 .exact .inl (.inl (by rw[Qy (QnS h hp (by intro z;cases z))];exact h))
 .exact .inl (.inr ⟨o,by rw[Qy (QnS h hp (by intro z;cases z))];exact h⟩)
 .exact .inr h
def Qzt{K:Fgg}{H:Hp}{a p:Addr}{vs zs ys:List V}(hp:H p=some (.lst zs))(h:Fix K H a vs):Fix K (upd H p (.lst ys)) a vs:=by
 rcases h with⟨o,h⟩ | h
 .exact .inl ⟨o,by rw[Qy (QnS h hp (by intro z;cases z))];exact h⟩
 .exact .inr h
section
variable {K:Fgg}{H H':Hp}
mutual
def Rp.same(s:Qs H H'):∀{d:D}{v:V}{F:LAd},Rp K H d v F->Rp K H' d v F
 | .exc _,_,_,h=>by
  simp only[Rp]at h ⊢;obtain⟨⟨a,e,q⟩,z⟩:=h;exact⟨⟨a,e,Qsi s q⟩,z⟩
 | .dk _,_,_,h=>by
  simp only[Rp]at h ⊢;obtain⟨a,e,eF,q⟩:=h;exact⟨a,e,eF,s _ _ q⟩
 | .obj _ _,_,_,h=>by
  simp only[Rp]at h ⊢;obtain⟨vs,A,G,eF,q,r⟩:=h;exact⟨vs,A,G,eF,q.same s,Rps.same s r⟩
 | .non,_,_,h=>h
 | .bl _,_,_,h=>h
 | .int _,_,_,h=>h
 | .str _,_,_,h=>h
 | .tup ds,_,_,h=>by
  simp only[Rp]at h ⊢;obtain⟨a,vs,e,q,r⟩:=h;exact⟨a,vs,e,Qpn s q,Rps.same s r⟩
 | .lst ds,_,_,h=>by
  simp only[Rp]at h ⊢;obtain⟨hz,a,vs,e,⟨G,eF,q,r⟩ | ⟨q,r⟩⟩:=h
  .exact⟨hz,a,vs,e,.inl ⟨G,eF,s _ _ q,Rps.same s r⟩⟩
  .exact⟨hz,a,vs,e,.inr ⟨QoA s q,Rps.same s r⟩⟩
def Rps.same(s:Qs H H'):∀{ds:List D}{vs:List V}{F:LAd},Rps K H ds vs F->Rps K H' ds vs F
 | [],_,_,h=>h
 | d::ds,_,_,h=>by
  simp only[Rps]at h ⊢;obtain⟨v,ws,F1,F2,e,eF,r,q⟩:=h;exact⟨v,ws,F1,F2,e,eF,Rp.same s r,Rps.same s q⟩
end
mutual
def Rp.upd{p:Addr}{zs ys:List V}(hp:H p=some (.lst zs)):∀{d:D}{v:V}{F:LAd},Rp K H d v F->p∉F->Rp K (upd H p (.lst ys)) d v F
 | .exc _,_,_,h,_=>by
  simp only[Rp]at h ⊢;obtain⟨⟨a,e,q⟩,z⟩:=h;exact⟨⟨a,e,Qt9 hp q⟩,z⟩
 | .dk _,_,_,h,hn=>by
  simp only[Rp]at h ⊢;obtain⟨a,e,eF,q⟩:=h;subst eF;exact⟨a,e,rfl,by rw[Qy (λz=>hn (by rw[z];exact Zf))];exact q⟩
 | .obj _ _,_,_,h,hn=>by
  simp only[Rp]at h ⊢;obtain⟨vs,A,G,eF,q,r⟩:=h;subst eF;exact⟨vs,A,G,rfl,q.upd λz=>hn (Zk _ z),Rps.upd hp r λz=>hn (Ze _ z)⟩
 | .non,_,_,h,_=>h
 | .bl _,_,_,h,_=>h
 | .int _,_,_,h,_=>h
 | .str _,_,_,h,_=>h
 | .tup ds,_,_,h,hn=>by
  simp only[Rp]at h ⊢;obtain⟨a,vs,e,q,r⟩:=h;exact⟨a,vs,e,QqW hp q,Rps.upd hp r hn⟩
 | .lst ds,_,_,h,hn=>by
  simp only[Rp]at h ⊢;obtain⟨hz,a,vs,e,⟨G,eF,q,r⟩ | ⟨q,r⟩⟩:=h
  .subst eF;have h1:a≠p:=λz=>hn (by rw[z];exact Zf);exact⟨hz,a,vs,e,.inl ⟨G,rfl,by rw[Qy h1];exact q,Rps.upd hp r λz=>hn (Zc _ z)⟩⟩
  .exact⟨hz,a,vs,e,.inr ⟨Qzt hp q,Rps.upd hp r hn⟩⟩
def Rps.upd{p:Addr}{zs ys:List V}(hp:H p=some (.lst zs)):∀{ds:List D}{vs:List V}{F:LAd},Rps K H ds vs F->p∉F->Rps K (upd H p (.lst ys)) ds vs F
 | [],_,_,h,_=>h
 | d::ds,_,_,h,hn=>by
  simp only[Rps]at h ⊢;obtain⟨v,ws,F1,F2,e,eF,r,q⟩:=h;subst eF;exact⟨v,ws,F1,F2,e,rfl,Rp.upd hp r λz=>hn (Zk _ z),Rps.upd hp q λz=>hn (Ze _ z)⟩
end
mutual
def Rp.mem:∀{d:D}{v:V}{F:LAd},Rp K H d v F->∀a∈F,∃u,H a=some u
 | .non,_,_,h,a,ha=>by simp only[Rp]at h;rw[h.2]at ha;simp at ha
 | .bl _,_,_,h,a,ha=>by simp only[Rp]at h;rw[h.2]at ha;simp at ha
 | .int _,_,_,h,a,ha=>by simp only[Rp]at h;rw[h.2]at ha;simp at ha
 | .str _,_,_,h,a,ha=>by simp only[Rp]at h;rw[h.2]at ha;simp at ha
 | .exc _,_,_,h,a,ha=>by simp only[Rp]at h;rw[h.2]at ha;simp at ha
 | .dk _,_,_,h,a,ha=>by simp only[Rp]at h;obtain⟨b,e,eF,q⟩:=h;subst eF;rw[Zj.mp ha];exact⟨_,q⟩
 | .obj _ _,_,_,h,a,ha=>by
  simp only[Rp]at h;obtain⟨vs,A,G,eF,q,r⟩:=h;subst eF;rcases Zx.mp ha with z | z
  .exact q.mem a z
  .exact Rps.mem r a z
 | .tup ds,_,_,h,a,ha=>by
  simp only[Rp]at h;obtain⟨_,vs,e,q,r⟩:=h;exact Rps.mem r a ha
 | .lst ds,_,_,h,a,ha=>by
  simp only[Rp]at h;obtain⟨_,b,vs,e,⟨G,eF,q,r⟩ | ⟨q,r⟩⟩:=h
  .subst eF;rcases Zn.mp ha with z | z
   .exact⟨_,by rw[z];exact q⟩
   .exact Rps.mem r a z
  .exact Rps.mem r a ha
def Rps.mem:∀{ds:List D}{vs:List V}{F:LAd},Rps K H ds vs F->∀a∈F,∃u,H a=some u
 | [],_,_,h,a,ha=>by simp only[Rps]at h;rw[h.2]at ha;simp at ha
 | d::ds,_,_,h,a,ha=>by
  simp only[Rps]at h;obtain⟨v,ws,F1,F2,e,eF,r,q⟩:=h;subst eF;rcases Zx.mp ha with z | z
  .exact Rp.mem r a z
  .exact Rps.mem q a z
end
mutual
def Rp.QbX:∀{d:D}{v:V}{F:LAd},Rp K H d v F->d.flat=true->F=[]
 | .non,_,_,h,_=>by simp only[Rp]at h;exact h.2
 | .bl _,_,_,h,_=>by simp only[Rp]at h;exact h.2
 | .int _,_,_,h,_=>by simp only[Rp]at h;exact h.2
 | .str _,_,_,h,_=>by simp only[Rp]at h;exact h.2
 | .exc _,_,_,h,_=>by simp only[Rp]at h;exact h.2
 | .dk _,_,_,h,hf=>by simp[D.flat]at hf
 | .obj _ _,_,_,h,hf=>by simp[D.flat]at hf
 | .tup ds,_,_,h,hf=>by
  simp only[Rp]at h;simp only[D.flat]at hf;obtain⟨_,vs,e,q,r⟩:=h;exact Rps.QbX r hf
 | .lst ds,_,_,h,hf=>by simp[D.flat]at hf
def Rps.QbX:∀{ds:List D}{vs:List V}{F:LAd},Rps K H ds vs F->QY ds=true->F=[]
 | [],_,_,h,_=>by simp only[Rps]at h;exact h.2
 | d::ds,_,_,h,hf=>by
  simp only[Rps]at h;simp only[QY,Zh]at hf;obtain⟨v,ws,F1,F2,e,eF,r,q⟩:=h;rw[eF,Rp.QbX r hf.1,Rps.QbX q hf.2];rfl
end
mutual
def Rp.Qaq:∀{d:D}{v:V}{F:LAd},Rp K H d v F->F.length<=d.nl
 | .non,_,_,h=>by simp only[Rp]at h;rw[h.2];exact ZK _
 | .bl _,_,_,h=>by simp only[Rp]at h;rw[h.2];exact ZK _
 | .int _,_,_,h=>by simp only[Rp]at h;rw[h.2];exact ZK _
 | .str _,_,_,h=>by simp only[Rp]at h;rw[h.2];exact ZK _
 | .exc _,_,_,h=>by simp only[Rp]at h;rw[h.2];exact ZK _
 | .dk _,_,_,h=>by simp only[Rp]at h;obtain⟨b,e,eF,q⟩:=h;subst eF;exact Zi _
 | .obj _ _,_,_,h=>by
  simp only[Rp]at h;obtain⟨vs,A,G,eF,q,r⟩:=h;rw[eF,Zl,q.len];simp only[D.nl];have:=Rps.Qaq r;lia
 | .tup ds,_,_,h=>by
  simp only[Rp]at h;obtain⟨_,vs,e,q,r⟩:=h;simp only[D.nl];exact Rps.Qaq r
 | .lst ds,_,_,h=>by
  simp only[Rp]at h;simp only[D.nl];obtain⟨_,b,vs,e,⟨G,eF,q,r⟩ | ⟨q,r⟩⟩:=h
  .rw[eF,Zs];have:=Rps.Qaq r;lia
  .have:=Rps.Qaq r;lia
def Rps.Qaq:∀{ds:List D}{vs:List V}{F:LAd},Rps K H ds vs F->F.length<=nls ds
 | [],_,_,h=>by simp only[Rps]at h;rw[h.2];exact ZK _
 | d::ds,_,_,h=>by
  simp only[Rps]at h;obtain⟨v,ws,F1,F2,e,eF,r,q⟩:=h;simp only[nls];rw[eF,Zl];have:=Rp.Qaq r;have:=Rps.Qaq q;lia
end
def Rps.length:∀{ds:List D}{vs:List V}{F:LAd},Rps K H ds vs F->ds.length=vs.length
 | [],_,_,h=>by simp only[Rps]at h;rw[h.1];rfl
 | d::ds,_,_,h=>by
  simp only[Rps]at h;obtain⟨v,ws,F1,F2,e,eF,r,q⟩:=h;rw[e,Zs,Zs,Rps.length q]
def Rps.append:∀{ds es:List D}{vs ws:List V}{F G:LAd},Rps K H ds vs F->Rps K H es ws G->Rps K H (ds++es) (vs++ws) (F++G)
 | [],_,_,_,_,_,h,g=>by simp only[Rps]at h;rw[h.1,h.2];exact g
 | d::ds,_,_,_,_,_,h,g=>by
  simp only[Rps,ZaI]at h ⊢;obtain⟨v,ws,F1,F2,e,eF,r,q⟩:=h;subst e eF;exact⟨v,_,F1,_,rfl,by rw[ZaA],r,Rps.append q g⟩
def Rps.get:∀{ds:List D}{vs:List V}{F:LAd}{i:Nat}{d:D},Rps K H ds vs F->ds[i]? =some d->∃v F1 G F2,vs[i]? =some v/\F=F1++(G++F2)/\Rp K H d v G/\(F.length=nls ds->G.length=d.nl)
 | [],_,_,_,_,_,e=>by simp at e
 | d::ds,_,_,0,_,h,e=>by
  simp only[Rps]at h;obtain⟨v,ws,F1,F2,e1,eF,r,q⟩:=h;simp at e;subst e e1 eF;refine⟨v,[],F1,F2,⋯,rfl,r,λhl=>?_⟩;simp only[nls,Zl]at hl;have:=Rp.Qaq r;have:=Rps.Qaq q;lia
 | d::ds,_,_,i+1,_,h,e=>by
  simp only[Rps]at h;obtain⟨v,ws,F1,F2,e1,eF,r,q⟩:=h;obtain⟨v',G1,G,G2,h1,h2,h3,h4⟩:=Rps.get q (by simpa using e);have l1:=Rp.Qaq r;have l2:=Rps.Qaq q;subst e1 eF;refine⟨v',F1++G1,G,G2,by simpa using h1,by rw[h2,ZaA],h3,λhl=>h4 ?_⟩;simp only[nls,Zl]at hl;lia
def Fix.sq{K:Fgg}{H:Hp}{a:Addr}{vs:List V}(h:Fix K H a vs):SqL K H a vs:=by
 rcases h with⟨o,h⟩ | ⟨its,n,h,hz,r⟩
 .exact .inl (.inr ⟨o,h⟩)
 .exact .inr ⟨_,its.toArray,n,h,rfl,rfl,rfl,by rw[Zu,← r.length];exact hz,by simpa using r⟩
def _root_.L2.Inv.Qmf(I:Inv X pins U H s)(h:H a=some (.lst vs)∨Fix X.K H a vs):
  vs.length<=sizeLine/\∃(its:List Value) (n:Nat),Qt vs its/\vs.length=its.length/\s.heap.get? a=some {cls:= .type "list",data:= .seq its.toArray n}:=by
 rcases h with h | ⟨o,h⟩ | ⟨its,n,h,hz,r⟩
 .exact I.Qwp h
 .obtain⟨e,hz,its,n,r,e2⟩:=I.hok a _ h;exact⟨hz,its,n,r,r.length,e2⟩
 .exact⟨hz,its,n,r,r.length,I.kIn _ _ h⟩
def Rp.lst_inv{K:Fgg}{H:Hp}{ds:List D}{v:V}{F:LAd}(h:Rp K H (.lst ds) v F):
  ∃a vs G,v= .ref a/\(H a=some (.lst vs)∨Fix K H a vs)/\Rps K H ds vs G/\ds.length<=sizeLine/\(F=a::G∨F=G):=by
 simp only[Rp]at h;obtain⟨hz,a,vs,e,⟨G,eF,q,r⟩ | ⟨q,r⟩⟩:=h
 .exact⟨a,vs,G,e,.inl q,r,hz,.inl eF⟩
 .exact⟨a,vs,F,e,.inr q,r,hz,.inr rfl⟩
def QU{K:Fgg}{H:Hp}{a:Addr}{vs:List V}(h:H a=some (.lst vs)∨Fix K H a vs):SqL K H a vs:=h.elim (λh=>SqL.of h) Fix.sq
def Rp.Qax{K:Fgg}{H:Hp}{ds:List D}{v:V}{F:LAd}(h:Rp K H (.tup ds) v F):∃a vs,v= .ref a/\SqT K H a vs/\Rps K H ds vs F:=by
 simp only[Rp]at h;exact h
def Rp.Qg3{K:Fgg}{H:Hp}{ds:List D}{a:Addr}{vs:List V}{G:LAd}(h:H a=some (.lst vs))(r:Rps K H ds vs G)(hz:ds.length<=sizeLine):Rp K H (.lst ds) (.ref a) (a::G):=by
 simp only[Rp];exact⟨hz,a,vs,rfl,.inl ⟨G,rfl,h,r⟩⟩
def Rp.QiV{K:Fgg}{H:Hp}{ds:List D}{a:Addr}{vs:List V}{G:LAd}(h:H a=some (.tup vs))(r:Rps K H ds vs G):Rp K H (.tup ds) (.ref a) G:=by
 simp only[Rp];exact⟨a,vs,rfl,SqT.of h,r⟩
def Rp.int_inv{K:Fgg}{H:Hp}{i:Int}{v:V}{F:LAd}(h:Rp K H (.int i) v F):v= .int i:=by simp only[Rp]at h;exact h.1
def Rp.Qc2{K:Fgg}{H:Hp}{i:Bool}{v:V}{F:LAd}(h:Rp K H (.bl i) v F):v= .bl i:=by simp only[Rp]at h;exact h.1
def Rp.Qex{K:Fgg}{H:Hp}{v:V}{F:LAd}(h:Rp K H .non v F):v= .non:=by simp only[Rp]at h;exact h.1
def Rp.str_inv{K:Fgg}{H:Hp}{i:Str}{v:V}{F:LAd}(h:Rp K H (.str i) v F):v= .str i:=by simp only[Rp]at h;exact h.1
def Rp.int_mk{K:Fgg}{H:Hp}{i:Int}:Rp K H (.int i) (.int i) []:=by simp[Rp]
def Rp.Qbf{K:Fgg}{H:Hp}{i:Bool}:Rp K H (.bl i) (.bl i) []:=by simp[Rp]
def Rp.Qdd{K:Fgg}{H:Hp}:Rp K H .non .non []:=by simp[Rp]
def Rp.str_mk{K:Fgg}{H:Hp}{i:Str}:Rp K H (.str i) (.str i) []:=by simp[Rp]
def Qa0(h:H p=none):Qs H (L2.upd H p o):=λb u e=>by rw[Qy (QbA e h)];exact e
end
end HS
namespace HS
open PySem PySem.Spec L2
abbrev En:=List (Option (D×Bool))
noncomputable abbrev slT(d:D):Option (D×Bool):=some (d,true)
noncomputable abbrev slF(d:D):Option (D×Bool):=some (d,false)
noncomputable abbrev slI(i:Int):Option (D×Bool):=some (.int i,true)
def nn{α:Type}{x:α}{C:Prop}(h:(none:Option α)=some x):C:=nomatch h
structure R where
 d:D
 fr:Bool
 M:List Nat
noncomputable abbrev reT(d:D):R:=⟨d,true,[]⟩
noncomputable abbrev reF(d:D):R:=⟨d,false,[]⟩
noncomputable abbrev reI(i:Int):R:=⟨.int i,true,[]⟩
structure RA where
 ds:List D
 fr:Bool
 M:List Nat
abbrev DE:=En->Option R
abbrev DA:=En->Option RA
abbrev DT:=En->Option Bool
structure Rel (K:Fgg) (H0:Hp) (A0:LAd) (hs:List (V×D×List Addr)) (ρ:En) (F:Nat->List Addr) (U:St) (H:Hp):Prop where
 len:ρ.length=U.length
 val:∀(i:Nat) d b,ρ[i]? =some (some (d,b))->∃v,U[i]? =some (some v)/\Rp K H d v (F i)
 own:∀(i:Nat) d,ρ[i]? =some (some (d,true))->(F i).length=d.nl/\(F i).Nodup/\(∀a∈F i,H0 a=none)/\(∀(j:Nat) d' b',j≠i->ρ[j]? =some (some (d',b'))->∀a∈F i,a∉F j)/\∀t∈hs,∀a∈F i,a∉t.2.2
 src:∀(i:Nat) d b,ρ[i]? =some (some (d,b))->∀a∈F i,H0 a=none∨a∈A0
 held:∀t∈hs,Rp K H t.2.1 t.1 t.2.2/\∀a∈t.2.2,H0 a=none∨a∈A0
 same:Qs H0 H
def Src(ρ:En)(F:Nat->List Addr)(H:Hp)(M:List Nat)(G:LAd):Prop:=
 ∀a∈G,H a=none∨∃(i:Nat) (d:D) (b:Bool),ρ[i]? =some (some (d,b))/\a∈F i/\(b=true->i∈M)
noncomputable def nw(H:Hp)(a:Addr):Nat:=match H a with | none=>1 | some _=>0
def Cnt(F:Nat->List Addr)(H:Hp)(M:List Nat)(G:LAd):Prop:=
 ∀a,G.count a<=nw H a+((M.map F).flatten).count a
def QaX(ρ:En)(M:List Nat):Prop:=∀i∈M,∃d,ρ[i]? =some (some (d,true))
structure QR (K:Fgg) (ρ:En) (F:Nat->List Addr) (H H':Hp) (r:R) (v:V) (G:LAd):Prop where
 same:Qs H H'
 rp:Rp K H' r.d v G
 src:Src ρ F H r.M G
 cnt:r.fr=true->Cnt F H r.M G/\G.length=r.d.nl
 own:QaX ρ r.M
structure Qk0 (K:Fgg) (ρ:En) (F:Nat->List Addr) (H H':Hp) (r:RA) (vs:List V) (G:LAd):Prop where
 same:Qs H H'
 rp:Rps K H' r.ds vs G
 src:Src ρ F H r.M G
 cnt:r.fr=true->Cnt F H r.M G/\G.length=nls r.ds
 own:QaX ρ r.M
def tV(K:Fgg)(H0:Hp)(A0:LAd)(f:DE):TE:=λU H Q=>∃ρ hs F r,Rel K H0 A0 hs ρ F U H/\f ρ=some r/\∀v H' G,QR K ρ F H H' r v G->Q v H'
def tVA(K:Fgg)(H0:Hp)(A0:LAd)(f:DA):TA:=λU H Q=>∃ρ hs F r,Rel K H0 A0 hs ρ F U H/\f ρ=some r/\∀v H' G,Qk0 K ρ F H H' r v G->Q v H'
def tVT(K:Fgg)(H0:Hp)(A0:LAd)(f:DT):TT:=λU H Q=>∃ρ hs F b,Rel K H0 A0 hs ρ F U H/\f ρ=some b/\∀H',Qs H H'->Q b H'
def SE(X:Cx)(e:Expr)(f:DE):Prop:=∀H0 A0,PE X e (tV X.K H0 A0 f)
def SA(X:Cx)(es:List Expr)(f:DA):Prop:=∀H0 A0,PA X es (tVA X.K H0 A0 f)
def ST(X:Cx)(e:Expr)(f:DT):Prop:=∀H0 A0,PT X e (tVT X.K H0 A0 f)
def _root_.L2.PE.mono(h:PE X e t)(m:∀U H Q,t' U H Q->t U H Q):PE X e t':=λpins s U H Q I q=>h pins s U H Q I (m U H Q q)
def _root_.L2.PT.mono(h:PT X e t)(m:∀U H Q,t' U H Q->t U H Q):PT X e t':=λpins s U H Q I q=>h pins s U H Q I (m U H Q q)
def _root_.L2.PA.mono(h:PA X e t)(m:∀U H Q,t' U H Q->t U H Q):PA X e t':=λpos pins s U H Q I q=>h pos pins s U H Q I (m U H Q q)
section
def Rel.ext(r:Rel K H0 A0 hs ρ F U H)(s:Qs H H'):Rel K H0 A0 hs ρ F U H' where
 len:=r.len
 val:=λi d b e=>let ⟨v,h1,h2⟩:=r.val i d b e;⟨v,h1,h2.same s⟩
 own:=r.own
 src:=r.src
 held:=λt ht=>⟨(r.held t ht).1.same s,(r.held t ht).2⟩
 same:=r.same.trans s
def Rel.mem(r:Rel K H0 A0 hs ρ F U H)(e:ρ[i]? =some (some (d,b)))(h:a∈F i):∃u,H a=some u:=
 let ⟨_,_,h2⟩:=r.val i d b e;h2.mem a h
def QeI(h:H a=some o):nw H a=0:=by simp[nw,h]
def Qa8(h:H a=none):nw H a=1:=by simp[nw,h]
def Rel.fl0(r:Rel K H0 A0 hs ρ F U H)(ow:QaX ρ M)(h:H a=none):((M.map F).flatten).count a=0:=by
 rw[ZI];intro hm;obtain⟨l,hl,ha⟩:=ZaJ.mp hm;obtain⟨i,hi,rfl⟩:=Zag.mp hl;obtain⟨d,e⟩:=ow i hi;obtain⟨vs,q⟩:=r.mem e ha;rw[h]at q;cases q
def Cnt.append(r:Rel K H0 A0 hs ρ F U H)(c1:Cnt F H M1 G1)(c2:Cnt F H1 M2 G2)(s:Qs H H1)(m1:∀a∈G1,∃u,H1 a=some u):Cnt F H (M1++M2) (G1++G2):=λa=>by
 rw[ZS,Zai,List.flatten_append,ZS];have h1:=c1 a;have h2:=c2 a;cases q:H1 a with
 | some o=>rw[QeI q]at h2;lia
 | none=>
  rw[Qa8 q]at h2;have h3:H a=none:=s.free q;rw[Qa8 h3]at h1 ⊢;have h4:G1.count a=0:=ZI.mpr λhm=>by obtain⟨vs,z⟩:=m1 a hm;rw[q]at z;cases z
  lia
def Src.append(c1:Src ρ F H M1 G1)(c2:Src ρ F H1 M2 G2)(s:Qs H H1):Src ρ F H (M1++M2) (G1++G2):=λa ha=>by
 rcases Zx.mp ha with h | h
 .rcases c1 a h with z | ⟨i,d,b,e,m,w⟩
  .exact .inl z
  .exact .inr ⟨i,d,b,e,m,λhb=>Zk _ (w hb)⟩
 .rcases c2 a h with z | ⟨i,d,b,e,m,w⟩
  .exact .inl (s.free z)
  .exact .inr ⟨i,d,b,e,m,λhb=>Ze _ (w hb)⟩
def QaX.append(h1:QaX ρ M1)(h2:QaX ρ M2):QaX ρ (M1++M2):=λi hi=>(Zx.mp hi).elim (h1 i) (h2 i)
def QaX.nil:QaX ρ []:=λi hi=>by simp at hi
def Src.nil:Src ρ F H M []:=λa ha=>by simp at ha
def Cnt.nil:Cnt F H M []:=λa=>by simp
def QR.flat(s:Qs H H')(r:Rp K H' d v [])(hf:d.flat=true:=by rfl):QR K ρ F H H' ⟨d,true,[]⟩ v []:=⟨s,r,Src.nil,λ_=>⟨Cnt.nil,(Qdr d hf).symm⟩,QaX.nil⟩
def QR.sub(p:QR K ρ F H H1 r v G)(rp:Rp K H1 d u G')(hs:∀a,G'.count a<=G.count a)(hn:G.length=r.d.nl->G'.length=d.nl):QR K ρ F H H1 ⟨d,r.fr,r.M⟩ u G' where
 same:=p.same
 rp:=rp
 src:=λa ha=>p.src a (by
  have:=hs a;have h1:0<G'.count a:=Zaf.mpr ha;exact Zaf.mp ⋯)
 cnt:=λh=>⟨λa=>Zy (hs a) ((p.cnt h).1 a),hn (p.cnt h).2⟩
 own:=p.own
def R.norm(r:R):R:=if r.d.flat then⟨r.d,true,[]⟩else r
def R.QdH(r:R):r.norm.d=r.d:=by unfold R.norm;split<;>rfl
def QR.norm(p:QR K ρ F H H' r v G):QR K ρ F H H' r.norm v G:=by
 unfold R.norm;split
 .rename_i h;have:=p.rp.QbX h;subst this;exact .flat p.same p.rp h
 .exact p
end
def Qn(i:Nat):DE:=λρ=>match ρ[i]? with
 | some (some (d,b))=>if d.flat then some ⟨d,true,[]⟩else if b then some ⟨d,true,[i]⟩else some ⟨d,false,[]⟩
 | _=>none
noncomputable def dC(d:D):DE:=λ_=>some ⟨d,true,[]⟩
abbrev vv0:DE:=Qn 0
abbrev vv1:DE:=Qn 1
abbrev vv2:DE:=Qn 2
abbrev vv3:DE:=Qn 3
abbrev vv4:DE:=Qn 4
abbrev vv5:DE:=Qn 5
abbrev vv6:DE:=Qn 6
abbrev vv7:DE:=Qn 7
abbrev vv8:DE:=Qn 8
abbrev kk0:DE:=dC (.int 0)
abbrev kk1:DE:=dC (.int 1)
abbrev kk2:DE:=dC (.int 2)
abbrev kk3:DE:=dC (.int 3)
abbrev kk4:DE:=dC (.int 4)
abbrev kk5:DE:=dC (.int 5)
abbrev kk6:DE:=dC (.int 6)
abbrev kk7:DE:=dC (.int 7)
abbrev kk8:DE:=dC (.int 8)
abbrev kk9:DE:=dC (.int 9)
abbrev QuO:DE:=dC (.int 10)
abbrev QBe:DE:=dC (.int 11)
abbrev QE7:DE:=dC (.int 16)
abbrev QuR:DE:=dC (.int 18)
abbrev QEw:DE:=dC (.int 26)
abbrev QEJ:DE:=dC (.int 31)
abbrev QE1:DE:=dC (.int 40)
abbrev QBB:DE:=dC (.int 41)
abbrev QDY:DE:=dC (.int 300)
abbrev QqD:DE:=dC (.int 48271)
abbrev QzE:DE:=dC (.int 69621)
abbrev QiX:DE:=dC (.int 2147483647)
section
def Qpv(h:PE X (.Name x pos) (Qdz i)):SE X (.Name x pos) (Qn i):=λH0 A0=>h.mono λU H Q=>exK λρ hs F r rel e q=>by
 unfold Qn at e;split at e
 .rename_i d b q1;obtain⟨v,h1,h2⟩:=rel.val i d b q1;refine⟨v,h1,q v H (F i) ?_⟩;split at e
  .rename_i hf;cases e;have:=h2.QbX hf;rw[this]at h2 ⊢;exact .flat (Qs.refl _) h2 hf
  .split at e
   .rename_i hb;cases e;subst hb;exact⟨Qs.refl _,h2,λa ha=> .inr ⟨i,d,true,q1,ha,λ_=>⋯⟩,λ_=>⟨λa=>⋯,(rel.own i d q1).1⟩,λj hj=>by simp at hj;subst hj;exact⟨d,q1⟩⟩
   .rename_i hb;cases e;simp at hb;subst hb;exact⟨Qs.refl _,h2,λa ha=> .inr ⟨i,d,false,q1,ha,λz=>by cases z⟩,λz=>(by cases z),QaX.nil⟩
 .cases e
def Qky(h:PE X e (tC v))(r:∀K H,Rp K H d v [])(hf:d.flat=true):SE X e (dC d):=λH0 A0=>h.mono λU H Q=>exK λρ hs F r' rel e q=>by
 cases e;exact q v H [] (.flat (Qs.refl _) (r _ _) hf)
def two{K:Fgg}{H0:Hp}{A0:LAd}{fa fb:DE}{U:St}{H:Hp}{hs:List (V×D×List Addr)}{ρ:En}{F:Nat->List Addr}{ra rb:R}{Rr:V->V->Hp->Prop}(rel:Rel K H0 A0 hs ρ F U H)(ea:fa ρ=some ra)(eb:fb ρ=some rb)
  (k:∀x y H1 H2 G1 G2,QR K ρ F H H1 ra x G1->QR K ρ F H1 H2 rb y G2->Rr x y H2):tV K H0 A0 fa U H λx H1=>tV K H0 A0 fb U H1 λy H2=>Rr x y H2:=
 ⟨ρ,hs,F,ra,rel,ea,λx H1 G1 p1=>⟨ρ,hs,F,rb,rel.ext p1.same,eb,λy H2 G2 p2=>k x y H1 H2 G1 G2 p1 p2⟩⟩
noncomputable def dOp(g:D->D->Option D)(fa fb:DE):DE:=λρ=>(fa ρ).bind λra=>(fb ρ).bind λrb=>(g ra.d rb.d).map λd=>⟨d,true,[]⟩
def QmJ(e:dOp g fa fb ρ=some r):∃ra rb d,fa ρ=some ra/\fb ρ=some rb/\g ra.d rb.d=some d/\r=⟨d,true,[]⟩:=by
 unfold dOp at e;cases h1:fa ρ with
 | none=>rw[h1]at e;cases e
 | some ra=>
  cases h2:fb ρ with
  | none=>rw[h1,h2]at e;cases e
  | some rb=>
   rw[h1,h2]at e;cases h3:g ra.d rb.d with
   | none=>simp[h3]at e
   | some d=>simp[h3]at e;exact⟨ra,rb,d,rfl,rfl,h3,e.symm⟩
def Qbw(K:Fgg)(g:D->D->Option D)(r:R2):Prop:=∀a b d,g a b=some d->d.flat=true/\∀H x y F G (Q:VK),Rp K H a x F->Rp K H b y G->(∀v,(∀H',Rp K H' d v [])->Q v H)->r x y H Q
def Qjy(ho:OpR X (binaryOp op) r)(hg:Qbw X.K g r)(ha:SE X a fa)(hb:SE X b fb):SE X (.BinOp a op b pos) (dOp g fa fb):=λH0 A0=>
 (Qry ho (ha H0 A0) (hb H0 A0)).mono λU H Q=>exK λρ hs F r' rel e q=>by
  obtain⟨ra,rb,d,ea,eb,eg,rfl⟩:=QmJ e;refine two rel ea eb λx y H1 H2 G1 G2 p1 p2=>(hg _ _ _ eg).2 H2 x y G1 G2 Q (p1.rp.same p2.same) p2.rp λv hv=>?_;exact q v H2 [] (.flat (p1.same.trans p2.same) (hv H2) (hg _ _ _ eg).1)
def QBc(ho:OpR X (compareOp op) r)(hg:Qbw X.K g r)(ha:SE X a fa)(hb:SE X b fb)(hm:behindInMarks op b=false):SE X (.Compare a [op] [b] pos) (dOp g fa fb):=λH0 A0=>
 (Qxz ho (ha H0 A0) (hb H0 A0) hm).mono λU H Q=>exK λρ hs F r' rel e q=>by
  obtain⟨ra,rb,d,ea,eb,eg,rfl⟩:=QmJ e;refine two rel ea eb λx y H1 H2 G1 G2 p1 p2=>(hg _ _ _ eg).2 H2 x y G1 G2 Q (p1.rp.same p2.same) p2.rp λv hv=>?_;exact q v H2 [] (.flat (p1.same.trans p2.same) (hv H2) (hg _ _ _ eg).1)
end
noncomputable def Qkq(i j:Int):Int:=if 0<=j then i / j else i.fdiv j
noncomputable def Qi7(i j:Int):Int:=if 0<=j then i % j else i.fmod j
def QyW(i j:Int):Qkq i j=i.fdiv j:=by
 unfold Qkq;split
 .rw[ZaX _ (by assumption)]
 .rfl
def QxM(i j:Int):Qi7 i j=i.fmod j:=by
 unfold Qi7;split
 .rw[Int.fmod_eq_emod_of_nonneg _ (by assumption)]
 .rfl
noncomputable def QhG(i j:Int):Bool:=decide (i.natAbs<2^64) || decide (j.natAbs<2^64) || (decide (Builtin.Int.intBits i<=2^20) && decide (Builtin.Int.intBits j<=2^20))
noncomputable def QnI(j:Int):Bool:=decide (j≠0) && decide (j.natAbs<2^8000)
noncomputable def gI(f:Int->Int->Option D)(a b:D):Option D:=match a,b with
 | .int i,.int j=>f i j
 | _,_=>none
def QdB:=gI λi j=>some (.int (i-j))
def QCe:=gI λi j=>if QnI j then some (.int (Qkq i j))else none
def Qc8:=gI λi j=>if j≠0 then some (.int (Qi7 i j))else none
def QwA:=gI λi j=>if 0<=j/\j<=1000/\i.natAbs<2^200 then some (.int (i^j.toNat))else none
def QoL:=gI λi j=>if 0<=j then some (.int (i / 2^j.toNat))else none
def Qpc:=gI λi j=>some (.int (Builtin.bitAnd i j))
noncomputable def D.Qw1:D->Option Int
 | .int i=>some i
 | _=>none
def QfB:List D->Option (List Int)
 | []=>some []
 | d::ds=>(d.Qw1).bind λi=>(QfB ds).map λr=>i::r
def gLt:=gI λi j=>some (.bl (decide (i<j)))
def gLe:=gI λi j=>some (.bl (decide (i<=j)))
def gGt:=gI λi j=>some (.bl (decide (j<i)))
def gGe:=gI λi j=>some (.bl (decide (j<=i)))
def Qtn(h:gI f a b=some d):∃i j,a= .int i/\b= .int j/\f i j=some d:=by
 unfold gI at h;split at h
 .exact⟨_,_,rfl,rfl,h⟩
 .cases h
section
def QfI(hf:∀i j d,f i j=some d->d.flat=true)(h:∀i j d,f i j=some d->∀H (Q:VK),(∀v,(∀H',Rp K H' d v [])->Q v H)->r (.int i) (.int j) H Q):Qbw K (gI f) r:=λa b d e=>by
 obtain⟨i,j,rfl,rfl,ef⟩:=Qtn e;refine⟨hf i j d ef,λH x y F G Q ha hb q=>?_⟩;rw[ha.int_inv,hb.int_inv];exact h i j d ef H Q q
def Qtl:Qbw K QdB (rI0 λi j=> .int (i-j)):=QfI (λi j d e=>by cases e;rfl) λi j d e H Q q=>by cases e;exact⟨i,j,rfl,rfl,q _ λ_=> .int_mk⟩
def Qwb(h:QhG i j=true):IntMulOk i j:=by
 have small:∀k:Int,k.natAbs<2^64->Builtin.Int.intBits k<=64:=λk hk=>by
  unfold Builtin.Int.intBits;split
  .lia
  .rename_i h0;have h0':k.natAbs≠0:=λz=>by simp_all
   have:=(Zbq h0').mpr hk;lia
 unfold QhG at h;simp only[Zbo,Zh,decide_eq_true_eq]at h;rcases h with(h | h) | ⟨h1,h2⟩
 .exact .of_left (small i h)
 .exact .of_right (small j h)
 .exact .of_bits h1 h2
def Qzg:OpR X (binaryOp .Mult) (rI (λi j=>QhG i j=true) λi j=> .int (i*j)):=opI λ_ _ _ _ _ _ _ hc q=>PyProof.Rows.mul_int q (Qwb hc)
def QyE:OpR X (binaryOp .FloorDiv) (rI (λi j=>QnI j=true) λi j=> .int (Qkq i j)):=opI λi j _ _ _ _ _ hc q=>by
 unfold QnI at hc;simp only[Zh,decide_eq_true_eq]at hc;rw[QyW]at q;refine PyProof.Rows.floordiv_int hc.1 q (.inl (PyProof.noPylong_of_log2 ?_));have h0:j.natAbs≠0:= ⋯
 exact Nat.lt_trans ((Zbq h0).mpr hc.2) ∅
def Qyw:OpR X (binaryOp .Mod) (rI (λi j=>j≠0) λi j=> .int (Qi7 i j)):=opI λi j _ _ _ _ _ hc q=>by
 rw[QxM]at q;exact PyProof.Rows.mod_int' hc q
def QBU:Qbw K QCe (rI (λi j=>QnI j=true) λi j=> .int (Qkq i j)):=QfI (λi j d e=>by split at e<;>cases e;rfl) λi j d e H Q q=>by
 split at e
 .cases e;exact⟨i,j,rfl,rfl,by assumption,q _ λ_=> .int_mk⟩
 .cases e
def QBn:Qbw K Qc8 (rI (λi j=>j≠0) λi j=> .int (Qi7 i j)):=QfI (λi j d e=>by split at e<;>cases e;rfl) λi j d e H Q q=>by
 split at e
 .cases e;exact⟨i,j,rfl,rfl,by assumption,q _ λ_=> .int_mk⟩
 .cases e
def Qx7:OpR X (binaryOp .Pow) (rI (λi j=>0<=j/\j<=1000/\i.natAbs<2^200) λi j=> .int (i^j.toNat)):=opI λi j _ _ _ _ _ hc q=>by
 refine PyProof.Rows.pow_int hc.1 ?_ q;have hb:Builtin.Int.intBits i<=200:=by
  unfold Builtin.Int.intBits;split
  .lia
  .rename_i h0;have h0':i.natAbs≠0:=λz=>by simp_all
   have:=(Zbq h0').mpr hc.2.2;lia
 have h1:((Builtin.Int.intBits i:Nat):Int)*j<=200*1000:=Int.mul_le_mul ⋯ hc.2.1 hc.1 ∅;lia
def QAs:Qbw K QwA (rI (λi j=>0<=j/\j<=1000/\i.natAbs<2^200) λi j=> .int (i^j.toNat)):=QfI (λi j d e=>by split at e<;>cases e;rfl) λi j d e H Q q=>by
 split at e
 .rename_i h;cases e;exact⟨i,j,rfl,rfl,h,q _ λ_=> .int_mk⟩
 .cases e
def QCc:Qbw K QoL (rI (λ_ j=>0<=j) λi j=> .int (i / 2^j.toNat)):=QfI (λi j d e=>by split at e<;>cases e;rfl) λi j d e H Q q=>by
 split at e
 .cases e;exact⟨i,j,rfl,rfl,by assumption,q _ λ_=> .int_mk⟩
 .cases e
def QAu:Qbw K Qpc (rI0 λi j=> .int (Builtin.bitAnd i j)):=QfI (λi j d e=>by cases e;rfl) λi j d e H Q q=>by cases e;exact⟨i,j,rfl,rfl,q _ λ_=> .int_mk⟩
def QDA:Qbw K gLt (rI0 λi j=> .bl (decide (i<j))):=QfI (λi j d e=>by cases e;rfl) λi j d e H Q q=>by cases e;exact⟨i,j,rfl,rfl,q _ λ_=> .Qbf⟩
def QDo:Qbw K gLe (rI0 λi j=> .bl (decide (i<=j))):=QfI (λi j d e=>by cases e;rfl) λi j d e H Q q=>by cases e;exact⟨i,j,rfl,rfl,q _ λ_=> .Qbf⟩
def QDp:Qbw K gGt (rI0 λi j=> .bl (decide (j<i))):=QfI (λi j d e=>by cases e;rfl) λi j d e H Q q=>by cases e;exact⟨i,j,rfl,rfl,q _ λ_=> .Qbf⟩
def QDN:Qbw K gGe (rI0 λi j=> .bl (decide (j<=i))):=QfI (λi j d e=>by cases e;rfl) λi j d e H Q q=>by cases e;exact⟨i,j,rfl,rfl,q _ λ_=> .Qbf⟩
end
def QfW:∀(xs ys:List D),QY (xs++ys)=(QY xs && QY ys)
 | [],ys=>by simp[QY]
 | x::xs,ys=>by simp[QY,QfW xs ys,Bool.and_assoc]
def Qbh(ds:List D)(M:List Nat):R:=if QY ds then⟨.lst ds,true,[]⟩else⟨.lst ds,false,M⟩
section
variable {K:Fgg}{H0 H H':Hp}{A0:LAd}{hs:List (V×D×List Addr)}{ρ:En}{F:Nat->List Addr}{U:L2.St}
def QR.Qbh(s:Qs H H1)(hp:H1 p=none)(r:Rps K H1 ds vs G)(hz:ds.length<=sizeLine)(src:Src ρ F H M G)(ow:QaX ρ M):
  QR K ρ F H (upd H1 p (.lst vs)) (Qbh ds M) (.ref p) (p::G):=by
 have s2:Qs H1 (upd H1 p (.lst vs)):=Qa0 hp;have rp:Rp K (upd H1 p (.lst vs)) (.lst ds) (.ref p) (p::G):=Rp.Qg3 Q4 (r.same s2) hz;have hH:H p=none:=s.free hp;unfold HS.Qbh;split
 .rename_i hf;have:=r.QbX hf;subst this;refine⟨s.trans s2,rp,λa ha=>?_,λ_=>⟨λa=>?_,by simp only[D.nl,Qh8 ds hf];rfl⟩,QaX.nil⟩
  .have:a=p:=by simpa using ha
   subst this;exact .inl hH
  .rw[List.count_singleton];split
   .rename_i e;have e':p=a:=by simpa using e
    subst e';rw[Qa8 hH];lia
   .lia
 .refine⟨s.trans s2,rp,λa ha=>?_,λz=>(by cases z),ow⟩;rcases Zn.mp ha with rfl | h
  .exact .inl hH
  .exact src a h
end
def QC(fa fb:DE):DE:=λρ=>(fa ρ).bind λra=>(fb ρ).bind λrb=>match ra.d,rb.d with
 | .int i,.int j=>some ⟨.int (i+j),true,[]⟩
 | .lst xs,.lst ys=>if xs.length+ys.length<=sizeLine then some (Qbh (xs++ys) (ra.M++rb.M))else none
 | .str x,.str y=>if x.length+y.length<=sizeLine then some ⟨.str (x++y),true,[]⟩else none
 | _,_=>none
def Qbq(fa fb:DE):DE:=λρ=>(fa ρ).bind λra=>(fb ρ).bind λrb=>match ra.d,rb.d with
 | .int i,.int j=>if QhG i j then some ⟨.int (i*j),true,[]⟩else none
 | .lst xs,.int j=>if xs.length*j.toNat<=sizeLine/\ -(2^63)<=j/\j<2^63/\QY xs=true then some ⟨.lst (List.replicate j.toNat xs).flatten,true,[]⟩else none
 | _,_=>none
def QrU{fa fb:DE}{ρ:En}{k:R->R->Option R}{r:R}(e:((fa ρ).bind λra=>(fb ρ).bind λrb=>k ra rb)=some r):∃ra rb,fa ρ=some ra/\fb ρ=some rb/\k ra rb=some r:=by
 cases h1:fa ρ with
 | none=>rw[h1]at e;cases e
 | some ra=>
  cases h2:fb ρ with
  | none=>rw[h1,h2]at e;cases e
  | some rb=>rw[h1,h2]at e;exact⟨ra,rb,rfl,rfl,e⟩
def bind1{α β:Type}{x:Option α}{k:α->Option β}{r:β}(e:x.bind k=some r):∃a,x=some a/\k a=some r:=by
 cases x with
 | none=>cases e
 | some a=>exact⟨a,rfl,e⟩
section
def QCS(K:Fgg):R2:=λx y H Q=>∃l c xs zs,x= .ref l/\y= .ref c/\(H l=some (.lst xs)∨Fix K H l xs)/\(H c=some (.lst zs)∨Fix K H c zs)/\xs.length+zs.length<=sizeLine/\∀p,H p=none->Q (.ref p) (upd H p (.lst (xs++zs)))
def mapR{α γ:Type}{x:Option α}{f:α->γ}{r:γ}{M:γ->Prop}(e:x.map f=some r)(g:∀a,x=some a->M (f a)):M r:=by
 obtain⟨a,h,rfl⟩:=Zb.mp e;exact g a h
def Qf{α β:Type}{x:Option α}{k:α->Option β}{r:β}{G:Prop}(e:x.bind k=some r)(g:∀a,x=some a->k a=some r->G):G:=let ⟨a,h1,h2⟩:=bind1 e;g a h1 h2
def QxN:OpR X (binaryOp .Add) (QCS X.K):=by
 intro pins s U H x y v u Q I rx ry h;obtain⟨l,c,xs,zs,rfl,rfl,hH,hB,hz,q⟩:=h;cases rx;cases ry;obtain⟨z,its,n,r,hl,e⟩:=I.Qmf hH;obtain⟨z2,its2,n2,r2,hl2,e2⟩:=I.Qmf hB;refine PySem.P.add_list e e2 ?_ (by rw[Zu,Zu];lia);have ea:its.toArray++its2.toArray=(its++its2).toArray:= ⋯
 rw[ea];exact⟨.ref _,_,I.QBT (t':=s.toks) (r.append r2) (by rw[Zl];lia),rfl,q _ I.fresh⟩
def QsS(ha:SE X a fa)(hb:SE X b fb):SE X (.BinOp a .Add b pos) (QC fa fb):=λH0 A0=>
 (Qry ((Qz6.or QxN).or Qr1) (ha H0 A0) (hb H0 A0)).mono λU H Q=>exK λρ hs F r' rel e q=>by
  obtain⟨ra,rb,ea,eb,ek⟩:=QrU e;refine two rel ea eb λx y H1 H2 G1 G2 p1 p2=>?_;have p1':=p1.rp.same p2.same;have p2':=p2.rp;have c1:=p1.src.append p2.src p1.same;have o1:=p1.own.append p2.own;revert ek;revert p1' p2';cases ra.d<;>cases rb.d<;>intro p1' p2' ek<;>first | (cases ek;done) | skip
  .cases ek;rw[p1'.int_inv,p2'.int_inv];left;exact .inl ⟨_,_,rfl,rfl,q _ H2 [] (.flat (p1.same.trans p2.same) .int_mk)⟩
  .rename_i xs ys;dsimp only at ek;split at ek
   .rename_i hz;cases ek;rw[p1'.str_inv,p2'.str_inv];exact .inr ⟨_,_,rfl,rfl,hz,q _ H2 [] (.flat (p1.same.trans p2.same) .str_mk)⟩
   .cases ek
  .rename_i xs ys;dsimp only at ek;split at ek
   .rename_i hz;cases ek;obtain⟨l,vs,L1,rfl,hl,rl,zl,el⟩:=p1'.lst_inv;obtain⟨c,ws,L2',rfl,hc,rc,zc,ec⟩:=p2'.lst_inv;have n1:=rl.length;have n2:=rc.length;left;refine .inr ⟨l,c,vs,ws,rfl,rfl,hl,hc,⋯,λp hp=>?_⟩;refine q _ _ (p::(L1++L2')) (QR.Qbh (p1.same.trans p2.same) hp (rl.append rc) (by rw[Zl];exact hz) (λa ha=>c1 a ?_) o1);rcases Zx.mp ha with h | h
    .refine Zk _ ?_;rcases el with rfl | rfl
     .exact Zc _ h
     .exact h
    .refine Ze _ ?_;rcases ec with rfl | rfl
     .exact Zc _ h
     .exact h
   .cases ek
def QCT(K:Fgg):R2:=λx y H Q=>∃l k xs,x= .ref l/\y= .int k/\(H l=some (.lst xs)∨Fix K H l xs)/\ -(2^63)<=k/\k<2^63/\xs.length*k.toNat<=sizeLine∧
 ∀p,H p=none->Q (.ref p) (upd H p (.lst (List.replicate k.toNat xs).flatten))
def QyF:OpR X (binaryOp .Mult) (QCT X.K):=by
 intro pins s U H x y v u Q I rx ry h;obtain⟨l,k,xs,rfl,rfl,hH,h1,h2,hz,q⟩:=h;cases rx;obtain⟨t,rfl⟩:=ry;obtain⟨z,its,n,r,hl,e⟩:=I.Qmf hH;have hlen:its.toArray.size*k.toNat<=sizeLine:=by rw[Zu,← hl];exact hz
 have hcap:¬its.toArray.size*k.toNat>(2^63-1) / 8:=by
  have:(sizeLine:Nat)<=(2^63-1) / 8:= ∅
  lia
 have hfit:¬(!Builtin.List.listFitsIndex k)=true:=by
  rw[fitsIndex_both h1 h2];exact ZJ
 have hlong:¬Builtin.List.listTooLong (its.toArray.size*k.toNat)=true:=by
  rw[QpE hlen];exact ZJ
 have hnew:List.foldl (λx1 x2=>x1++x2) #[] (List.replicate (if its.toArray.isEmpty=true then 0 else k.toNat) its.toArray)=(List.replicate k.toNat its).flatten.toArray:=by
  have f0:∀m:Nat,List.foldl (λx1 x2=>x1++x2) #[] (List.replicate m its.toArray)=(List.replicate m its).flatten.toArray:=λm=>by
   have:=foldl_rep its m [];rw[ZaP]at this;exact this
  rw[f0];cases its with
  | nil=>simp
  | cons a r'=>rw[if_neg ⋯]
 open PyProof.Rows in
 refine wpAny_binaryOp_repeat_ref ∅ ⟨_,e,rfl⟩ (λs'=>typeIs_int s' k t) noFill_list_mul F.fills_int_mul F.slot_int_rmul repeat_list F.slot_int_index.lookup
  (call_meets F.slot_int_rmul (typeIs_int s k t) F.entry_int_rmul (F.args_int_rmul_2 _ _) (int___rmul___int_list k t l its.toArray n)
   ⟨e,rfl,⟨_,e,rfl⟩,call_meets F.slot_list_mul ⟨_,e,rfl⟩ F.entry_list_mul (F.args_list_mul_2 _ _) (AutoListH.list___mul___list_int_3 l its.toArray n k t hfit hcap hlong) ⟨e,?_⟩⟩)
 rw[hnew];exact⟨.ref _,_,I.QBT (t':=s.toks) (r.rep k.toNat) (by rw[len_rep,Nat.mul_comm];exact hz),rfl,q _ I.fresh⟩
def Qm3(h:QY xs=true):∀n:Nat,QY (List.replicate n xs).flatten=true
 | 0=>by simp[QY]
 | n+1=>by rw[ZW,Zab,QfW,h,Qm3 h n];rfl
def Rps.rep(h:Rps K H ds vs []):∀n:Nat,Rps K H (List.replicate n ds).flatten (List.replicate n vs).flatten []
 | 0=>by simp[Rps]
 | n+1=>by rw[ZW,Zab,ZW,Zab];exact h.append (Rps.rep h n)
def QzQ(ha:SE X a fa)(hb:SE X b fb):SE X (.BinOp a .Mult b pos) (Qbq fa fb):=λH0 A0=>
 (Qry (Qzg.or QyF) (ha H0 A0) (hb H0 A0)).mono λU H Q=>exK λρ hs F r' rel e q=>by
  obtain⟨ra,rb,ea,eb,ek⟩:=QrU e;refine two rel ea eb λx y H1 H2 G1 G2 p1 p2=>?_;have p1':=p1.rp.same p2.same;have p2':=p2.rp;revert ek;revert p1' p2';cases ra.d<;>cases rb.d<;>intro p1' p2' ek<;>first | (cases ek;done) | skip
  .dsimp only at ek;split at ek
   .rename_i hm;cases ek;rw[p1'.int_inv,p2'.int_inv];exact .inl ⟨_,_,rfl,rfl,hm,q _ H2 [] (.flat (p1.same.trans p2.same) .int_mk)⟩
   .cases ek
  .rename_i xs j;dsimp only at ek;split at ek
   .rename_i hz;cases ek;obtain⟨hz1,hz2,hz3,hf⟩:=hz;obtain⟨l,vs,L1,rfl,hl,rl,zl,el⟩:=p1'.lst_inv;have n1:=rl.length;have e0:=rl.QbX hf;subst e0;rw[p2'.int_inv];refine .inr ⟨l,j,vs,rfl,rfl,hl,hz2,hz3,by rw[← n1];exact hz1,λp hp=>?_⟩;have w:HS.Qbh (List.replicate j.toNat xs).flatten []=⟨.lst (List.replicate j.toNat xs).flatten,true,[]⟩:=by
     unfold HS.Qbh;rw[if_pos (Qm3 hf _)]
    rw[← w]at q;exact q _ _ (p::[]) (QR.Qbh (p1.same.trans p2.same) hp (rl.rep _) (by rw[len_rep,Nat.mul_comm];exact hz1) Src.nil QaX.nil)
   .cases ek
end
noncomputable def Qb:DA:=λ_=>some ⟨[],true,[]⟩
noncomputable def Qa(fa:DE)(fr:DA):DA:=λρ=>(fa ρ).bind λr=>(fr ρ).bind λrs=>some ⟨r.d::rs.ds,r.fr && rs.fr,r.M++rs.M⟩
noncomputable def Q7(fa:DA):DE:=λρ=>(fa ρ).bind λr=>if r.ds.length<=64 then some ⟨.tup r.ds,r.fr,r.M⟩else none
noncomputable def QI(fa:DA):DE:=λρ=>(fa ρ).bind λr=>if r.ds.length<=64 then some ⟨.lst r.ds,r.fr,r.M⟩else none
section
variable {X:Cx}{a b e:Expr}{es:List Expr}{fa fb:DE}{fs:DA}{pos:Pos}
def Qe9:SA X [] Qb:=λH0 A0=>Qc0.mono λU H Q=>exK λρ hs F r' rel e q=>by
 cases e;exact q [] H [] ⟨Qs.refl _,by simp[Rps],Src.nil,λ_=>⟨Cnt.nil,rfl⟩,QaX.nil⟩
def Qdp(ha:SE X e fa)(hr:SA X es fs)(hs:starEach (e::es) X.env=(false,eval e X.env)::starEach es X.env):SA X (e::es) (Qa fa fs):=λH0 A0=>
 (Qa9 (ha H0 A0) (hr H0 A0) hs).mono λU H Q=>exK λρ hs F r' rel e q=>by
  refine Qf e λr e1 e=>?_;refine Qf e λrs e2 e=>?_;cases e;refine⟨ρ,hs,F,r,rel,e1,λx H1 G1 p1=>⟨ρ,hs,F,rs,rel.ext p1.same,e2,λxs H2 G2 p2=>?_⟩⟩;refine q _ H2 (G1++G2) ⟨p1.same.trans p2.same,?_,p1.src.append p2.src p1.same,λh=>?_,p1.own.append p2.own⟩
  .simp only[Rps];exact⟨x,xs,G1,G2,rfl,rfl,p1.rp.same p2.same,p2.rp⟩
  .simp only[Zh]at h;exact⟨(p1.cnt h.1).1.append rel (p2.cnt h.2).1 p1.same p1.rp.mem,by simp only[nls,Zl,(p1.cnt h.1).2,(p2.cnt h.2).2]⟩
def Qh1{n:Nat}(h:n<=64):n<=sizeLine:=Zy h ∅
def QBp{k:Nat}(ha:SA X es fs):SE X (.Tuple es k pos) (Q7 fs):=λH0 A0=>
 (QzU (ha H0 A0)).mono λU H Q=>exK λρ hs F r' rel e q=>by
  refine Qf e λr e1 e=>?_;split at e
  .rename_i hz;cases e;refine⟨ρ,hs,F,r,rel,e1,λxs H1 G p=>⟨by rw[← p.rp.length];exact Qh1 hz,λc hc=>q _ _ G ⟨p.same.trans (Qa0 hc),Rp.QiV Q4 (p.rp.same (Qa0 hc)),p.src,λh=>⟨(p.cnt h).1,by simp only[D.nl];exact(p.cnt h).2⟩,p.own⟩⟩⟩
  .cases e
def Qut(ha:SA X es fs):SE X (.List es pos) (QI fs):=λH0 A0=>
 (QA8 (ha H0 A0)).mono λU H Q=>exK λρ hs F r' rel e q=>by
  refine Qf e λr e1 e=>?_;split at e
  .rename_i hz;cases e;refine⟨ρ,hs,F,r,rel,e1,λxs H1 G p=>⟨by rw[← p.rp.length];exact Qh1 hz,λc hc=>?_⟩⟩;have hH:H c=none:=p.same.free hc;refine q _ _ (c::G) ⟨p.same.trans (Qa0 hc),Rp.Qg3 Q4 (p.rp.same (Qa0 hc)) (Qh1 hz),λz hz'=>?_,λh=>⟨λz=>?_,by simp only[D.nl,Zs,(p.cnt h).2]⟩,p.own⟩
   .rcases Zn.mp hz' with rfl | h
    .exact .inl hH
    .exact p.src z h
   .rw[Zaj];have:=(p.cnt h).1 z;split
    .rename_i e';have e':c=z:=by simpa using e'
     subst e';have h0:G.count c=0:=ZI.mpr λhm=>by obtain⟨vs,w⟩:=p.rp.mem c hm;rw[hc]at w;cases w
     rw[Qa8 hH];lia
    .exact this
  .cases e
noncomputable def D.items:D->Option (List D)
 | .lst xs=>some xs
 | .tup xs=>some xs
 | _=>none
def Qj(fa fb:DE):DE:=λρ=>(fa ρ).bind λra=>(fb ρ).bind λrb=>match rb.d with
 | .int i=>match ra.d with
  | .str x=>if 0<=i/\i<2^63/\i<x.length then(x.cps[i.toNat]?).map λc=>⟨.str ⟨#[c]⟩,true,[]⟩else none
  | _=>(ra.d.items).bind λxs=>(atI xs i).map λd=>(R.norm ⟨d,ra.fr,ra.M⟩)
 | _=>none
def Qx2{α β:Type}{xs:List α}{i:Int}{d:α}(h:atI xs i=some d):∃j:Nat,xs[j]? =some d/\∀(ys:List β),ys.length=xs.length->∀y,ys[j]? =some y->atI ys i=some y:=by
 unfold atI at h;cases e:ixN xs.length i with
 | none=>rw[e]at h;cases h
 | some j=>
  rw[e]at h;refine⟨j,h,λys hl y hy=>?_⟩;unfold atI;rw[hl,e];exact hy
def QB7(ha:SE X a fa)(hb:SE X b fb)(hs:Qhi b):SE X (.Subscript a b pos) (Qj fa fb):=λH0 A0=>
 (QxH (Qxj (QqT.or Qs9) (ha H0 A0) (hb H0 A0) hs) (QpS (ha H0 A0) (hb H0 A0) (λo i=>hs o i))).mono λU H Q=>exK λρ hs F r' rel e q=>by
  obtain⟨ra,rb,ea,eb,ek⟩:=QrU e;by_cases hx:∃x,ra.d= .str x
  .obtain⟨z,hx⟩:=hx;right;refine two rel ea eb λx y H1 H2 G1 G2 p1 p2=>?_;have p1':=p1.rp.same p2.same;have p2':=p2.rp;cases hb':rb.d with
   | int i=>
    rw[hb',hx]at ek;rw[hx]at p1';rw[hb']at p2';have ek:(if 0<=i/\i<2^63/\i<z.length then(z.cps[i.toNat]?).map λc=>(⟨.str ⟨#[c]⟩,true,[]⟩:HS.R)else none)=some r':=ek;split at ek
    .rename_i hi;obtain⟨c,hc,rfl⟩:=Zb.mp ek;exact⟨z,i,c,p1'.str_inv,p2'.int_inv,hi.1,hi.2.1,hi.2.2,hc,q _ H2 [] (.flat (p1.same.trans p2.same) .str_mk)⟩
    .cases ek
   | _=>rw[hb']at ek;cases ek
  left;have ek:(match rb.d with | .int i=>(ra.d.items).bind λxs=>(atI xs i).map λd=>(R.norm ⟨d,ra.fr,ra.M⟩) | _=>none)=some r':=by
   rw[← ek];split
   .split
    .rename_i h;exact absurd ⟨_,h⟩ hx
    .rfl
   .rfl
  refine two rel ea eb λx y H1 H2 G1 G2 p1 p2=>?_;have p1':=p1.rp.same p2.same;have p2':=p2.rp;have pp:QR X.K ρ F H H2 ra x G1:=⟨p1.same.trans p2.same,p1',p1.src,p1.cnt,p1.own⟩;cases hb':rb.d with
  | int i=>
   rw[hb']at ek p2';rw[p2'.int_inv];refine Qf ek λxs ex ek=>?_;obtain⟨d,ed,ek⟩:=Zb.mp ek;subst ek;obtain⟨j,hj,hm⟩:=Qx2 ed;have fin:∀(L:LAd) (vs:List V),Rps X.K H2 xs vs L->(∀z,L.count z<=G1.count z)->(G1.length=ra.d.nl->L.length=nls xs)->∃v,atI vs i=some v/\Q v H2:=λL vs rl hc hn=>by
    obtain⟨v,F1,G,F2,hv,eF,rv,hx⟩:=rl.get hj;refine⟨v,hm vs rl.length.symm v hv,q v H2 G (QR.norm (QR.sub pp rv (λz=>Zy ?_ (hc z)) λz=>hx (hn z)))⟩;rw[eF,ZS,ZS];lia
   cases hra:ra.d with
   | lst ys=>
    rw[hra]at ex p1';cases ex;obtain⟨l,vs,L,rfl,hl,rl,zl,el⟩:=p1'.lst_inv;have hn:G1.length=ra.d.nl->L.length=nls xs:=λhz=>by
     have:=rl.Qaq;simp only[hra,D.nl]at hz;rcases el with rfl | rfl
     .rw[Zs]at hz;lia
     .lia
    have hc:∀z,L.count z<=G1.count z:=λz=>by
     rcases el with rfl | rfl
     .rw[Zaj];lia
     .exact Zi _
    obtain⟨v,h1,h2⟩:=fin L vs rl hc hn;exact .inl ⟨l,vs,i,v,rfl,rfl,QU hl,h1,h2⟩
   | tup ys=>
    rw[hra]at ex p1';cases ex;obtain⟨l,vs,rfl,hl,rl⟩:=p1'.Qax;obtain⟨v,h1,h2⟩:=fin G1 vs rl (λz=>Zi _) λz=>(by simpa only[hra,D.nl]using z);exact .inr ⟨l,vs,i,v,rfl,rfl,hl,h1,h2⟩
   | _=>rw[hra]at ex;cases ex
  | _=>rw[hb']at ek;cases ek
abbrev DO:=En->Option (Option Int)
noncomputable def QaR:DO:=λ_=>some none
noncomputable def Qab(f:DE):DO:=λρ=>(f ρ).bind λr=>match r.d with
 | .int i=>some (some i)
 | _=>none
def tVO(K:Fgg)(H0:Hp)(A0:LAd)(f:DO):TO:=λU H Q=>∃ρ hs F o,Rel K H0 A0 hs ρ F U H/\f ρ=some o/\∀H',Qs H H'->Q o H'
def SO(X:Cx)(e:Option Expr)(f:DO):Prop:=∀H0 A0,PO X e (tVO X.K H0 A0 f)
def _root_.L2.PO.mono{X:Cx}{e:Option Expr}{t t':TO}(h:PO X e t)(m:∀U H Q,t' U H Q->t U H Q):PO X e t':=by
 intro pins s U H Q I q;exact h pins s U H Q I (m U H Q q)
def Qyf:SO X none QaR:=λH0 A0=>Qx9.mono λU H Q=>exK λρ hs F o rel e q=>by
 cases e;exact q H (Qs.refl _)
def Qyy(h:SE X a fa):SO X (some a) (Qab fa):=λH0 A0=>(Qy3 (h H0 A0)).mono λU H Q=>exK λρ hs F o rel e q=>by
 refine Qf e λr e1 e=>?_;refine⟨ρ,hs,F,r,rel,e1,λv H1 G p=>?_⟩;have rp:=p.rp;cases hr:r.d with
 | int i=>
  rw[hr]at e rp;cases e;exact⟨i,rp.int_inv,q H1 p.same⟩
 | _=>rw[hr]at e;cases e
def cutD(xs:List D)(lo hi:Option Int):List D:=(xs.drop (HT.sIx xs.length 0 lo)).take (HT.sIx xs.length xs.length hi-HT.sIx xs.length 0 lo)
def Qa5(fa:DE)(lo hi:DO):DE:=λρ=>(fa ρ).bind λra=>(lo ρ).bind λl=>(hi ρ).bind λh=>match ra.d with
 | .lst xs=>some (Qbh (cutD xs l h) ra.M)
 | .str x=>if x.length<=sizeLine then some ⟨.str (Txt.slice x l h),true,[]⟩else none
 | _=>none
def Rps.drop:∀{ds:List D}{vs:List V}{F:LAd}{K:Fgg}{H:Hp}(n:Nat),Rps K H ds vs F->∃G,Rps K H (ds.drop n) (vs.drop n) G/\∀a∈G,a∈F
 | [],vs,F,K,H,n,h=>by simp only[Rps]at h;rw[h.1,h.2];exact⟨[],by simp[Rps],λ_ h=>h⟩
 | d::ds,vs,F,K,H,0,h=>⟨F,by simpa using h,λ_ h=>h⟩
 | d::ds,vs,F,K,H,n+1,h=>by
  simp only[Rps]at h;obtain⟨v,ws,F1,F2,e,eF,r,q⟩:=h;subst e eF;obtain⟨G,h1,h2⟩:=Rps.drop n q;exact⟨G,by simpa using h1,λa ha=>Ze _ (h2 a ha)⟩
def Rps.take:∀{ds:List D}{vs:List V}{F:LAd}{K:Fgg}{H:Hp}(n:Nat),Rps K H ds vs F->∃G,Rps K H (ds.take n) (vs.take n) G/\∀a∈G,a∈F
 | [],vs,F,K,H,n,h=>by simp only[Rps]at h;rw[h.1,h.2];exact⟨[],by simp[Rps],λ_ h=>h⟩
 | d::ds,vs,F,K,H,0,h=>⟨[],by simp[Rps],λ_ h=>by simp at h⟩
 | d::ds,vs,F,K,H,n+1,h=>by
  simp only[Rps]at h;obtain⟨v,ws,F1,F2,e,eF,r,q⟩:=h;subst e eF;obtain⟨G,h1,h2⟩:=Rps.take n q;refine⟨F1++G,?_,λa ha=>?_⟩
  .simp only[List.take_succ_cons,Rps];exact⟨v,_,F1,G,rfl,rfl,r,h1⟩
  .rcases Zx.mp ha with h | h
   .exact Zk _ h
   .exact Ze _ (h2 a h)
def QAf{lo hi:Option Expr}{fl fh:DO}{p2:Pos}(ha:SE X a fa)(hl:SO X lo fl)(hh:SO X hi fh):SE X (.Subscript a (.Slice lo hi none p2) pos) (Qa5 fa fl fh):=λH0 A0=>
 (QwD (Qy9.or QAy) (ha H0 A0) (hl H0 A0) (hh H0 A0)).mono λU H Q=>exK λρ hs F r' rel e q=>by
  refine Qf e λra e1 e=>?_;refine Qf e λl e2 e=>?_;refine Qf e λh e3 e=>?_;refine⟨ρ,hs,F,ra,rel,e1,λx H1 G1 p1=>⟨ρ,hs,F,l,rel.ext p1.same,e2,λH2 s2=>⟨ρ,hs,F,h,(rel.ext p1.same).ext s2,e3,λH3 s3=>?_⟩⟩⟩;have rp:=p1.rp.same (s2.trans s3);cases hra:ra.d with
  | lst xs=>
   rw[hra]at e rp;cases e;obtain⟨c,vs,L,rfl,hc,rl,zl,el⟩:=rp.lst_inv;left;refine⟨c,vs,rfl,QU hc,λp hp=>?_⟩;obtain⟨G2,h2,m2⟩:=rl.drop (HT.sIx xs.length 0 l);obtain⟨G3,h3,m3⟩:=h2.take (HT.sIx xs.length xs.length h-HT.sIx xs.length 0 l);have n1:=rl.length;rw[show Qmt vs l h=(vs.drop (HT.sIx xs.length 0 l)).take (HT.sIx xs.length xs.length h-HT.sIx xs.length 0 l) by unfold Qmt;rw[n1]];refine q _ _ (p::G3) (QR.Qbh (p1.same.trans (s2.trans s3)) hp h3 ?_ (λz hz=>p1.src z ?_) p1.own)
   .unfold cutD;rw[ZaH,Zbd];lia
   .have:=m2 z (m3 z hz);rcases el with rfl | rfl
    .exact Zc _ this
    .exact this
  | str x=>
   rw[hra]at e rp;dsimp only at e;split at e
   .rename_i hz;cases e;exact .inr ⟨x,rp.str_inv,hz,q _ H3 [] (.flat (p1.same.trans (s2.trans s3)) .str_mk)⟩
   .cases e
  | _=>rw[hra]at e;cases e
def dBf(g:List D->Option D)(fs:DA):DE:=λρ=>(fs ρ).bind λr=>(g r.ds).map λd=>⟨d,true,[]⟩
def Qc9(K:Fgg)(g:List D->Option D)(r:List V->Hp->VK->Prop):Prop:=∀ds d,g ds=some d->d.flat=true/\∀H vs F (Q:VK),Rps K H ds vs F->(∀v,(∀H',Rp K H' d v [])->Q v H)->r vs H Q
def QhI{x:Str}{id:String}{g:List D->Option D}{r:List V->Hp->VK->Prop}{p:Pos}(hc:QaS X (.builtin id) r)(hk:Qc9 X.K g r)(hg:Gl X x)(hm:X.mg x=none)(hv:bootBuiltins x=some (.builtin id))(ha:SA X (e::es) fs)(hn:x≠ "__name__")(hdb:(x == ("__debug__" :Str))=false)
  (he:starEach (e::es) X.env=(false,eval e X.env)::starEach es X.env) (hpl:(backTo pos (starEach es X.env)).any (·.1)=false):SE X (.Call (.Name x p) (e::es) [] pos) (dBf g fs):=λH0 A0=>
 (Qkt hc hg hm hv (ha H0 A0) hn hdb he hpl).mono λU H Q=>exK λρ hs F r' rel e q=>by
  refine Qf e λra e1 e=>?_;obtain⟨d,ed,e⟩:=Zb.mp e;subst e;exact⟨ρ,hs,F,ra,rel,e1,λvs H1 G p1=>(hk _ _ ed).2 H1 vs G Q p1.rp λv hv=>q v H1 [] (.flat p1.same (hv _) (hk _ _ ed).1)⟩
def Rps.one{K:Fgg}{H:Hp}{d:D}{vs:List V}{F:LAd}(h:Rps K H [d] vs F):∃v,vs=[v]/\Rp K H d v F:=by
 simp only[Rps]at h;obtain⟨v,ws,F1,F2,rfl,rfl,r,rfl,rfl⟩:=h;exact⟨v,rfl,by simpa using r⟩
def Rps.two{K:Fgg}{H:Hp}{d e:D}{vs:List V}{F:LAd}(h:Rps K H [d,e] vs F):∃v w F1 F2,vs=[v,w]/\Rp K H d v F1/\Rp K H e w F2:=by
 simp only[Rps]at h;obtain⟨v,ws,F1,F2,rfl,rfl,r,w,ws',F3,F4,rfl,rfl,r2,rfl,rfl⟩:=h;exact⟨v,w,F1,F3,rfl,r,r2⟩
noncomputable def QX:List D->Option D
 | [.lst xs]=>some (.int xs.length)
 | [.tup xs]=>some (.int xs.length)
 | [.str x]=>if x.length<=sizeLine then some (.int x.length)else none
 | _=>none
def Qw5(K:Fgg):List V->Hp->VK->Prop:=λxs H Q=>(∃p ys,xs=[.ref p]/\(SqL K H p ys∨SqT K H p ys)/\Q (.int ys.length) H)∨∃z,xs=[.str z]/\z.length<=sizeLine/\Q (.int z.length) H
def QtK{X:Cx}:QaS X (.builtin "len") (Qw5 X.K):=Qor.or QoI
def QBK{K:Fgg}:Qc9 K QX (Qw5 K):=λds d e=>by
 unfold QX at e;split at e
 .cases e;refine⟨rfl,λH vs F Q r q=>?_⟩;obtain⟨v,rfl,rp⟩:=r.one;obtain⟨l,ws,L,rfl,hl,rl,zl,el⟩:=rp.lst_inv;left;exact⟨l,ws,rfl,.inl (QU hl),by rw[← rl.length];exact q _ λ_=> .int_mk⟩
 .cases e;refine⟨rfl,λH vs F Q r q=>?_⟩;obtain⟨v,rfl,rp⟩:=r.one;obtain⟨l,ws,rfl,hl,rl⟩:=rp.Qax;left;exact⟨l,ws,rfl,.inr hl,by rw[← rl.length];exact q _ λ_=> .int_mk⟩
 .split at e
  .rename_i hz;cases e;refine⟨rfl,λH vs F Q r q=>?_⟩;obtain⟨v,rfl,rp⟩:=r.one;exact .inr ⟨_,by rw[rp.str_inv],hz,q _ λ_=> .int_mk⟩
  .cases e
 .cases e
noncomputable def Qb8:List D->Option D
 | [.int i,.int j]=>some (.int (if j<i then j else i))
 | _=>none
noncomputable def Qcc:List D->Option D
 | [.int i,.int j]=>some (.int (if j>i then j else i))
 | _=>none
def QzK{K:Fgg}:Qc9 K Qb8 (λxs H Q=>∃i j,xs=[.int i,.int j]/\Q (.int (if j<i then j else i)) H):=λds d e=>by
 unfold Qb8 at e;split at e
 .cases e;refine⟨rfl,λH vs F Q r q=>?_⟩;obtain⟨v,w,F1,F2,rfl,r1,r2⟩:=r.two;exact⟨_,_,by rw[r1.int_inv,r2.int_inv],q _ λ_=> .int_mk⟩
 .cases e
def Qy4{K:Fgg}:Qc9 K Qcc (λxs H Q=>∃i j,xs=[.int i,.int j]/\Q (.int (if j>i then j else i)) H):=λds d e=>by
 unfold Qcc at e;split at e
 .cases e;refine⟨rfl,λH vs F Q r q=>?_⟩;obtain⟨v,w,F1,F2,rfl,r1,r2⟩:=r.two;exact⟨_,_,by rw[r1.int_inv,r2.int_inv],q _ λ_=> .int_mk⟩
 .cases e
def dList(fs:DA):DE:=λρ=>(fs ρ).bind λr=>match r.ds with
 | [.lst xs]=>some (Qbh xs r.M)
 | [.tup xs]=>if xs.length<=sizeLine then some (Qbh xs r.M)else none
 | _=>none
end
end HS
namespace HS
open PySem PySem.Spec L2 PyProof.Rows
def Qqw(x:Str):∀{ks:List Str}{vs:List V},ks.length=vs.length->(Qji (dsC ks vs) (Sum.inr x)).isSome=ks.contains x
 | [],[],_=>rfl
 | [],_::_,e=>by cases e
 | _::_,[],e=>by cases e
 | k::ks,v::vs,e=>by
  show(Qji ((Sum.inr k,v)::dsC ks vs) _).isSome=_;rw[List.contains_cons];by_cases h:k=x
  .subst h;rw[Qn7 rfl];simp
  .rw[Qob (λz=>h (Sum.inr.inj z)),Qqw x (Nat.succ.inj e)];have:(x == k)=false:=by simpa using λz=>h z.symm
   rw[this,Bool.false_or]
noncomputable def gDs(neg:Bool)(a b:D):Option D:=match b with
 | .obj o _=>match o with
  | .dic ks=>match a with
   | .str x=>some (.bl (ks.contains x != neg))
   | _=>none
  | _=>none
 | _=>none
def rDs(neg:Bool):R2:=λx y H Q=>∃(a:Addr) (k:Str) (ks:List Str) (vs:List V),x= .str k/\y= .ref a/\ks.length=vs.length/\H a=some (.dK (dsC ks vs))/\Q (.bl (ks.contains k != neg)) H
def QqZ{neg:Bool}{a b d:D}(e:gDs neg a b=some d):∃ks ds x,b= .obj (.dic ks) ds/\a= .str x/\d= .bl (ks.contains x != neg):=by
 unfold gDs at e;split at e
 .split at e
  .split at e
   .cases e;exact⟨_,_,_,rfl,rfl,rfl⟩
   .cases e
  .cases e
 .cases e
def Rp.QyG{K:Fgg}{H:Hp}{ks:List Str}{ds:List D}{v:V}{F:LAd}(h:Rp K H (.obj (.dic ks) ds) v F):∃a vs G,v= .ref a/\F=a::G/\ks.length=vs.length/\H a=some (.dK (dsC ks vs))/\Rps K H ds vs G:=by
 simp only[Rp]at h;obtain⟨vs,A,G,eF,⟨e1,a,e2,e3,e4⟩,r⟩:=h;exact⟨a,vs,G,e2,by rw[eF,e3];rfl,e1,e4,r⟩
def QDj{K:Fgg}{neg:Bool}:Qbw K (gDs neg) (rDs neg):=λa b d e=>by
 obtain⟨ks,ds,x,rfl,rfl,rfl⟩:=QqZ e;refine⟨rfl,λH x y F G Q ha hb q=>?_⟩;obtain⟨c,vs,G',rfl,_,hl,hc,_⟩:=hb.QyG;exact⟨c,_,ks,vs,ha.str_inv,rfl,hl,hc,q _ λ_=> .Qbf⟩
def Qw0{X:Cx}{pins:List (Addr×Obj)}{U:L2.St}{H:Hp}{s:Shared}{a:Addr}{ks:List Str}{vs:List V}(I:Inv X pins U H s)(hl:ks.length=vs.length)(ha:H a=some (.dK (dsC ks vs)))(k:Str):(a == sysModules)=false/\∃us,s.heap.DictOf (Qdl X.prog X.w) a us/\(valueAt us (Sum.inr k)).isSome=ks.contains k:=by
 obtain⟨z,hd,us,rel,dd⟩:=QDw I.hok ha;refine⟨hd,us,dd,?_⟩;rw[← (rel.val (Sum.inr k)).Quo,Qqw k hl]
def Qx8{X:Cx}:OpR X (compareOp .In) (rDs false):=by
 intro pins s U H x y v u Q I rx ry ⟨a,k,ks,vs,ex,ey,hl,ha,q⟩;subst ex ey;cases(show u=Value.ref a from ry);obtain⟨hd,us,dd,w⟩:=Qw0 I hl ha k;refine wpAny_in_of (QwX (k:=Sum.inr k) rx) hd dd.mapOf ?_;rw[w];exact⟨.bl (ks.contains k),H,I.tok _,rfl,by rw[Bool.bne_false]at q;exact q⟩
def Qrr{X:Cx}:OpR X (compareOp .NotIn) (rDs true):=by
 intro pins s U H x y v u Q I rx ry ⟨a,k,ks,vs,ex,ey,hl,ha,q⟩;subst ex ey;cases(show u=Value.ref a from ry);obtain⟨hd,us,dd,w⟩:=Qw0 I hl ha k;refine wpAny_notIn_of (QwX (k:=Sum.inr k) rx) hd dd.mapOf ?_;rw[w];exact⟨.bl (!ks.contains k),H,I.tok _,rfl,by rw[Bool.bne_true]at q;exact q⟩
noncomputable def dDs:DE:=λ_=>some ⟨.obj (.dic []) [],true,[]⟩
def QC9{X:Cx}{pos:Pos}:SE X (.Dict [] [] pos) dDs:=λH0 A0=>Qvf.mono λU H Q=>exK λρ hs F r rel e q=>by
 cases e;intro p hp;refine q (.ref p) _ [p] ⟨Qa0 hp,by simp only[Rp];exact⟨[],[p],[],rfl,⟨rfl,p,rfl,rfl,Q4⟩,rfl,rfl⟩,λa ha=> .inl (by rw[Zj.mp ha];exact hp),λ_=>⟨λa=>?_,rfl⟩,λi hi=>by cases hi⟩;rw[List.count_singleton];split
 .rename_i h;have h:p=a:=by simpa using h
  subst h;rw[Qa8 hp];lia
 .exact ZK _
end HS
namespace HS
open PySem PySem.Spec L2
mutual
noncomputable def D.py:D->PyData
 | .non=> .none
 | .bl b=> .bool b
 | .int i=> .int i
 | .str x=> .str x
 | .tup xs=> .tuple (pys xs)
 | .lst xs=> .list (pys xs)
 | .exc _=> .none
 | .dk _=> .none
 | .obj _ _=> .none
noncomputable def pys:List D->List PyData
 | []=>[]
 | d::ds=>d.py::pys ds
end
def Qqp:∀ds:List D,pys ds=ds.map D.py
 | []=>rfl
 | d::ds=>by simp[pys,Qqp ds]
def D.sim:Nat->D->Bool
 | _,.non=>true
 | _,.bl _=>true
 | _,.int _=>true
 | _,.str x=>PyData.canLay0 (.str x)
 | 0,.tup xs=>xs.isEmpty
 | 0,.lst xs=>xs.isEmpty
 | n+1,.tup xs=>xs.all (D.sim n)
 | n+1,.lst xs=>xs.all (D.sim n)
 | _,.exc _=>false
 | _,.dk _=>false
 | _,.obj _ _=>false
def Qf5:∀{ds:List D},(∀d∈ds,d.py.canLay0=true)->PyData.canLayAll0 (pys ds)=true
 | [],_=>rfl
 | d::ds,h=>by
  simp only[pys,PyData.canLayAll0,Zh];exact⟨h d Zf,Qf5 λe he=>h e (Zc _ he)⟩
def QgG:∀{ds:List D},(∀d∈ds,d.py.depth<=n)->PyData.depthAll (pys ds)<=n
 | [],_=>ZK _
 | d::ds,h=>by
  simp only[pys,PyData.depthAll];exact Nat.max_le.mpr ⟨h d Zf,QgG λe he=>h e (Zc _ he)⟩
def QcA:∀(n:Nat) (d:D),d.sim n=true->d.py.canLay0=true/\d.py.depth<=n+1
 | n,.exc _,h=>by cases n<;>cases h
 | n,.dk _,h=>by cases n<;>cases h
 | n,.obj _ _,h=>by cases n<;>cases h
 | n,.non,_=>by simp[D.py,PyData.canLay0,PyData.depth]
 | n,.bl _,_=>by simp[D.py,PyData.canLay0,PyData.depth]
 | n,.int _,_=>by simp[D.py,PyData.canLay0,PyData.depth]
 | n,.str x,h=>by
  simp only[D.py,PyData.depth];refine⟨?_,ZK _⟩;cases n<;>exact h
 | 0,.tup xs,h=>by
  have:xs=[]:=by simpa[D.sim]using h
  subst this;simp[D.py,pys,PyData.canLay0,PyData.canLayAll0,PyData.depth,PyData.depthAll]
 | 0,.lst xs,h=>by
  have:xs=[]:=by simpa[D.sim]using h
  subst this;simp[D.py,pys,PyData.canLay0,PyData.canLayAll0,PyData.depth,PyData.depthAll]
 | n+1,.tup xs,h=>by
  simp only[D.sim,ZU]at h;simp only[D.py,PyData.canLay0,PyData.depth];exact⟨Qf5 λd hd=>(QcA n d (h d hd)).1,ZaL (QgG λd hd=>(QcA n d (h d hd)).2) 1⟩
 | n+1,.lst xs,h=>by
  simp only[D.sim,ZU]at h;simp only[D.py,PyData.canLay0,PyData.depth];exact⟨Qf5 λd hd=>(QcA n d (h d hd)).1,ZaL (QgG λd hd=>(QcA n d (h d hd)).2) 1⟩
def deq(a b:D):Bool:=PyData.eqv a.py b.py
mutual
noncomputable def D.noX:D->Bool
 | .exc _=>false
 | .dk _=>false
 | .obj _ _=>false
 | .tup xs=>Qki xs
 | .lst xs=>Qki xs
 | .non=>true
 | .bl _=>true
 | .int _=>true
 | .str _=>true
noncomputable def Qki:List D->Bool
 | []=>true
 | d::ds=>d.noX && Qki ds
end
def QmF:∀{ds:List D},(∀d∈ds,d.noX=true)->Qki ds=true
 | [],_=>rfl
 | d::ds,h=>by
  simp only[Qki,Zh];exact⟨h d Zf,QmF λe he=>h e (Zc _ he)⟩
def QcN:∀(n:Nat) (d:D),d.sim n=true->d.noX=true
 | n,.exc _,h=>by cases n<;>cases h
 | n,.dk _,h=>by cases n<;>cases h
 | n,.obj _ _,h=>by cases n<;>cases h
 | n,.non,_=>rfl
 | n,.bl _,_=>rfl
 | n,.int _,_=>rfl
 | n,.str x,_=>rfl
 | 0,.tup xs,h=>by
  have:xs=[]:=by simpa[D.sim]using h
  subst this;rfl
 | 0,.lst xs,h=>by
  have:xs=[]:=by simpa[D.sim]using h
  subst this;rfl
 | n+1,.tup xs,h=>by
  simp only[D.sim,ZU]at h;simp only[D.noX];exact QmF λd hd=>QcN n d (h d hd)
 | n+1,.lst xs,h=>by
  simp only[D.sim,ZU]at h;simp only[D.noX];exact QmF λd hd=>QcN n d (h d hd)
section
variable {X:Cx}{pins:List (Addr×Obj)}{U:L2.St}{H:Hp}{s:Shared}
mutual
def Rp.reads(I:Inv X pins U H s):∀{d:D}{v:V}{F:LAd}{u:Value},d.noX=true->Rp X.K H d v F->RelV v u->∃as,Reads s.heap u d.py as
 | .exc _,v,_,u,hx,h,r=>by cases hx
 | .dk _,v,_,u,hx,h,r=>by cases hx
 | .obj _ _,v,_,u,hx,h,r=>by cases hx
 | .non,v,_,u,hx,h,r=>by
  rw[h.Qex]at r;cases(show u=Value.none from r);exact⟨_,.none⟩
 | .bl b,v,_,u,hx,h,r=>by
  rw[h.Qc2]at r;cases(show u=Value.bool b from r);exact⟨_,.bool b⟩
 | .int i,v,_,u,hx,h,r=>by
  rw[h.int_inv]at r;obtain⟨t,rfl⟩:=(show ∃t,u=Value.int i t from r);exact⟨_,.int i t⟩
 | .str i,v,_,u,hx,h,r=>by
  rw[h.str_inv]at r;obtain⟨t,rfl⟩:=(show ∃t,u=Value.str i t from r);exact⟨_,.str i t⟩
 | .tup ds,v,_,u,hx,h,r=>by
  obtain⟨a,vs,rfl,hq,rs⟩:=h.Qax;cases(show u=Value.ref a from r);obtain⟨its,rv,⟨o,h1,h2,n,h3⟩,_⟩:=I.tuple hq;obtain⟨as,ra⟩:=Rps.reads I (by simpa only[D.noX]using hx) rs rv;exact⟨_,.tuple h1 h2 h3 (by simpa using ra)⟩
 | .lst ds,v,_,u,hx,h,r=>by
  simp only[Rp]at h;obtain⟨hz,a,vs,rfl,h⟩:=h;have key:∃G,(H a=some (.lst vs)∨Fix X.K H a vs)/\Rps X.K H ds vs G:=by
   rcases h with⟨G,_,q,rs⟩ | ⟨q,rs⟩
   .exact⟨G,.inl q,rs⟩
   .exact⟨_,.inr q,rs⟩
  obtain⟨G,hq,rs⟩:=key;cases(show u=Value.ref a from r);obtain⟨_,its,n,rv,_,e⟩:=I.Qmf hq;obtain⟨as,ra⟩:=Rps.reads I (by simpa only[D.noX]using hx) rs rv;exact⟨_,.list e rfl rfl (by simpa using ra)⟩
def Rps.reads(I:Inv X pins U H s):∀{ds:List D}{vs:List V}{F:LAd}{us:List Value},Qki ds=true->Rps X.K H ds vs F->Qt vs us->∃as,ReadsAll s.heap us (pys ds) as
 | [],vs,_,us,_,h,r=>by
  simp only[Rps]at h;rw[h.1]at r;cases r;exact⟨_,.nil⟩
 | d::ds,vs,_,us,hx,h,r=>by
  simp only[Qki,Zh]at hx;simp only[Rps]at h;obtain⟨v,ws,F1,F2,rfl,rfl,h1,h2⟩:=h;cases r with
  | cons r rr=>
   obtain⟨as,ra⟩:=Rp.reads I hx.1 h1 r;obtain⟨bs,rb⟩:=Rps.reads I hx.2 h2 rr;exact⟨_,.cons ra rb⟩
end
end
def gEq(a b:D):Option D:=if a.sim 8 && b.sim 8 then some (.bl (deq a b))else none
def gNe(a b:D):Option D:=if a.sim 8 && b.sim 8 then some (.bl (!deq a b))else none
noncomputable def QrC(neg:Bool)(a b:D):Option D:=match a,b with
 | .str x,.str y=>some (.bl (if neg then !(!(Builtin.Str.occurrences y x 0 y.length 1).isEmpty)else !(Builtin.Str.occurrences y x 0 y.length 1).isEmpty))
 | _,_=>none
def Qoq(neg:Bool):R2:=λx y H Q=>∃i j,x= .str i/\y= .str j/\Q (.bl (if neg then !(!(Builtin.Str.occurrences j i 0 j.length 1).isEmpty)else !(Builtin.Str.occurrences j i 0 j.length 1).isEmpty)) H
def QzR{X:Cx}:OpR X (compareOp .In) (Qoq false):=QsY
def Qyx{X:Cx}:OpR X (compareOp .NotIn) (Qoq true):=Qo4
def QBS{K:Fgg}{neg:Bool}:Qbw K (QrC neg) (Qoq neg):=λa b d e=>by
 unfold QrC at e;split at e
 .cases e;exact⟨rfl,λH x y F G Q ha hb q=>⟨_,_,ha.str_inv,hb.str_inv,q _ λ_=> .Qbf⟩⟩
 .cases e
def gIn(neg:Bool)(a b:D):Option D:=match b with
 | .lst xs=>if a.sim 8 && b.sim 8 then some (.bl (if neg then !(xs.any λy=>deq y a)else xs.any λy=>deq y a))else none
 | .tup xs=>if a.sim 8 && b.sim 8 then some (.bl (if neg then !(xs.any λy=>deq y a)else xs.any λy=>deq y a))else none
 | .str _=>QrC neg a b
 | .obj _ _=>gDs neg a b
 | _=>none
def Quv{neg:Bool}:∀a b d,gIn neg a b=some d->∃k,d= .bl k:=λa b d h=>by
 unfold gIn at h;split at h
 .split at h<;>cases h;exact⟨_,rfl⟩
 .split at h<;>cases h;exact⟨_,rfl⟩
 .unfold QrC at h;split at h;(cases h;exact⟨_,rfl⟩);cases h
 .obtain⟨_,_,_,_,_,rfl⟩:=QqZ h;exact⟨_,rfl⟩
 .cases h
def QBP(K:Fgg):R2:=λx y H Q=>∃a b F G,Rp K H a x F/\Rp K H b y G/\a.sim 8=true/\b.sim 8=true/\Q (.bl (deq a b)) H
def QAq(K:Fgg):R2:=λx y H Q=>∃a b F G,Rp K H a x F/\Rp K H b y G/\a.sim 8=true/\b.sim 8=true/\Q (.bl (!deq a b)) H
section
variable {X:Cx}
def QAp(hu:X.A.units+64<cLine):OpR X (compareOp .Eq) (QBP X.K):=by
 intro pins s U H x y v u Q I rx ry h;obtain⟨a,b,F,G,ha,hb,sa,sb,q⟩:=h;obtain⟨as,ra⟩:=Rp.reads I (QcN 8 _ sa) ha rx;obtain⟨bs,rb⟩:=Rp.reads I (QcN 8 _ sb) hb ry;have h1:=QcA 8 a sa;have h2:=QcA 8 b sb;exact SeqAt.compareEq_reads ra rb h1.1 h2.1 (by have:=Nat.min_le_left a.py.depth b.py.depth;lia) ⟨.bl _,H,I,rfl,q⟩
def QAB(hu:X.A.units+64<cLine):OpR X (compareOp .NotEq) (QAq X.K):=by
 intro pins s U H x y v u Q I rx ry h;obtain⟨a,b,F,G,ha,hb,sa,sb,q⟩:=h;obtain⟨as,ra⟩:=Rp.reads I (QcN 8 _ sa) ha rx;obtain⟨bs,rb⟩:=Rp.reads I (QcN 8 _ sb) hb ry;have h1:=QcA 8 a sa;have h2:=QcA 8 b sb;exact SeqAt.compareNe_reads ra rb h1.1 h2.1 (by have:=Nat.min_le_left a.py.depth b.py.depth;lia) ⟨.bl _,H,I,rfl,q⟩
def QDx:Qbw K gEq (QBP K):=λa b d e=>by
 unfold gEq at e;split at e
 .rename_i h;simp only[Zh]at h;cases e;exact⟨rfl,λH x y F G Q ha hb q=>⟨a,b,F,G,ha,hb,h.1,h.2,q _ λ_=> .Qbf⟩⟩
 .cases e
def QDE:Qbw K gNe (QAq K):=λa b d e=>by
 unfold gNe at e;split at e
 .rename_i h;simp only[Zh]at h;cases e;exact⟨rfl,λH x y F G Q ha hb q=>⟨a,b,F,G,ha,hb,h.1,h.2,q _ λ_=> .Qbf⟩⟩
 .cases e
def QwI(K:Fgg)(neg:Bool):R2:=λx y H Q=>∃a b F G xs,Rp K H a x F/\Rp K H b y G/\a.sim 8=true/\b.sim 8=true/\(b= .lst xs∨b= .tup xs)/\Q (.bl (if neg then !(xs.any λy=>deq y a)else xs.any λy=>deq y a)) H
def QlV(K:Fgg)(neg:Bool):R2:=λx y H Q=>QwI K neg x y H Q
 ∨Qoq neg x y H Q
 ∨rDs neg x y H Q
def inS{K:Fgg}{neg:Bool}{x y:V}{H:Hp}{Q:VK}(h:QwI K neg x y H Q):QlV K neg x y H Q:=by first | exact h | exact .inl h
def QtC{K:Fgg}{neg:Bool}{x y:V}{H:Hp}{Q:VK}{P:Prop}(h:QlV K neg x y H Q)(h1:QwI K neg x y H Q->P)
 (h3:Qoq neg x y H Q->P)
 (h4:rDs neg x y H Q->P)
 :P:=by
 unfold QlV at h
 first
  | exact h1 h
  | exact h.elim h1 h3
  | exact h.elim h1 λh=>h.elim h2 h3
  | exact h.elim h1 h4
  | exact h.elim h1 λh=>h.elim h3 h4
  | exact h.elim h1 λh=>h.elim h2 λh=>h.elim h3 h4
def QtG(xs:List D)(a:D):((pys xs).any λy=>PyData.eqv y a.py)=xs.any λy=>deq y a:=by
 rw[Qqp,Zbk];rfl
def Qz2(hu:X.A.units+64<cLine):OpR X (compareOp .In) (QlV X.K false):=by
 intro pins s U H x y v u Q I rx ry h
 refine QtC h (λh=>?_)
  (QzR pins s U H x y v u Q I rx ry)
  (Qx8 pins s U H x y v u Q I rx ry)
 obtain⟨a,b,F,G,xs,ha,hb,sa,sb,hk,q⟩:=h;obtain⟨as,ra⟩:=Rp.reads I (QcN 8 _ sa) ha rx;obtain⟨bs,rb⟩:=Rp.reads I (QcN 8 _ sb) hb ry;have h1:=QcA 8 a sa;have h2:=QcA 8 b sb;have q':Q (.bl ((pys xs).any λy=>PyData.eqv y a.py)) H:=by rw[QtG];exact q
 rcases hk with rfl | rfl
 .exact SeqAt.in_list_reads rb ra h2.1 h1.1 (by have:=ZaK (PyData.depthAll (pys xs)) a.py.depth;lia) ⟨.bl _,H,I,rfl,q'⟩
 .exact SeqAt.in_tuple_reads rb ra h2.1 h1.1 (by have:=ZaK (PyData.depthAll (pys xs)) a.py.depth;lia) ⟨.bl _,H,I,rfl,q'⟩
def Qty(hu:X.A.units+64<cLine):OpR X (compareOp .NotIn) (QlV X.K true):=by
 intro pins s U H x y v u Q I rx ry h
 refine QtC h (λh=>?_)
  (Qyx pins s U H x y v u Q I rx ry)
  (Qrr pins s U H x y v u Q I rx ry)
 obtain⟨a,b,F,G,xs,ha,hb,sa,sb,hk,q⟩:=h;obtain⟨as,ra⟩:=Rp.reads I (QcN 8 _ sa) ha rx;obtain⟨bs,rb⟩:=Rp.reads I (QcN 8 _ sb) hb ry;have h1:=QcA 8 a sa;have h2:=QcA 8 b sb;have q':Q (.bl (!(pys xs).any λy=>PyData.eqv y a.py)) H:=by rw[QtG];exact q
 rcases hk with rfl | rfl
 .exact SeqAt.notIn_list_reads rb ra h2.1 h1.1 (by have:=ZaK (PyData.depthAll (pys xs)) a.py.depth;lia) ⟨.bl _,H,I,rfl,q'⟩
 .exact SeqAt.notIn_tuple_reads rb ra h2.1 h1.1 (by have:=ZaK (PyData.depthAll (pys xs)) a.py.depth;lia) ⟨.bl _,H,I,rfl,q'⟩
def QwQ:Qbw K (gIn neg) (QlV K neg):=λa b d e=>by
 unfold gIn at e;split at e
 .split at e
  .rename_i h;simp only[Zh]at h;cases e;exact⟨rfl,λH x y F G Q ha hb q=>inS ⟨a,_,F,G,_,ha,hb,h.1,h.2,.inl rfl,q _ λ_=> .Qbf⟩⟩
  .cases e
 .split at e
  .rename_i h;simp only[Zh]at h;cases e;exact⟨rfl,λH x y F G Q ha hb q=>inS ⟨a,_,F,G,_,ha,hb,h.1,h.2,.inr rfl,q _ λ_=> .Qbf⟩⟩
  .cases e
 .obtain⟨h1,h2⟩:=QBS (K:=K) _ _ _ e;exact⟨h1,λH x y F G Q ha hb q=>by have:=h2 H x y F G Q ha hb q;first | exact .inr this | exact .inr (.inl this) | exact .inr (.inr this) | exact .inr (.inr (.inl this))⟩
 .obtain⟨h1,h2⟩:=QDj (K:=K) _ _ _ e;exact⟨h1,λH x y F G Q ha hb q=>by have:=h2 H x y F G Q ha hb q;first | exact .inr this | exact .inr (.inr this) | exact .inr (.inr (.inr this))⟩
 .cases e
noncomputable def D.QnO:D->Bool
 | .non=>true
 | _=>false
def QlY(h:Rp K H d v F):decide (v= .non)=d.QnO:=by
 cases d with
 | obj o ds=>simp only[Rp]at h;obtain⟨vs,A,G,_,q,_⟩:=h;exact decide_eq_false q.ne
 | non=>rw[h.Qex];rfl
 | bl b=>rw[h.Qc2];rfl
 | int b=>rw[h.int_inv];rfl
 | str b=>rw[h.str_inv];rfl
 | tup b=>obtain⟨a,vs,rfl,_⟩:=h.Qax;rfl
 | lst b=>obtain⟨a,vs,G,rfl,_⟩:=h.lst_inv;rfl
 | exc b=>simp only[Rp]at h;obtain⟨⟨a,rfl,_⟩,_⟩:=h;rfl
 | dk b=>simp only[Rp]at h;obtain⟨a,rfl,_⟩:=h;rfl
noncomputable def D.tyN:D->String
 | .non=> "NoneType" | .bl _=> "bool" | .int _=> "int" | .str _=> "str" | .tup _=> "tuple" | .lst _=> "list" | .exc _=> "?" | .dk _=> "?"
 | .obj _ _=> "?"
noncomputable def D.isE:D->Bool
 | .exc _=>true
 | .dk _=>true
 | .obj _ _=>true
 | _=>false
def D.isa(T:String)(d:D):Option Bool:=if(T == "int" || T == "bool" || T == "list" || T == "tuple" || T == "str") && !d.isE then some (d.tyN == T || (d.tyN == "bool" && T == "int"))else none
def QCx(I:Inv X pins U H s)(rp:Rp X.K H d v F)(rx:RelV v u)(e:d.isa T=some b)(h:∀tk,Q (.bool b) {s with toks:=tk}):
  wpAny (model X.prog X.w) A (call (.builtin "isinstance") [u,.type T]) Q E s:=by
 have kit:PySem.W.kitOne X.K (.type d.tyN) (.type T)=some b:=by
  unfold D.isa at e;split at e
  .rename_i hT;cases e;simp only[Zh,Zbo,beq_iff_eq]at hT;obtain⟨hT,hE⟩:=hT;rcases hT with(((rfl | rfl) | rfl) | rfl) | rfl<;>cases d<;>first | rfl | (cases hE)
  .cases e
 cases d with
 | exc x=>unfold D.isa at e;split at e;(rename_i hT;exfalso;simp only[Zh]at hT;exact nomatch hT.2);cases e
 | dk x=>unfold D.isa at e;split at e;(rename_i hT;exfalso;simp only[Zh]at hT;exact nomatch hT.2);cases e
 | obj _ _=>unfold D.isa at e;split at e;(rename_i hT;exfalso;simp only[Zh]at hT;exact nomatch hT.2);cases e
 | non=>rw[rp.Qex]at rx;cases(show u=Value.none from rx);exact Zaq PySem.W.kitx_none I.kIn True.intro kit (λz=>nomatch z) h
 | bl y=>rw[rp.Qc2]at rx;cases(show u=Value.bool y from rx);exact Zaq PySem.W.kitx_bool I.kIn True.intro kit (λz=>nomatch z) h
 | int i=>rw[rp.int_inv]at rx;obtain⟨t,q⟩:=(show ∃t,u=Value.int i t from rx);cases q;exact Zaq PySem.W.kitx_int I.kIn True.intro kit (λz=>nomatch z) h
 | str y=>rw[rp.str_inv]at rx;obtain⟨t,q⟩:=(show ∃t,u=Value.str y t from rx);cases q;exact Zaq PySem.W.kitx_str I.kIn True.intro kit (λz=>nomatch z) h
 | tup ds=>
  obtain⟨a,vs,rfl,hq,_⟩:=rp.Qax;cases(show u=Value.ref a from rx);obtain⟨its,rv,⟨o,h1,h2,n,h3⟩,_⟩:=I.tuple hq;exact Zaq PySem.W.kitx_tuple I.kIn ⟨o,h1,h2⟩ kit (λz=>nomatch z) h
 | lst ds=>
  obtain⟨a,vs,G,rfl,hq,_⟩:=rp.lst_inv;cases(show u=Value.ref a from rx);obtain⟨_,its,n,rv,_,e1⟩:=I.Qmf hq;exact Zaq PySem.W.kitx_list I.kIn ⟨_,e1,rfl⟩ kit (λz=>nomatch z) h
def QE6(K:Fgg):List V->Hp->VK->Prop:=λxs H Q=>∃x T d F b,xs=[x,.ty T]/\Rp K H d x F/\d.isa T=some b/\Q (.bl b) H
def QwK:QaS X (.builtin "isinstance") (QE6 X.K):=by
 intro pins s U H xs us Q I r h;obtain⟨x,T,d,F,b,rfl,rp,e,q⟩:=h;obtain⟨u,w,rfl,ru,rw'⟩:=vals2 r;cases(show w=Value.type T from rw');exact QCx I rp ru e λtk=>⟨.bl b,H,I.tok _,rfl,q⟩
def Qkj(T:String)(fa:DE):DE:=λρ=>(fa ρ).bind λr=>(r.d.isa T).map λb=>⟨.bl b,true,[]⟩
def QzS(hg:Gl X "isinstance")(hm:X.mg "isinstance" =none)(ha:SE X a fa)(hT:PE X (.Name x p2) (tC (.ty T)))
  (he:starEach [a,.Name x p2] X.env=(false,eval a X.env)::starEach [.Name x p2] X.env):SE X (.Call (.Name "isinstance" p) [a,.Name x p2] [] pos) (Qkj T fa):=λH0 A0=>
 (Qkt QwK hg hm ZaQ (Qa9 (ha H0 A0) (Qa9 hT Qc0) he) ∅ ∅ he (by rfl)).mono λU H Q=>exK λρ hs F r' rel e q=>by
  refine Qf e λr e1 e=>?_;obtain⟨b,eb,e⟩:=Zb.mp e;subst e;exact⟨ρ,hs,F,r,rel,e1,λv H1 G p=>⟨v,T,r.d,G,b,rfl,p.rp,eb,q _ H1 [] (.flat p.same .Qbf)⟩⟩
noncomputable def D.tru:D->Option Bool
 | .non=>some false
 | .bl b=>some b
 | .int i=>some (i != 0)
 | .lst xs=>some (!xs.isEmpty)
 | .tup xs=>some (!xs.isEmpty)
 | .str x=>if x.length<=sizeLine then some ((x.length:Int) != 0)else none
 | .exc _=>none
 | .dk _=>none
 | .obj _ _=>none
def QnT(h:Rp K H d v F)(e:d.tru=some b):QvA K v H b:=by
 have emp:∀{ds:List D}{vs:List V}{G:LAd},Rps K H ds vs G->(!ds.isEmpty)= !vs.isEmpty:=λ{ds vs G} r=>by
  have:=r.length;cases ds<;>cases vs<;>simp_all
 cases d with
 | non=>rw[h.Qex];cases e;exact rfl
 | bl c=>rw[h.Qc2];cases e;exact rfl
 | int i=>rw[h.int_inv];cases e;exact rfl
 | str i=>
  rw[h.str_inv];have e:(if i.length<=sizeLine then some ((i.length:Int) != 0)else none)=some b:=e;split at e
  .cases e;rename_i hz;exact⟨hz,rfl⟩
  .cases e
 | exc i=>cases e
 | dk i=>cases e
 | obj _ _=>cases e
 | tup ds=>cases e;obtain⟨a,vs,rfl,hq,r⟩:=h.Qax;exact .inr (.inl ⟨vs,hq,emp r⟩)
 | lst ds=>cases e;obtain⟨a,vs,G,rfl,hq,r,_⟩:=h.lst_inv;exact .inl ⟨vs,QU hq,emp r⟩
def Qg(fa:DE):DT:=λρ=>(fa ρ).bind λr=>r.d.tru
noncomputable def Qdf(f g:DT):DT:=λρ=>(f ρ).bind λb=>if b=true then g ρ else some false
noncomputable def bOr(f g:DT):DT:=λρ=>(f ρ).bind λb=>if b=true then some true else g ρ
noncomputable def QdN(f:DT):DT:=λρ=>(f ρ).bind λb=>some (!b)
def SW(X:Cx)(e:Expr)(f:DT):Prop:=∀H0 A0,PW X e (tVT X.K H0 A0 f)
def _root_.L2.PW.mono(h:PW X e t)(m:∀U H Q,t' U H Q->t U H Q):PW X e t':=λwh pins s U H Q I q=>h wh pins s U H Q I (m U H Q q)
variable {a b e:Expr}{fa fb:DE}{ga gb gc:DT}{pos:Pos}{rest:List Expr}
def QAZ(ha:SE X a fa)(he:∀whole,isTrue a X.env whole=(do let v ← whole;standAt a.pos;holding [v] (truthy v))):ST X a (Qg fa):=λH0 A0=>
 (Qvz (ha H0 A0) he).mono λU H Q=>exK λρ hs F b rel e q=>by
  refine Qf e λr e1 e=>?_;exact⟨ρ,hs,F,r,rel,e1,λv H1 G p=>⟨b,QnT p.rp e,q H1 p.same⟩⟩
def QzV(ho:OpR X (compareOp op) r)(hg:Qbw X.K g r)(hbl:∀a b d,g a b=some d->∃k,d= .bl k)(ha:SE X a fa)(hb:SE X b fb)(hm:behindInMarks op b=false):ST X (.Compare a [op] [b] pos) (Qg (dOp g fa fb)):=λH0 A0=>
 (QqY ho (ha H0 A0) (hb H0 A0) hm).mono λU H Q=>exK λρ hs F k rel e q=>by
  refine Qf e λr' e0 e=>?_;obtain⟨ra,rb,d,ea,eb,eg,rfl⟩:=QmJ e0;obtain⟨k',rfl⟩:=hbl _ _ _ eg;cases e;refine two rel ea eb λx y H1 H2 G1 G2 p1 p2=>(hg _ _ _ eg).2 H2 x y G1 G2 _ (p1.rp.same p2.same) p2.rp λv hv=>?_;exact⟨_,(hv H2).Qc2,q H2 (p1.same.trans p2.same)⟩
def QAm(ha:ST X a ga):ST X (.UnaryOp .Not a pos) (QdN ga):=λH0 A0=>
 (QA0 (ha H0 A0)).mono λU H Q=>exK λρ hs F b rel e q=>by
  refine Qf e λc e1 e=>?_;cases e;exact⟨ρ,hs,F,c,rel,e1,λH1 s1=>q H1 s1⟩
def QzG(ha:ST X a ga):SW X (.BoolOp .And [a] pos) ga:=λH0 A0=>QxY (ha H0 A0)
def QBG(ha:ST X a ga):SW X (.BoolOp .Or [a] pos) ga:=λH0 A0=>QBb (ha H0 A0)
def QBJ(ha:ST X a ga)(hb:SW X (.BoolOp .And (b::rest) pos) gb):SW X (.BoolOp .And (a::b::rest) pos) (Qdf ga gb):=λH0 A0=>
 (QCs (ha H0 A0) (hb H0 A0)).mono λU H Q=>exK λρ hs F c rel e q=>by
  refine Qf e λd e1 e=>?_;refine⟨ρ,hs,F,d,rel,e1,λH1 s1=>?_⟩;cases d with
  | true=>exact⟨ρ,hs,F,c,rel.ext s1,e,λH2 s2=>q H2 (s1.trans s2)⟩
  | false=>cases e;exact q H1 s1
def QCJ(ha:ST X a ga)(hb:SW X (.BoolOp .Or (b::rest) pos) gb):SW X (.BoolOp .Or (a::b::rest) pos) (bOr ga gb):=λH0 A0=>
 (QDB (ha H0 A0) (hb H0 A0)).mono λU H Q=>exK λρ hs F c rel e q=>by
  refine Qf e λd e1 e=>?_;refine⟨ρ,hs,F,d,rel,e1,λH1 s1=>?_⟩;cases d with
  | true=>cases e;exact q H1 s1
  | false=>exact⟨ρ,hs,F,c,rel.ext s1,e,λH2 s2=>q H2 (s1.trans s2)⟩
def SW.st(h:SW X e ga):ST X e ga:=λH0 A0=>(h H0 A0).pt
def Ql5(fa fb:DE):DE:=λρ=>(fa ρ).bind λra=>(ra.d.tru).bind λb=>if b=true then fb ρ else some ra
def dOr(fa fb:DE):DE:=λρ=>(fa ρ).bind λra=>(ra.d.tru).bind λb=>if b=true then some ra else fb ρ
def Qv8(fa:DE):DE:=λρ=>(fa ρ).bind λra=>(ra.d.tru).bind λb=>some ⟨.bl (!b),true,[]⟩
noncomputable def dIf(g:DT)(fa fb:DE):DE:=λρ=>(g ρ).bind λb=>if b=true then fa ρ else fb ρ
def Qox{op}(h:SE X a fa):SE X (.BoolOp op [a] pos) fa:=λH0 A0=>QB2 (h H0 A0)
def QR.ext(s:Qs H H1)(p:QR K ρ F H1 H2 r v G)(rel:Rel K H0 A0 hs ρ F U H):QR K ρ F H H2 r v G where
 same:=s.trans p.same
 rp:=p.rp
 src:=λa ha=>(p.src a ha).elim (λz=> .inl (s.free z)) .inr
 cnt:=λh=>⟨λa=>Zy ((p.cnt h).1 a) (ZaL (by
  cases q:H1 a with
  | none=>rw[Qa8 q,Qa8 (s.free q)];exact Zi _
  | some o=>rw[QeI q];exact ZK _) _),(p.cnt h).2⟩
 own:=p.own
def Qua(ha:SE X a fa)(hb:SE X (.BoolOp .And (b::rest) pos) fb):SE X (.BoolOp .And (a::b::rest) pos) (Ql5 fa fb):=λH0 A0=>by
 intro pins s U H Q I ⟨ρ,hs,F,r,rel,e,q⟩;refine Qf e λra e1 e=>?_;refine Qf e λc e2 e=>?_;refine PyProof.Rows.BoolOp_and (thn (ha H0 A0 pins s U H _ I ⟨ρ,hs,F,ra,rel,e1,λv H' G p=>(⟨G,p⟩:∃G,QR X.K ρ F H H' ra v G)⟩) λv s1 Z=>?_);obtain⟨x,H1,I1,r1,G,p⟩:=Z;refine thn (Qly pins s1 U H1 x v (λk H2=>k=c/\H2=H1) I1 r1 ⟨c,QnT p.rp e2,rfl,rfl⟩) λk s2 Z=>?_;obtain⟨H2,I2,e3,e4⟩:=Z;subst e3 e4;cases k with
 | true=>exact hb H0 A0 pins s2 U _ Q I2 ⟨ρ,hs,F,r,rel.ext p.same,e,λw H3 G3 p3=>q w H3 G3 (p3.ext p.same rel)⟩
 | false=>cases e;exact⟨x,_,I2,r1,q x _ G p⟩
def QDz(ha:SE X a fa)(hb:SE X (.BoolOp .Or (b::rest) pos) fb):SE X (.BoolOp .Or (a::b::rest) pos) (dOr fa fb):=λH0 A0=>by
 intro pins s U H Q I ⟨ρ,hs,F,r,rel,e,q⟩;refine Qf e λra e1 e=>?_;refine Qf e λc e2 e=>?_;refine PyProof.Rows.BoolOp_or (thn (ha H0 A0 pins s U H _ I ⟨ρ,hs,F,ra,rel,e1,λv H' G p=>(⟨G,p⟩:∃G,QR X.K ρ F H H' ra v G)⟩) λv s1 Z=>?_);obtain⟨x,H1,I1,r1,G,p⟩:=Z;refine thn (Qly pins s1 U H1 x v (λk H2=>k=c/\H2=H1) I1 r1 ⟨c,QnT p.rp e2,rfl,rfl⟩) λk s2 Z=>?_;obtain⟨H2,I2,e3,e4⟩:=Z;subst e3 e4;cases k with
 | false=>exact hb H0 A0 pins s2 U _ Q I2 ⟨ρ,hs,F,r,rel.ext p.same,e,λw H3 G3 p3=>q w H3 G3 (p3.ext p.same rel)⟩
 | true=>cases e;exact⟨x,_,I2,r1,q x _ G p⟩
def QsN(ha:SE X a fa):SE X (.UnaryOp .Not a pos) (Qv8 fa):=λH0 A0=>by
 intro pins s U H Q I ⟨ρ,hs,F,r,rel,e,q⟩;refine Qf e λra e1 e=>?_;refine Qf e λc e2 e=>?_;cases e;refine PyProof.Rows.UnaryOp_ (thn (ha H0 A0 pins s U H _ I ⟨ρ,hs,F,ra,rel,e1,λv H' G p=>(⟨G,p⟩:∃G,QR X.K ρ F H H' ra v G)⟩) λv s1 Z=>?_);obtain⟨x,H1,I1,r1,G,p⟩:=Z;refine PyProof.Rows.not_of (thn (Qly pins s1 U H1 x v (λk H2=>k=c/\H2=H1) I1 r1 ⟨c,QnT p.rp e2,rfl,rfl⟩) λk s2 Z=>?_);obtain⟨H2,I2,e3,e4⟩:=Z;subst e3 e4;exact⟨.bl (!k),_,I2,rfl,q _ _ [] (.flat p.same .Qbf)⟩
def QDd(hc:ST X c gc)(ha:SE X a fa)(hb:SE X b fb):SE X (.IfExp c a b pos) (dIf gc fa fb):=λH0 A0=>
 (Qpq (hc H0 A0) (ha H0 A0) (hb H0 A0)).mono λU H Q=>exK λρ hs F r rel e q=>by
  refine Qf e λc e1 e=>?_;refine⟨ρ,hs,F,c,rel,e1,λH1 s1=>?_⟩;cases c with
  | true=>exact⟨ρ,hs,F,r,rel.ext s1,e,λv H2 G p=>q v H2 G (p.ext s1 rel)⟩
  | false=>exact⟨ρ,hs,F,r,rel.ext s1,e,λv H2 G p=>q v H2 G (p.ext s1 rel)⟩
noncomputable def Qi4(fa:DE):DE:=λρ=>(fa ρ).bind λra=>match ra.d with
 | .int i=>some ⟨.int (-i),true,[]⟩
 | _=>none
def QAi(ha:SE X a fa):SE X (.UnaryOp .USub a pos) (Qi4 fa):=λH0 A0=>
 (QEb QAP (ha H0 A0)).mono λU H Q=>exK λρ hs F r rel e q=>by
  refine Qf e λra e1 e=>?_;refine⟨ρ,hs,F,ra,rel,e1,λv H1 G p=>?_⟩;have rp:=p.rp;cases hr:ra.d with
  | int i=>
   rw[hr]at e rp;cases e;exact⟨i,rp.int_inv,q _ H1 [] (.flat p.same .int_mk)⟩
  | _=>rw[hr]at e;cases e
end
end HS
namespace HS
open PySem PySem.Spec L2
section
def Qdg(ρ ρ':En):Prop:=ρ'.length=ρ.length/\∀(i:Nat) d b,ρ'[i]? =some (some (d,b))->∃b',ρ[i]? =some (some (d,b'))/\(b=true->b'=true)
def Qdg.refl:Qdg ρ ρ:=⟨rfl,λi d b h=>⟨b,h,id⟩⟩
def Qdg.trans(a:Qdg ρ ρ')(b:Qdg ρ' ρ''):Qdg ρ ρ'':=⟨b.1.trans a.1,λi d c h=>by
 obtain⟨c',h1,h2⟩:=b.2 i d c h;obtain⟨c'',h3,h4⟩:=a.2 i d c' h1;exact⟨c'',h3,λz=>h4 (h2 z)⟩⟩
def Rel.weak(r:Rel K H0 A0 hs ρ F U H)(w:Qdg ρ ρ'):Rel K H0 A0 hs ρ' F U H where
 len:=w.1.trans r.len
 val:=λi d b e=>let ⟨b',h,_⟩:=w.2 i d b e;r.val i d b' h
 own:=λi d e=>by
  obtain⟨b',h,hb⟩:=w.2 i d true e;have:b'=true:=hb rfl;subst this;obtain⟨h1,h2,h3,h4,h5⟩:=r.own i d h;exact⟨h1,h2,h3,λj d' b' hj e'=>let ⟨b'',h',_⟩:=w.2 j d' b' e';h4 j d' b'' hj h',h5⟩
 src:=λi d b e=>let ⟨b',h,_⟩:=w.2 i d b e;r.src i d b' h
 held:=r.held
 same:=r.same
noncomputable def kill:List Nat->En->En
 | [],ρ=>ρ
 | i::M,ρ=>kill M (ρ.set i none)
noncomputable def Qce:List Nat->En->En
 | [],ρ=>ρ
 | i::M,ρ=>Qce M (match ρ[i]? with
  | some (some (d,_))=>ρ.set i (some (d,false))
  | _=>ρ)
def Qjf(i:Nat):Qdg ρ (ρ.set i none):=⟨⋯,λj d b h=>by
 by_cases hj:i=j
 .subst hj;by_cases hl:i<ρ.length
  .rw[Zo hl]at h;cases h
  .rw[ZA (by simp;lia)]at h;cases h
 .rw[Zg hj]at h;exact⟨b,h,id⟩⟩
def QbT:∀(M:List Nat) (ρ:En),Qdg ρ (kill M ρ)
 | [],ρ=> .refl
 | i::M,ρ=>(Qjf i).trans (QbT M _)
def Qgk:∀(M:List Nat) (ρ:En) (i:Nat) (d:D) (b:Bool),i∈M->(kill M ρ)[i]? =some (some (d,b))->False
 | [],ρ,i,d,b,h,_=>by simp at h
 | j::M,ρ,i,d,b,h,e=>by
  rcases Zn.mp h with rfl | h
  .obtain⟨b',e',_⟩:=(QbT M (ρ.set i none)).2 i d b e;by_cases hl:i<ρ.length
   .rw[Zo hl]at e';cases e'
   .rw[ZA (by simp;lia)]at e';cases e'
  .exact Qgk M _ i d b h e
def Qva(i:Nat):Qdg ρ (match ρ[i]? with
  | some (some (d,_))=>ρ.set i (some (d,false))
  | _=>ρ):=by
 split
 .rename_i d b e;refine⟨⋯,λj d' b' h=>?_⟩;by_cases hj:i=j
  .subst hj;have hl:i<ρ.length:=(Zm.mp e).1;rw[Zo hl]at h;cases h;exact⟨b,e,λz=>by cases z⟩
  .rw[Zg hj]at h;exact⟨b',h,id⟩
 .exact .refl
def QcJ:∀(M:List Nat) (ρ:En),Qdg ρ (Qce M ρ)
 | [],ρ=> .refl
 | i::M,ρ=>(Qva i).trans (QcJ M _)
def Qk4:∀(M:List Nat) (ρ:En) (i:Nat) (d:D),i∈M->(Qce M ρ)[i]? =some (some (d,true))->False
 | [],ρ,i,d,h,_=>by simp at h
 | j::M,ρ,i,d,h,e=>by
  rcases Zn.mp h with rfl | h
  .obtain⟨b',e',hb⟩:=(QcJ M _).2 i d true e;have:b'=true:=hb rfl;subst this;split at e'
   .rename_i d' b e1;have hl:i<ρ.length:=(Zm.mp e1).1;rw[Zo hl]at e';cases e'
   .rename_i h1;exact h1 d true e'
  .exact Qk4 M _ i d h e
def Shr(H0:Hp)(A0:LAd)(ρ:En)(F:Nat->List Addr)(G:LAd):Prop:=
 ∀a∈G,(H0 a=none∨a∈A0)/\∀(i:Nat) d,ρ[i]? =some (some (d,true))->a∉F i
def Shr.of(r:Rel K H0 A0 hs ρ F U H)(s:Src ρ F H M G):Shr H0 A0 (Qce M ρ) F G:=λa ha=>by
 have w:=QcJ M ρ;rcases s a ha with h | ⟨i,d,b,e,m,hm⟩
 .refine⟨.inl (r.same.free h),λj d' e' hj=>?_⟩;obtain⟨b',e2,_⟩:=w.2 j d' true e';obtain⟨vs,q⟩:=r.mem e2 hj;rw[h]at q;cases q
 .refine⟨r.src i d b e a m,λj d' e' hj=>?_⟩;obtain⟨b',e2,hb⟩:=w.2 j d' true e';have:b'=true:=hb rfl;subst this;by_cases hij:i=j
  .subst hij;rw[e]at e2;cases e2;exact Qk4 M ρ i _ (hm rfl) e'
  .exact(r.own j d' e2).2.2.2.1 i d b hij e a hj m
def Rel.Qrt(r:Rel K H0 A0 hs ρ F U H)(rp:Rp K H d v G)(sh:Shr H0 A0 ρ F G):
  Rel K H0 A0 hs (ρ.set i (some (d,d.flat))) (λj=>if j=i then G else F j) (U.set i (some v)) H where
 len:=by simp[r.len]
 val:=λj d' b e=>by
  by_cases hj:j=i
  .subst hj;have hl:j<ρ.length:=by
    by_cases hl:j<ρ.length
    .exact hl
    .rw[ZA (by simp;lia)]at e;cases e
   rw[Zo hl]at e;cases e;exact⟨v,by rw[Zo (by rw[← r.len];exact hl)],by rw[if_pos rfl];exact rp⟩
  .rw[Zg (Ne.symm hj)]at e;obtain⟨w,h1,h2⟩:=r.val j d' b e;exact⟨w,by rw[Zg (Ne.symm hj)];exact h1,by rw[if_neg hj];exact h2⟩
 own:=λj d' e=>by
  by_cases hj:j=i
  .subst hj;have hl:j<ρ.length:=by
    by_cases hl:j<ρ.length
    .exact hl
    .rw[ZA (by simp;lia)]at e;cases e
   rw[Zo hl]at e;have e1:=Option.some.inj (Option.some.inj e);have ed:d=d':=congrArg Prod.fst e1;have ef:d.flat=true:=congrArg Prod.snd e1;subst ed;have:=rp.QbX ef;subst this;rw[if_pos rfl];exact⟨(Qdr d ef).symm,ZT,λa ha=>by simp at ha,λ_ _ _ _ _ a ha=>by simp at ha,λ_ _ a ha=>by simp at ha⟩
  .rw[Zg (Ne.symm hj)]at e;obtain⟨h1,h2,h3,h4,h5⟩:=r.own j d' e;rw[if_neg hj];refine⟨h1,h2,h3,λk d'' b hk ek a ha=>?_,h5⟩;by_cases hki:k=i
   .subst hki;rw[if_pos rfl];exact λhG=>(sh a hG).2 j d' e ha
   .rw[Zg (Ne.symm hki)]at ek;rw[if_neg hki];exact h4 k d'' b hk ek a ha
 src:=λj d' b e a ha=>by
  by_cases hj:j=i
  .subst hj;rw[if_pos rfl]at ha;exact(sh a ha).1
  .rw[Zg (Ne.symm hj)]at e;rw[if_neg hj]at ha;exact r.src j d' b e a ha
 held:=r.held
 same:=r.same
def QDW(r:Rel K H0 A0 hs ρ F U H)(ow:QaX ρ M)(nd:M.Nodup)(a:Addr):((M.map F).flatten).count a<=1:=by
 induction M with
 | nil=>simp
 | cons i M ih=>
  rw[Zz,Zab,ZS];obtain⟨h1,h2⟩:=Zac.mp nd;have ih':=ih (λj hj=>ow j (Zc _ hj)) h2;obtain⟨d,e⟩:=ow i Zf;obtain⟨_,nd1,_,apart,_⟩:=r.own i d e;by_cases ha:a∈F i
  .have c1:(F i).count a<=1:=ZY.mp nd1 a;have c2:((M.map F).flatten).count a=0:=ZI.mpr λhm=>by
    obtain⟨l,hl,hal⟩:=ZaJ.mp hm;obtain⟨j,hj,rfl⟩:=Zag.mp hl;obtain⟨d',e'⟩:=ow j (Zc _ hj);exact apart j d' true (λz=>h1 (z▸hj)) e' a ha hal
   lia
  .have:(F i).count a=0:=ZI.mpr ha;lia
def QR.fresh(r:Rel K H0 A0 hs ρ F U H)(p:QR K ρ F H H' rr v G)(hf:rr.fr=true)(nd:rr.M.Nodup):
  G.Nodup/\∀a∈G,H0 a=none/\(H a=none∨∃i d,i∈rr.M/\ρ[i]? =some (some (d,true))/\a∈F i):=by
 obtain⟨c,_⟩:=p.cnt hf;refine⟨ZY.mpr λa=>?_,λa ha=>?_⟩
 .have h1:=c a;have h2:=QDW r p.own nd a;cases q:H a with
  | none=>rw[Qa8 q,r.fl0 p.own q]at h1;lia
  | some o=>rw[QeI q]at h1;lia
 .cases q:H a with
  | none=>exact⟨r.same.free q,.inl rfl⟩
  | some o=>
   have h1:=c a;rw[QeI q]at h1;have h2:0<G.count a:=Zaf.mpr ha;obtain⟨l,hl,hal⟩:=ZaJ.mp (Zaf.mp (by lia:0<((rr.M.map F).flatten).count a));obtain⟨i,hi,rfl⟩:=Zag.mp hl;obtain⟨d,e⟩:=p.own i hi;exact⟨(r.own i d e).2.2.1 a hal,.inr ⟨i,d,hi,e,hal⟩⟩
def Rel.QFb(r:Rel K H0 A0 hs ρ F U H)(p:QR K ρ F H H' rr v G)(hf:rr.fr=true)(nd:rr.M.Nodup):
  Rel K H0 A0 hs ((kill rr.M ρ).set i (some (rr.d,true))) (λj=>if j=i then G else F j) (U.set i (some v)) H':=by
 have r1:=(r.ext p.same).weak (QbT rr.M ρ);obtain⟨gn,gs⟩:=p.fresh r hf nd;have gl:=(p.cnt hf).2;have apart:∀(j:Nat) d b,(kill rr.M ρ)[j]? =some (some (d,b))->∀a∈G,a∉F j:=λj d b e a ha hj=>by
  obtain⟨b',e',_⟩:=(QbT rr.M ρ).2 j d b e;rcases(gs a ha).2 with q | ⟨k,d',hk,ek,hak⟩
  .obtain⟨vs,w⟩:=r.mem e' hj;rw[q]at w;cases w
  .have hjk:j≠k:=λz=>by subst z;exact Qgk rr.M ρ j d b hk e
   exact(r.own k d' ek).2.2.2.1 j d b' hjk e' a hak hj
 have apartH:∀t∈hs,∀a∈G,a∉t.2.2:=λt ht a ha hj=>by
  rcases(gs a ha).2 with q | ⟨k,d',hk,ek,hak⟩
  .obtain⟨vs,w⟩:=(r.held t ht).1.mem a hj;rw[q]at w;cases w
  .exact(r.own k d' ek).2.2.2.2 t ht a hak hj
 have lt:∀{j:Nat}{x:Option (D×Bool)}{y:D×Bool},((kill rr.M ρ).set j x)[j]? =some (some y)->j<(kill rr.M ρ).length:=λ{j x y} e=>by
  by_cases hl:j<(kill rr.M ρ).length
  .exact hl
  .rw[ZA (by simp;lia)]at e;cases e
 refine⟨by simp[r1.len],λj d b e=>?_,λj d e=>?_,λj d b e a ha=>?_,r1.held,r1.same⟩
 .by_cases hj:j=i
  .subst hj;have hl:=lt e;rw[Zo hl]at e;cases e;exact⟨v,by rw[Zo (by rw[← r1.len];exact hl)],by rw[if_pos rfl];exact p.rp⟩
  .rw[Zg (Ne.symm hj)]at e;obtain⟨w,h1,h2⟩:=r1.val j d b e;exact⟨w,by rw[Zg (Ne.symm hj)];exact h1,by rw[if_neg hj];exact h2⟩
 .by_cases hj:j=i
  .subst hj;have hl:=lt e;rw[Zo hl]at e;cases e;rw[if_pos rfl];refine⟨gl,gn,λa ha=>(gs a ha).1,λk d' b hk ek a ha=>?_,apartH⟩;rw[Zg (Ne.symm hk)]at ek;rw[if_neg hk];exact apart k d' b ek a ha
  .rw[Zg (Ne.symm hj)]at e;obtain⟨h1,h2,h3,h4,h5⟩:=r1.own j d e;rw[if_neg hj];refine⟨h1,h2,h3,λk d' b hk ek a ha=>?_,h5⟩;by_cases hki:k=i
   .subst hki;rw[if_pos rfl];exact λhG=>apart j d true e a hG ha
   .rw[Zg (Ne.symm hki)]at ek;rw[if_neg hki];exact h4 k d' b hk ek a ha
 .by_cases hj:j=i
  .subst hj;rw[if_pos rfl]at ha;exact .inl (gs a ha).1
  .rw[Zg (Ne.symm hj)]at e;rw[if_neg hj]at ha;exact r1.src j d b e a ha
def asg(i:Nat)(r:R)(ρ:En):En:=
 if r.norm.fr && decide r.norm.M.Nodup then(kill r.norm.M ρ).set i (some (r.d,true))else(Qce r.norm.M ρ).set i (some (r.d,r.d.flat))
def Rel.asg(r:Rel K H0 A0 hs ρ F U H)(p:QR K ρ F H H' rr v G):∃F',Rel K H0 A0 hs (asg i rr ρ) F' (U.set i (some v)) H':=by
 have p':=p.norm;unfold HS.asg;split
 .rename_i h;simp only[Zh,decide_eq_true_eq]at h;have:=r.QFb (i:=i) p' h.1 h.2;rw[rr.QdH]at this;exact⟨_,this⟩
 .have r1:=(r.ext p'.same).weak (QcJ rr.norm.M ρ);have rp:=p'.rp;rw[rr.QdH]at rp;have sh:=Shr.of r p'.src;exact⟨_,r1.Qrt rp sh⟩
def Rel.hold(r:Rel K H0 A0 hs ρ F U H)(h:∀t∈ts,Rp K H t.2.1 t.1 t.2.2/\Shr H0 A0 ρ F t.2.2):Rel K H0 A0 (ts++hs) ρ F U H where
 len:=r.len
 val:=r.val
 own:=λi d e=>by
  obtain⟨h1,h2,h3,h4,h5⟩:=r.own i d e;refine⟨h1,h2,h3,h4,λt ht a ha hm=>?_⟩;rcases Zx.mp ht with z | z
  .exact((h t z).2 a hm).2 i d e ha
  .exact h5 t z a ha hm
 src:=r.src
 held:=λt ht=>by
  rcases Zx.mp ht with z | z
  .exact⟨(h t z).1,λa ha=>((h t z).2 a ha).1⟩
  .exact r.held t z
 same:=r.same
def Rel.Qpw(r:Rel K H0 A0 (ts++hs) ρ F U H):Rel K H0 A0 hs ρ F U H where
 len:=r.len
 val:=r.val
 own:=λi d e=>let ⟨h1,h2,h3,h4,h5⟩:=r.own i d e;⟨h1,h2,h3,h4,λt ht=>h5 t (Ze _ ht)⟩
 src:=r.src
 held:=λt ht=>r.held t (Ze _ ht)
 same:=r.same
end
structure Ret (K:Fgg) (H0:Hp) (A0:LAd) (d:D) (fr:Bool) (v:V) (H':Hp) (G:LAd):Prop where
 same:Qs H0 H'
 rp:Rp K H' d v G
 src:∀a∈G,H0 a=none∨a∈A0
 cnt:fr=true->G.Nodup/\G.length=d.nl/\∀a∈G,H0 a=none
abbrev Den:=List D->Option (D×Bool)
def spV(K:Fgg)(n:Nat)(den:Den):Sp:=λvs H Q _=>∃ds F d fr,Rps K H ds vs F/\ds.length=n/\den ds=some (d,fr)/\∀v H' G,Ret K H F d fr v H' G->Q v H'
def QgX{K:Fgg}{n:Nat}{den:Den}{ps:List Str}(hn:ps.length=n):∀vs H Q E,spV K n den vs H Q E->vs.length=ps.length:=λvs H Q E ⟨ds,F,d,fr,r,hl,_⟩=>by rw[hn,← hl,r.length]
def Ql(n:Nat)(den:Den)(dfl:List D)(fs:DA):DE:=λρ=>(fs ρ).bind λr=>if r.ds.length+dfl.length=n then(den (r.ds++dfl)).map λq=>if q.2=true then⟨q.1,true,[]⟩else R.norm ⟨q.1,false,r.M⟩else none
section
variable {X:Cx}{e:Expr}{es:List Expr}{fs:DA}{pos p:Pos}{x:Str}{n k:Nat}{f:Addr}{fd:FuncData}{ps:List Str}{den:Den}{dfl:List D}{dvs:List V}{ds:List Value}
def Qix{U:L2.St}{H H0:Hp}{A0:LAd}{Q:VK}(hdf:∀H,Rps X.K H dfl dvs []):tV X.K H0 A0 (Ql n den dfl fs) U H Q->Qso (spV X.K n den) dvs E0 (tVA X.K H0 A0 fs) U H Q:=exK λρ hs F r rel e q=>by
 refine Qf e λra e1 e=>?_;split at e
 .rename_i hl;obtain⟨⟨d,fr⟩,e2,e⟩:=Zb.mp e;refine⟨ρ,hs,F,ra,rel,e1,λvs H1 G p1=>⟨ra.ds++dfl,G++[],d,fr,p1.rp.append (hdf H1),by rw[Zl];exact hl,e2,λv H2 G2 rt=>?_⟩⟩;subst e;have src:Src ρ F H ra.M G2:=λa ha=>by
   rcases rt.src a ha with z | z
   .exact .inl (p1.same.free z)
   .rw[ZG]at z;exact p1.src a z
  split at q
  .rename_i hf;have hf:fr=true:=hf;obtain⟨nd,hn,fresh⟩:=rt.cnt hf;have hH:∀a∈G2,H a=none:=λa ha=>p1.same.free (fresh a ha);refine q v H2 G2 ⟨p1.same.trans rt.same,rt.rp,λa ha=> .inl (hH a ha),λ_=>⟨λa=>?_,hn⟩,QaX.nil⟩;by_cases ha:a∈G2
   .rw[Qa8 (hH a ha)];have:=ZY.mp nd a;lia
   .rw[ZI.mpr ha];exact ZK _
  .refine q v H2 G2 (QR.norm ⟨p1.same.trans rt.same,rt.rp,src,λz=>(by cases z),p1.own⟩)
 .cases e
def Qy0(Fk:Qag X.prog X.w X.K X.mg X.base CX0 k f fd ps (spV X.K n den))(hr:Q3 k X.A)(hg:Gl X x)(hm:X.mg x=some (.ref f))(hk:PySem.W.keepIn X.K (.ref f)=true)(hb:Binds X.K fd ps ds)(hd:Qt dvs ds)(hdf:∀H,Rps X.K H dfl dvs [])
  (ha:SA X (e::es) fs) (hdb:(x == ("__debug__" :Str))=false) (he:starEach (e::es) X.env=(false,eval e X.env)::starEach es X.env) (hpl:(backTo pos (starEach es X.env)).any (·.1)=false):
  SE X (.Call (.Name x p) (e::es) [] pos) (Ql n den dfl fs):=λH0 A0=>
 (QxS Fk hr hg hm hk hb hd QjK (ha H0 A0) hdb he hpl).mono λU H Q h=>Qix hdf h
def Qwa(Fk:Qag X.prog X.w X.K X.mg X.base CX0 k f fd ps (spV X.K n den))(hr:Q3 k X.A)(hg:Gl X x)(hm:X.mg x=some (.ref f))(hk:PySem.W.keepIn X.K (.ref f)=true)(hb:Binds X.K fd ps ds)(hd:Qt dvs ds)(hdf:∀H,Rps X.K H dfl dvs [])
  (hdb:(x == ("__debug__" :Str))=false):SE X (.Call (.Name x p) [] [] pos) (Ql n den dfl Qb):=λH0 A0=>
 (Qvi Fk hr hg hm hk hb hd QjK hdb).mono λU H Q h=>by
  have h':=Qix hdf h;obtain⟨ρ,hs,F,r,rel,e,q⟩:=h';cases e;exact q [] H [] ⟨Qs.refl _,by simp[Rps],Src.nil,λ_=>⟨Cnt.nil,rfl⟩,QaX.nil⟩
end
structure IR where
 items:List D
 M:List Nat
abbrev DI:=En->Option IR
def QkH(K:Fgg)(H:Hp)(ts:List (V×D×List Addr)):Prop:=∀t∈ts,Rp K H t.2.1 t.1 t.2.2
structure Walk (K:Fgg) (J:It) (ts:List (V×D×List Addr)) (ds:List D):Prop where
 stop:∀H,QkH K H ts->J.stop ds.length H
 go:∀i H,i<ds.length->QkH K H ts->J.go i H
 yld:∀(i:Nat) d H x H',ds[i]? =some d->QkH K H ts->J.yld i H x H'->Qs H H'/\∃G,Rp K H' d x G/\∀a∈G,∃t∈ts,a∈t.2.2
def tI(K:Fgg)(H0:Hp)(A0:LAd)(f:DI):TI:=λU H Rr=>∃ρ hs F ir,Rel K H0 A0 hs ρ F U H/\f ρ=some ir∧
 ∀J H1 ts,Qs H H1->Walk K J ts ir.items->(∀t∈ts,Rp K H1 t.2.1 t.1 t.2.2/\Src ρ F H ir.M t.2.2)->QaX ρ ir.M->ir.items.length<=sizeLine->Rr J H1
def SI(X:Cx)(tg e:Expr)(f:DI):Prop:=∀H0 A0,PI X tg e (tI X.K H0 A0 f)
def _root_.L2.PI.mono(h:PI X tg e t)(m:∀U H Q,t' U H Q->t U H Q):PI X tg e t':=λpins s U H Q I q=>h pins s U H Q I (m U H Q q)
section
variable {X:Cx}{tg a b:Expr}{fa fb:DE}{fs:DA}{pos p:Pos}
def Rps.nth{K:Fgg}{H:Hp}{ds:List D}{vs:List V}{F:LAd}{i:Nat}{d:D}(h:Rps K H ds vs F)(e:ds[i]? =some d):∃v G,vs[i]? =some v/\Rp K H d v G/\∀a∈G,a∈F:=by
 obtain⟨v,F1,G,F2,h1,h2,h3,_⟩:=h.get e;exact⟨v,G,h1,h3,λa ha=>by rw[h2];exact Ze _ (Zk _ ha)⟩
def QEI(K:Fgg)(tl:TE):TI:=λU H Rr=>tl U H λx H1=>(∃a,x= .ref a/\(∃xs,SqL K H1 a xs)/\Rr (Itl K a) H1)∨(∃a,x= .ref a/\(∃xs,SqT K H1 a xs)/\Rr (Itt K a) H1)
def Qz3(hl:PE X l tl):PI X tg l (QEI X.K tl):=by
 intro pins s U H Rr I h;refine thn (hl pins s U H _ I h) λv s1=>exJ λx H1 I1 r1 q1=>?_;rcases q1 with⟨a,e,⟨xs,hq⟩,q⟩ | ⟨a,e,⟨xs,hq⟩,q⟩
 .subst e;cases r1;obtain⟨its,rv,pl,hz⟩:=I1.list hq;refine wpAny_pyIter_list pl.isList ⟨s1.heap.objs.size,[s1.heap.objs.size],_,_,H1,rfl,I1.kept (t':=s1.toks) λb o e=>Zd _ e,QtL a _,⟨_,Zq _ rfl,rfl,rfl⟩,λb hb=>?_,q⟩;have e:b=s1.heap.objs.size:=by simpa using hb
  subst e;exact I1.QkI (Zi _) (I1.hok.fresh (Zi _))
 .subst e;cases r1;obtain⟨its,rv,pl,hz⟩:=I1.tuple hq;refine wpAny_pyIter_tuple (show s1.heap.IsTuple a its.toArray from pl) ⟨s1.heap.objs.size,[s1.heap.objs.size],_,_,H1,rfl,I1.kept (t':=s1.toks) λb o e=>Zd _ e,Qr2 a _,⟨_,Zq _ rfl,rfl,rfl⟩,λb hb=>?_,q⟩;have e:b=s1.heap.objs.size:=by simpa using hb
  subst e;exact I1.QkI (Zi _) (I1.hok.fresh (Zi _))
noncomputable def QH(fa:DE):DI:=λρ=>(fa ρ).bind λr=>match r.d with
 | .lst xs=>some ⟨xs,r.M⟩
 | .tup xs=>if xs.length<=sizeLine then some ⟨xs,r.M⟩else none
 | .str x=>if x.cps.size<=sizeLine then some ⟨x.cps.toList.map λc=> .str ⟨#[c]⟩,[]⟩else none
 | _=>none
def QC1{t u:TI}(h1:PI X tg l t)(h2:PI X tg l u):PI X tg l (λU H R=>t U H R∨u U H R):=λpins s U H R I q=>q.elim (h1 pins s U H R I) (h2 pins s U H R I)
def Qvs{K:Fgg}{x:Str}:Walk K (Itx x) [] (x.cps.toList.map λc=> .str ⟨#[c]⟩) where
 stop:=λH h=>by show _=x.cps.size;rw[Zt,ZO]
 go:=λi H hi h=>by rw[Zt,ZO]at hi;exact hi
 yld:=λi d H v H' e h y=>by
  obtain⟨rfl,c,hc,rfl⟩:=y;rw[Zw,Array.getElem?_toList,hc]at e;cases e;exact⟨Qs.refl _,[],.str_mk,λa ha=>by simp at ha⟩
def Qum{K:Fgg}{c:Addr}{ds:List D}{G:LAd}:Walk K (Itl K c) [(.ref c,.lst ds,G)] ds where
 stop:=λH h=>by
  obtain⟨l,vs,L,e,hl,rl,zl,el⟩:=(h _ (Zj.mpr rfl)).lst_inv;cases e;exact⟨vs,QU hl,by rw[rl.length];exact Zi _⟩
 go:=λi H hi h=>by
  obtain⟨l,vs,L,e,hl,rl,zl,el⟩:=(h _ (Zj.mpr rfl)).lst_inv;cases e;have:i<vs.length:=by rw[← rl.length];exact hi
  exact⟨vs,vs[i],QU hl,by simp[this]⟩
 yld:=λi d H x H' e h y=>by
  obtain⟨l,vs,L,e1,hl,rl,zl,el⟩:=(h _ (Zj.mpr rfl)).lst_inv;cases e1;obtain⟨rfl,y⟩:=y;obtain⟨v,G',h1,h2,h3⟩:=rl.nth e;have:=y vs (QU hl);rw[h1]at this;cases this;refine⟨Qs.refl _,G',h2,λz hz=>⟨_,Zj.mpr rfl,?_⟩⟩;have:=h3 z hz;rcases el with rfl | rfl
  .exact Zc _ this
  .exact this
def Qve{K:Fgg}{c:Addr}{ds:List D}{G:LAd}:Walk K (Itt K c) [(.ref c,.tup ds,G)] ds where
 stop:=λH h=>by
  obtain⟨l,vs,e,hl,rl⟩:=(h _ (Zj.mpr rfl)).Qax;cases e;exact⟨vs,hl,by rw[rl.length];exact Zi _⟩
 go:=λi H hi h=>by
  obtain⟨l,vs,e,hl,rl⟩:=(h _ (Zj.mpr rfl)).Qax;cases e;have:i<vs.length:=by rw[← rl.length];exact hi
  exact⟨vs,vs[i],hl,by simp[this]⟩
 yld:=λi d H x H' e h y=>by
  obtain⟨l,vs,e1,hl,rl⟩:=(h _ (Zj.mpr rfl)).Qax;cases e1;obtain⟨rfl,y⟩:=y;obtain⟨v,G',h1,h2,h3⟩:=rl.nth e;have:=y vs hl;rw[h1]at this;cases this;exact⟨Qs.refl _,G',h2,λz hz=>⟨_,Zj.mpr rfl,h3 z hz⟩⟩
def QB0(ha:SE X a fa):SI X tg a (QH fa):=λH0 A0=>
 (QC1 (Qz3 (ha H0 A0)) (QA5 (ha H0 A0))).mono λU H Rr=>exK λρ hs F ir rel e q=>by
 refine Qf e λr e1 e=>?_;by_cases hx:∃x,r.d= .str x
 .obtain⟨x,hx⟩:=hx;rw[hx]at e;dsimp only at e;split at e
  .rename_i hz;cases e;refine .inr ⟨ρ,hs,F,r,rel,e1,λv H1 G p=>?_⟩;have rp:=p.rp;rw[hx]at rp;exact⟨x,rp.str_inv,q _ H1 [] p.same Qvs (λt ht=>by simp at ht) QaX.nil (by rw[Zt,ZO];exact hz)⟩
  .cases e
 left;refine⟨ρ,hs,F,r,rel,e1,λv H1 G p=>?_⟩;have rp:=p.rp;cases hr:r.d with
 | lst xs=>
  rw[hr]at e rp;cases e;obtain⟨c,vs,L,rfl,hl,rl,zl,el⟩:=rp.lst_inv;refine .inl ⟨c,rfl,⟨vs,QU hl⟩,q _ H1 [(.ref c,.lst xs,G)] p.same Qum (λt ht=>?_) p.own zl⟩;rw[Zj.mp ht];exact⟨rp,p.src⟩
 | tup xs=>
  rw[hr]at e rp;dsimp only at e;split at e
  .rename_i hz;cases e;obtain⟨c,vs,rfl,hl,rl⟩:=rp.Qax;refine .inr ⟨c,rfl,⟨vs,hl⟩,q _ H1 [(.ref c,.tup xs,G)] p.same Qve (λt ht=>?_) p.own hz⟩;rw[Zj.mp ht];exact⟨rp,p.src⟩
  .cases e
 | str x=>exact absurd ⟨x,hr⟩ hx
 | _=>rw[hr]at e;cases e
def Qjh(lo:Int)(n:Nat):List D:=(List.range n).map λ(k:Nat)=> .int (lo+(k:Int))
def Qh7:(Qjh lo n).length=n:=by simp[Qjh]
def QvT(h:(Qjh lo n)[i]? =some d):i<n/\d= .int (lo+i):=by
 unfold Qjh at h;rw[Zw]at h;cases q:(List.range n)[i]? with
 | none=>rw[q]at h;cases h
 | some k=>
  rw[q]at h;obtain⟨h1,h2⟩:=Zm.mp q;simp at h1 h2;subst h2;exact⟨h1,(Option.some.inj h).symm⟩
def Qk6:Walk K (Itr lo n) [] (Qjh lo n) where
 stop:=λH _=>by rw[Qh7];exact Zi _
 go:=λi H hi _=>by rw[Qh7]at hi;exact hi
 yld:=λi d H x H' e _ y=>by
  obtain⟨h1,rfl⟩:=QvT e;obtain⟨rfl,rfl⟩:=y;exact⟨Qs.refl _,[],.int_mk,λz hz=>by simp at hz⟩
def Qas(fa:DE):DI:=λρ=>(fa ρ).bind λr=>match r.d with
 | .int j=>if j<=16777216/\ -(2^62)<=j then some ⟨Qjh 0 j.toNat,[]⟩else none
 | _=>none
def QdW(fa fb:DE):DI:=λρ=>(fa ρ).bind λr=>(fb ρ).bind λr'=>match r.d,r'.d with
 | .int i,.int j=>if j-i<=16777216/\ -(2^62)<=i/\i<2^62/\ -(2^62)<=j/\j<2^62 then some ⟨Qjh i (j-i).toNat,[]⟩else none
 | _,_=>none
def Qbr:(sizeLine:Nat)=16777216:=sizeLine_eq
def Qtg(hg:Gl X "range")(hm:X.mg "range" =none)(ha:SE X a fa)(hs:starEach [a] X.env=[(false,eval a X.env)]):SI X tg (.Call (.Name "range" p) [a] [] pos) (Qas fa):=λH0 A0=>
 (QsA hg hm (Qa9 (ha H0 A0) Qc0 hs) hs).mono λU H Rr=>exK λρ hs F ir rel e q=>by
  refine Qf e λr e1 e=>?_;refine⟨ρ,hs,F,r,rel,e1,λv H1 G pp=>?_⟩;have rp:=pp.rp;cases hr:r.d with
  | int j=>
   rw[hr]at e rp;dsimp only at e;split at e
   .rename_i hz;cases e;rw[rp.int_inv];refine⟨j,rfl,hz.2,⋯,q _ H1 [] pp.same Qk6 (λt ht=>by simp at ht) QaX.nil ?_⟩;rw[Qh7,Qbr];lia
   .cases e
  | _=>rw[hr]at e;cases e
def Qt8(hg:Gl X "range")(hm:X.mg "range" =none)(ha:SE X a fa)(hb:SE X b fb)(hs:starEach [a,b] X.env=[(false,eval a X.env),(false,eval b X.env)])(hs2:starEach [b] X.env=[(false,eval b X.env)]):
  SI X tg (.Call (.Name "range" p) [a,b] [] pos) (QdW fa fb):=λH0 A0=>
 (QuB hg hm (Qa9 (ha H0 A0) (Qa9 (hb H0 A0) Qc0 hs2) (by rw[hs,hs2])) hs hs2).mono λU H Rr=>exK λρ hs F ir rel e q=>by
  refine Qf e λr e1 e=>?_;refine Qf e λr' e2 e=>?_;refine⟨ρ,hs,F,r,rel,e1,λv H1 G pp=>⟨ρ,hs,F,r',rel.ext pp.same,e2,λv' H2 G' pp'=>?_⟩⟩;have rp:=pp.rp.same pp'.same;have rp':=pp'.rp;cases hr:r.d with
  | int i=>
   cases hr':r'.d with
   | int j=>
    rw[hr,hr']at e;rw[hr]at rp;rw[hr']at rp';dsimp only at e;split at e
    .rename_i hz;cases e;rw[rp.int_inv,rp'.int_inv];refine⟨i,j,rfl,hz.2,q _ H2 [] (pp.same.trans pp'.same) Qk6 (λt ht=>by simp at ht) QaX.nil ?_⟩;rw[Qh7,Qbr];lia
    .cases e
   | _=>rw[hr,hr']at e;cases e
  | _=>rw[hr]at e;cases e
noncomputable def Qfo(ds:List D):List D:=ds.zipIdx.map λq=> .tup [.int q.2,q.1]
def QiW:(Qfo ds).length=ds.length:=by simp[Qfo]
def Quh{ds:List D}{i:Nat}{d:D}(h:(Qfo ds)[i]? =some d):∃e,ds[i]? =some e/\d= .tup [.int i,e]:=by
 unfold Qfo at h;rw[Zw,List.getElem?_zipIdx]at h;cases q:ds[i]? with
 | none=>rw[q]at h;cases h
 | some e=>rw[q]at h;simp at h;exact⟨e,rfl,h.symm⟩
def QsL{K:Fgg}{c:Addr}{ds:List D}{G:LAd}:Walk K (Ite K c) [(.ref c,.lst ds,G)] (Qfo ds) where
 stop:=λH h=>by
  obtain⟨l,vs,L,e,hl,rl,zl,el⟩:=(h _ (Zj.mpr rfl)).lst_inv;cases e;exact⟨vs,QU hl,by rw[QiW,rl.length];exact Zi _⟩
 go:=λi H hi h=>by
  obtain⟨l,vs,L,e,hl,rl,zl,el⟩:=(h _ (Zj.mpr rfl)).lst_inv;cases e;rw[QiW]at hi;have:i<vs.length:=by rw[← rl.length];exact hi
  exact⟨vs,vs[i],QU hl,by simp[this]⟩
 yld:=λi d H x H' e h y=>by
  obtain⟨l,vs,L,e1,hl,rl,zl,el⟩:=(h _ (Zj.mpr rfl)).lst_inv;cases e1;obtain⟨d',e',rfl⟩:=Quh e;obtain⟨pp,u,rfl,hp,rfl,y⟩:=y;obtain⟨v,G',h1,h2,h3⟩:=rl.nth e';have:=y vs (QU hl);rw[h1]at this;cases this;have s:=Qa0 (o:= .tup [.int i,u]) hp;refine⟨s,G',Rp.QiV Q4 ?_,λz hz=>⟨_,Zj.mpr rfl,?_⟩⟩
  .simp only[Rps];exact⟨.int i,[u],[],G',rfl,rfl,.int_mk,u,[],G',[],rfl,⋯,h2.same s,rfl,rfl⟩
  .have:=h3 z hz;rcases el with rfl | rfl
   .exact Zc _ this
   .exact this
def Qdh(fa:DE):DI:=λρ=>(fa ρ).bind λr=>match r.d with
 | .lst xs=>some ⟨Qfo xs,r.M⟩
 | _=>none
def QxT(hg:Gl X "enumerate")(hm:X.mg "enumerate" =none)(ha:SE X a fa)(hs:starEach [a] X.env=[(false,eval a X.env)]):SI X (.Tuple es tk tpos) (.Call (.Name "enumerate" p) [a] [] pos) (Qdh fa):=λH0 A0=>
 (QzA hg hm (Qa9 (ha H0 A0) Qc0 hs) hs).mono λU H Rr=>exK λρ hs F ir rel e q=>by
  refine Qf e λr e1 e=>?_;refine⟨ρ,hs,F,r,rel,e1,λv H1 G pp=>?_⟩;have rp:=pp.rp;cases hr:r.d with
  | lst xs=>
   rw[hr]at e rp;cases e;obtain⟨c,vs,L,rfl,hl,rl,zl,el⟩:=rp.lst_inv;refine⟨c,rfl,⟨vs,QU hl⟩,q _ H1 [(.ref c,.lst xs,G)] pp.same QsL (λt ht=>?_) pp.own (by rw[QiW];exact zl)⟩;rw[Zj.mp ht];exact⟨rp,pp.src⟩
  | _=>rw[hr]at e;cases e
noncomputable def QeC(xs ys:List D):List D:=(xs.zip ys).map λq=> .tup [q.1,q.2]
def Qer:(QeC xs ys).length=min xs.length ys.length:=by simp[QeC]
def Qod{xs ys:List D}{i:Nat}{d:D}(h:(QeC xs ys)[i]? =some d):∃e f,xs[i]? =some e/\ys[i]? =some f/\d= .tup [e,f]:=by
 unfold QeC at h;rw[Zw]at h;cases q:(xs.zip ys)[i]? with
 | none=>rw[q]at h;cases h
 | some e=>
  rw[q]at h;obtain⟨h1,h2⟩:=Zbb.mp q;exact⟨e.1,e.2,h1,h2,(Option.some.inj h).symm⟩
def Qwy{K:Fgg}{c c':Addr}{xs ys:List D}{G G':LAd}:Walk K (Itz K c c') [(.ref c,.lst xs,G),(.ref c',.lst ys,G')] (QeC xs ys) where
 stop:=λH h=>by
  obtain⟨l,vs,L,e,hl,rl,zl,el⟩:=(h _ (Zf)).lst_inv;obtain⟨l',vs',L',e',hl',rl',zl',el'⟩:=(h _ (Zc _ Zf)).lst_inv;cases e;cases e';refine⟨vs,vs',QU hl,QU hl',?_⟩;rw[Qer,← rl.length,← rl'.length];lia
 go:=λi H hi h=>by
  obtain⟨l,vs,L,e,hl,rl,zl,el⟩:=(h _ (Zf)).lst_inv;obtain⟨l',vs',L',e',hl',rl',zl',el'⟩:=(h _ (Zc _ Zf)).lst_inv;cases e;cases e';rw[Qer]at hi;have h1:i<vs.length:=by rw[← rl.length];lia
  have h2:i<vs'.length:=by rw[← rl'.length];lia
  exact⟨vs,vs',vs[i],vs'[i],QU hl,QU hl',by simp[h1],by simp[h2]⟩
 yld:=λi d H x H' e h y=>by
  obtain⟨l,vs,L,e1,hl,rl,zl,el⟩:=(h _ (Zf)).lst_inv;obtain⟨l',vs',L',e1',hl',rl',zl',el'⟩:=(h _ (Zc _ Zf)).lst_inv;cases e1;cases e1';obtain⟨d1,d2,ea,eb,rfl⟩:=Qod e;obtain⟨pp,u,u',rfl,hp,rfl,y,y'⟩:=y;obtain⟨v,G1,h1,h2,h3⟩:=rl.nth ea;obtain⟨v',G2,h1',h2',h3'⟩:=rl'.nth eb;have:=y vs (QU hl);rw[h1]at this;cases this;have:=y' vs' (QU hl');rw[h1']at this;cases this;have s:=Qa0 (o:= .tup [u,u']) hp;refine⟨s,G1++G2,Rp.QiV Q4 ?_,λz hz=>?_⟩
  .simp only[Rps];exact⟨u,[u'],G1,G2,rfl,rfl,h2.same s,u',[],G2,[],rfl,⋯,h2'.same s,rfl,rfl⟩
  .rcases Zx.mp hz with hz | hz
   .refine⟨_,Zf,?_⟩;have:=h3 z hz;rcases el with rfl | rfl
    .exact Zc _ this
    .exact this
   .refine⟨_,Zc _ Zf,?_⟩;have:=h3' z hz;rcases el' with rfl | rfl
    .exact Zc _ this
    .exact this
def Qca(fa fb:DE):DI:=λρ=>(fa ρ).bind λr=>(fb ρ).bind λr'=>match r.d,r'.d with
 | .lst xs,.lst ys=>some ⟨QeC xs ys,r.M++r'.M⟩
 | _,_=>none
def QBl(hg:Gl X "zip")(hm:X.mg "zip" =none)(ha:SE X a fa)(hb:SE X b fb)(hs:starEach [a,b] X.env=[(false,eval a X.env),(false,eval b X.env)])(hs2:starEach [b] X.env=[(false,eval b X.env)]):
  SI X (.Tuple es tk tpos) (.Call (.Name "zip" p) [a,b] [] pos) (Qca fa fb):=λH0 A0=>
 (QA2 hg hm (Qa9 (ha H0 A0) (Qa9 (hb H0 A0) Qc0 hs2) (by rw[hs,hs2])) hs hs2).mono λU H Rr=>exK λρ hs F ir rel e q=>by
  refine Qf e λr e1 e=>?_;refine Qf e λr' e2 e=>?_;refine⟨ρ,hs,F,r,rel,e1,λv H1 G pp=>⟨ρ,hs,F,r',rel.ext pp.same,e2,λv' H2 G' pp'=>?_⟩⟩;have rp:=pp.rp.same pp'.same;have rp':=pp'.rp;cases hr:r.d with
  | lst xs=>
   cases hr':r'.d with
   | lst ys=>
    rw[hr,hr']at e;rw[hr]at rp;rw[hr']at rp';cases e;obtain⟨c,vs,L,rfl,hl,rl,zl,el⟩:=rp.lst_inv;obtain⟨c',vs',L',rfl,hl',rl',zl',el'⟩:=rp'.lst_inv;refine⟨c,c',rfl,⟨vs,QU hl⟩,⟨vs',QU hl'⟩,q _ H2 [(.ref c,.lst xs,G),(.ref c',.lst ys,G')] (pp.same.trans pp'.same) Qwy (λt ht=>?_) (pp.own.append pp'.own) (by rw[Qer];lia)⟩;have sa:=pp.src.append pp'.src pp.same;rcases Zn.mp ht with rfl | ht
    .exact⟨rp,λz hz=>sa z (Zk _ hz)⟩
    .rw[Zj.mp ht];exact⟨rp',λz hz=>sa z (Ze _ hz)⟩
   | _=>rw[hr,hr']at e;cases e
  | _=>rw[hr]at e;cases e
end
end HS
namespace HS
open PySem L2
section
end
end HS
namespace HS
open PySem PySem.Spec L2
inductive Tg where
 | nm (i:Nat)
 | tp (is:List Nat)
noncomputable def Tg.slots:Tg->List Nat
 | .nm i=>[i]
 | .tp is=>is
def Qd6:List Nat->List D->En->En
 | i::is,d::ds,ρ=>Qd6 is ds (ρ.set i (some (d,d.flat)))
 | _,_,ρ=>ρ
def Qbe:Tg->D->En->Option En
 | .nm i,d,ρ=>some (ρ.set i (some (d,d.flat)))
 | .tp is,.tup xs,ρ=>if xs.length=is.length then some (Qd6 is xs ρ)else none
 | .tp is,.lst xs,ρ=>if xs.length=is.length then some (Qd6 is xs ρ)else none
 | .tp _,_,_=>none
def tG(K:Fgg)(H0:Hp)(A0:LAd)(t:Tg):TG:=λv U H Q=>∃ρ hs F d G ρ',Rel K H0 A0 hs ρ F U H/\Rp K H d v G/\Shr H0 A0 ρ F G/\Qbe t d ρ=some ρ'∧
 ∀U' F',Rel K H0 A0 hs ρ' F' U' H->(∀j,j∉t.slots->U'[j]? =U[j]?)->(∀j a,a∈F' j->a∈F j∨a∈G)->Q U' H
def SG(X:Cx)(tg:Expr)(t:Tg):Prop:=∀H0 A0,PG X tg (tG X.K H0 A0 t)
def _root_.L2.PG.mono{X:Cx}{tg:Expr}{t t':TG}(h:PG X tg t)(m:∀v U H Q,t' v U H Q->t v U H Q):PG X tg t':=λpins s U H v u Q I r q=>h pins s U H v u Q I r (m v U H Q q)
def Qlp:List Nat->TGs
 | []=>QCq
 | i::is=>QwT (QgD i) (Qlp is)
def Shr.set{H0:Hp}{A0:LAd}{ρ:En}{F:Nat->List Addr}{G G1:LAd}{i:Nat}{d:D}(h:Shr H0 A0 ρ F G)(hf:d.flat=true->G1=[]):Shr H0 A0 (ρ.set i (some (d,d.flat))) (λj=>if j=i then G1 else F j) G:=λa ha=>by
 refine⟨(h a ha).1,λj d' e=>?_⟩;by_cases hj:j=i
 .subst hj;show ¬a∈(if j=j then G1 else F j);rw[if_pos rfl];have hl:j<ρ.length:=by
   by_cases hl:j<ρ.length
   .exact hl
   .rw[ZA (by simp;lia)]at e;cases e
  rw[Zo hl]at e;have e1:=Option.some.inj (Option.some.inj e);rw[hf (congrArg Prod.snd e1)];simp
 .rw[Zg (Ne.symm hj)]at e;show ¬a∈(if j=i then G1 else F j);rw[if_neg hj];exact(h a ha).2 j d' e
def QkA{K:Fgg}{H0:Hp}{A0:LAd}{hs:List (V×D×List Addr)}:∀(is:List Nat) (ds:List D) (vs:List V) (ρ:En) (F:Nat->List Addr) (U:L2.St) (H:Hp) (G:LAd) (Q:L2.St->Hp->Prop),
  Rel K H0 A0 hs ρ F U H->Rps K H ds vs G->Shr H0 A0 ρ F G->ds.length=is.length→
  (∀U' F',Rel K H0 A0 hs (Qd6 is ds ρ) F' U' H->(∀j,j∉is->U'[j]? =U[j]?)->(∀j a,a∈F' j->a∈F j∨a∈G)->Q U' H)->Qlp is vs U H Q
 | [],ds,vs,ρ,F,U,H,G,Q,rel,rp,sh,hl,q=>by
  have:ds=[]:=by simpa using hl
  subst this;simp only[Rps]at rp;exact⟨rp.1,q U F rel (λ_ _=>rfl) λ_ _ h=> .inl h⟩
 | i::is,[],vs,ρ,F,U,H,G,Q,rel,rp,sh,hl,q=>by simp at hl
 | i::is,d::ds,vs,ρ,F,U,H,G,Q,rel,rp,sh,hl,q=>by
  simp only[Rps]at rp;obtain⟨v,ws,G1,G2,rfl,rfl,r1,r2⟩:=rp;refine⟨v,ws,rfl,?_⟩;have sh1:Shr H0 A0 ρ F G1:=λa ha=>sh a (Zk _ ha);have sh2:Shr H0 A0 ρ F G2:=λa ha=>sh a (Ze _ ha);refine QkA is ds ws _ _ _ H G2 Q (rel.Qrt r1 sh1) r2 (sh2.set r1.QbX) (by simpa using hl) λU' F' rel' k m=>q U' F' rel' (λj hj=>?_) λj a ha=>?_
  .have h1:j≠i:=λz=>hj (by rw[z];exact Zf);rw[k j λz=>hj (Zc _ z),Zg (Ne.symm h1)]
  .rcases m j a ha with z | z
   .by_cases hj:j=i
    .rw[if_pos hj]at z;exact .inr (Zk _ z)
    .rw[if_neg hj]at z;exact .inl z
   .exact .inr (Ze _ z)
section
variable {X:Cx}{tg:Expr}{pos:Pos}
def Qza{i:Nat}{x:Str}(h:PG X (.Name x pos) (QgD i)):SG X (.Name x pos) (.nm i):=λH0 A0=>h.mono λv U H Q Z=>by
 obtain⟨ρ,hs,F,d,G,ρ',rel,rp,sh,e,q⟩:=Z;cases e;refine q _ _ (rel.Qrt rp sh) (λj hj=>?_) λj a ha=>?_
 .have:j≠i:=λz=>hj (by simp[Tg.slots,z]);rw[Zg (Ne.symm this)]
 .by_cases hj:j=i
  .rw[if_pos hj]at ha;exact .inr ha
  .rw[if_neg hj]at ha;exact .inl ha
def Qzk{es:List Expr}{k:Nat}{t:TGs}{n:Nat}(hc:X.calm=true)(h:PGs X es t)
  (hn:(assignEach es X.env).length=n) (hst:(assignEach es X.env).findIdx? (·.1)=none):PG X (.Tuple es k pos) (λv U H Q=>∃a xs,v= .ref a/\SqL X.K H a xs/\xs.length=n/\t xs U H Q):=by
 intro pins s U H v u Q I r hw;obtain⟨a,xs,e1,hq,hl,hw⟩:=hw;subst e1;cases r;obtain⟨its,rv,ht,hz⟩:=I.list hq;rw[PyProof.Rows.assign_Tuple];refine wpAny_bind (wpAny_standAt ?_);unfold unpack;rw[hn,hst,show n=its.toArray.size by simp[← hl,rv.length]];refine wpAny_bind (wpAny_holding (PySem.W.kun_itemsOf (I.ok.hd hc) ht.isList λh' hx=>?_));have I1:Inv X pins U H {s with heap:=h'}:=I.kept (t':=s.toks) λb o e=>hx b o (ZC (Zp e)) e;exact h pins _ U H xs _ Q I1 (by simpa using rv) hw
def QA1{es:List Expr}{k:Nat}{is:List Nat}(hc:X.calm=true)(h:PGs X es (Qlp is))(hn:(assignEach es X.env).length=is.length)(hst:(assignEach es X.env).findIdx? (·.1)=none):SG X (.Tuple es k pos) (.tp is):=λH0 A0=>
 λpins s U H v u Q I r Z=>by
  obtain⟨ρ,hs,F,d,G,ρ',rel,rp,sh,e,q⟩:=Z;cases d with
  | tup xs=>
   simp only[Qbe]at e;split at e
   .rename_i hl;cases e;obtain⟨a,vs,rfl,hq,rs⟩:=rp.Qax;exact QAb hc h hn hst pins s U H _ u Q I r ⟨a,vs,rfl,hq,by rw[← rs.length];exact hl,QkA is xs vs ρ F U H G Q rel rs sh hl q⟩
   .cases e
  | lst xs=>
   simp only[Qbe]at e;split at e
   .rename_i hl;cases e;obtain⟨a,vs,L,rfl,hq,rs,_,eG⟩:=rp.lst_inv;have sub:∀b∈L,b∈G:=λb hb=>by
     rcases eG with rfl | rfl
     .exact Zc _ hb
     .exact hb
    exact Qzk hc h hn hst pins s U H _ u Q I r ⟨a,vs,rfl,QU hq,by rw[← rs.length];exact hl,QkA is xs vs ρ F U H L Q rel rs (λb hb=>sh b (sub b hb)) hl λU' F' rel' k m=>q U' F' rel' k λj b hb=>(m j b hb).imp id (sub b)⟩
   .cases e
  | _=>simp only[Qbe]at e;cases e
end
def Qbx(cap:List (Option Nat))(ρ:En):En:=cap.map λo=>o.bind λi=>match ρ[i]? with
 | some (some (d,_))=>some (d,d.flat)
 | _=>none
def QrV(cap:List (Option Nat))(ρ:En):List Nat:=cap.filterMap λo=>o.bind λi=>match ρ[i]? with
 | some (some (d,b))=>if b && !d.flat then some i else none
 | _=>none
def Qft(t:Tg)(ft:DT)(fe:DE)(ρc:En)(acc:List D×Bool)(d:D):Option (List D×Bool):=
 (Qbe t d ρc).bind λρ1=>(ft ρ1).bind λc=>if c=true then(fe ρ1).map λr=>(acc.1++[r.d],acc.2 && r.norm.fr)else some acc
def Qw(fi:DI)(t:Tg)(cap:List (Option Nat))(ft:DT)(fe:DE):DE:=λρ=>(fi ρ).bind λir=>
 (ir.items.foldlM (Qft t ft fe (Qbx cap ρ)) ([],true)).map λq=>if q.2=true then⟨.lst q.1,true,[]⟩else⟨.lst q.1,false,ir.M++QrV cap ρ⟩
def Qdn(ρ:En):Prop:=∀(j:Nat) d,ρ[j]? =some (some (d,true))->d.flat=true
def Qdn.set{ρ:En}(h:Qdn ρ)(i:Nat)(d:D):Qdn (ρ.set i (some (d,d.flat))):=λj d' e=>by
 by_cases hj:j=i
 .subst hj;have hl:j<ρ.length:=by
   by_cases hl:j<ρ.length
   .exact hl
   .rw[ZA (by simp;lia)]at e;cases e
  rw[Zo hl]at e;have e1:=Option.some.inj (Option.some.inj e);have h1:d=d':=congrArg Prod.fst e1;have h2:d.flat=true:=congrArg Prod.snd e1;rw[← h1];exact h2
 .rw[Zg (Ne.symm hj)]at e;exact h j d' e
def Qdn.Qd6:∀(is:List Nat) (ds:List D) {ρ:En},Qdn ρ->Qdn (Qd6 is ds ρ)
 | [],_,_,h=>h
 | _::_,[],_,h=>h
 | i::is,d::ds,_,h=>Qdn.Qd6 is ds (h.set i d)
def Qdn.bind{t:Tg}{d:D}{ρ ρ':En}(h:Qdn ρ)(e:Qbe t d ρ=some ρ'):Qdn ρ':=by
 cases t with
 | nm i=>cases e;exact h.set i d
 | tp is=>
  cases d with
  | tup xs=>
   simp only[Qbe]at e;split at e
   .cases e;exact h.Qd6 is xs
   .cases e
  | lst xs=>
   simp only[Qbe]at e;split at e
   .cases e;exact h.Qd6 is xs
   .cases e
  | _=>simp only[Qbe]at e;cases e
def QhX(cap:List (Option Nat))(ρ:En):Qdn (Qbx cap ρ):=λj d e=>by
 unfold Qbx at e;rw[Zw]at e;cases q:cap[j]? with
 | none=>rw[q]at e;cases e
 | some o=>
  rw[q]at e;cases o with
  | none=>cases e
  | some i=>
   simp only[ZD,Za,Option.some.injEq]at e;split at e
   .have e1:=Option.some.inj e;have h1:=congrArg Prod.fst e1;have h2:=congrArg Prod.snd e1;dsimp only at h1 h2;rw[← h1];exact h2
   .cases e
def Qgh{cap:List (Option Nat)}{ρ:En}{j:Nat}{d:D}{b:Bool}(e:(Qbx cap ρ)[j]? =some (some (d,b))):∃i b',cap[j]? =some (some i)/\ρ[i]? =some (some (d,b')):=by
 unfold Qbx at e;rw[Zw]at e;cases q:cap[j]? with
 | none=>rw[q]at e;cases e
 | some o=>
  rw[q]at e;cases o with
  | none=>cases e
  | some i=>
   simp only[ZD,Za,Option.some.injEq]at e;split at e
   .rename_i d' b' hi;have e1:=Option.some.inj e;have h1:d'=d:=congrArg Prod.fst e1;subst h1;exact⟨i,b',rfl,hi⟩
   .cases e
def QhF(X:Cx)(ifs:List Expr)(f:DT):Prop:=∀H0 A0,PTs X ifs (tVT X.K H0 A0 f)
noncomputable def QO:DT:=λ_=>some true
def QuH{X:Cx}:QhF X [] QO:=λH0 A0 pins s U H Q I=>exK λρ hs F b rel e q=>by
 cases e;exact QxV pins s U H Q I (q H (Qs.refl _))
def Qvn{X:Cx}{c:Expr}{f:DT}(h:ST X c f):QhF X [c] f:=λH0 A0=>QyJ (h H0 A0)
structure Qgr (X:Cx) (N':List Str) (scope:Scope) (cap:List (Option Nat)) (tgs:List Nat):Prop where
 len:cap.length=N'.length
 get:∀(j i:Nat),cap[j]? =some (some i)->∃x,N'[j]? =some x/\scope.names.lookup x=some .free/\X.N[i]? =some x/\(X.env.kindOf x=some .cell∨X.env.kindOf x=some .free)
 apart:∀(j i:Nat),cap[j]? =some (some i)->j∉tgs
def join_some{α:Type}{o:Option (Option α)}{v:α}(h:o.join=some v):o=some (some v):=by
 cases o with
 | none=>cases h
 | some p=>cases p with
  | none=>cases h
  | some x=>exact h▸rfl
def Qm0{X:Cx}{N':List Str}{scope:Scope}{fi:DI}{t:Tg}{cap:List (Option Nat)}{ft:DT}{fe:DE}{H0:Hp}{A0:LAd}{U:L2.St}{H:Hp}{Q:VK}(hc:Qgr X N' scope cap t.slots):
  tV X.K H0 A0 (Qw fi t cap ft fe) U H Q->QnD (tI X.K H0 A0 fi) (Qjx X N' scope) (tG X.K (λ_=>none) [] t) (tVT X.K (λ_=>none) [] ft) (tV X.K (λ_=>none) [] fe) U H Q:=exK λρ hs F r rel e q=>by
 refine Qf e λir e1 e=>?_;obtain⟨⟨xs,f⟩,ef,e⟩:=Zb.mp e;subst e;refine⟨ρ,hs,F,ir,rel,e1,λJ H1 ts s1 wk hts ow hz=>?_⟩;refine⟨cap.map λo=>o.bind λi=>U[i]?.join,⟨by simp[hc.len],λj x v hN hv=>?_⟩,λDl hD=>?_⟩
 .rw[Zw]at hv;cases qc:cap[j]? with
  | none=>rw[qc]at hv;cases hv
  | some o=>
   rw[qc]at hv;cases o with
   | none=>cases hv
   | some i=>
    simp only[ZD,Za,Option.some.injEq]at hv;obtain⟨y,h1,h2,h3,h4⟩:=hc.get j i qc;rw[hN]at h1;cases h1;exact⟨h2,i,h3,join_some hv,h4⟩
 generalize hUc:(cap.map λo=>o.bind λi=>U[i]?.join)=Uc;generalize hρc:Qbx cap ρ=ρc at ef
 have hF0:∃Fc:Nat->List Addr,Fc=λj=>match cap[j]? with
  | some (some i)=>(match ρ[i]? with
   | some (some _)=>F i
   | _=>[])
  | _=>[]:=⟨_,rfl⟩
 obtain⟨Fc,hFc⟩:=hF0;have rel1:=rel.ext s1;have relC:∀H2,Qs H1 H2->Rel X.K (λ_=>none) [] [] ρc Fc Uc H2:=λH2 s2=>by
  refine⟨by rw[← hρc,← hUc];simp[Qbx],λj d b e=>?_,λj d e=>?_,λj d b e a ha=> .inl rfl,λt ht=>(by simp at ht),λb o z=>(by cases z)⟩
  .rw[← hρc]at e;obtain⟨i,b',h1,h2⟩:=Qgh e;obtain⟨v,h3,h4⟩:=(rel1.ext s2).val i d b' h2;refine⟨v,?_,?_⟩
   .rw[← hUc,Zw,h1];simp only[ZD,Za,h3,Option.join_some]
   .rw[hFc];simp only[h1,h2];exact h4
  .have hf:d.flat=true:=QhX cap ρ j d (by rw[hρc];exact e);have:Fc j=[]:=by
    rw[← hρc]at e;obtain⟨i,b',h1,h2⟩:=Qgh e;obtain⟨v,h3,h4⟩:=rel1.val i d b' h2;rw[hFc];simp only[h1,h2];exact h4.QbX hf
   rw[this];exact⟨(Qdr d hf).symm,ZT,λa ha=>(by simp at ha),λ_ _ _ _ _ a ha=>(by simp at ha),λt ht=>(by simp at ht)⟩
 have shC:∀G,Shr (λ_=>none) [] ρc Fc G:=λG a ha=>⟨.inl rfl,λj d e hj=>by
  have h0:=(relC H1 (Qs.refl _)).own j d e;have hf:d.flat=true:=QhX cap ρ j d (by rw[hρc];exact e);have:(Fc j).length=0:=by rw[h0.1,Qdr d hf]
  rw[Zau this]at hj;simp at hj⟩
 have hSh:Qdn ρc:=by rw[← hρc];exact QhX cap ρ
 have heldOf:∀H2,Qs H1 H2->QkH X.K H2 ts:=λH2 s2 t ht=>(hts t ht).1.same s2;have oldOf:∀a,((∃t∈ts,a∈t.2.2)∨∃j,a∈Fc j)->(∃u,H1 a=some u)/\(H a=none∨∃(i:Nat) (d:D) (b:Bool),ρ[i]? =some (some (d,b))/\a∈F i/\(b=true->i∈ir.M++QrV cap ρ)):=λa ha=>by
  rcases ha with⟨t,ht,ha⟩ | ⟨j,ha⟩
  .refine⟨(hts t ht).1.mem a ha,?_⟩;rcases(hts t ht).2 a ha with z | ⟨i,d,b,e,m,w⟩
   .exact .inl z
   .exact .inr ⟨i,d,b,e,m,λhb=>Zk _ (w hb)⟩
  .have ha0:=ha;rw[hFc]at ha;dsimp only at ha;split at ha
   .rename_i i hi;split at ha
    .rename_i db hdb;obtain⟨d,b⟩:=db;obtain⟨v,h3,h4⟩:=rel1.val i d b hdb;refine⟨h4.mem a ha,.inr ⟨i,d,b,hdb,ha,λhb=>Ze _ ?_⟩⟩;unfold QrV;refine Zad.mpr ⟨some i,Zah hi,?_⟩;simp only[Za,hdb];have hnf:d.flat=false:=by
      cases hf:d.flat with
      | false=>rfl
      | true=>rw[h4.QbX hf]at ha;simp at ha
     rw[hb,hnf];rfl
    .simp at ha
   .simp at ha
 have fresh5:∀H2,Qs H1 H2->∀a,H2 a=none->H1 a=none:=λH2 s2 a h=>s2.free h
 refine⟨λi m acc H2=>m=ir.items.length-i/\i<=ir.items.length/\Qs H1 H2/\H2 Dl=some (.lst acc)/\∃(ys:List D) (g:Bool) (G:LAd),(ir.items.drop i).foldlM (Qft t ft fe ρc) (ys,g)=some (xs,f)/\Rps X.K H2 ys acc G/\ys.length<=i∧
  (∀a∈G,a≠Dl/\(H1 a=none∨(∃t∈ts,a∈t.2.2)∨∃j,a∈Fc j))/\(g=true->G.length=nls ys/\∀a,G.count a<=nw H1 a),⟨ir.items.length,rfl,ZK _,Qa0 hD,Q4,[],true,[],by simpa using ef,by simp[Rps],Zi _,λa ha=>(by simp at ha),λ_=>⟨rfl,λa=>⋯⟩⟩,?_⟩
 rintro i m acc H2 ⟨rfl,hi,s2,eD,ys,g,G,hfold,rps,hlen,hG,hcnt⟩;by_cases hlt:i<ir.items.length
 .refine .inr ⟨wk.go i H2 hlt (heldOf H2 s2),λx H3 hy=>?_⟩;obtain⟨s3,G0,rp0,hG0⟩:=wk.yld i ir.items[i] H2 x H3 (by simp[hlt]) (heldOf H2 s2) hy;rw[ZH hlt,Zbf]at hfold;refine Qf hfold λacc1 hstep hrest=>?_;unfold Qft at hstep;refine Qf hstep λρ1 eb hstep=>?_;refine Qf hstep λc ec hstep=>?_;have sh1:Qdn ρ1:=hSh.bind eb;refine⟨ρc,[],Fc,ir.items[i],G0,ρ1,relC H3 (s2.trans s3),rp0,shC G0,eb,λU2 F2 rel2 keep mem2=>⟨λj v hv=>?_,ρ1,[],F2,c,rel2,ec,λH5 s5=>?_⟩⟩
  .have hj:j∉t.slots:=λhj=>by
    rw[← hUc,Zw]at hv;cases qc:cap[j]? with
    | none=>rw[qc]at hv;cases hv
    | some o=>
     cases o with
     | none=>rw[qc]at hv;cases hv
     | some k=>exact hc.apart j k qc hj
   rw[keep j hj];exact hv
  have s15:Qs H1 H5:=(s2.trans s3).trans s5;have eD5:H5 Dl=some (.lst acc):=s5 _ _ (s3 _ _ eD);cases c with
  | false=>
   rw[if_neg ZJ]at hstep;refine Qrw ?_;cases hstep;exact⟨_,⋯,rfl,hlt,s15,eD5,ys,g,G,hrest,rps.same (s3.trans s5),⋯,hG,hcnt⟩
  | true=>
   rw[if_pos rfl]at hstep;refine QrM ?_;obtain⟨rr,er,hstep⟩:=Zb.mp hstep;subst hstep;refine⟨ρ1,[],F2,rr,rel2.ext s5,er,λy H6 Ge pe=>?_⟩;have eD6:H6 Dl=some (.lst acc):=pe.same _ _ eD5;have s16:=s15.trans pe.same;refine⟨eD6,?_,_,⋯,rfl,hlt,?_⟩
   .rw[← rps.length];exact ZaZ hlen (Zr hlt hz)
   have hGe:∀a∈Ge,a≠Dl/\(H1 a=none∨(∃t∈ts,a∈t.2.2)∨∃j,a∈Fc j):=λa ha=>by
    rcases pe.src a ha with z | ⟨j,d,b,ej,hj,_⟩
    .exact⟨λw=>(by rw[w,eD5]at z;cases z),.inl (s15.free z)⟩
    .have h1:(∃t∈ts,a∈t.2.2)∨∃j,a∈Fc j:=by
      rcases mem2 j a hj with w | w
      .exact .inr ⟨j,w⟩
      .exact .inl (hG0 a w)
     obtain⟨⟨vs,w⟩,_⟩:=oldOf a h1;exact⟨λw'=>(by rw[w',hD]at w;cases w),.inr h1⟩
   have nD:Dl∉G:=λh=>(hG _ h).1 rfl;have nDe:Dl∉Ge:=λh=>(hGe _ h).1 rfl;have sU:Qs H1 (L2.upd H6 Dl (.lst (acc++[y]))):=λb o hb=>by rw[Qy (QbA hb hD)];exact s16 b o hb
   refine⟨sU,Q4,ys++[rr.d],g && rr.norm.fr,G++Ge,hrest,?_,by rw[Zl,Zay];lia,λa ha=>?_,λhg=>?_⟩
   .refine Rps.append ((rps.same ((s3.trans s5).trans pe.same)).upd eD6 nD) ?_;simp only[Rps];exact⟨y,[],Ge,[],rfl,⋯,pe.rp.upd eD6 nDe,rfl,rfl⟩
   .rcases Zx.mp ha with h | h
    .exact hG a h
    .exact hGe a h
   .simp only[Zh]at hg;obtain⟨l1,c1⟩:=hcnt hg.1;have pn:=pe.norm;obtain⟨c2,l2⟩:=pn.cnt hg.2;rw[rr.QdH]at l2;have nlapp:∀(as bs:List D),nls (as++bs)=nls as+nls bs:=λas bs=>by
     induction as with
     | nil=>simp[nls]
     | cons a as ih=>simp only[ZaI,nls,ih];lia
    refine⟨by rw[Zl,l1,l2,nlapp];simp[nls],λa=>?_⟩;have fl:((rr.norm.M.map F2).flatten).count a=0:=by
     rw[ZI];intro hm;obtain⟨l,hl,hal⟩:=ZaJ.mp hm;obtain⟨j,hj,rfl⟩:=Zag.mp hl;obtain⟨d,ej⟩:=pn.own j hj;have hf:=sh1 j d ej;obtain⟨v,_,rv⟩:=rel2.val j d true ej;rw[rv.QbX hf]at hal;simp at hal
    have h1:=c1 a;have h2:=c2 a;rw[fl]at h2;rw[ZS];cases q5:H5 a with
    | some o=>rw[QeI q5]at h2;lia
    | none=>
     rw[Qa8 q5]at h2;have h0:G.count a=0:=ZI.mpr λhm=>by
      obtain⟨vs,w⟩:=rps.mem a hm;rw[s5 _ _ (s3 _ _ w)]at q5;cases q5
     rw[Qa8 (s15.free q5)];lia
 .have hn:i=ir.items.length:= ⋯
  subst hn;refine .inl ⟨wk.stop H2 (heldOf H2 s2),?_⟩;rw[Zbg]at hfold;have:(ys,g)=(xs,f):=Option.some.inj hfold;cases this;have rp:Rp X.K H2 (.lst xs) (.ref Dl) (Dl::G):=Rp.Qg3 eD rps (Zy hlen hz);have hHD:H Dl=none:=s1.free hD;split at q
  .rename_i hg;have hg:f=true:=hg;obtain⟨l1,c1⟩:=hcnt hg;have hn:∀a∈G,H1 a=none:=λa ha=>by
    have:=c1 a;have h2:0<G.count a:=Zaf.mpr ha;cases w:H1 a with
    | none=>rfl
    | some o=>rw[QeI w]at this;lia
   refine q _ H2 (Dl::G) ⟨s1.trans s2,rp,λa ha=>?_,λ_=>⟨λa=>?_,by simp only[D.nl,Zs,l1]⟩,QaX.nil⟩
   .rcases Zn.mp ha with rfl | h
    .exact .inl hHD
    .exact .inl (s1.free (hn a h))
   .rw[Zaj];have h1:=c1 a;split
    .rename_i w;have w:Dl=a:=by simpa using w
     subst w;have h0:G.count Dl=0:=ZI.mpr λh=>(hG _ h).1 rfl;rw[Qa8 hHD];lia
    .cases w:H1 a with
     | none=>rw[Qa8 w]at h1;rw[Qa8 (s1.free w)];lia
     | some o=>rw[QeI w]at h1;lia
  .refine q _ H2 (Dl::G) ⟨s1.trans s2,rp,λa ha=>?_,λz=>(by cases z),?_⟩
   .rcases Zn.mp ha with rfl | h
    .exact .inl hHD
    .rcases(hG a h).2 with z | z
     .exact .inl (s1.free z)
     .exact(oldOf a z).2
   .refine ow.append λi hi=>?_;unfold QrV at hi;obtain⟨o,_,ho⟩:=Zad.mp hi;cases o with
    | none=>cases ho
    | some k=>
     simp only[Za]at ho;split at ho
     .rename_i d b hk;split at ho
      .rename_i hb;cases ho;simp only[Zh]at hb;rw[hb.1]at hk;exact⟨d,hk⟩
      .cases ho
     .cases ho
section
variable {X:Cx}{tg iter elt:Expr}{ifs:List Expr}{scope:Scope}{N':List Str}{pos:Pos}{fi:DI}{t:Tg}{cap:List (Option Nat)}{ft:DT}{fe:DE}
def Qx1(hcalm:X.calm=true)(S:Qcw X N' scope)(hi:SI X tg iter fi)(hcap:Qgr X N' scope cap t.slots)
  (hin:∀cl C fp s3 H3,SG (cxc X N' scope cl C fp s3 H3) tg t/\QhF (cxc X N' scope cl C fp s3 H3) ifs ft/\SE (cxc X N' scope cl C fp s3 H3) elt fe) (hs:∀x,foldedSetIterable iter X.env x=pure x):
  SE X (.ListComp elt [⟨tg,iter,ifs,0⟩] scope pos) (Qw fi t cap ft fe):=λH0 A0=>
 (Qqo hcalm S (hi H0 A0) (λcl C fp s3 H3=>⟨(hin cl C fp s3 H3).1 _ _,(hin cl C fp s3 H3).2.1 _ _,(hin cl C fp s3 H3).2.2 _ _⟩) hs).mono λU H Q h=>Qm0 hcap h
end
inductive Out where
 | nx (ρ:En)
 | bk (ρ:En)
 | ct (ρ:En)
 | rt (d:D) (fr:Bool)
abbrev DS:=En->Option Out
def Fits(K:Fgg)(H0:Hp)(A0:LAd)(hs:List (V×D×List Addr))(E:Ends):Out->Prop
 | .nx ρ=>∀U H F,Rel K H0 A0 hs ρ F U H->E.nx U H
 | .bk ρ=>∀U H F,Rel K H0 A0 hs ρ F U H->E.bk U H
 | .ct ρ=>∀U H F,Rel K H0 A0 hs ρ F U H->E.ct U H
 | .rt d fr=>∀v H G,Ret K H0 A0 d fr v H G->E.rt v H
def tS(K:Fgg)(H0:Hp)(A0:LAd)(f:DS):TS:=λE U H=>∃ρ hs F o,Rel K H0 A0 hs ρ F U H/\f ρ=some o/\Fits K H0 A0 hs E o
def S1(X:Cx)(st:Stmt)(f:DS):Prop:=∀H0 A0,PS X st (tS X.K H0 A0 f)
def SS(X:Cx)(sts:List Stmt)(f:DS):Prop:=∀H0 A0,PSs X sts (tS X.K H0 A0 f)
def _root_.L2.PS.mono(h:PS X st t)(m:∀D U H,t' D U H->t D U H):PS X st t':=λpins s U H D I q=>h pins s U H D I (m D U H q)
def _root_.L2.PSs.mono(h:PSs X st t)(m:∀D U H,t' D U H->t D U H):PSs X st t':=λpins s U H D I q=>h pins s U H D I (m D U H q)
noncomputable def Qe:DS:=λρ=>some (.nx ρ)
noncomputable def Qc(f g:DS):DS:=λρ=>(f ρ).bind λo=>match o with
 | .nx ρ'=>g ρ'
 | .bk ρ'=>some (.bk ρ')
 | .ct ρ'=>some (.ct ρ')
 | .rt d fr=>some (.rt d fr)
noncomputable def Qvq:DS:=λρ=>some (.bk ρ)
noncomputable def QvQ:DS:=λρ=>some (.ct ρ)
def Qq(i:Nat)(fa:DE):DS:=λρ=>(fa ρ).bind λr=>some (.nx (asg i r ρ))
noncomputable def Qbg(fa:DE):DE:=λρ=>(fa ρ).map λr=>⟨r.d,false,r.M⟩
noncomputable def QJ(fa:DE):DS:=λρ=>(fa ρ).bind λr=>some (.rt r.d (r.norm.fr && decide r.norm.M.Nodup))
noncomputable def QnY:DS:=λ_=>some (.rt .non true)
noncomputable def QW(fa:DE):DS:=λρ=>(fa ρ).bind λ_=>some (.nx ρ)
noncomputable def sIf(g:DT)(f1 f2:DS):DS:=λρ=>(g ρ).bind λb=>if b=true then f1 ρ else f2 ρ
def Qdi(t:Tg)(fb:DS):List D->DS
 | [],ρ=>some (.nx ρ)
 | d::ds,ρ=>(Qbe t d ρ).bind λρ1=>(fb ρ1).bind λo=>match o with
  | .nx ρ2=>Qdi t fb ds ρ2
  | .ct ρ2=>Qdi t fb ds ρ2
  | .bk ρ2=>some (.nx ρ2)
  | .rt d fr=>some (.rt d fr)
def Qay(fi:DI)(t:Tg)(fb:DS):DS:=λρ=>(fi ρ).bind λir=>Qdi t fb ir.items (Qce ir.M ρ)
section
def QsU:SS X [] Qe:=λH0 A0=>Qxv.mono λE U H=>exK λρ hs F o rel e q=>by
 cases e;exact q U H F rel
def Qmc(h1:S1 X st f)(h2:SS X sts g):SS X (st::sts) (Qc f g):=λH0 A0=>(QhM (h1 H0 A0) (h2 H0 A0)).mono λE U H=>exK λρ hs F o rel e q=>by
 refine Qf e λo1 e1 e=>?_;refine⟨ρ,hs,F,o1,rel,e1,?_⟩;cases o1 with
 | nx ρ'=>exact λU' H' F' rel'=>⟨ρ',hs,F',o,rel',e,q⟩
 | bk ρ'=>cases e;exact q
 | ct ρ'=>cases e;exact q
 | rt d fr=>cases e;exact q
def QyR:S1 X (.Pass pos) Qe:=λH0 A0=>QyL.mono λE U H=>exK λρ hs F o rel e q=>by
 cases e;exact q U H F rel
def Qu9:S1 X (.Break pos) Qvq:=λH0 A0=>Qvo.mono λE U H=>exK λρ hs F o rel e q=>by
 cases e;exact q U H F rel
def QyX:S1 X (.Continue pos) QvQ:=λH0 A0=>Qqe.mono λE U H=>exK λρ hs F o rel e q=>by
 cases e;exact q U H F rel
def QvC(h:SE X e fa):SE X e (Qbg fa):=λH0 A0=>(h H0 A0).mono λU H Q=>exK λρ hs F r rel e q=>by
 obtain⟨r',e1,rfl⟩:=Zb.mp e;exact⟨ρ,hs,F,r',rel,e1,λv H' G p=>q v H' G ⟨p.same,p.rp,p.src,λz=>(by cases z),p.own⟩⟩
def QkP(h:∀H0 A0,PS X st (QmL (tV X.K H0 A0 fa) (QgD i))):S1 X st (Qq i fa):=λH0 A0=>(h H0 A0).mono λE U H=>exK λρ hs F o rel e q=>by
 refine Qf e λr e1 e=>?_;cases e;refine⟨ρ,hs,F,r,rel,e1,λv H' G p=>?_⟩;obtain⟨F',rel'⟩:=rel.asg (i:=i) p;exact q _ _ F' rel'
def QxJ(h:PS X st (QhC (tV X.K H0 A0 fa))):PS X st (tS X.K H0 A0 (QW fa)):=h.mono λE U H=>exK λρ hs F o rel e q=>by
 refine Qf e λr e1 e=>?_;cases e;exact⟨ρ,hs,F,r,rel,e1,λv H' G p=>q U H' F (rel.ext p.same)⟩
def Rel.ret(rel:Rel K H0 A0 hs ρ F U H)(p:QR K ρ F H H' r v G):Ret K H0 A0 r.d (r.norm.fr && decide r.norm.M.Nodup) v H' G where
 same:=rel.same.trans p.same
 rp:=p.rp
 src:=λa ha=>by
  rcases p.src a ha with z | ⟨i,d,b,e,m,_⟩
  .exact .inl (rel.same.free z)
  .exact rel.src i d b e a m
 cnt:=λh=>by
  simp only[Zh,decide_eq_true_eq]at h;have p':=p.norm;obtain⟨h1,h2⟩:=p'.fresh rel h.1 h.2;have h3:=(p'.cnt h.1).2;rw[r.QdH]at h3;exact⟨h1,h3,λa ha=>(h2 a ha).1⟩
def QtA(he:SE X e fa):S1 X (.Return (some e) pos) (QJ fa):=λH0 A0=>(QpI (he H0 A0)).mono λE U H=>exK λρ hs F o rel e q=>by
 refine Qf e λr e1 e=>?_;cases e;exact⟨ρ,hs,F,r,rel,e1,λv H' G p=>q v H' G (rel.ret p)⟩
def Qxs:S1 X (.Return none pos) QnY:=λH0 A0=>QxD.mono λE U H=>exK λρ hs F o rel e q=>by
 cases e;exact q .non H [] ⟨rel.same,.Qdd,λa ha=>(by simp at ha),λ_=>⟨ZT,rfl,λa ha=>(by simp at ha)⟩⟩
def QDC(hc:ST X c gc)(ha:SS X a f)(hb:SS X b g):S1 X (.If c a b pos) (sIf gc f g):=λH0 A0=>(QwP (hc H0 A0) (ha H0 A0) (hb H0 A0)).mono λE U H=>exK λρ hs F o rel e q=>by
 refine Qf e λc e1 e=>?_;refine⟨ρ,hs,F,c,rel,e1,λH1 s1=>?_⟩;cases c with
 | true=>exact QrM ⟨ρ,hs,F,o,rel.ext s1,e,q⟩
 | false=>exact Qrw ⟨ρ,hs,F,o,rel.ext s1,e,q⟩
def QzW(hp:PassesOwn (model X.prog X.w) X.A X.env X.xe)(hc:X.calm=true)(hi:SI X tg iter fi)(hg:SG X tg t)(hb:SS X body f)(hs:∀x,foldedSetIterable iter X.env x=pure x):
  S1 X (.For tg iter body [] pos) (Qay fi t f):=λH0 A0=>(QtW hp hc (hi H0 A0) (hg H0 A0) (hb H0 A0) hs).mono λE U H=>exK λρ hs F o rel e q=>by
 refine Qf e λir e1 e=>?_;refine⟨ρ,hs,F,ir,rel,e1,λJ H1 ts s1 wk hts ow hz=>?_⟩;have rel1:Rel X.K H0 A0 (ts++hs) (Qce ir.M ρ) F U H1:=((rel.ext s1).weak (QcJ ir.M ρ)).hold λt ht=>⟨(hts t ht).1,Shr.of rel (hts t ht).2⟩;refine⟨λi m U' H'=>m=ir.items.length-i/\i<=ir.items.length/\∃ρi Fi,Rel X.K H0 A0 (ts++hs) ρi Fi U' H'/\Qdi t f (ir.items.drop i) ρi=some o,⟨_,rfl,ZK _,_,F,rel1,by simpa using e⟩,?_⟩;rintro i m U' H' ⟨rfl,hi',ρi,Fi,reli,ei⟩;have held:QkH X.K H' ts:=λt ht=>(reli.held t (Zk _ ht)).1;by_cases hlt:i<ir.items.length
 .rw[ZH hlt]at ei;unfold Qdi at ei;refine Qf ei λρ1 eb ei=>?_;refine Qf ei λo1 eo ei=>?_;refine .inr ⟨wk.go i H' hlt held,λU2 H2=>∃ρ2 F2,Rel X.K H0 A0 (ts++hs) ρ2 F2 U2 H2/\Qdi t f (ir.items.drop (i+1)) ρ2=some o,λU2 H2 ⟨ρ2,F2,rel2,e2⟩=>⟨_,⋯,rfl,hlt,ρ2,F2,rel2,e2⟩,λx H2 hy=>?_⟩;obtain⟨s2,G0,rp0,hG0⟩:=wk.yld i ir.items[i] H' x H2 (by simp[hlt]) held hy;have shr:Shr H0 A0 ρi Fi G0:=λa ha=>by
   obtain⟨t,ht,hat⟩:=hG0 a ha;exact⟨(reli.held t (Zk _ ht)).2 a hat,λj d ej hj=>(reli.own j d ej).2.2.2.2 t (Zk _ ht) a hj hat⟩
  refine⟨ρi,ts++hs,Fi,ir.items[i],G0,ρ1,reli.ext s2,rp0,shr,eb,λU3 F3 rel3 _ _=>⟨ρ1,ts++hs,F3,o1,rel3,eo,?_⟩⟩;cases o1 with
  | nx ρ2=>exact λU4 H4 F4 rel4=>⟨ρ2,F4,rel4,ei⟩
  | ct ρ2=>exact λU4 H4 F4 rel4=>⟨ρ2,F4,rel4,ei⟩
  | bk ρ2=>cases ei;exact λU4 H4 F4 rel4=>q U4 H4 F4 rel4.Qpw
  | rt d fr=>cases ei;exact q
 .have hn:i=ir.items.length:= ⋯
  subst hn;rw[Zbg]at ei;cases ei;exact .inl ⟨wk.stop H' held,q U' H' Fi reli.Qpw⟩
def Rel.QEq(rel:Rel K H0 A0 hs ρ F U H)(rp:Rp K H d v [])(hf:d.flat=true):
  ∃F',Rel K H0 A0 hs (ρ.set i (some (d,true))) F' (U.set i (some v)) H:=by
 have:=rel.Qrt (i:=i) rp (λa ha=>by simp at ha);rw[hf]at this;exact⟨_,this⟩
end
end HS
namespace HS
open PySem PySem.Spec L2 PyProof.Rows
end HS
namespace HS
open PySem PySem.Spec L2
section
variable {K:Fgg}{H H':Hp}
def Rps.split:∀{ds:List D}{vs:List V}{F:LAd}{j:Nat}{d:D},Rps K H ds vs F->ds[j]? =some d→
  ∃F1 G F2 v,F=F1++(G++F2)/\vs[j]? =some v/\Rps K H (ds.take j) (vs.take j) F1/\Rp K H d v G/\Rps K H (ds.drop (j+1)) (vs.drop (j+1)) F2
 | [],_,_,_,_,_,e=>by simp at e
 | d::ds,_,_,0,_,h,e=>by
  simp only[Rps]at h;obtain⟨v,ws,F1,F2,rfl,rfl,r,q⟩:=h;simp at e;subst e;exact⟨[],F1,F2,v,rfl,⋯,by simp[Rps],r,by simpa using q⟩
 | d::ds,_,_,j+1,_,h,e=>by
  simp only[Rps]at h;obtain⟨v,ws,F1,F2,rfl,rfl,r,q⟩:=h;obtain⟨G1,G,G2,v',h1,h2,h3,h4,h5⟩:=Rps.split q (by simpa using e);refine⟨F1++G1,G,G2,v',by rw[h1,ZaA],by simpa using h2,?_,h4,by simpa using h5⟩;simp only[List.take_succ_cons,Rps];exact⟨v,_,F1,G1,rfl,rfl,r,h3⟩
def Rps.join{ds:List D}{vs:List V}{F1 G F2:LAd}{j:Nat}{d:D}{v:V}(h1:Rps K H (ds.take j) (vs.take j) F1)(hd:Rp K H d v G)(h2:Rps K H (ds.drop (j+1)) (vs.drop (j+1)) F2)(hj:j<ds.length)(hv:vs[j]? =some v):
  Rps K H (ds.set j d) vs (F1++(G++F2)):=by
 have e1:ds.set j d=ds.take j++d::ds.drop (j+1):=Zan .. |>.trans (by rw[if_pos hj]);have hjv:j<vs.length:=(Zm.mp hv).1;have hve:vs[j]=v:=(Zm.mp hv).2;have e2:vs=vs.take j++v::vs.drop (j+1):=by
  rw[← hve,← ZH hjv,Zaz]
 rw[e1,e2];refine h1.append ?_;simp only[Rps];refine⟨v,_,G,F2,rfl,rfl,hd,h2⟩
def Rps.QwU{ds:List D}{vs:List V}{F1 G F2:LAd}{j:Nat}{d:D}{v:V}(h1:Rps K H (ds.take j) (vs.take j) F1)(hd:Rp K H d v G)(h2:Rps K H (ds.drop (j+1)) (vs.drop (j+1)) F2)(hj:j<ds.length)(hv:j<vs.length):
  Rps K H (ds.set j d) (vs.set j v) (F1++(G++F2)):=by
 have e1:ds.set j d=ds.take j++d::ds.drop (j+1):=Zan .. |>.trans (by rw[if_pos hj]);have e2:vs.set j v=vs.take j++v::vs.drop (j+1):=Zan .. |>.trans (by rw[if_pos hv]);rw[e1,e2];refine h1.append ?_;simp only[Rps];exact⟨v,_,G,F2,rfl,rfl,hd,h2⟩
def Focus(K:Fgg)(H:Hp):List Int->D->V->List Addr->D->V->List Addr->Prop
 | [],d,v,F,dm,w,Gm=>dm=d/\w=v/\Gm=F/\Rp K H d v F
 | i::is,d,v,F,dm,w,Gm=>∃(ds:List D) (a:Addr) (vs:List V) (j:Nat) (F1 G F2:LAd) (d':D) (v':V),v= .ref a/\ixN ds.length i=some j∧
   ((d= .lst ds/\ds.length<=sizeLine/\((F=a::(F1++(G++F2))/\H a=some (.lst vs))∨(F=F1++(G++F2)/\Fix K H a vs)))∨(d= .tup ds/\F=F1++(G++F2)/\SqT K H a vs))∧
   Rps K H (ds.take j) (vs.take j) F1/\Rps K H (ds.drop (j+1)) (vs.drop (j+1)) F2/\ds[j]? =some d'/\vs[j]? =some v'/\ds.length=vs.length/\Focus K H is d' v' G dm w Gm
def Focus.same(s:Qs H H'):∀{is:List Int}{d:D}{v:V}{F:LAd}{dm:D}{w:V}{Gm:LAd},Focus K H is d v F dm w Gm->Focus K H' is d v F dm w Gm
 | [],_,_,_,_,_,_,h=>⟨h.1,h.2.1,h.2.2.1,h.2.2.2.same s⟩
 | i::is,_,_,_,_,_,_,h=>by
  obtain⟨ds,a,vs,j,F1,G,F2,d',v',h1,h2,h3,h4,h5,h6,h7,h8,h9⟩:=h;refine⟨ds,a,vs,j,F1,G,F2,d',v',h1,h2,?_,h4.same s,h5.same s,h6,h7,h8,h9.same s⟩;rcases h3 with⟨e,z,q⟩ | ⟨e,eF,q⟩
  .refine .inl ⟨e,z,?_⟩;rcases q with⟨eF,q⟩ | ⟨eF,q⟩
   .exact .inl ⟨eF,s _ _ q⟩
   .exact .inr ⟨eF,QoA s q⟩
  .exact .inr ⟨e,eF,Qpn s q⟩
def Focus.rp:∀{is:List Int}{d:D}{v:V}{F:LAd}{dm:D}{w:V}{Gm:LAd},Focus K H is d v F dm w Gm->Rp K H dm w Gm
 | [],_,_,_,_,_,_,h=>by
  obtain⟨rfl,rfl,rfl,r⟩:=h;exact r
 | i::is,_,_,_,_,_,_,h=>by
  obtain⟨ds,a,vs,j,F1,G,F2,d',v',h1,h2,h3,h4,h5,h6,h7,h8,h9⟩:=h;exact h9.rp
def Focus.Qtu:∀{is:List Int}{d:D}{v:V}{F:LAd}{dm:D}{w:V}{Gm:LAd},Focus K H is d v F dm w Gm->Rp K H d v F
 | [],_,_,_,_,_,_,h=>h.2.2.2
 | i::is,_,_,_,_,_,_,h=>by
  obtain⟨ds,a,vs,j,F1,G,F2,d',v',rfl,h2,h3,h4,h5,h6,h7,h8,h9⟩:=h;have hjl:j<ds.length:=(Zm.mp h6).1;have hdj:ds[j]=d':=(Zm.mp h6).2;have j1:=Rps.join h4 h9.Qtu h5 hjl h7;rw[show ds.set j d'=ds by rw[← hdj];exact List.set_getElem_self hjl]at j1;rcases h3 with⟨rfl,hz,⟨rfl,q⟩ | ⟨rfl,q⟩⟩ | ⟨rfl,rfl,q⟩
  .exact Rp.Qg3 q j1 hz
  .simp only[Rp];exact⟨hz,a,vs,rfl,.inr ⟨q,j1⟩⟩
  .simp only[Rp];exact⟨a,vs,rfl,q,j1⟩
def Focus.one(r:Rp K H d v F)(hd:d.items=some ds)(hi:atI ds i=some d'):
  ∃a vs v' G,v= .ref a/\((d= .lst ds/\SqL K H a vs)∨(d= .tup ds/\SqT K H a vs))/\atI vs i=some v'/\Focus K H [i] d v F d' v' G:=by
 unfold atI at hi;cases hj:ixN ds.length i with
 | none=>rw[hj]at hi;cases hi
 | some j=>
  rw[hj]at hi;have hdj:ds[j]? =some d':=hi;have fin:∀(vs:List V) (L:LAd),Rps K H ds vs L->∃v' G F1 F2,L=F1++(G++F2)/\vs[j]? =some v'/\atI vs i=some v'/\Rps K H (ds.take j) (vs.take j) F1/\Rp K H d' v' G/\Rps K H (ds.drop (j+1)) (vs.drop (j+1)) F2/\ds.length=vs.length:=λvs L rl=>by
   obtain⟨F1,G,F2,v',h1,h2,h3,h4,h5⟩:=rl.split hdj;refine⟨v',G,F1,F2,h1,h2,?_,h3,h4,h5,rl.length⟩;unfold atI;rw[← rl.length,hj];exact h2
  cases d with
  | lst xs=>
   cases hd;simp only[Rp]at r;obtain⟨hz,a,vs,rfl,⟨L,rfl,q,rl⟩ | ⟨q,rl⟩⟩:=r
   .obtain⟨v',G,F1,F2,h1,h2,h3,h4,h5,h6,h7⟩:=fin vs L rl;exact⟨a,vs,v',G,rfl,.inl ⟨rfl,SqL.of q⟩,h3,ds,a,vs,j,F1,G,F2,d',v',rfl,hj,.inl ⟨rfl,hz,.inl ⟨by rw[h1],q⟩⟩,h4,h6,hdj,h2,h7,rfl,rfl,rfl,h5⟩
   .obtain⟨v',G,F1,F2,h1,h2,h3,h4,h5,h6,h7⟩:=fin vs _ rl;exact⟨a,vs,v',G,rfl,.inl ⟨rfl,q.sq⟩,h3,ds,a,vs,j,F1,G,F2,d',v',rfl,hj,.inl ⟨rfl,hz,.inr ⟨h1,q⟩⟩,h4,h6,hdj,h2,h7,rfl,rfl,rfl,h5⟩
  | tup xs=>
   cases hd;obtain⟨a,vs,rfl,q,rl⟩:=r.Qax;obtain⟨v',G,F1,F2,h1,h2,h3,h4,h5,h6,h7⟩:=fin vs _ rl;exact⟨a,vs,v',G,rfl,.inr ⟨rfl,q⟩,h3,ds,a,vs,j,F1,G,F2,d',v',rfl,hj,.inr ⟨rfl,h1,q⟩,h4,h6,hdj,h2,h7,rfl,rfl,rfl,h5⟩
  | _=>cases hd
def Focus.snoc:∀{is:List Int}{d:D}{v:V}{F:LAd}{dm:D}{w:V}{Gm:LAd}{i:Int}{d':D}{v':V}{G:LAd},Focus K H is d v F dm w Gm->Focus K H [i] dm w Gm d' v' G->Focus K H (is++[i]) d v F d' v' G
 | [],_,_,_,_,_,_,_,_,_,_,h,g=>by
  obtain⟨rfl,rfl,rfl,r⟩:=h;exact g
 | k::is,_,_,_,_,_,_,_,_,_,_,h,g=>by
  obtain⟨ds,a,vs,j,F1,G,F2,d',v',h1,h2,h3,h4,h5,h6,h7,h8,h9⟩:=h;exact⟨ds,a,vs,j,F1,G,F2,d',v',h1,h2,h3,h4,h5,h6,h7,h8,h9.snoc g⟩
def Qds:D->List Int->Option D
 | d,[]=>some d
 | d,i::is=>(d.items).bind λds=>(atI ds i).bind λd'=>Qds d' is
def Qlb:∀{is:List Int}{d:D}{i:Int}{d':D},Qds d (is++[i])=some d'->∃dm ds,Qds d is=some dm/\dm.items=some ds/\atI ds i=some d'
 | [],d,i,d',h=>by
  refine Qf h λds h1 h=>?_;refine Qf h λd'' h2 h=>?_;cases h;exact⟨d,ds,rfl,h1,h2⟩
 | k::is,d,i,d',h=>by
  refine Qf h λds h1 h=>?_;refine Qf h λd'' h2 h=>?_;obtain⟨dm,es,h3,h4,h5⟩:=Qlb h;refine⟨dm,es,?_,h4,h5⟩;simp only[Qds,h1,h2,Za,h3]
def QbK:List Int->D->D->D
 | [],_,new=>new
 | i::is,.lst ds,new=>match ixN ds.length i with
  | some j=> .lst (ds.set j (QbK is (ds.getD j .non) new))
  | none=> .lst ds
 | i::is,.tup ds,new=>match ixN ds.length i with
  | some j=> .tup (ds.set j (QbK is (ds.getD j .non) new))
  | none=> .tup ds
 | _::_,d,_=>d
def Qhf:∀{ds:List D}{j:Nat}{d e:D},ds[j]? =some d->nls (ds.set j e)+d.nl=nls ds+e.nl
 | [],_,_,_,h=>by simp at h
 | x::ds,0,d,e,h=>by simp at h;subst h;simp only[List.set_cons_zero,nls];lia
 | x::ds,j+1,d,e,h=>by
  have:=Qhf (e:=e) (by simpa using h);simp only[List.set_cons_succ,nls];lia
def Qct:∀(as bs:List D),nls (as++bs)=nls as+nls bs
 | [],bs=>by simp[nls]
 | a::as,bs=>by simp only[ZaI,nls,Qct as bs];lia
def Focus.mut:∀{is:List Int}{d:D}{v:V}{F:LAd}{Gm:LAd},Focus K H is d v F (.lst dsm) (.ref p) Gm->F.Nodup->F.length=d.nl→
  ∃vsm Gp,H p=some (.lst vsm)/\Gm=p::Gp/\Rps K H dsm vsm Gp/\Gp.length=nls dsm/\p∈F/\(∀a∈Gp,a∈F)/\p∉Gp∧
   (Rps K (upd H p (.lst vs')) ds' vs' G'->ds'.length<=sizeLine->G'.length=nls ds'→
    ∃F',Rp K (upd H p (.lst vs')) (QbK is d (.lst ds')) v F'/\F'.length=(QbK is d (.lst ds')).nl/\∀a,F'.count a+Gp.count a=F.count a+G'.count a)
 | [],d,v,F,Gm,h,nd,hl=>by
  obtain⟨rfl,rfl,rfl,r⟩:=h;simp only[Rp]at r;obtain⟨hz,a,vs,e,h⟩:=r;cases e;rcases h with⟨L,rfl,q,rl⟩ | ⟨q,rl⟩
  .obtain⟨n1,n2⟩:=Zac.mp nd;have hl':L.length=nls dsm:=by simp only[D.nl,Zs]at hl;lia
   refine⟨vs,L,q,rfl,rl,hl',Zf,λa ha=>Zc _ ha,n1,λr' hz' hl2=>⟨p::G',Rp.Qg3 Q4 r' hz',?_,λa=>?_⟩⟩
   .simp only[QbK,D.nl,Zs,hl2]
   .rw[Zaj,Zaj];lia
  .have:=rl.Qaq;simp only[D.nl]at hl;lia
 | i::is,d,v,F,Gm,h,nd,hl=>by
  obtain⟨ds,a,vs,j,F1,G,F2,d',v',rfl,hj,h3,h4,h5,h6,h7,h8,h9⟩:=h;have hjl:j<ds.length:=(Zm.mp h6).1;have gd:ds.getD j .non=d':=by rw[ZR,h6];rfl
  have l1:=h4.Qaq;have l2:=h5.Qaq;have l3:=h9.Qtu.Qaq;have nlsplit:nls (ds.take j)+(d'.nl+nls (ds.drop (j+1)))=nls ds:=by
   have e1:ds=ds.take j++d'::ds.drop (j+1):=by
    have:ds[j]=d':=(Zm.mp h6).2;rw[← this,← ZH hjl,Zaz]
   have e2:=congrArg nls e1;rw[Qct]at e2;simp only[nls]at e2;exact e2.symm
  have core:(F1++(G++F2)).Nodup->(F1++(G++F2)).length=nls ds->_:=λnd' hl'=>by
   simp only[Zl]at hl';have hG:G.length=d'.nl:= ⋯
   have ndG:G.Nodup:=(ZP.mp (ZP.mp nd').2.1).1;exact(h9.mut (vs':=vs') (ds':=ds') (G':=G') ndG hG)
  have apart:(F1++(G++F2)).Nodup->p∈G->p∉F1/\p∉F2:=λnd' hp=>by
   have n1:=ZP.mp nd';have n2:=ZP.mp n1.2.1;exact⟨λh=>n1.2.2 p h p (Zk _ hp) rfl,λh=>n2.2.2 p hp p h rfl⟩
  have cnt:∀(G'' Gp:LAd),(∀a,G''.count a+Gp.count a=G.count a+G'.count a)->∀a,(F1++(G''++F2)).count a+Gp.count a=(F1++(G++F2)).count a+G'.count a:=λG'' Gp hc a=>by
   have:=hc a;simp only[ZS];lia
  rcases h3 with⟨rfl,hz,⟨rfl,q⟩ | ⟨rfl,q⟩⟩ | ⟨rfl,rfl,q⟩
  ·
   obtain⟨n1,n2⟩:=Zac.mp nd;have hl':(F1++(G++F2)).length=nls ds:=by simp only[D.nl,Zs]at hl;lia
   obtain⟨vsm,Gp,e1,e2,e3,e4,e5,e6,e7,e8⟩:=core n2 hl';have ap:=apart n2 e5;have hap:a≠p:=λz=>n1 (by rw[z];exact Ze _ (Zk _ e5));refine⟨vsm,Gp,e1,e2,e3,e4,Zc _ (Ze _ (Zk _ e5)),λb hb=>Zc _ (Ze _ (Zk _ (e6 b hb))),e7,λr' hz' hl2=>?_⟩;obtain⟨G'',f1,f2,f3⟩:=e8 r' hz' hl2;have j1:=Rps.join (h4.upd e1 ap.1) f1 (h5.upd e1 ap.2) hjl h7;refine⟨a::(F1++(G''++F2)),?_,?_,λb=>?_⟩
   .simp only[QbK,hj,gd];exact Rp.Qg3 (by rw[Qy hap];exact q) j1 (by rw[Zap];exact hz)
   .have:=Qhf (e:=QbK is d' (.lst ds')) h6;simp only[QbK,hj,gd,D.nl,Zs,Zl,f2]at hl' ⊢;lia
   .have:=cnt G'' Gp f3 b;rw[Zaj,Zaj];lia
  .have:(F1++(G++F2)).length<=nls ds:=by simp only[Zl];lia
   simp only[D.nl]at hl;lia
  ·
   have hl':(F1++(G++F2)).length=nls ds:=by simpa only[D.nl]using hl
   obtain⟨vsm,Gp,e1,e2,e3,e4,e5,e6,e7,e8⟩:=core nd hl';have ap:=apart nd e5;refine⟨vsm,Gp,e1,e2,e3,e4,Ze _ (Zk _ e5),λb hb=>Ze _ (Zk _ (e6 b hb)),e7,λr' hz' hl2=>?_⟩;obtain⟨G'',f1,f2,f3⟩:=e8 r' hz' hl2;have j1:=Rps.join (h4.upd e1 ap.1) f1 (h5.upd e1 ap.2) hjl h7;refine⟨F1++(G''++F2),?_,?_,cnt G'' Gp f3⟩
   .simp only[QbK,hj,gd,Rp];exact⟨a,vs,rfl,QqW e1 q,j1⟩
   .have:=Qhf (e:=QbK is d' (.lst ds')) h6;simp only[QbK,hj,gd,D.nl,Zl,f2]at hl' ⊢;lia
end
section
def Rel.mut(rel:Rel K H0 A0 hs ρ F U H)(p:QR K ρ F H H1 r vn Gn)(hf:r.fr=true)(nd:r.M.Nodup)(s12:Qs H1 H2)(hx:ρ[x]? =some (some (d,true)))(hxM:x∉r.M)(hv0:U[x]? =some (some v0))
  {dnew:D}{q:Addr}{F':LAd}{vsm vs':List V}(e1:H2 q=some (.lst vsm)) (e5:q∈F x) (f1:Rp K (upd H2 q (.lst vs')) dnew v0 F') (f2:F'.length=dnew.nl) (cF:∀a,F'.count a<=(F x).count a+Gn.count a):
  ∃F',Rel K H0 A0 hs ((kill r.M ρ).set x (some (dnew,true))) F' U (upd H2 q (.lst vs')):=by
 obtain⟨ol,on,o0,oap,oh⟩:=rel.own x d hx;obtain⟨gn,gs⟩:=p.fresh rel hf nd;have rel2:=(rel.ext p.same).ext s12;have relk:=rel2.weak (QbT r.M ρ);have apn:∀a∈Gn,a∉F x:=λa ha hax=>by
  rcases(gs a ha).2 with z | ⟨k,d',hk,ek,hak⟩
  .obtain⟨vs,w⟩:=rel.mem hx hax;rw[z]at w;cases w
  .have:k≠x:=λz=>hxM (z▸hk);exact oap k d' true this ek a hax hak
 have memF:∀a∈F',a∈F x∨a∈Gn:=λa ha=>by
  have h1:=cF a;have h2:0<F'.count a:=Zaf.mpr ha;by_cases h:a∈F x
  .exact .inl h
  .rw[ZI.mpr h]at h1;exact .inr (Zaf.mp ⋯)
 have apart:∀(j:Nat) d' b,j≠x->(kill r.M ρ)[j]? =some (some (d',b))->∀a∈F',a∉F j:=λj d' b hj e a ha haj=>by
  obtain⟨b',e',_⟩:=(QbT r.M ρ).2 j d' b e;rcases memF a ha with h | h
  .exact oap j d' b' hj e' a h haj
  .rcases(gs a h).2 with z | ⟨k,d'',hk,ek,hak⟩
   .obtain⟨vs,w⟩:=rel.mem e' haj;rw[z]at w;cases w
   .have hjk:j≠k:=λz=>by subst z;exact Qgk r.M ρ j d' b hk e
    exact(rel.own k d'' ek).2.2.2.1 j d' b' hjk e' a hak haj
 have apartH:∀t∈hs,∀a∈F',a∉t.2.2:=λt ht a ha hat=>by
  rcases memF a ha with h | h
  .exact oh t ht a h hat
  .rcases(gs a h).2 with z | ⟨k,d'',hk,ek,hak⟩
   .obtain⟨vs,w⟩:=(rel.held t ht).1.mem a hat
    rw[z]at w;cases w
   .exact(rel.own k d'' ek).2.2.2.2 t ht a hak hat
 have nqj:∀(j:Nat) d' b,j≠x->ρ[j]? =some (some (d',b))->q∉F j:=λj d' b hj e h=>oap j d' b hj e q e5 h;have nF':F'.Nodup:=ZY.mpr λa=>by
  have h1:=cF a;have h2:=ZY.mp on a;have h3:=ZY.mp gn a;by_cases h:a∈Gn
  .rw[ZI.mpr (apn a h)]at h1;lia
  .rw[ZI.mpr h]at h1;lia
 have lt:∀{j:Nat}{z:Option (D×Bool)}{y:D×Bool},((kill r.M ρ).set j z)[j]? =some (some y)->j<(kill r.M ρ).length:=λ{j z y} e=>by
  by_cases hl:j<(kill r.M ρ).length
  .exact hl
  .rw[ZA (by simp;lia)]at e;cases e
 refine⟨λj=>if j=x then F' else F j,by simp[relk.len],λj d' b e=>?_,λj d' e=>?_,λj d' b e a ha=>?_,λt ht=>⟨(relk.held t ht).1.upd e1 λh=>oh t ht q e5 h,(relk.held t ht).2⟩,λb o hb=>?_⟩
 .by_cases hj:j=x
  .subst hj;have hl:=lt e;rw[Zo hl]at e;cases e;exact⟨v0,hv0,by rw[if_pos rfl];exact f1⟩
  .rw[Zg (Ne.symm hj)]at e;obtain⟨w,h1,h2⟩:=relk.val j d' b e;obtain⟨b',e',_⟩:=(QbT r.M ρ).2 j d' b e;exact⟨w,h1,by rw[if_neg hj];exact h2.upd e1 (nqj j d' b' hj e')⟩
 .by_cases hj:j=x
  .subst hj;have hl:=lt e;rw[Zo hl]at e;cases e;rw[if_pos rfl];refine⟨f2,nF',λa ha=>?_,λk d'' b hk ek a ha=>?_,apartH⟩
   .rcases memF a ha with h | h
    .exact o0 a h
    .exact(gs a h).1
   .rw[Zg (Ne.symm hk)]at ek;rw[if_neg hk];exact apart k d'' b hk ek a ha
  .rw[Zg (Ne.symm hj)]at e;obtain⟨h1,h2,h3,h4,h5⟩:=relk.own j d' e;rw[if_neg hj];refine⟨h1,h2,h3,λk d'' b hk ek a ha=>?_,h5⟩;by_cases hki:k=x
   .subst hki;rw[if_pos rfl];exact λhG=>apart j d' true hj e a hG ha
   .rw[Zg (Ne.symm hki)]at ek;rw[if_neg hki];exact h4 k d'' b hk ek a ha
 .by_cases hj:j=x
  .subst hj;rw[if_pos rfl]at ha;rcases memF a ha with h | h
   .exact .inl (o0 a h)
   .exact .inl (gs a h).1
  .rw[Zg (Ne.symm hj)]at e;rw[if_neg hj]at ha;exact relk.src j d' b e a ha
 .have hbq:b≠q:=λz=>by rw[z,o0 q e5]at hb;cases hb
  rw[Qy hbq];exact relk.same b o hb
end
abbrev DP:=En->Option (List Int)
noncomputable def Qau:DP:=λ_=>some []
noncomputable def QjP(p:DP)(fb:DE):DP:=λρ=>(p ρ).bind λis=>(fb ρ).bind λr=>match r.d with
 | .int i=>some (is++[i])
 | _=>none
def tP(K:Fgg)(H0:Hp)(A0:LAd)(x:Nat)(pf:DP):TE:=λU H Q=>∃ρ hs F d b is dm,Rel K H0 A0 hs ρ F U H/\ρ[x]? =some (some (d,b))/\pf ρ=some is/\Qds d is=some dm∧
 ∀v0 v H' Gm,Qs H H'->U[x]? =some (some v0)->Focus K H' is d v0 (F x) dm v Gm->Q v H'
def SPa(X:Cx)(e:Expr)(x:Nat)(pf:DP):Prop:=∀H0 A0,PE X e (tP X.K H0 A0 x pf)
section
def QvL(h:PE X (.Name y pos) (Qdz x)):SPa X (.Name y pos) x Qau:=λH0 A0=>h.mono λU H Q Z=>by
 obtain⟨ρ,hs,F,d,b,is,dm,rel,hx,hp,hd,q⟩:=Z;cases hp;cases hd;obtain⟨v,h1,h2⟩:=rel.val x d b hx;exact⟨v,h1,q v v H (F x) (Qs.refl _) h1 ⟨rfl,rfl,rfl,h2⟩⟩
def QxW(ha:SPa X a x pf)(hb:SE X b fb)(hs:Qhi b):SPa X (.Subscript a b pos) x (QjP pf fb):=λH0 A0=>
 (Qxj (QqT.or Qs9) (ha H0 A0) (hb H0 A0) hs).mono λU H Q Z=>by
  obtain⟨ρ,hs,F,d,b',is,dm,rel,hx,hp,hd,q⟩:=Z;refine Qf hp λis' e1 hp=>?_;refine Qf hp λr e2 hp=>?_;cases hr:r.d with
  | int i=>
   rw[hr]at hp;cases hp;obtain⟨dn,ds,g1,g2,g3⟩:=Qlb hd;refine⟨ρ,hs,F,d,b',is',dn,rel,hx,e1,g1,λv0 w H1 Gm s1 hv fo=>⟨ρ,hs,F,r,rel.ext s1,e2,λu H2 G p2=>?_⟩⟩;have rp:=p2.rp;rw[hr]at rp;rw[rp.int_inv];have fo2:=fo.same p2.same;obtain⟨c,vs,v',G',rfl,hc,h3,h4⟩:=Focus.one fo2.rp g2 g3;have fin:=q v0 v' H2 G' (s1.trans p2.same) hv (fo2.snoc h4);rcases hc with⟨_,hc⟩ | ⟨_,hc⟩
   .exact .inl ⟨c,vs,i,v',rfl,rfl,hc,h3,fin⟩
   .exact .inr ⟨c,vs,i,v',rfl,rfl,hc,h3,fin⟩
  | _=>rw[hr]at hp;cases hp
def QdR(x:Nat)(pf:DP)(fi fa:DE):DS:=λρ=>(fa ρ).bind λr0=>match ρ[x]? with
 | some (some (d,true))=>(pf ρ).bind λis=>(fi ρ).bind λri=>match ri.d,Qds d is with
  | .int k,some (.lst ds)=>(ixN ds.length k).bind λj=>if r0.norm.fr && decide r0.norm.M.Nodup && !r0.norm.M.contains x then some (.nx ((kill r0.norm.M ρ).set x (some (QbK is d (.lst (ds.set j r0.d)),true))))else
   none
  | _,_=>none
 | _=>none
def set_mk(hq:H2 q=some (.lst vsm))(rs:Rps K H2 dsm vsm Gp)(hl:Gp.length=nls dsm)(nq:q∉Gp)(nqn:q∉Gn)(hn:Rp K H2 dn vn Gn)(hnl:Gn.length=dn.nl)(hj:j<dsm.length):
  ∃G',Rps K (upd H2 q (.lst (vsm.set j vn))) (dsm.set j dn) (vsm.set j vn) G'/\G'.length=nls (dsm.set j dn)/\∀a,G'.count a<=Gp.count a+Gn.count a:=by
 obtain⟨F1,G,F2,v,e1,e2,h1,h2,h3⟩:=rs.split (j:=j) (d:=dsm[j]) (by simp[hj]);subst e1;have hjv:j<vsm.length:=by rw[← rs.length];exact hj
 have n1:q∉F1:=λh=>nq (Zk _ h);have n2:q∉F2:=λh=>nq (Ze _ (Ze _ h));refine⟨F1++(Gn++F2),Rps.QwU (h1.upd hq n1) (hn.upd hq nqn) (h3.upd hq n2) hj hjv,?_,λa=>?_⟩
 .have:=Qhf (ds:=dsm) (j:=j) (d:=dsm[j]) (e:=dn) (by simp[hj]);have l1:=h1.Qaq;have l2:=h2.Qaq;have l3:=h3.Qaq;have e1:nls (dsm.take j)+((dsm[j]).nl+nls (dsm.drop (j+1)))=nls dsm:=by
   have e2:=congrArg nls (Zaz j dsm);rw[Qct,ZH hj]at e2;simpa only[nls]using e2
  simp only[Zl]at hl ⊢;lia
 .simp only[ZS];lia
def QR.Qw7(p:QR K ρ F H H1 r v G)(s:Qs H1 H2):QR K ρ F H H2 r v G:=⟨p.same.trans s,p.rp.same s,p.src,p.cnt,p.own⟩
def QAX(hv:SE X e fa)(ho:SPa X a x pf)(hi:SE X i fi)
  (h:∀te to ti,PE X e te->PE X a to->PE X i ti->PS X (.Assign [.Subscript a i pos'] e pos) (QmL te (L2.QdB to ti Qxb))):S1 X (.Assign [.Subscript a i pos'] e pos) (QdR x pf fi fa):=λH0 A0=>
 (h _ _ _ (hv H0 A0) (ho H0 A0) (hi H0 A0)).mono λE U H=>exK λρ hs F o rel e q=>by
  refine Qf e λr0 e1 e=>?_;split at e
  .rename_i d hx;refine Qf e λis e2 e=>?_;refine Qf e λri e3 e=>?_;split at e
   .rename_i k ds hk hp;refine Qf e λj e4 e=>?_;split at e
    .rename_i hc;cases e;simp only[Zh,decide_eq_true_eq,ZF]at hc;obtain⟨⟨c1,c2⟩,c3⟩:=hc;have c3:x∉r0.norm.M:=λh=>by rw[ZN.mpr h]at c3;cases c3
     refine⟨ρ,hs,F,r0,rel,e1,λvn H1 Gn p=>⟨ρ,hs,F,d,true,is,.lst ds,rel.ext p.same,hx,e2,hp,λv0 w H2 Gm s2 hv0 fo=>⟨ρ,hs,F,ri,(rel.ext p.same).ext s2,e3,λu H3 Gi pi=>?_⟩⟩⟩;have p':=(p.norm.Qw7 s2).Qw7 pi.same;have fo3:=fo.same pi.same;have rpi:=pi.rp;rw[hk]at rpi;rw[rpi.int_inv];obtain⟨l,ws,L,rfl,_⟩:=fo3.rp.lst_inv;obtain⟨ol,on,_,oap,_⟩:=rel.own x d hx;have hjl:=(QjN e4).2.1;obtain⟨gn,gs⟩:=p'.fresh rel c1 c2;have rn:=p'.rp;rw[r0.QdH]at rn;have hnl:=(p'.cnt c1).2;rw[r0.QdH]at hnl;obtain⟨vsm,_,f1,_⟩:=fo3.mut (vs':=[]) (ds':=[]) (G':=[]) on ol;obtain⟨_,_,_,_,_,_,zl,_⟩:=fo3.rp.lst_inv;have key:∃F',Rp X.K (upd H3 l (.lst (vsm.set j vn))) (QbK is d (.lst (ds.set j r0.d))) v0 F'/\F'.length=(QbK is d (.lst (ds.set j r0.d))).nl/\l∈F x/\ds.length=vsm.length/\∀a,F'.count a<=(F x).count a+Gn.count a:=by
      have own5:∀G',_:=λG'=>fo3.mut (vs':=vsm.set j vn) (ds':=ds.set j r0.d) (G':=G') on ol;obtain⟨vs1,Gp,g1,g2,g3,g4,g5,g6,g7,_⟩:=own5 [];rw[f1]at g1;cases g1;have hq:l∉Gn:=λh=>by
       rcases(gs l h).2 with z | ⟨k',d',hk',ek,hak⟩
       .obtain⟨vs,w⟩:=rel.mem hx g5;rw[z]at w;cases w
       .exact oap k' d' true (λz=>c3 (z▸hk')) ek l g5 hak
      obtain⟨G',m1,m2,m3⟩:=set_mk f1 g3 g4 g7 hq rn hnl hjl;obtain⟨vs2,Gp2,k1,k2,k3,k4,k5,k6,k7,k8⟩:=own5 G';have eG:Gp2=Gp:=by rw[g2]at k2;exact(List.cons.inj k2).2.symm
      subst eG;obtain⟨F',h1,h2,h3⟩:=k8 m1 (by rw[Zap];exact zl) m2;exact⟨F',h1,h2,g5,g3.length,λa=>by have:=h3 a;have:=m3 a;lia⟩
     obtain⟨F',k1,k2,k3,k4,k5⟩:=key;refine⟨l,vsm,k,j,rfl,rfl,f1,by rw[← k4];exact e4,?_⟩;obtain⟨F'',rel'⟩:=rel.mut p' c1 c2 (Qs.refl _) hx c3 hv0 f1 k3 k1 k2 k5;exact q _ _ F'' rel'
    ·
      cases e
   .cases e
  .cases e
end
section
variable {K:Fgg}{H0 H H1 H2 H3:Hp}{A0:LAd}{hs:List (V×D×List Addr)}{ρ:En}{F:Nat->List Addr}{U:L2.St}
def Rel.write(rel:Rel K H0 A0 hs ρ F U H)(p:QR K ρ F H H3 r vn Gn)(hf:r.fr=true)(nd:r.M.Nodup)(hx:ρ[x]? =some (some (d,true)))(hxM:x∉r.M)(hv0:U[x]? =some (some v0))
  {is:List Int}{ds:List D}{Gm:LAd}(fo:Focus K H3 is d v0 (F x) (.lst ds) w Gm):
  ∃l vsm Gp,w= .ref l/\H3 l=some (.lst vsm)/\Rps K H3 ds vsm Gp/\Gp.length=nls ds/\l∉Gp/\l∉Gn/\ds.length<=sizeLine∧
   ∀ds' vs' G',Rps K (upd H3 l (.lst vs')) ds' vs' G'->ds'.length<=sizeLine->G'.length=nls ds'->(∀a,G'.count a<=Gp.count a+Gn.count a)→
    ∃F',Rel K H0 A0 hs ((kill r.M ρ).set x (some (QbK is d (.lst ds'),true))) F' U (upd H3 l (.lst vs')):=by
 obtain⟨l,ws,L,rfl,_,_,zl,_⟩:=fo.rp.lst_inv;obtain⟨ol,on,_,oap,_⟩:=rel.own x d hx;obtain⟨gn,gs⟩:=p.fresh rel hf nd;obtain⟨vsm,Gp,g1,g2,g3,g4,g5,g6,g7,_⟩:=fo.mut (vs':=[]) (ds':=[]) (G':=[]) on ol;have hq:l∉Gn:=λh=>by
  rcases(gs l h).2 with z | ⟨k',d',hk',ek,hak⟩
  .obtain⟨vs,w⟩:=rel.mem hx g5;rw[z]at w;cases w
  .exact oap k' d' true (λz=>hxM (z▸hk')) ek l g5 hak
 refine⟨l,vsm,Gp,rfl,g1,g3,g4,g7,hq,zl,λds' vs' G' m1 m2 m3 m4=>?_⟩;obtain⟨vs2,Gp2,k1,k2,k3,k4,k5,k6,k7,k8⟩:=fo.mut (vs':=vs') (ds':=ds') (G':=G') on ol;have eG:Gp2=Gp:=by rw[g2]at k2;exact(List.cons.inj k2).2.symm
 subst eG;obtain⟨F',h1,h2,h3⟩:=k8 m1 m2 m3;exact rel.mut p hf nd (Qs.refl _) hx hxM hv0 g1 g5 h1 h2 λa=>by have:=h3 a;have:=m4 a;lia
end
section
variable {X:Cx}{a b e:Expr}{fa fb:DE}{pf:DP}{x:Nat}{pos apos:Pos}
noncomputable def QnW(r:R)(x:Nat):Bool:=r.norm.fr && decide r.norm.M.Nodup && !r.norm.M.contains x
def Quq(h:QnW r x=true):r.norm.fr=true/\r.norm.M.Nodup/\x∉r.norm.M:=by
 unfold QnW at h;simp only[Zh,decide_eq_true_eq,ZF]at h;exact⟨h.1.1,h.1.2,λz=>by rw[ZN.mpr z]at h;cases h.2⟩
def QdA(x:Nat)(pf:DP)(fa:DE):DS:=λρ=>match ρ[x]? with
 | some (some (d,true))=>(pf ρ).bind λis=>(fa ρ).bind λr0=>match Qds d is with
  | some (.lst ds)=>if QnW r0 x && decide (ds.length<sizeLine)then some (.nx ((kill r0.norm.M ρ).set x (some (QbK is d (.lst (ds++[r0.d])),true))))else none
  | _=>none
 | _=>none
def QuC{H0:Hp}{A0:LAd}{E:Ends}{U:L2.St}{H:Hp}:tS X.K H0 A0 (QdA x pf fa) E U H->QhC (tBM X.K "list" Qqn (tP X.K H0 A0 x pf) (QjO (tV X.K H0 A0 fa) QiP)) E U H:=exK λρ hs F o rel e q=>by
 unfold QdA at e;split at e
 .rename_i d hx;refine Qf e λis e2 e=>?_;refine Qf e λr0 e1 e=>?_;split at e
  .rename_i ds hp;split at e
   .rename_i hc;simp only[Zh,decide_eq_true_eq]at hc;obtain⟨c1,c2,c3⟩:=Quq hc.1;cases e;refine⟨ρ,hs,F,d,true,is,.lst ds,rel,hx,e2,hp,λv0 w H2 Gm s2 hv0 fo=>?_⟩;have ty:tyV X.K "list" w H2:=by
     obtain⟨l,ws,L,rfl,hl,_⟩:=fo.rp.lst_inv;exact .inl ⟨rfl,ws,QU hl⟩
    refine⟨ty,ρ,hs,F,r0,rel.ext s2,e1,λvn H3 Gn p=>?_⟩;have p':=p.norm;obtain⟨l,vsm,Gp,rfl,g1,g2,g3,g4,g5,g6,g7⟩:=(rel.ext s2).write p' c1 c2 hx c3 hv0 (fo.same p.same);refine⟨l,vsm,vn,rfl,rfl,g1,by rw[← g2.length];exact hc.2,?_⟩;have rn:=p'.rp;rw[r0.QdH]at rn;have hnl:=(p'.cnt c1).2;rw[r0.QdH]at hnl;have rw1:Rps X.K (upd H3 l (.lst (vsm++[vn]))) [r0.d] [vn] Gn:=by
     simp only[Rps];exact⟨vn,[],Gn,[],rfl,⋯,rn.upd g1 g5,rfl,rfl⟩
    obtain⟨F',rel'⟩:=g7 (ds++[r0.d]) (vsm++[vn]) (Gp++Gn) ((g2.upd g1 g4).append rw1) (by rw[Zl,Zay];lia) (by rw[Zl,Qct,g3,hnl];simp[nls]) (λa=>by rw[ZS];lia);exact q _ _ F' rel'
   .cases e
  .cases e
 .cases e
def QmN(x:Nat)(pf:DP)(fa:DE):DS:=λρ=>match ρ[x]? with
 | some (some (d,true))=>(pf ρ).bind λis=>(fa ρ).bind λr0=>match Qds d is,r0.d with
  | some (.lst ds),.lst es=>if QY es && decide (ds.length+es.length<=sizeLine)then some (.nx (ρ.set x (some (QbK is d (.lst (ds++es)),true))))else none
  | _,_=>none
 | _=>none
def QnH(K:Fgg):V->List V->Hp->VK->Prop:=λx vs H Q=>∃l b xs zs,x= .ref l/\vs=[.ref b]/\H l=some (.lst xs)/\(H b=some (.lst zs)∨Fix K H b zs)/\xs.length+zs.length<=sizeLine/\Q .non (upd H l (.lst (xs++zs)))
open PyProof.Rows in
def QtI:QzX X (QBA X.K):=by
 intro pins s U H o i ov iv Q I ro ri h;obtain⟨p,xs,k,v,rfl,rfl,hq,ha,q⟩:=h;cases ro;obtain⟨t,rfl⟩:=ri;obtain⟨its,r,pl,hz⟩:=I.list hq;obtain⟨j,h1,h2,h3,h4,h5⟩:=Ql3 ha;obtain⟨w,ew,rw'⟩:=r.get h2;have hl:=r.length;have hn:=Qgc;by_cases h0:0<=k
 .refine wpAny_getItem_list pl.isList h0 ⋯ (x:=w) ?_ ⟨v,H,I,rw',q⟩;have:k.toNat=j:=by
   rw[seqIndex_of h0 h5]at h1;exact Option.some.inj h1
  rw[this];simpa using ew
 .refine wpAny_getItem_list_neg pl.isList ⋯ (by rw[Zu]<;>lia) ⋯ (x:=w) ?_ ⟨v,H,I,rw',q⟩;have hj:(k+(its.toArray.size:Int)).toNat=j:=by
   rw[seqIndex_neg ⋯ h4]at h1;rw[Zu,← hl];exact Option.some.inj h1
  rw[hj];simpa using ew
def Qgf(g:D->D->Option D)(x:Nat)(pf:DP)(fi fa:DE):DS:=λρ=>match ρ[x]? with
 | some (some (d,true))=>(pf ρ).bind λis=>(fi ρ).bind λri=>match ri.d,Qds d is with
  | .int k,some (.lst ds)=>(ixN ds.length k).bind λj=>(ds[j]?).bind λold=>(fa ρ).bind λr=>(g old r.d).map λnew=> .nx (ρ.set x (some (QbK is d (.lst (ds.set j new)),true)))
  | _,_=>none
 | _=>none
def Qzx(ho:OpR X (inplaceOp op) r)(hg:Qbw X.K g r)(hv:SE X e fa)(hp:SPa X a x pf)(hi:SE X i fi)
  (ha:∀ov iv new,augStore i ov iv new=(do holding [new,ov,iv] (setItem ov iv new);release [new,ov,iv] [];pure .next)):S1 X (.AugAssign (.Subscript a i pos') op e pos) (Qgf g x pf fi fa):=λH0 A0=>
 (Qzc (hp H0 A0) (hi H0 A0) QtI (hv H0 A0) (λpins s U H x y v u Q I rx ry q=>QEn ho I rx ry q) set_list ha).mono λE U H=>exK λρ hs F o rel e q=>by
  unfold Qgf at e;split at e
  .rename_i d hx;refine Qf e λis e2 e=>?_;refine Qf e λri e3 e=>?_;split at e
   .rename_i k ds hk hp';refine Qf e λj e4 e=>?_;refine Qf e λold e5 e=>?_;refine Qf e λrv e6 e=>?_;obtain⟨new,e7,e⟩:=Zb.mp e;subst e;have hjl:=(QjN e4).2.1;refine⟨ρ,hs,F,d,true,is,.lst ds,rel,hx,e2,hp',λv0 w H2 Gm s2 hv0 fo=>⟨ρ,hs,F,ri,rel.ext s2,e3,λu H3 Gi pi=>?_⟩⟩;have fo3:=fo.same pi.same;have rpi:=pi.rp;rw[hk]at rpi;rw[rpi.int_inv];have at3:atI ds k=some old:=by unfold atI;rw[e4];exact e5
    obtain⟨l,vs,v',Go,rfl,hc,h3,h4⟩:=Focus.one fo3.rp rfl at3;have hc:SqL X.K H3 l vs:=by
     rcases hc with⟨_,hc⟩ | ⟨hc,_⟩
     .exact hc
     .cases hc
    refine⟨l,vs,k,v',rfl,rfl,hc,h3,ρ,hs,F,rv,(rel.ext s2).ext pi.same,e6,λy H4 G4 p4=>?_⟩;have fo4:=fo3.same p4.same;have ro:=h4.rp.same p4.same;refine(hg _ _ _ e7).2 H4 v' y Go G4 _ ro p4.rp λz hz=>?_;have rel4:=((rel.ext s2).ext pi.same).ext p4.same;have pz:QR X.K ρ F H4 H4 ⟨new,true,[]⟩ z []:= .flat (Qs.refl _) (hz H4) (hg _ _ _ e7).1;obtain⟨l',vsm,Gp,el,g1,g2,g3,g4,g5,g6,g7⟩:=rel4.write pz rfl ZT hx ⋯ hv0 fo4;cases el;refine⟨l,vsm,k,j,rfl,rfl,g1,by rw[← g2.length];exact e4,?_⟩;obtain⟨G',m1,m2,m3⟩:=set_mk g1 g2 g3 g4 g5 (hz H4) (Qdr new (hg _ _ _ e7).1).symm hjl;obtain⟨F',rel'⟩:=g7 _ _ G' m1 (by rw[Zap];exact g6) m2 m3;exact q _ _ F' rel'
   .cases e
  .cases e
end
end HS
namespace HS
open PySem PySem.Spec L2 PyProof.Rows
def Qe3:∀{ds:List D}{ns:List Int},QfB ds=some ns->ds=ns.map .int
 | [],_,h=>by cases h;rfl
 | d::ds,ns,h=>by
  unfold QfB at h;refine Qf h λi h1 h=>?_;obtain⟨r,h2,rfl⟩:=Zb.mp h;cases d with
  | int j=>cases h1;rw[Qe3 h2];rfl
  | _=>cases h1
def QhE:∀(ns:List Int),QfB (ns.map D.int)=some ns
 | []=>rfl
 | n::ns=>by simp[QfB,QhE ns,D.Qw1]
def Rps.ints{K:Fgg}{H:Hp}:∀{ns:List Int}{vs:List V}{F:LAd},Rps K H (ns.map .int) vs F->vs=ns.map .int
 | [],_,_,h=>by simp only[ZaV,Rps]at h;rw[h.1];rfl
 | n::ns,_,_,h=>by
  simp only[Zz,Rps]at h;obtain⟨v,ws,F1,F2,rfl,rfl,r,q⟩:=h;rw[r.int_inv,Rps.ints q];rfl
def QcY(h:Qt (ns.map V.int) us):IntsAre us ns:=intsAre_of h
noncomputable def QhY:List D->Option (List Bool)
 | []=>some []
 | d::ds=>(match d with | .bl b=>some b | _=>none).bind λi=>(QhY ds).map λr=>i::r
def QkJ:∀{ds:List D}{ns:List Bool},QhY ds=some ns->ds=ns.map .bl
 | [],_,h=>by cases h;rfl
 | d::ds,ns,h=>by
  unfold QhY at h;refine Qf h λi h1 h=>?_;obtain⟨r,h2,rfl⟩:=Zb.mp h;cases d with
  | bl j=>cases h1;rw[QkJ h2];rfl
  | _=>cases h1
def Rps.bls{K:Fgg}{H:Hp}:∀{ns:List Bool}{vs:List V}{F:LAd},Rps K H (ns.map .bl) vs F->vs=ns.map .bl
 | [],_,_,h=>by simp only[ZaV,Rps]at h;rw[h.1];rfl
 | n::ns,_,_,h=>by
  simp only[Zz,Rps]at h;obtain⟨v,ws,F1,F2,rfl,rfl,r,q⟩:=h;rw[Rps.bls q];simp only[Rp]at r;rw[r.1];rfl
def QkB:∀{ns:List Bool}{us:List Value},Qt (ns.map V.bl) us->LSm.BoolsAre us ns
 | [],_,.nil=> .nil
 | n::ns,_,.cons r h=>by cases r;exact .cons n (QkB h)
section
variable {X:Cx}{a b e:Expr}{es:List Expr}{fa fb:DE}{fs:DA}{pos p2:Pos}
def QCi(K:Fgg)(C:List Int->Int->Prop):List V->Hp->VK->Prop:=λxs H Q=>∃(p:Addr) (ns:List Int),xs=[.ref p]/\(SqL K H p (ns.map V.int)∨SqT K H p (ns.map V.int))/\ns≠[]/\∀M,C ns M->Q (.int M) H
def QkT(ns:List Int)(M:Int):Prop:=M∈ns/\∀a∈ns,M<=a
def Qfm(hi:IntsAre us ns):∃xs:Array (Int×Tok),us.toArray=intItems xs/\ns=xs.toList.map (·.1):=by
 obtain⟨xs,e⟩:=hi.allInts.items;exact⟨xs,e,by rw[← hi.numsOf,← nums_intItems,← e]⟩
def QpC(hh:A.handled=none)(hl:s.heap.IsTuple l (intItems xs))(hne:0<xs.size)
  (h:∀v h' tk,(intItems xs)[argBest (λi j=>decide (numAt xs i<numAt xs j)) (xs.size-1)]? =some v->(∀b o,s.heap.get? b=some o->h'.get? b=some o)->Q v {s with heap:=h',toks:=tk}):
  wpAny (model prog w) A (call (.builtin "min") [.ref l]) Q E s:=by
 have hlt:l<s.heap.objs.size:=by obtain⟨_,e,_⟩:=hl;exact Zp e
 refine call_min_walk (wpAny_pyIter_tuple hl ?_);refine⟨_,[_,l],[_],_,_,_,_,rfl,Walks.tuple (A:=A.in1) hh _ l (ZC hlt) (intItems xs),⟨⟨_,Zq _ rfl,rfl,rfl⟩,hl.push _⟩,λb hb=>?_,by simpa[intItems]using hne,CmpOf.ints_lt (numAt xs) (λ_ _=>intItems_at),λv h' tk hP hk=>?_⟩
 .show b<(s.heap.push _).objs.size;rw[ZX];rcases Zn.mp hb with rfl | hb
  .exact ZaB _
  .rcases Zn.mp hb with rfl | hb
   .exact Zar hlt
   .cases hb
 .refine h v h' tk (by simpa[intItems]using hP) λb o e=>?_;refine hk b o (λhm=>?_) (Zd _ e);rcases Zn.mp hm with e1 | hm
  .exact absurd (e1▸Zp e) (ZE _)
  .cases hm
def QtH(hc:X.calm=true):QaS X (.builtin "min") (QCi X.K QkT):=by
 intro pins s U H xs us Q I r h;obtain⟨p,ns,rfl,hq,hne,q⟩:=h;obtain⟨u,rfl,rx⟩:=vals1 r;cases rx;rcases hq with hq | hq
 .obtain⟨its,r',pl,hz⟩:=I.list hq;obtain⟨ys,e,hns⟩:=Qfm (QcY r');have hl:=pl.isList;rw[e]at hl;have hsz:0<ys.size:=by
   rcases Nat.eq_zero_or_pos ys.size with z | z
   .exact absurd (by rw[hns,List.map_eq_nil_iff];exact Zau (by simpa using z)) hne
   .exact z
  refine min_intList (I.ok.hd hc) hl hsz λv h' tk hv hk=>?_;obtain⟨t,rfl⟩:=intItems_at hv;obtain⟨h1,h2⟩:=argBest_lt (numAt ys) (ys.size-1);refine⟨.int _,H,I.kept hk,⟨t,rfl⟩,q _ ⟨?_,λa ha=>?_⟩⟩
  .rw[hns,numAt_eq];exact getD_mem (by rw[Zt,ZO];lia)
  .rw[hns]at ha;obtain⟨j,hj,rfl⟩:=mem_getD ha;rw[Zt,ZO]at hj;rw[← numAt_eq];exact h2 j ⋯
 .obtain⟨its,r',pl,hz⟩:=I.tuple hq;obtain⟨ys,e,hns⟩:=Qfm (QcY r');have hl:=pl;rw[e]at hl;have hsz:0<ys.size:=by
   rcases Nat.eq_zero_or_pos ys.size with z | z
   .exact absurd (by rw[hns,List.map_eq_nil_iff];exact Zau (by simpa using z)) hne
   .exact z
  refine QpC (I.ok.hd hc) hl hsz λv h' tk hv hk=>?_;obtain⟨t,rfl⟩:=intItems_at hv;obtain⟨h1,h2⟩:=argBest_lt (numAt ys) (ys.size-1);refine⟨.int _,H,I.kept hk,⟨t,rfl⟩,q _ ⟨?_,λa ha=>?_⟩⟩
  .rw[hns,numAt_eq];exact getD_mem (by rw[Zt,ZO];lia)
  .rw[hns]at ha;obtain⟨j,hj,rfl⟩:=mem_getD ha;rw[Zt,ZO]at hj;rw[← numAt_eq];exact h2 j ⋯
def Qpm(hh:A.handled=none)(hl:s.heap.IsTuple l (intItems xs))
  (h:∀h' tk t',(∀b o,s.heap.get? b=some o->h'.get? b=some o)->Q (.int (preSum (numAt xs) xs.size) t') {s with heap:=h',toks:=tk}):
  wpAny (model prog w) A (call (.builtin "sum") [.ref l]) Q E s:=by
 have hlt:l<s.heap.objs.size:=by obtain⟨_,e,_⟩:=hl;exact Zp e
 refine call_sum_walkG (wpAny_pyIter_tuple hl ?_);refine⟨_,[_,l],[_],_,_,_,numAt xs,rfl,Walks.tuple (A:=A.in1) hh _ l (ZC hlt) (intItems xs),⟨⟨_,Zq _ rfl,rfl,rfl⟩,hl.push _⟩,λb hb=>?_,(λ_ _=>intItems_at),λh' tk t' hk=>?_⟩
 .show b<(s.heap.push _).objs.size;rw[ZX];rcases Zn.mp hb with rfl | hb
  .exact ZaB _
  .rcases Zn.mp hb with rfl | hb
   .exact Zar hlt
   .cases hb
 .have:=h h' tk t' λb o e=>by
   refine hk b o (λhm=>?_) (Zd _ e);rcases Zn.mp hm with e1 | hm
   .exact absurd (e1▸Zp e) (ZE _)
   .cases hm
  simpa[intItems]using this
def QAc(K:Fgg):List V->Hp->VK->Prop:=λxs H Q=>∃(p:Addr) (ns:List Int),xs=[.ref p]/\(SqL K H p (ns.map V.int)∨SqT K H p (ns.map V.int))/\Q (.int ns.sum) H
def Qtx(hc:X.calm=true):QaS X (.builtin "sum") (QAc X.K):=by
 intro pins s U H xs us Q I r h;obtain⟨p,ns,rfl,hq,q⟩:=h;obtain⟨u,rfl,rx⟩:=vals1 r;cases rx;rcases hq with hq | hq
 .obtain⟨its,r',pl,hz⟩:=I.list hq;obtain⟨ys,e,hns⟩:=Qfm (QcY r');have hl:=pl.isList;rw[e]at hl;refine sum_intListG (I.ok.hd hc) hl λh' tk t' hk=>?_;refine⟨.int ns.sum,H,I.kept hk,⟨t',?_⟩,q⟩;rw[preSum_eq,ZaF ⋯,hns]
 .obtain⟨its,r',pl,hz⟩:=I.tuple hq;obtain⟨ys,e,hns⟩:=Qfm (QcY r');have hl:=pl;rw[e]at hl;refine Qpm (I.ok.hd hc) hl λh' tk t' hk=>?_;refine⟨.int ns.sum,H,I.kept hk,⟨t',?_⟩,q⟩;rw[preSum_eq,ZaF ⋯,hns]
def Qt0(hc:X.calm=true):QaS X (.builtin "all") (λxs H Q=>∃(p:Addr) (ns:List Bool),xs=[.ref p]/\SqL X.K H p (ns.map V.bl)/\Q (.bl (ns.all id)) H):=by
 intro pins s U H xs us Q I r h;obtain⟨p,ns,rfl,hq,q⟩:=h;obtain⟨u,rfl,rx⟩:=vals1 r;cases rx;obtain⟨its,r',pl,hz⟩:=I.list hq;have hb:=QkB r';have hl:=pl.isList;have hlt:p<s.heap.objs.size:=by obtain⟨_,e,_⟩:=hl;exact Zp e
 refine call_all_walk (wpAny_pyIter_list hl ?_)
 refine⟨s.heap.objs.size,[s.heap.objs.size,p],[s.heap.objs.size],its.toArray.size,_,_,λi=>(ns[i]?).getD true,rfl,Walks.list (A:=X.A.in1) (I.ok.hd hc) _ p (ZC hlt) its.toArray,
  ⟨⟨_,Zq _ rfl,rfl,rfl⟩,hl.push _⟩,λi v s' Q' E' hP hQ=>?_,λh' tk hk=>?_⟩
 .obtain⟨b,e,rfl⟩:=hb.get i v (by simpa using hP);simp only[e,Option.getD_some]at hQ;exact wpAny_truthy_bool hQ
 .have e:((List.range its.toArray.size).all λi=>(ns[i]?).getD true)=ns.all id:=by
   rw[Zu,hb.length];exact LSm.range_all ns
  rw[e];exact⟨.bl (ns.all id),H,I.kept (LSm.kept_iter hk),rfl,q⟩
def Qto(hc:X.calm=true):QaS X (.builtin "any") (λxs H Q=>∃(p:Addr) (ns:List Bool),xs=[.ref p]/\SqL X.K H p (ns.map V.bl)/\Q (.bl (ns.any id)) H):=by
 intro pins s U H xs us Q I r h;obtain⟨p,ns,rfl,hq,q⟩:=h;obtain⟨u,rfl,rx⟩:=vals1 r;cases rx;obtain⟨its,r',pl,hz⟩:=I.list hq;have hb:=QkB r';have hl:=pl.isList;have hlt:p<s.heap.objs.size:=by obtain⟨_,e,_⟩:=hl;exact Zp e
 refine call_any_walk (wpAny_pyIter_list hl ?_)
 refine⟨s.heap.objs.size,[s.heap.objs.size,p],[s.heap.objs.size],its.toArray.size,_,_,λi=>(ns[i]?).getD false,rfl,Walks.list (A:=X.A.in1) (I.ok.hd hc) _ p (ZC hlt) its.toArray,
  ⟨⟨_,Zq _ rfl,rfl,rfl⟩,hl.push _⟩,λi v s' Q' E' hP hQ=>?_,λh' tk hk=>?_⟩
 .obtain⟨b,e,rfl⟩:=hb.get i v (by simpa using hP);simp only[e,Option.getD_some]at hQ;exact wpAny_truthy_bool hQ
 .have e:((List.range its.toArray.size).any λi=>(ns[i]?).getD false)=ns.any id:=by
   rw[Zu,hb.length];exact LSm.range_any ns
  rw[e];exact⟨.bl (ns.any id),H,I.kept (LSm.kept_iter hk),rfl,q⟩
def QkF:List Int->Option Int
 | []=>none
 | [n]=>some n
 | n::r=>(QkF r).map λm=>if m<n then m else n
def QjB:∀{ns:List Int}{m:Int},QkF ns=some m->QkT ns m
 | [],_,h=>by cases h
 | [n],_,h=>by cases h;exact⟨⋯,λa ha=>by simp at ha;lia⟩
 | n::k::r,m,h=>by
  simp only[QkF]at h;obtain⟨m',h1,rfl⟩:=Zb.mp h;obtain⟨h2,h3⟩:=QjB h1;constructor
  .split
   .exact Zc _ h2
   .exact Zf
  .intro a ha;rcases Zn.mp ha with rfl | ha
   .split<;>lia
   .have:=h3 a ha;split<;>lia
def Qnd{ns:List Int}{a b:Int}(h:QkT ns a)(g:QkT ns b):a=b:=by have:=h.2 b g.1;have:=g.2 a h.1;lia
def QeX:List D->Option D
 | [.lst xs]=>(QfB xs).bind λns=>(QkF ns).map .int
 | [.tup xs]=>(QfB xs).bind λns=>(QkF ns).map .int
 | _=>none
def QeL:List D->Option D
 | [.lst xs]=>(QfB xs).map λns=> .int ns.sum
 | [.tup xs]=>(QfB xs).map λns=> .int ns.sum
 | _=>none
def Qzf{K:Fgg}:Qc9 K QeX (QCi K QkT):=λds d e=>by
 unfold QeX at e;split at e
 .refine Qf e λns h1 e=>?_;obtain⟨m,h2,rfl⟩:=Zb.mp e;refine⟨rfl,λH vs F Q r q=>?_⟩;obtain⟨v,rfl,rp⟩:=r.one;obtain⟨l,ws,L,rfl,hl,rl,zl,el⟩:=rp.lst_inv;rw[Qe3 h1]at rl;rw[rl.ints]at hl;exact⟨l,ns,rfl,.inl (QU hl),λz=>(by rw[z]at h2;cases h2),λM hM=>by rw[Qnd hM (QjB h2)];exact q _ λ_=> .int_mk⟩
 .refine Qf e λns h1 e=>?_;obtain⟨m,h2,rfl⟩:=Zb.mp e;refine⟨rfl,λH vs F Q r q=>?_⟩;obtain⟨v,rfl,rp⟩:=r.one;obtain⟨l,ws,rfl,hl,rl⟩:=rp.Qax;rw[Qe3 h1]at rl;rw[rl.ints]at hl;exact⟨l,ns,rfl,.inr hl,λz=>(by rw[z]at h2;cases h2),λM hM=>by rw[Qnd hM (QjB h2)];exact q _ λ_=> .int_mk⟩
 .cases e
def QyV{K:Fgg}:Qc9 K QeL (QAc K):=λds d e=>by
 unfold QeL at e;split at e
 .obtain⟨ns,h1,rfl⟩:=Zb.mp e;refine⟨rfl,λH vs F Q r q=>?_⟩;obtain⟨v,rfl,rp⟩:=r.one;obtain⟨l,ws,L,rfl,hl,rl,zl,el⟩:=rp.lst_inv;rw[Qe3 h1]at rl;rw[rl.ints]at hl;exact⟨l,ns,rfl,.inl (QU hl),q _ λ_=> .int_mk⟩
 .obtain⟨ns,h1,rfl⟩:=Zb.mp e;refine⟨rfl,λH vs F Q r q=>?_⟩;obtain⟨v,rfl,rp⟩:=r.one;obtain⟨l,ws,rfl,hl,rl⟩:=rp.Qax;rw[Qe3 h1]at rl;rw[rl.ints]at hl;exact⟨l,ns,rfl,.inr hl,q _ λ_=> .int_mk⟩
 .cases e
def Qjq:List D->Option D
 | [.lst xs]=>(QhY xs).map λns=> .bl (ns.all id)
 | _=>none
def QyH{K:Fgg}:Qc9 K Qjq (λxs H Q=>∃(p:Addr) (ns:List Bool),xs=[.ref p]/\SqL K H p (ns.map V.bl)/\Q (.bl (ns.all id)) H):=λds d e=>by
 unfold Qjq at e;split at e
 .obtain⟨ns,h1,rfl⟩:=Zb.mp e;refine⟨rfl,λH vs F Q r q=>?_⟩;obtain⟨v,rfl,rp⟩:=r.one;obtain⟨l,ws,L,rfl,hl,rl,zl,el⟩:=rp.lst_inv;rw[QkJ h1]at rl;rw[rl.bls]at hl;exact⟨l,ns,rfl,QU hl,q _ λ_=> .Qbf⟩
 .cases e
def QcU:List D->Option D
 | [.lst xs]=>(QhY xs).map λns=> .bl (ns.any id)
 | _=>none
def Qyj{K:Fgg}:Qc9 K QcU (λxs H Q=>∃(p:Addr) (ns:List Bool),xs=[.ref p]/\SqL K H p (ns.map V.bl)/\Q (.bl (ns.any id)) H):=λds d e=>by
 unfold QcU at e;split at e
 .obtain⟨ns,h1,rfl⟩:=Zb.mp e;refine⟨rfl,λH vs F Q r q=>?_⟩;obtain⟨v,rfl,rp⟩:=r.one;obtain⟨l,ws,L,rfl,hl,rl,zl,el⟩:=rp.lst_inv;rw[QkJ h1]at rl;rw[rl.bls]at hl;exact⟨l,ns,rfl,QU hl,q _ λ_=> .Qbf⟩
 .cases e
def Qfe(neg:Bool)(a b:D):Option D:=match a,b with
 | a,.non=>some (.bl (if neg then !a.QnO else a.QnO))
 | .bl x,.bl y=>some (.bl (if neg then !(x == y)else x == y))
 | _,_=>none
def QCl:OpR X (compareOp .Is) (λx y H Q=>∃c d,x= .bl c/\y= .bl d/\Q (.bl (c == d)) H):=by
 intro pins s U H x y v u Q I rx ry h;obtain⟨c,d,rfl,rfl,q⟩:=h;cases rx;cases ry;exact PyProof.Rows.is_bool (Qg1 I q rfl)
def Qyv:OpR X (compareOp .IsNot) (λx y H Q=>∃c d,x= .bl c/\y= .bl d/\Q (.bl (!(c == d))) H):=by
 intro pins s U H x y v u Q I rx ry h;obtain⟨c,d,rfl,rfl,q⟩:=h;cases rx;cases ry;exact PyProof.Rows.isnot_bool (Qg1 I q rfl)
def QBO{K:Fgg}:Qbw K (Qfe false) (λx y H Q=>(y= .non/\Q (.bl (decide (x= .non))) H)∨∃c d,x= .bl c/\y= .bl d/\Q (.bl (c == d)) H):=λa b d e=>by
 unfold Qfe at e;split at e
 .cases e;exact⟨rfl,λH x y F G Q ha hb q=> .inl ⟨hb.Qex,by rw[QlY ha];exact q _ λ_=> .Qbf⟩⟩
 .cases e;exact⟨rfl,λH x y F G Q ha hb q=> .inr ⟨_,_,ha.Qc2,hb.Qc2,q _ λ_=> .Qbf⟩⟩
 .cases e
def Qtd{K:Fgg}:Qbw K (Qfe true) (λx y H Q=>(y= .non/\Q (.bl (!decide (x= .non))) H)∨∃c d,x= .bl c/\y= .bl d/\Q (.bl (!(c == d))) H):=λa b d e=>by
 unfold Qfe at e;split at e
 .cases e;exact⟨rfl,λH x y F G Q ha hb q=> .inl ⟨hb.Qex,by rw[QlY ha];exact q _ λ_=> .Qbf⟩⟩
 .cases e;exact⟨rfl,λH x y F G Q ha hb q=> .inr ⟨_,_,ha.Qc2,hb.Qc2,q _ λ_=> .Qbf⟩⟩
 .cases e
def Qq1:∀a b d,Qfe neg a b=some d->∃k,d= .bl k:=λa b d h=>by
 unfold Qfe at h;split at h<;>cases h<;>exact⟨_,rfl⟩
noncomputable def Qpo:List D->Option D
 | [.int i]=>some (.int i)
 | [.bl k]=>some (.int (if k then 1 else 0))
 | [.str z]=>if z.length<=640 then(PySem.intText? z).map .int else none
 | _=>none
def QAM:List V->Hp->VK->Prop:=λxs H Q=>(∃i,xs=[.int i]/\Q (.int i) H)∨(∃k,xs=[.bl k]/\Q (.int (if k then 1 else 0)) H)
 ∨∃z n,xs=[.str z]/\PySem.intText? z=some n/\z.length<=640/\Q (.int n) H
def Qs8{X:Cx}:QaS X (.type "int") QAM:=by
 refine λpins s U H xs us Q I rs q=>?_;rcases q with q | q | q
 .exact QmZ pins s U H xs us Q I rs (.inl q)
 .exact QmZ pins s U H xs us Q I rs (.inr q)
 .exact Qoe pins s U H xs us Q I rs q
def QBY{K:Fgg}:Qc9 K Qpo QAM:=λds d e=>by
 unfold Qpo at e;split at e
 .cases e;refine⟨rfl,λH vs F Q r q=>?_⟩;obtain⟨v,rfl,rp⟩:=r.one;exact .inl ⟨_,by rw[rp.int_inv],q _ λ_=> .int_mk⟩
 .cases e;refine⟨rfl,λH vs F Q r q=>?_⟩;obtain⟨v,rfl,rp⟩:=r.one;exact .inr (.inl ⟨_,by rw[rp.Qc2],q _ λ_=> .int_mk⟩)
 .split at e
  .rename_i hz;obtain⟨n,hn,rfl⟩:=Zb.mp e;refine⟨rfl,λH vs F Q r q=>?_⟩;obtain⟨v,rfl,rp⟩:=r.one;exact .inr (.inr ⟨_,n,by rw[rp.str_inv],hn,hz,q _ λ_=> .int_mk⟩)
  .cases e
 .cases e
noncomputable def QgJ:List D->Option D
 | [.int i]=>if i.natAbs.log2<1920 then some (.str (toString i))else none
 | _=>none
def QAG{K:Fgg}:Qc9 K QgJ (λxs H Q=>∃i,xs=[.int i]/\i.natAbs.log2<1920/\Q (.str (toString i)) H):=λds d e=>by
 unfold QgJ at e;split at e
 .split at e
  .rename_i hz;cases e;refine⟨rfl,λH vs F Q r q=>?_⟩;obtain⟨v,rfl,rp⟩:=r.one;exact⟨_,by rw[rp.int_inv],hz,q _ λ_=> .str_mk⟩
  .cases e
 .cases e
def Qur(hc:QaS X (.type T) r)(hk:Qc9 X.K g r)(hg:Gl X x)(hm:X.mg x=none)(hv:bootBuiltins x=some (.type T))(ha:SA X (e::es) fs)(hn:x≠ "__name__")(hdb:(x == ("__debug__" :Str))=false)
  (he:starEach (e::es) X.env=(false,eval e X.env)::starEach es X.env) (hpl:(backTo pos (starEach es X.env)).any (·.1)=false):SE X (.Call (.Name x p) (e::es) [] pos) (dBf g fs):=λH0 A0=>
 (QmW hc hg hm hv (ha H0 A0) hn hdb he hpl).mono λU H Q=>exK λρ hs F r' rel e q=>by
  refine Qf e λra e1 e=>?_;obtain⟨d,ed,e⟩:=Zb.mp e;subst e;exact⟨ρ,hs,F,ra,rel,e1,λvs H1 G p1=>(hk _ _ ed).2 H1 vs G Q p1.rp λv hv=>q v H1 [] (.flat p1.same (hv _) (hk _ _ ed).1)⟩
end
def Qj3:∀{vs:List V}{us:List Value},us.length=vs.length->(∀(k:Nat) (v:V),vs[k]? =some v->∃u,us[k]? =some u/\RelV v u)->Qt vs us
 | [],[],_,_=> .nil
 | [],_::_,h,_=>by simp at h
 | _::_,[],h,_=>by simp at h
 | v::vs,u::us,h,g=>by
  obtain⟨u',e,r⟩:=g 0 v rfl;cases e;exact .cons r (Qj3 (by simpa using h) λk v hk=>g (k+1) v hk)
section
variable {X:Cx}{a b c e tg:Expr}{es:List Expr}{fa fb fc:DE}{fs:DA}{pos p2:Pos}
def Quw(I:Inv X pins U H s)(hc:X.calm=true)(h0:0<=j)(h1:j<=1000000)
  (q:∀l,H l=none->Q (.ref l) (upd H l (.lst ((List.range j.toNat).map λ(k:Nat)=>V.int (k:Int))))):
  wpAny (model X.prog X.w) X.A (call (.type "list") [.ref s.heap.objs.size]) (EP X pins U Q) E {s with heap:=s.heap.push {cls:= .type "range",data:= .fields #[.int 0 t,.int j u,.int 1 v]},toks:=tk}:=by
 have I2:Inv X pins U H {s with heap:=s.heap.push {cls:= .type "range",data:= .fields #[.int 0 t,.int j u,.int 1 v]},toks:=tk}:=I.kept λb o e=>Zd _ e;refine call_list_range (n:=j.toNat) (I.ok.hd hc) (IsRange.new ..) (small_one ⋯ ⋯ ⋯ ⋯) (by rw[rangeSize_one];split<;>lia) ⋯ λh' tk' acc' c' hk hS hacc=>?_;have hv:Qt ((List.range j.toNat).map λ(k:Nat)=>V.int (k:Int)) acc'.toList:=by
  have hl:=hacc.1;refine Qj3 (by simp[hl]) λk v hk=>?_;rw[Zw]at hk;have hkl:k<j.toNat:=by
   by_cases z:k<j.toNat
   .exact z
   .rw[ZA (by simp;lia)]at hk;cases hk
  rw[Zak hkl]at hk;cases hk;obtain⟨w,hw⟩:∃w,acc'[k]? =some w:=⟨acc'[k]'⋯,by rw[Array.getElem?_eq_getElem ⋯]⟩;obtain⟨t',rfl⟩:=hacc.2 k w hw;exact⟨_,by rw[Array.getElem?_toList];exact hw,⟨t',⋯⟩⟩
 refine⟨.ref _,_,I2.laid hk (Zi _) (show Qa7 X.prog X.w _ h' _ (.lst _)from⟨by simp[Qbr];lia,acc'.toList,c',hv,by simpa using hS⟩),rfl,q _ (I2.hok.fresh (Zi _))⟩
def Qt3(hg:Gl X "list")(hm:X.mg "list" =none)(hg':Gl X "range")(hm':X.mg "range" =none)(hc:X.calm=true)(ha:PA X [a] ta)(hs:starEach [a] X.env=[(false,eval a X.env)]):
  PE X (.Call (.Name "list" p) [.Call (.Name "range" p') [a] [] pos'] [] pos) (λU H Q=>ta U H λvs H1=>∃j:Int,vs=[.int j]/\0<=j/\j<=1000000/\∀l,H1 l=none->Q (.ref l) (upd H1 l (.lst ((List.range j.toNat).map λ(k:Nat)=>V.int (k:Int))))):=by
 intro pins s U H Q I h;refine wpAny_Call_Name_kw (Qc4 I hg hm boot_list ?_ ∅ ∅);refine ZL (Calls.spliced_cons ?_) rfl rfl;refine Call_ (Qc4 I hg' hm' boot_range (ZL (thn (ha pos' pins s U H _ I h) λus s1 ⟨vs,H1,I1,r1,q1⟩=>?_) hs rfl));obtain⟨j,e,q1,q2,q⟩:=q1;subst e;cases r1 with
 | cons r rr=>
  cases rr;obtain⟨t,rfl⟩:=r;exact call_range_1 (Calls.spliced_nil (Quw I1 hc q1 q2 q))
noncomputable def QhN(fa:DE):DE:=λρ=>(fa ρ).bind λr=>match r.d with
 | .int j=>if 0<=j/\j<=1000000 then some ⟨.lst ((List.range j.toNat).map λ(k:Nat)=> .int (k:Int)),true,[]⟩else none
 | _=>none
def Rps.ofInts{K:Fgg}{H:Hp}:∀ns:List Int,Rps K H (ns.map .int) (ns.map .int) []
 | []=>by simp[Rps]
 | n::ns=>by simp only[Zz,Rps];exact⟨_,_,[],[],rfl,rfl,.int_mk,Rps.ofInts ns⟩
def Qo1:∀ns:List Int,QY (ns.map .int)=true
 | []=>rfl
 | n::ns=>by simp[QY,D.flat,Qo1 ns]
def Qx0{p p' pos':Pos}(hg:Gl X "list")(hm:X.mg "list" =none)(hg':Gl X "range")(hm':X.mg "range" =none)(hc:X.calm=true)(ha:SE X a fa)(hs:starEach [a] X.env=[(false,eval a X.env)]):
  SE X (.Call (.Name "list" p) [.Call (.Name "range" p') [a] [] pos'] [] pos) (QhN fa):=λH0 A0=>
 (Qt3 hg hm hg' hm' hc (Qa9 (ha H0 A0) Qc0 hs) hs).mono λU H Q=>exK λρ hs F r' rel e q=>by
  refine Qf e λra e1 e=>?_;refine⟨ρ,hs,F,ra,rel,e1,λv H1 G p1=>?_⟩;cases hd:ra.d with
  | int j=>
   rw[hd]at e;dsimp only at e;split at e
   .rename_i hj;cases e;have rp:=p1.rp;rw[hd]at rp;refine⟨j,by rw[rp.int_inv],hj.1,hj.2,λl hl=>?_⟩;have e2:((List.range j.toNat).map λ(k:Nat)=>D.int (k:Int))=((List.range j.toNat).map λ(k:Nat)=>(k:Int)).map D.int:=by rw[ZZ];rfl
    have e3:((List.range j.toNat).map λ(k:Nat)=>V.int (k:Int))=((List.range j.toNat).map λ(k:Nat)=>(k:Int)).map V.int:=by rw[ZZ];rfl
    have:=QR.Qbh (ρ:=ρ) (F:=F) p1.same hl (Rps.ofInts (K:=X.K) ((List.range j.toNat).map λ(k:Nat)=>(k:Int))) (by simp[Qbr];lia) Src.nil QaX.nil;rw[← e2,← e3]at this;unfold Qbh at this;rw[if_pos (by rw[e2];exact Qo1 _)]at this;exact q _ _ _ this
   .cases e
  | _=>rw[hd]at e;cases e
end
noncomputable def QgB:List D->Option (List Str)
 | []=>some []
 | d::ds=>match d with
  | .str x=>(QgB ds).map λr=>x::r
  | _=>none
def Qm4:∀{ds:List D}{ts:List Str},QgB ds=some ts->ds=ts.map .str
 | [],_,h=>by cases h;rfl
 | d::ds,ts,h=>by
  unfold QgB at h;split at h
  .obtain⟨r,h2,rfl⟩:=Zb.mp h;rw[Qm4 h2];rfl
  .cases h
def Rps.strs{K:Fgg}{H:Hp}:∀{ts:List Str}{vs:List V}{F:LAd},Rps K H (ts.map .str) vs F->vs=ts.map .str
 | [],_,_,h=>by simp only[ZaV,Rps]at h;rw[h.1];rfl
 | n::ns,_,_,h=>by
  simp only[Zz,Rps]at h;obtain⟨v,ws,F1,F2,rfl,rfl,r,q⟩:=h;rw[r.str_inv,Rps.strs q];rfl
def Rps.ofStrs{K:Fgg}{H:Hp}:∀ts:List Str,Rps K H (ts.map .str) (ts.map .str) []
 | []=>by simp[Rps]
 | n::ns=>by simp only[Zz,Rps];exact⟨_,_,[],[],rfl,rfl,.str_mk,Rps.ofStrs ns⟩
def QkX:∀ts:List Str,QY (ts.map .str)=true
 | []=>rfl
 | n::ns=>by simp[QY,D.flat,QkX ns]
noncomputable def gSw(a b:D):Option D:=match a with
 | .str z=>match b with
  | .str y=>some (.bl (Txt.startswith z y))
  | _=>none
 | _=>none
def QrH(a b:D):Option D:=match a with
 | .str z=>match b with
  | .lst xs=>(QgB xs).bind λts=>if JoinOk z ts=true then some (.str (Txt.join z ts))else none
  | _=>none
 | _=>none
noncomputable def QmI(a b:D):Option D:=match a with
 | .str z=>match b with
  | .str y=>if((y.length == 0)=false/\z.length<=16000000)/\(Txt.split z y).length<=16000000 then some (.lst ((Txt.split z y).map .str))else none
  | _=>none
 | _=>none
def dM1(g:D->D->Option D)(fa:DE)(fs:DA):DE:=λρ=>(fa ρ).bind λra=>(fs ρ).bind λr=>match r.ds with
 | [b]=>(g ra.d b).map λd=>⟨d,true,[]⟩
 | _=>none
section
variable {X:Cx}{o b:Expr}{fa:DE}{fs:DA}{apos cpos:Pos}
def QqN{K:Fgg}{H:Hp}{z:Str}:tyV K "str" (.str z) H:=rfl
def QnM{m:Str}{id:String}{g:D->D->Option D}{r:V->List V->Hp->VK->Prop}(slot:PySem.Slot "str" m id)(hty:typeOf (.builtin id)=pure (.type "method_descriptor"))(hm:MtR X id r)
  (hg:∀a b d,g a b=some d->∃z,a= .str z/\∀(H0 H:Hp) (ρ:En) (F:Nat->List Addr) (y:V) (G:LAd) (Q:VK),Qs H0 H->Rp X.K H b y G->(∀v H' G',QR X.K ρ F H0 H' ⟨d,true,[]⟩ v G'->Q v H')->r (.str z) [y] H Q)
  (ho:SE X o fa) (ha:SA X [b] fs) (hb:attributeBase o m X.env (eval o X.env)=eval o X.env) (hl:(apos.endLine == cpos.line)=true) (hs:starEach [b] X.env=[(false,eval b X.env)]):
  SE X (.Call (.Attribute o m apos) [b] [] cpos) (dM1 g fa fs):=λH0 A0=>
 (QnE PySem.F.plainAttrs_str slot hty hm (ho H0 A0) (ha H0 A0) hb (by rw[hs];rfl) hl hs (by rfl)).mono λU H Q=>exK λρ hs F r' rel e q=>by
  refine Qf e λra e1 e=>?_;refine Qf e λrb e2 e=>?_;refine⟨ρ,hs,F,ra,rel,e1,λx H1 G1 p1=>?_⟩;split at e
  .rename_i b' hds;obtain⟨d,ed,e⟩:=Zb.mp e;subst e;obtain⟨z,ez,k⟩:=hg _ _ _ ed;have rp:=p1.rp;rw[ez]at rp;rw[rp.str_inv];refine⟨QqN,ρ,hs,F,rb,rel.ext p1.same,e2,λxs H2 G2 p2=>?_⟩;have rp2:=p2.rp;rw[hds]at rp2;obtain⟨y,rfl,ry⟩:=rp2.one;exact k H H2 ρ F y G2 Q (p1.same.trans p2.same) ry q
  .cases e
def QDV(ho:SE X o fa)(ha:SA X [b] fs)(hb:attributeBase o "startswith" X.env (eval o X.env)=eval o X.env)(hl:(apos.endLine == cpos.line)=true)(hs:starEach [b] X.env=[(false,eval b X.env)]):
  SE X (.Call (.Attribute o "startswith" apos) [b] [] cpos) (dM1 gSw fa fs):=
 QnM PySem.F.slot_str_startswith PySem.F.type_str_startswith Qs4 (λa b d e=>by
  unfold gSw at e;split at e
  .split at e
   .cases e;exact⟨_,rfl,λH0 H ρ F y G Q s r q=>⟨_,_,rfl,by rw[r.str_inv],q _ _ [] (.flat s .Qbf)⟩⟩
   .cases e
  .cases e) ho ha hb hl hs
def Qzj(ho:SE X o fa)(ha:SA X [b] fs)(hb:attributeBase o "join" X.env (eval o X.env)=eval o X.env)(hl:(apos.endLine == cpos.line)=true)(hs:starEach [b] X.env=[(false,eval b X.env)]):
  SE X (.Call (.Attribute o "join" apos) [b] [] cpos) (dM1 QrH fa fs):=
 QnM PySem.F.slot_str_join PySem.F.type_str_join QyZ (λa b d e=>by
  unfold QrH at e;split at e
  .split at e
   .refine Qf e λts e1 e=>?_;split at e
    .rename_i hj;cases e;refine⟨_,rfl,λH0 H ρ F y G Q s r q=>?_⟩;obtain⟨l,ws,L,rfl,hl',rl,zl,el⟩:=r.lst_inv;rw[Qm4 e1]at rl;rw[rl.strs]at hl';exact⟨_,l,ts,rfl,rfl,QU hl',hj,q _ _ [] (.flat s .str_mk)⟩
    .cases e
   .cases e
  .cases e) ho ha hb hl hs
def QCE(ho:SE X o fa)(ha:SA X [b] fs)(hb:attributeBase o "split" X.env (eval o X.env)=eval o X.env)(hl:(apos.endLine == cpos.line)=true)(hs:starEach [b] X.env=[(false,eval b X.env)]):
  SE X (.Call (.Attribute o "split" apos) [b] [] cpos) (dM1 QmI fa fs):=
 QnM PySem.F.slot_str_split PySem.F.type_str_split Qtz (λa b d e=>by
  unfold QmI at e;split at e
  .split at e
   .split at e
    .rename_i hc;cases e;refine⟨_,rfl,λH0 H ρ F y G Q s r q=>⟨_,_,rfl,by rw[r.str_inv],hc.1.1,by have:=hc.1.2;rw[Qbr];lia,λc hcn=>?_⟩⟩;have:=QR.Qbh (ρ:=ρ) (F:=F) s hcn (Rps.ofStrs (K:=X.K) (Txt.split _ _)) (by rw[Zt,Qbr];exact Zy hc.2 ∅) Src.nil QaX.nil;unfold Qbh at this;rw[if_pos (QkX _)]at this;exact q _ _ _ this
    .cases e
   .cases e
  .cases e) ho ha hb hl hs
end
def Qzd{X:Cx}:MtR X "str.partition" (λx xs H Q=>∃z y,x= .str z/\xs=[.str y]/\(y.length == 0)=false/\z.length<=sizeLine/\∀l,H l=none->Q (.ref l) (L2.upd H l (.tup [.str (Txt.partition z y).1,.str (Txt.partition z y).2.1,.str (Txt.partition z y).2.2]))):=by
 intro pins s U H x xs v us Q I rx rs q;obtain⟨z,y,rfl,rfl,hy,hsz,q⟩:=q;obtain⟨t,rfl⟩:=(show ∃t,v=Value.str z t from rx);obtain⟨u',rfl,ru⟩:=vals1 rs;obtain⟨u,rfl⟩:=(show ∃t,u'=Value.str y t from ru);refine call_meets F.slot_str_partition (typeIs_str _ _ _) F.entry_str_partition (F.args_str_partition_2 _ _) (meets_str_partition z y t u hy hsz) ?_;have hn:H s.heap.objs.size=none:=I.hok.fresh (Zi _);have fin:∀(a b c:Str) (ta tb tc:Tok) (k:Nat),(a,b,c)=Txt.partition z y->EP X pins U Q (.ref s.heap.objs.size) {s with toks:=k,heap:=s.heap.push {cls:= .type "tuple",data:= .seq [.str a ta,.str b tb,.str c tc].toArray}}:=λa b c ta tb tc k e=>by
  refine⟨.ref s.heap.objs.size,_,?_,rfl,q _ hn⟩;rw[← e];refine I.laid (t':=k) (λb o e=>Zd _ e) (Zi _) ⟨by simp only[Zs,List.length_nil];rw[sizeLine_eq];decide,[.str a ta,.str b tb,.str c tc],.cons ⟨_,rfl⟩ (.cons ⟨_,rfl⟩ (.cons ⟨_,rfl⟩ .nil)),?_⟩;exact⟨_,Zq s.heap rfl,rfl,0,rfl⟩
 unfold Txt.partition at fin;revert fin;cases Builtin.Str.occurrences z y 0 z.length 1 with
 | nil=>intro fin;exact fin _ _ _ _ _ _ _ rfl
 | cons i r=>intro fin;exact fin _ _ _ _ _ _ _ rfl
noncomputable def QnV(a b:D):Option D:=match a with
 | .str z=>match b with
  | .str y=>if(y.length == 0)=false/\z.length<=sizeLine then some (.tup [.str (Txt.partition z y).1,.str (Txt.partition z y).2.1,.str (Txt.partition z y).2.2])else none
  | _=>none
 | _=>none
section
variable {X:Cx}{o b:Expr}{fa:DE}{fs:DA}{apos cpos pos:Pos}{e:Expr}{es:List Expr}
def Qx3(ho:SE X o fa)(ha:SA X [b] fs)(hb:attributeBase o "partition" X.env (eval o X.env)=eval o X.env)(hl:(apos.endLine == cpos.line)=true)(hs:starEach [b] X.env=[(false,eval b X.env)]):
  SE X (.Call (.Attribute o "partition" apos) [b] [] cpos) (dM1 QnV fa fs):=
 QnM PySem.F.slot_str_partition PySem.F.type_str_partition Qzd (λa b d e=>by
  unfold QnV at e;split at e
  .split at e
   .split at e
    .rename_i hc;cases e;refine⟨_,rfl,λH0 H ρ F y G Q s r q=>⟨_,_,rfl,by rw[r.str_inv],hc.1,hc.2,λp hp=>q _ _ [] (.flat (s.trans (Qa0 hp)) (Rp.QiV Q4 ?_) rfl)⟩⟩;simp only[Rps];exact⟨_,_,[],[],rfl,rfl,.str_mk,_,_,[],[],rfl,rfl,.str_mk,_,_,[],[],rfl,rfl,.str_mk,rfl,rfl⟩
    .cases e
   .cases e
  .cases e) ho ha hb hl hs
noncomputable def Qv2(fa:DE):DE:=λρ=>(fa ρ).bind λr=>match r.d with
 | .int i=>if i.natAbs.log2<1920 then some ⟨.str (toString i),true,[]⟩else none
 | .str x=>if x.length<=sizeLine then some ⟨.str x,true,[]⟩else none
 | _=>none
def QCm(ha:SE X e fa):SE X (.FormattedValue e (-1) none pos) (Qv2 fa):=λH0 A0 pins s U H Q I=>exK λρ hs F r' rel h q=>by
 refine Qf h λra e1 h=>?_;refine FormattedValue_plain (thn (ha H0 A0 pins s U H (λx H1=>x=x/\∃G,QR X.K ρ F H H1 ra x G) I ⟨ρ,hs,F,ra,rel,e1,λx H1 G p=>⟨rfl,G,p⟩⟩) λu s1=>exJ λx H1 I1 r1 q1=>?_);obtain⟨_,G,p⟩:=q1;have rp:=p.rp;cases hd:ra.d with
 | int i=>
  rw[hd]at h rp;dsimp only at h;split at h
  .rename_i hz;cases h;rw[rp.int_inv]at r1;obtain⟨t,rfl⟩:=(show ∃t,u=Value.int i t from r1);exact formatField_int_small hz ⟨.str _,H1,I1.tok _,⟨_,rfl⟩,q _ H1 [] (.flat p.same .str_mk)⟩
  .cases h
 | str z=>
  rw[hd]at h rp;dsimp only at h;split at h
  .rename_i hz;cases h;rw[rp.str_inv]at r1;obtain⟨t,rfl⟩:=(show ∃t,u=Value.str z t from r1);exact formatField_str (λt' tk=>⟨.str _,H1,I1.tok _,⟨_,rfl⟩,q _ H1 [] (.flat p.same .str_mk)⟩) hz
  .cases h
 | _=>rw[hd]at h;cases h
noncomputable def QAF(out:Str)(ts:List Str):Str:=ts.foldl (· ++ ·) out
def dFs(fs:DA):DE:=λρ=>(fs ρ).bind λr=>(QgB r.ds).bind λts=>if(ts.map (·.length)).sum<=sizeLine then some ⟨.str (QAF Str.empty ts),true,[]⟩else none
def SJ(X:Cx)(es:List Expr)(fs:DA):Prop:=∀(H0:Hp) (A0:LAd) (out:Str) (pins:List (Addr×Obj)) (s:Shared) (U:L2.St) (H:Hp) (Q:VK) (ρ:En) (hs:List (V×D×List Addr)) (F:Nat->List Addr) (rs:RA) (ts:List Str),Inv X pins U H s->Rel X.K H0 A0 hs ρ F U H->fs ρ=some rs->QgB rs.ds=some ts->out.length+(ts.map (·.length)).sum<=sizeLine->(∀H',Qs H H'->Q (.str (QAF out ts)) H')→
 wpAny (model X.prog X.w) X.A (joinParts out (evalEach es X.env)) (EP X pins U Q) X.xe s
def Qz9:SJ X [] Qb:=λH0 A0 out pins s U H Q ρ hs F rs ts I rel e1 e2 hl q=>by
 cases e1;cases e2;exact joinParts_nilE (joinParts_nil ⟨.str _,H,I.tok _,⟨_,rfl⟩,q H (Qs.refl _)⟩ (by simpa using hl))
def Qyk(ha:SE X e fa)(hr:SJ X es fs):SJ X (e::es) (Qa fa fs):=λH0 A0 out pins s U H Q ρ hs F rs ts I rel e1 e2 hl q=>by
 refine Qf e1 λra ea e1=>?_;refine Qf e1 λrb eb e1=>?_;cases e1;have e2:QgB (ra.d::rb.ds)=some ts:=e2;cases hd:ra.d with
 | str y=>
  rw[hd]at e2;obtain⟨ts',e3,rfl⟩:=Zb.mp (show(QgB rb.ds).map (λr=>y::r)=some ts from e2);simp only[Zz,ZaC]at hl;refine joinParts_consE (joinParts_cons (thn (ha H0 A0 pins s U H (λx H1=>x= .str y/\Qs H H1) I ⟨ρ,hs,F,ra,rel,ea,λx H1 G p=>⟨by have rp:=p.rp;rw[hd]at rp;exact rp.str_inv,p.same⟩⟩) λu s1=>exJ λx H1 I1 r1 q1=>?_));obtain⟨rfl,sm⟩:=q1;obtain⟨t,rfl⟩:=(show ∃t,u=Value.str y t from r1);have hl1:(out++y).length=out.length+y.length:=Str.length_append out y;refine⟨by rw[hl1];lia,?_⟩;exact hr H0 A0 (out++y) pins s1 U H1 Q ρ hs F rb ts' I1 (rel.ext sm) eb e3 (by rw[hl1];lia) λH' s'=>q H' (sm.trans s')
 | _=>rw[hd]at e2;cases e2
def QDt{e':Expr}(h:SJ X (e::e'::es) fs):SE X (.JoinedStr (e::e'::es) pos) (dFs fs):=λH0 A0 pins s U H Q I=>exK λρ hs F r' rel e q=>by
 refine Qf e λra e1 e=>?_;refine Qf e λts e2 e=>?_;split at e
 .rename_i hz;cases e;exact JoinedStr_many (h H0 A0 Str.empty pins s U H Q ρ hs F ra ts I rel e1 e2 (by show 0+_<=_;lia) λH' sm=>q _ H' [] (.flat sm .str_mk))
 .cases e
end
section
variable {X:Cx}{e:Expr}{es:List Expr}{fs:DA}{pos:Pos}
def QxI{p:Pos}(hcl:X.calm=true)(hg:Gl X "list")(hm:X.mg "list" =none)(ha:SA X (e::es) fs)(he:starEach (e::es) X.env=(false,eval e X.env)::starEach es X.env)(hpl:(backTo pos (starEach es X.env)).any (·.1)=false):
    SE X (.Call (.Name "list" p) (e::es) [] pos) (dList fs):=λH0 A0=>
 (QmW Qof hg hm Zbl (ha H0 A0) ∅ ∅ he hpl).mono λU H Q=>exK λρ hs F r' rel e q=>by
    refine Qf e λra e1 e=>?_;refine⟨ρ,hs,F,ra,rel,e1,λvs H1 G p1=>?_⟩;have rp:=p1.rp;have src:=p1.src;split at e
    · rename_i xs hds
      cases e;rw[hds]at rp;obtain⟨v,rfl,rq⟩:=rp.one;obtain⟨l,ws,L,rfl,hl,rl,zl,el⟩:=rq.lst_inv;refine⟨l,ws,rfl,.inl (QU hl),λc hc=>q _ _ (c::L) (QR.Qbh p1.same hc rl zl (λz hz=>src z ?_) p1.own)⟩;rcases el with rfl | rfl
      · exact Zc _ hz
      · exact hz
    · rename_i xs hds
      split at e
      · rename_i hz
        cases e;rw[hds]at rp;obtain⟨v,rfl,rq⟩:=rp.one;obtain⟨l,ws,rfl,hl,rl⟩:=rq.Qax;exact⟨l,ws,rfl,.inr hl,λc hc=>q _ _ (c::G) (QR.Qbh p1.same hc rl hz src p1.own)⟩
      · cases e
    · cases e
end
end HS
namespace HS
open PySem L2
end HS
namespace HS
open PySem
section
variable {t:SetTable}
end
section
variable {mask:Nat}{owner:Array (Option Nat)}
end
end HS
namespace HS
open PySem L2 PyProof.Rows
section
variable {prog:Program}{w:World}{A:Around}{E:Value->Shared->Prop}{s:Shared}
end
section
variable {prog:Program}{w:World}{A:Around}{R:Result->Shared->Prop}{I:Addr}{fp wr:LAd}{G:Array GenState->Array GenState->Prop}{n:Nat}{P:Nat->Value->Prop}{St:Nat->Shared->Prop}
end
section
variable {prog:Program}{w:World}{A:Around}{E:Value->Shared->Prop}{s:Shared}
end
section
variable {prog:Program}{w:World}
end
section
variable {prog:Program}{w:World}{A:Around}{E:Value->Shared->Prop}{s:Shared}
end
section
variable {prog:Program}{w:World}{A:Around}{E:Value->Shared->Prop}{s:Shared}
end
section
variable {prog:Program}{w:World}{A:Around}{E:Value->Shared->Prop}{s:Shared}
end
end HS
namespace HS
open PySem PySem.Spec L2 PyProof.Rows
section
variable {X:Cx}{a:Expr}{fa:DE}{pos:Pos}
end
end HS
namespace HS
open PySem PyProof.Rows PySem.W
section
variable {ω:WdS}{lt:Keyed->Keyed->Bool}{P:Keyed->Prop}{α β:Type}{st:SortSt}{Q:α->SortSt->Prop}
end
section
variable {ω:WdS}{lt:Keyed->Keyed->Bool}{P:Keyed->Prop}
end
section
variable {lt:Keyed->Keyed->Bool}{T o X Y:List Keyed}
end
section
variable {ω:WdS}{lt:Keyed->Keyed->Bool}{P:Keyed->Prop}{T:List Keyed}{a b out:Array Keyed}{ia ib:Nat}
end
section
variable {ω:WdS}{lt:Keyed->Keyed->Bool}{P:Keyed->Prop}{T:List Keyed}{a b out:Array Keyed}{na nb:Nat}
end
section
variable {ω:WdS}{lt:Keyed->Keyed->Bool}{P:Keyed->Prop}
end
section
variable {ω:WdS}{lt:Keyed->Keyed->Bool}{P:Keyed->Prop}
end
section
variable {ω:WdS}{lt:Keyed->Keyed->Bool}{P:Keyed->Prop}
end
section
variable {lt:Keyed->Keyed->Bool}
end
section
variable {ω:WdS}{lt:Keyed->Keyed->Bool}{P:Keyed->Prop}
end
section
variable {ω:WdS}{lt:Keyed->Keyed->Bool}{P:Keyed->Prop}
end
end HS
namespace HS
open PySem PyProof.Rows
section
open PySem.SeqAt
open PySem.AutoSeq1 (wpAny_loadPart')
open PySem.MeetsSeq PySem.MeetsSeq2 PySem.MeetsSeq3
end
section
variable {prog:Program}{w:World}{A:Around}{E:Value->Shared->Prop}{s:Shared}
end
end HS
namespace HS
open PySem PyProof.Rows PySem.W
section
variable {prog:Program}{w:World}{A:Around}{E:Value->Shared->Prop}{s:Shared}
end
end HS
namespace HS
open PySem PyProof.Rows L2
section
variable {prog:Program}{w:World}{A:Around}{E:Value->Shared->Prop}{s:Shared}
end
section
variable {X:Cx}
end
section
variable {K:Fgg}{H:Hp}
end
section
variable {X:Cx}
end
end HS
namespace HS
open PySem PySem.Spec PyProof.Rows L2
section
variable {X:Cx}{a b c:Expr}{fa fb fc:DE}{pos:Pos}
end
end HS
namespace HS
open PySem PySem.Spec L2
abbrev Cn:=Int ⊕ Str
noncomputable def cnD:Cn->D
 | .inl i=> .int i
 | .inr x=> .str x
noncomputable def cnV:Cn->Tok->Value
 | .inl i,t=> .int i t
 | .inr x,t=> .str x t
structure FnR where
 n:Nat
 dfl:List D
 den:Den
structure Th where
 N:List Str
 sc:List (Str×NameKind)
 Γ:List (Str×FnR)
 cs:List (Str×Cn)
 tr:Stmt->Option DS:=λ_=>none
 te:Expr->Option DE:=λ_=>none
 tt:Expr->Option DT:=λ_=>none
noncomputable def posOf(x:Str):List Str->Option Nat
 | []=>none
 | y::ys=>if x=y then some 0 else(posOf x ys).map (· +1)
def Qgq:∀{x:Str}{ys:List Str}{i:Nat},posOf x ys=some i->ys[i]? =some x
 | x,[],i,h=>by cases h
 | x,y::ys,i,h=>by
  unfold posOf at h;split at h
  .rename_i e;cases h;subst e;rfl
  .obtain⟨j,hj,rfl⟩:=Zb.mp h;simpa using Qgq hj
noncomputable def look{α:Type}(x:Str):List (Str×α)->Option α
 | []=>none
 | (y,a)::r=>if x=y then some a else look x r
def Qbc{α:Type}:∀{x:Str}{l:List (Str×α)},look x l=l.lookup x
 | x,[]=>rfl
 | x,(y,a)::r=>by
  unfold look;rw[Zv];by_cases h:x=y
  .subst h;simp
  .rw[if_neg h,Qbc];have:(x == y)=false:=by simpa using h
   rw[this]
noncomputable def Qxi:NameKind->Bool
 | .local =>true | .cell=>true | .free=>true | _=>false
noncomputable def QwV:NameKind->Bool
 | .local =>true | .cell=>true | _=>false
noncomputable def QE8:NameKind->Bool
 | .globalImplicit=>true | _=>false
noncomputable def isFree:NameKind->Bool
 | .free=>true | _=>false
noncomputable def odd(x:Str):Bool:=decide (x= "__debug__") || decide (x= "__classdict__") || decide (x= "__name__")
def Th.slot(Θ:Th)(x:Str):Option Nat:=if((look x Θ.sc).map Qxi).getD false && !odd x then posOf x Θ.N else none
def Th.QbW(Θ:Th)(x:Str):Option Nat:=if((look x Θ.sc).map QwV).getD false && !odd x then posOf x Θ.N else none
def Th.gl(Θ:Th)(x:Str):Bool:=((look x Θ.sc).map QE8).getD false && !odd x
def QyP(X:Cx)(x:Str)(r:FnR):Prop:=∃k f fd ps,Qag X.prog X.w X.K X.mg X.base CX0 k f fd ps (spV X.K r.n r.den)/\Q3 k X.A/\X.mg x=some (.ref f)/\PySem.W.keepIn X.K (.ref f)=true∧
 ∀m,m<=r.dfl.length->∃ds dvs,Binds X.K fd ps ds/\Qt dvs ds/\∀H,Rps X.K H (r.dfl.drop (r.dfl.length-m)) dvs []
noncomputable def Qol:List Str:=["range","enumerate","zip","len","list","min","max","sum","abs","isinstance","int","bool","tuple","str","divmod","sorted","any","all","set"]
structure CtxB (X:Cx) (Θ:Th):Prop where
 N:X.N=Θ.N
 nd:Θ.N.Nodup
 lc:∀x,look x Θ.sc=some .local ->X.env.scope.names.lookup x=some .local
 ce:∀x,look x Θ.sc=some .cell->X.env.scope.names.lookup x=some .cell/\X.fn x=true
 fe:∀x,look x Θ.sc=some .free->X.env.scope.names.lookup x=some .cell∨X.env.scope.names.lookup x=some .free
 gl:∀x,look x Θ.sc=some .globalImplicit->X.env.scope.names.lookup x=some .globalImplicit
 units:X.A.units+64<cLine
 mg:∀x∈Qol,X.mg x=none
 cs:∀x i,look x Θ.cs=some i->∃t,X.mg x=some (cnV i t)
structure Qr (X:Cx) (Θ:Th):Prop extends CtxB X Θ where
 calm:X.calm=true
 pass:PassesOwn (model X.prog X.w) X.A X.env X.xe
 fns:∀x r,look x Θ.Γ=some r->QyP X x r
 tr:∀st f,Θ.tr st=some f->S1 X st f
 te:∀e f,Θ.te e=some f->SE X e f
 tt:∀e f,Θ.tt e=some f->ST X e f
section
def Qqv(h:odd x=false):(x == ("__debug__" :Str))=false/\(x == ("__classdict__" :Str))=false/\x≠ "__name__" :=by
 unfold odd at h;simp only[ZaM,decide_eq_false_iff_not]at h;exact⟨by simpa using h.1.1,by simpa using h.1.2,h.2⟩
def Qdo(ok:CtxB X Θ)(h:Θ.slot x=some i):PE X (.Name x pos) (Qdz i):=by
 unfold Th.slot at h;split at h
 .rename_i hc;simp only[Zh,ZF]at hc;obtain⟨h1,h2,_⟩:=Qqv hc.2;refine QBQ (by rw[ok.N];exact Qgq h) ?_ h1 h2;cases q:look x Θ.sc with
  | none=>rw[q]at hc;cases hc.1
  | some k=>
   rw[q]at hc;cases k with
   | «local» =>exact .inl (ok.lc x q)
   | cell=>exact .inr (.inl (ok.ce x q).1)
   | free=>exact .inr (ok.fe x q)
   | _=>cases hc.1
 .cases h
def Qco(ok:CtxB X Θ)(h:Θ.QbW x=some i):X.N[i]? =some x/\Loc X.env.scope x/\(X.fn x=true∨X.env.scope.names.lookup x=some .local):=by
 unfold Th.QbW at h;split at h
 .rename_i hc;simp only[Zh,ZF]at hc;refine⟨by rw[ok.N];exact Qgq h,?_⟩;cases q:look x Θ.sc with
  | none=>rw[q]at hc;cases hc.1
  | some k=>
   rw[q]at hc;cases k with
   | «local» =>exact⟨.inl (ok.lc x q),.inr (ok.lc x q)⟩
   | cell=>exact⟨.inr (ok.ce x q).1,.inl (ok.ce x q).2⟩
   | _=>cases hc.1
 .cases h
def Qb1(ok:CtxB X Θ)(h:Θ.gl x=true):Gl X x/\(x == ("__debug__" :Str))=false/\x≠ "__name__" :=by
 unfold Th.gl at h;simp only[Zh,ZF]at h;obtain⟨h1,h2,h3⟩:=Qqv h.2;refine⟨?_,h1,h3⟩;cases q:look x Θ.sc with
 | none=>rw[q]at h;cases h.1
 | some k=>
  rw[q]at h;cases k with
  | globalImplicit=>exact ok.gl x q
  | _=>cases h.1
end
noncomputable def isTup:Expr->Bool
 | .Tuple .. =>true
 | _=>false
noncomputable def Q6:Expr->Option Str
 | .Name x _=>some x
 | _=>none
def QhA(Θ:Th):Expr->Option Tg
 | .Name x _=>(Θ.QbW x).map .nm
 | .Tuple es _ _=>((es.mapM Q6).bind λxs=>xs.mapM Θ.QbW).map .tp
 | _=>none
def Qpy:CmpOp->Option (D->D->Option D)
 | .Eq=>some gEq | .NotEq=>some gNe | .Lt=>some gLt | .LtE=>some gLe | .Gt=>some gGt | .GtE=>some gGe
 | .Is=>some (Qfe false) | .IsNot=>some (Qfe true)
 | .In=>some (gIn false) | .NotIn=>some (gIn true)
noncomputable def QuX(x:Str):Option String:=
 if x= "int" then some "int" else if x= "bool" then some "bool" else if x= "list" then some "list" else if x= "tuple" then some "tuple" else if x= "str" then some "str" else none
def inner(Θ:Th)(scope:Scope):Th:={N:=(scope.names.filter λy=>Qxi y.2).map (·.1),sc:=scope.names,Γ:=Θ.Γ,cs:=Θ.cs}
def Qgl(Θ:Th)(scope:Scope):List (Option Nat):=(inner Θ scope).N.map λx=>if((look x scope.names).map isFree).getD false then posOf x Θ.N else none
def Qg6(Θ:Th)(scope:Scope)(t:Tg):Bool:=(scope.kind == .function) && decide (inner Θ scope).N.Nodup &&
 (scope.names.all λy=>match y.2 with
  | .cell=>decide (look y.1 scope.names=some .cell)
  | .local =>decide (look y.1 scope.names=some .local)
  | .free=>match look y.1 Θ.sc with
   | some .cell=>true
   | some .free=>true
   | _=>false
  | _=>true) &&
 t.slots.all λj=>match (Qgl Θ scope)[j]? with
  | some (some _)=>false
  | _=>true
def Qko(Θ:Th)(x:Str)(a:Expr):Option Expr:=match a with
 | .Call (.Name y _) [b] [] _=>if x= "list" /\y= "range" /\Θ.gl y=true/\(look y Θ.Γ).isNone=true then some b else none
 | _=>none
noncomputable def Qru:List Expr->Bool
 | []=>true | [_]=>true | _=>false
def bf1(x:Str)(fa:DE):Option DE:=
 if x= "len" then some (dBf QX (Qa fa Qb))else
 if x= "list" then some (dList (Qa fa Qb))else
 if x= "min" then some (dBf QeX (Qa fa Qb))else
 if x= "sum" then some (dBf QeL (Qa fa Qb))else
 if x= "int" then some (dBf Qpo (Qa fa Qb))else
 if x= "str" then some (dBf QgJ (Qa fa Qb))else
 if x= "all" then some (dBf Qjq (Qa fa Qb))else
 if x= "any" then some (dBf QcU (Qa fa Qb))else
 none
def bf2(x:Str)(fa fb:DE):Option DE:=
 if x= "min" then some (dBf Qb8 (Qa fa (Qa fb Qb)))else
 if x= "max" then some (dBf Qcc (Qa fa (Qa fb Qb)))else
 none
noncomputable def Qhe:Expr->Bool
 | .Name .. =>true
 | .Constant .. =>true
 | _=>false
def tm1(m:Str)(fa fb:DE):Option DE:=
 if m= "split" then some (dM1 QmI fa (Qa fb Qb))else
 if m= "join" then some (dM1 QrH fa (Qa fb Qb))else
 if m= "startswith" then some (dM1 gSw fa (Qa fb Qb))else
 if m= "partition" then some (dM1 QnV fa (Qa fb Qb))else
 none
mutual
noncomputable def Qp(n:Nat)(Θ:Th)(e:Expr):Option DE:=match n with
 | 0=>none
 | n+1=>match e with
  | .Name x _=>match Θ.slot x with
   | some i=>some (Qn i)
   | none=>if Θ.gl x then(look x Θ.cs).map λi=>dC (cnD i)else none
  | .Constant (.int i) _ _=>some (dC (.int i))
  | .Constant (.bool b) _ _=>some (dC (.bl b))
  | .Constant .none _ _=>some (dC .non)
  | .Constant (.str x) _ _=>some (dC (.str x))
  | .BinOp a op b _=>(Qp n Θ a).bind λfa=>(Qp n Θ b).bind λfb=>match op with
   | .Add=>some (QC fa fb)
   | .Mult=>some (Qbq fa fb)
   | .Sub=>some (dOp QdB fa fb)
   | .FloorDiv=>some (dOp QCe fa fb)
   | .Mod=>some (dOp Qc8 fa fb)
   | .Pow=>some (dOp QwA fa fb)
   | .RShift=>some (dOp QoL fa fb)
   | .BitAnd=>some (dOp Qpc fa fb)
   | _=>none
  | .UnaryOp .USub a _=>(Qp n Θ a).map Qi4
  | .UnaryOp .Not a _=>(Qp n Θ a).map Qv8
  | .BoolOp .And [a] _=>Qp n Θ a
  | .BoolOp .And (a::b::r) p=>(Qp n Θ a).bind λfa=>(Qp n Θ (.BoolOp .And (b::r) p)).map λfb=>Ql5 fa fb
  | .BoolOp .Or [a] _=>Qp n Θ a
  | .BoolOp .Or (a::b::r) p=>(Qp n Θ a).bind λfa=>(Qp n Θ (.BoolOp .Or (b::r) p)).map λfb=>dOr fa fb
  | .Compare a [op] [b] _=>(Qp n Θ a).bind λfa=>(Qp n Θ b).bind λfb=>(Qpy op).map λg=>dOp g fa fb
  | .IfExp c a b _=>(Qa3 n Θ c).bind λg=>(Qp n Θ a).bind λfa=>(Qp n Θ b).map λfb=>dIf g fa fb
  | .Tuple es _ _=>(QaM n Θ es).map Q7
  | .List es _=>(QaM n Θ es).map QI
  | .Dict ks vs p=>match Θ.te (.Dict ks vs p)with
   | some f=>some f
   | none=>
    none
  | .Subscript a (.Slice lo hi none _) _=>(Qp n Θ a).bind λfa=>(QkW n Θ lo).bind λfl=>(QkW n Θ hi).map λfh=>Qa5 fa fl fh
  | .Subscript a b p=>match Θ.te (.Subscript a b p)with
   | some f=>some f
   | none=>(Qp n Θ a).bind λfa=>(Qp n Θ b).map λfb=>Qj fa fb
  | .Attribute o m p=>Θ.te (.Attribute o m p)
  | .Call (.Name x p) args [] q=>if Θ.gl x then(match look x Θ.Γ with
    | some r=>if r.n<=args.length+r.dfl.length/\args.length<=r.n then(QaM n Θ args).map λfs=>Ql r.n r.den (r.dfl.drop (r.dfl.length-(r.n-args.length))) fs else none
    | none=>match Θ.te (.Call (.Name x p) args [] q)with
     | some f=>some f
     | none=>QnK n Θ x args)else none
  | .Call (.Attribute o m apos) [b] [] cpos=>if Qhe o=true/\(apos.endLine == cpos.line)=true then(Qp n Θ o).bind λfo=>(Qp n Θ b).bind λfb=>tm1 m fo fb else none
  | .Call (.Attribute o m apos) (a::b::as) [] cpos=>Θ.te (.Call (.Attribute o m apos) (a::b::as) [] cpos)
  | .FormattedValue v c none _=>if c= -1 then(Qp n Θ v).map Qv2 else none
  | .JoinedStr (v::v'::es) _=>(QaM n Θ (v::v'::es)).map dFs
  | .ListComp elt [⟨tg,iter,ifs,0⟩] scope _=>(QhA (inner Θ scope) tg).bind λt=>if Qg6 Θ scope t && Qru ifs then
    (QgE n Θ tg iter).bind λfi=>(QeZ n (inner Θ scope) ifs).bind λft=>(Qp n (inner Θ scope) elt).map λfe=>Qw fi t (Qgl Θ scope) ft fe else none
  | _=>none
noncomputable def QnK(n:Nat)(Θ:Th)(x:Str)(args:List Expr):Option DE:=match n with
  | 0=>none
  | n+1=>match args with
    | [a]=>match Qko Θ x a with
     | some b=>(Qp n Θ b).map QhN
     | none=>
         (Qp n Θ a).bind λfa=>bf1 x fa
    | [a,b]=>if x= "isinstance" then(Qp n Θ a).bind λfa=>match b with
        | .Name y _=>if Θ.gl y then(QuX y).map λT=>Qkj T fa else none
        | _=>none
      else(Qp n Θ a).bind λfa=>(Qp n Θ b).bind λfb=>bf2 x fa fb
    | _=>none
noncomputable def Qa3(n:Nat)(Θ:Th)(e:Expr):Option DT:=match n with
 | 0=>none
 | n+1=>match e with
  | .UnaryOp .Not a _=>(Qa3 n Θ a).map QdN
  | .BoolOp .And [a] _=>Qa3 n Θ a
  | .BoolOp .And (a::b::r) p=>(Qa3 n Θ a).bind λfa=>(Qa3 n Θ (.BoolOp .And (b::r) p)).map λfb=>Qdf fa fb
  | .BoolOp .Or [a] _=>Qa3 n Θ a
  | .BoolOp .Or (a::b::r) p=>(Qa3 n Θ a).bind λfa=>(Qa3 n Θ (.BoolOp .Or (b::r) p)).map λfb=>bOr fa fb
  | .Compare a [op] [b] p=>match Θ.tt (.Compare a [op] [b] p)with
   | some f=>some f
   | none=>(Qp n Θ a).bind λfa=>(Qp n Θ b).bind λfb=>(Qpy op).map λg=>Qg (dOp g fa fb)
  | .BoolOp _ _ _=>none
  | .IfExp _ _ _ _=>none
  | .Compare _ _ _ _=>none
  | e=>(Qp n Θ e).map Qg
noncomputable def QeZ(n:Nat)(Θ:Th)(es:List Expr):Option DT:=match n with
 | 0=>none
 | n+1=>match es with
  | []=>some QO
  | [c]=>Qa3 n Θ c
  | _=>none
noncomputable def QaM(n:Nat)(Θ:Th)(es:List Expr):Option DA:=match n with
 | 0=>none
 | n+1=>match es with
  | []=>some Qb
  | e::es=>(Qp n Θ e).bind λfa=>(QaM n Θ es).map λfs=>Qa fa fs
noncomputable def QkW(n:Nat)(Θ:Th)(e:Option Expr):Option DO:=match n with
 | 0=>none
 | n+1=>match e with
  | none=>some QaR
  | some e=>(Qp n Θ e).map Qab
noncomputable def QgE(n:Nat)(Θ:Th)(tg e:Expr):Option DI:=match n with
 | 0=>none
 | n+1=>match e with
  | .Call (.Name x _) args [] _=>if Θ.gl x && (look x Θ.Γ).isNone then(match args with
    | [a]=>if x= "range" then(Qp n Θ a).map Qas else
     if x= "enumerate" then(if isTup tg then(Qp n Θ a).map Qdh else none)else
     (Qp n Θ e).map QH
    | [a,b,c]=>
     (Qp n Θ e).map QH
    | [a,b]=>
     if x= "range" then(Qp n Θ a).bind λfa=>(Qp n Θ b).map λfb=>QdW fa fb else
     if x= "zip" then(if isTup tg then(Qp n Θ a).bind λfa=>(Qp n Θ b).map λfb=>Qca fa fb else none)else
     (Qp n Θ e).map QH
    | _=>(Qp n Θ e).map QH)else(Qp n Θ e).map QH
  | e=>(Qp n Θ e).map QH
end
def QbY{α β γ:Type}{x:Option α}{y:α->Option β}{k:α->β->γ}{r:γ}(e:(x.bind λa=>(y a).map λb=>k a b)=some r):∃a b,x=some a/\y a=some b/\k a b=r:=by
 refine Qf e λa h1 e=>?_;obtain⟨b,h2,e⟩:=Zb.mp e;exact⟨a,b,h1,h2,e⟩
def bindR{α β γ:Type}{x:Option α}{y:α->Option β}{k:α->β->γ}{r:γ}{M:γ->Prop}(e:(x.bind λa=>(y a).map λb=>k a b)=some r)(g:∀a b,x=some a->y a=some b->M (k a b)):M r:=by
 obtain⟨a,b,h1,h2,rfl⟩:=QbY e;exact g a b h1 h2
def QaT(h:Qp n Θ e=some f)(es:List Expr)(env:Env):starEach (e::es) env=(false,eval e env)::starEach es env:=by
 cases n with
 | zero=>exact nn h
 | succ n=>cases e<;>first | rfl | (exact nn h)
def QjI:∀{n:Nat}{Θ:Th}{es:List Expr}{f:DA},QaM n Θ es=some f->∀(pos:Pos) (env:Env),(backTo pos (starEach es env)).any (·.1)=false
 | 0,_,_,_,h,_,_=>by simp[QaM]at h
 | n+1,_,[],_,h,_,_=>rfl
 | n+1,_,e::es,_,h,pos,env=>by
  simp only[QaM]at h;obtain⟨fa,fs,h1,h2,_⟩:=QbY h;rw[QaT h1];have:=QjI h2 pos env;simpa[backTo]using this
def QlX(h:Qp n Θ b=some f):Qhi b:=by
 cases n with
 | zero=>exact nn h
 | succ n=>cases b<;>first | (intro o i;rfl) | (exact nn h)
def QB1(h:Qp n Θ e=some f)(env:Env):∀x,foldedSetIterable e env x=pure x:=by
 cases n with
 | zero=>exact nn h
 | succ n=>cases e<;>first | (intro x;rfl) | (exact nn h)
def Qtc(h:Qp n Θ e=some f)(op:CmpOp):behindInMarks op e=false:=by
 cases n with
 | zero=>exact nn h
 | succ n=>cases e<;>first | rfl | (exact nn h)
def Qep{env:Env}:∀{names:List (Str×NameKind)}{x:Str},names.lookup x=some .cell→
  (names.map λ(n,k)=>if(k == NameKind.free && env.scope.kind == .function && env.kindOf n == some .cell)then(n,NameKind.cell)else(n,k)).lookup x=some .cell
 | [],_,h=>by simp at h
 | (n,k)::r,x,h=>by
  have ih:= @Qep env r x;rw[Zz];cases hx:x == n with
  | true=>
   simp only[Zv,hx]at h;cases h;dsimp only;split<;>simp[Zv,hx]
  | false=>
   simp only[Zv,hx]at h;dsimp only;split<;>(simp only[Zv,hx];exact ih h)
def QhJ{X:Cx}{Θ:Th}{scope:Scope}{t:Tg}(ok:Qr X Θ)(h:Qg6 Θ scope t=true):Qcw X (inner Θ scope).N scope/\Qgr X (inner Θ scope).N scope (Qgl Θ scope) t.slots/\∀cl C fp s3 H3,Qr (cxc X (inner Θ scope).N scope cl C fp s3 H3) (inner Θ scope):=by
 unfold Qg6 at h;simp only[Zh,decide_eq_true_eq]at h;obtain⟨⟨⟨h1,h2⟩,h3⟩,h4⟩:=h;have hk:scope.kind= .function:=by simpa using h1
 have each:∀y∈scope.names,(y.2= .cell->scope.names.lookup y.1=some .cell)/\(y.2= .local ->scope.names.lookup y.1=some .local)/\(y.2= .free->X.env.kindOf y.1=some .cell∨X.env.kindOf y.1=some .free):=λy hy=>by
  have:=ZU.mp h3 y hy;obtain⟨y,k⟩:=y;cases k with
  | cell=>exact⟨λ_=>(by rw[← Qbc];simpa using this),λz=>(by cases z),λz=>(by cases z)⟩
  | «local» =>exact⟨λz=>(by cases z),λ_=>by rw[← Qbc];simpa using this,λz=>by cases z⟩
  | free=>
   refine⟨λz=>(by cases z),λz=>(by cases z),λ_=>?_⟩;dsimp only at this;split at this
   .rename_i q;exact .inl (ok.ce _ q).1
   .rename_i q;exact ok.fe _ q
   .cases this
  | _=>exact⟨λz=>(by cases z),λz=>(by cases z),λz=>(by cases z)⟩
 have S:Qcw X (inner Θ scope).N scope:=⟨hk,λy hy=>(each y hy).1,λy hy=>(each y hy).2.1,λy hy=>(each y hy).2.2⟩
 refine⟨S,⟨by unfold Qgl;simp,λj i e=>?_,λj i e hj=>?_⟩,λcl C fp s3 H3=>⟨⟨rfl,h2,λx e=>?_,λx e=>?_,λx e=>?_,λx e=>?_,ok.units,ok.mg,ok.cs⟩,ok.calm,ZaR,ok.fns,λ_ _ e=>(nomatch e),λ_ _ e=>(nomatch e)
  ,λ_ _ e=>(nomatch e)
  ⟩⟩
 .unfold Qgl at e;rw[Zw]at e;cases q:(inner Θ scope).N[j]? with
  | none=>rw[q]at e;cases e
  | some x=>
   rw[q]at e;simp only[ZD,Option.some.injEq]at e;split at e
   .rename_i hf;cases hl:look x scope.names with
    | none=>rw[hl]at hf;cases hf
    | some k=>
     rw[hl]at hf;cases k with
     | free=>
      rw[Qbc]at hl;exact⟨x,rfl,hl,by rw[ok.N];exact Qgq e,(each (x,.free) (ZQ hl)).2.2 rfl⟩
     | _=>cases hf
   .cases e
 .have:=ZU.mp h4 j hj;rw[e]at this;cases this
 .have e':scope.names.lookup x=some .local :=by rw[← Qbc];exact e
  exact lookup_relabel_local e'
 .have e':scope.names.lookup x=some .cell:=by rw[← Qbc];exact e
  exact⟨Qep e',decide_eq_true e'⟩
 .have e':scope.names.lookup x=some .free:=by rw[← Qbc];exact e
  exact QcR e'
 .have e':scope.names.lookup x=some .globalImplicit:=by rw[← Qbc];exact e
  show(relabel scope X.env).names.lookup x=some .globalImplicit;unfold relabel
  have gen:∀{names:List (Str×NameKind)},names.lookup x=some .globalImplicit→
    (names.map λ(n,k)=>if(k == NameKind.free && X.env.scope.kind == .function && X.env.kindOf n == some .cell)then(n,NameKind.cell)else(n,k)).lookup x=some .globalImplicit:=by
   intro names
   induction names with
   | nil=>intro z;simp at z
   | cons y r ih=>
    intro z;obtain⟨n,k⟩:=y;rw[Zz];cases hx:x == n with
    | true=>
     simp only[Zv,hx]at z;cases z;simp[Zv,hx]
    | false=>
     simp only[Zv,hx]at z;dsimp only;split<;>(simp only[Zv,hx];exact ih z)
  exact gen e'
def Qjn(ok:Qr X Θ)(h:QhA Θ tg=some t):SG X tg t:=by
 have hN:X.N.Nodup:=by rw[ok.N];exact ok.nd
 cases tg with
 | Name x pos=>
  change Option.map _ _=_ at h;refine mapR h λi hi=>?_;obtain⟨h1,h2,h3⟩:=Qco ok.toCtxB hi;exact Qza (Qqt hN h1 h2 h3)
 | Tuple es k pos=>
  change Option.map _ _=_ at h;refine mapR h λis hi=>?_;refine Qf hi λxs h1 h2=>?_;have key:∀(es:List Expr) (xs:List Str) (is:List Nat),es.mapM Q6=some xs->xs.mapM Θ.QbW=some is->PGs X es (Qlp is)/\(assignEach es X.env).length=is.length/\(assignEach es X.env).findIdx? (·.1)=none:=by
   intro es
   induction es with
   | nil=>
    intro xs is h1 h2;cases h1;cases h2;exact⟨Qzp,rfl,rfl⟩
   | cons e es ih=>
    intro xs is h1 h2;rw[List.mapM_cons]at h1;refine Qf h1 λx hx h1=>?_;refine Qf h1 λys hy h1=>?_;cases h1;rw[List.mapM_cons]at h2;refine Qf h2 λi hi h2=>?_;refine Qf h2 λjs hj h2=>?_;cases h2;obtain⟨a1,a2,a3⟩:=ih ys js hy hj;cases e with
    | Name y p=>
     cases hx;obtain⟨g1,g2,g3⟩:=Qco ok.toCtxB hi;refine⟨QvD (Qqt hN g1 g2 g3) a1 rfl,?_,?_⟩
     .show(assignEach es X.env).length+1=_;rw[a2];rfl
     .show List.findIdx? (·.1) ((false,assign (.Name x p) X.env)::assignEach es X.env)=none;rw[List.findIdx?_cons];simp only[a3];rfl
    | _=>cases hx
  obtain⟨a1,a2,a3⟩:=key es xs is h1 h2;exact QA1 ok.calm a1 a2 a3
 | _=>exact nn h
def QrA{f:Int->Int->Bool}:∀a b d,gI (λi j=>some (.bl (f i j))) a b=some d->∃k,d= .bl k:=λa b d h=>by
 obtain⟨i,j,_,_,e⟩:=Qtn h;cases e;exact⟨_,rfl⟩
def QsB(ok:Qr X Θ)(h:Qpy op=some g):∃r,OpR X (compareOp op) r/\Qbw X.K g r/\∀a b d,g a b=some d->∃k,d= .bl k:=by
 cases op<;>cases h
 .exact⟨_,QAp ok.units,QDx,λa b d h=>by unfold gEq at h;split at h<;>cases h;exact⟨_,rfl⟩⟩
 .exact⟨_,QAB ok.units,QDE,λa b d h=>by unfold gNe at h;split at h<;>cases h;exact⟨_,rfl⟩⟩
 .exact⟨_,QC4,QDA,QrA⟩
 .exact⟨_,QDf,QDo,QrA⟩
 .exact⟨_,QC8,QDp,QrA⟩
 .exact⟨_,QD9,QDN,QrA⟩
 .exact⟨_,QB6.or QCl,QBO,Qq1⟩
 .exact⟨_,Qx5.or Qyv,Qtd,Qq1⟩
 .exact⟨_,Qz2 ok.units,QwQ,Quv⟩
 .exact⟨_,Qty ok.units,QwQ,Quv⟩
structure QkQ (n:Nat):Prop where
 E:∀X Θ e f,Qr X Θ->Qp n Θ e=some f->SE X e f
 B:∀X Θ x args f p pos,Qr X Θ->Θ.gl x=true->QnK n Θ x args=some f->SE X (.Call (.Name x p) args [] pos) f
 T:∀X Θ e f,Qr X Θ->Qa3 n Θ e=some f->ST X e f
 Ts:∀X Θ e f,Qr X Θ->QeZ n Θ e=some f->QhF X e f
 A:∀X Θ e f,Qr X Θ->QaM n Θ e=some f->SA X e f
 J:∀X Θ e f,Qr X Θ->QaM n Θ e=some f->SJ X e f
 O:∀X Θ e f,Qr X Θ->QkW n Θ e=some f->SO X e f
 I:∀X Θ tg e f,Qr X Θ->QgE n Θ tg e=some f->SI X tg e f/\∀x,foldedSetIterable e X.env x=pure x
def callArgs{X:Cx}{n:Nat}{Θ:Th}{es:List Expr}{fs:DA}(h:QaM n Θ es=some fs){e:Expr}{es':List Expr}(he:es=e::es')(pos:Pos):starEach (e::es') X.env=(false,eval e X.env)::starEach es' X.env/\(backTo pos (starEach es' X.env)).any (·.1)=false:=by
 subst he;cases n with
 | zero=>simp[QaM]at h
 | succ n=>
  simp only[QaM]at h;obtain⟨fa,fs',h1,h2,_⟩:=QbY h;exact⟨QaT h1 es' X.env,QjI h2 pos X.env⟩
def Qgp{X:Cx}{o:Expr}{m:Str}(h:Qhe o=true):attributeBase o m X.env (eval o X.env)=eval o X.env:=by
 cases o<;>first | rfl | cases h
def QBm{X:Cx}{o b:Expr}{m:Str}{fo fb f:DE}{apos pos:Pos}(h1:SE X o fo)(h2:SE X b fb)(ht:Qhe o=true)(hl:(apos.endLine == pos.line)=true)(hs:starEach [b] X.env=[(false,eval b X.env)])(h:tm1 m fo fb=some f):SE X (.Call (.Attribute o m apos) [b] [] pos) f:=by
 unfold tm1 at h;by_cases e:m= "split"
 .rw[if_pos e]at h;cases h;subst e;exact QCE h1 (Qdp h2 Qe9 hs) (Qgp ht) hl hs
 rw[if_neg e]at h;clear e;by_cases e:m= "join"
 .rw[if_pos e]at h;cases h;subst e;exact Qzj h1 (Qdp h2 Qe9 hs) (Qgp ht) hl hs
 rw[if_neg e]at h;clear e;by_cases e:m= "startswith"
 .rw[if_pos e]at h;cases h;subst e;exact QDV h1 (Qdp h2 Qe9 hs) (Qgp ht) hl hs
 rw[if_neg e]at h;clear e;by_cases e:m= "partition"
 .rw[if_pos e]at h;cases h;subst e;exact Qx3 h1 (Qdp h2 Qe9 hs) (Qgp ht) hl hs
 rw[if_neg e]at h;cases h
def QDM(ih:QkQ n):∀X Θ e f,Qr X Θ->Qp (n+1) Θ e=some f->SE X e f:=by
  intro X Θ e f ok h;cases e with
  | Name x pos=>
    (conv at h=>lhs;whnf)
    cases q:Θ.slot x with
    | some i=>rw[q]at h;cases h;exact Qpv (Qdo ok.toCtxB q)
    | none=>
      rw[q]at h;dsimp only at h;split at h
      · rename_i hg
        refine mapR h λi hi=>?_;obtain⟨g1,g2,g3⟩:=Qb1 ok.toCtxB hg;obtain⟨t,hm⟩:=ok.cs x i hi;cases i with
        | inl i=>exact Qky (v:= .int i) (QmC g1 hm ⟨t,rfl⟩ g2) (λ_ _=> .int_mk) rfl
        | inr i=>exact Qky (v:= .str i) (QmC g1 hm ⟨t,rfl⟩ g2) (λ_ _=> .str_mk) rfl
      · cases h
  | Constant c k pos=>
    cases c with
    | int i=>(conv at h=>lhs;whnf);cases h;exact Qky QAV (λ_ _=> .int_mk) rfl
    | bool b=>(conv at h=>lhs;whnf);cases h;exact Qky Qw2 (λ_ _=> .Qbf) rfl
    | none=>(conv at h=>lhs;whnf);cases h;exact Qky QAd (λ_ _=> .Qdd) rfl
    | str x=>(conv at h=>lhs;whnf);cases h;exact Qky QAC (λ_ _=> .str_mk) rfl
    | _=>exact nn h
  | BinOp a op b pos=>
    (conv at h=>lhs;whnf)
    refine Qf h λfa h1 h=>?_;refine Qf h λfb h2 h=>?_;have ha:=ih.E X Θ a fa ok h1;have hb:=ih.E X Θ b fb ok h2;cases op with
    | Add=>cases h;exact QsS ha hb
    | Mult=>cases h;exact QzQ ha hb
    | Sub=>cases h;exact Qjy QAl Qtl ha hb
    | FloorDiv=>cases h;exact Qjy QyE QBU ha hb
    | Mod=>cases h;exact Qjy Qyw QBn ha hb
    | Pow=>cases h;exact Qjy Qx7 QAs ha hb
    | RShift=>cases h;exact Qjy Qz5 QCc ha hb
    | BitAnd=>cases h;exact Qjy QBD QAu ha hb
    | _=>cases h
  | UnaryOp op a pos=>
    cases op with
    | USub=>
      (conv at h=>lhs;whnf)
      refine mapR h λfa h1=>?_;exact QAi (ih.E X Θ a fa ok h1)
    | Not=>
      (conv at h=>lhs;whnf)
      refine mapR h λfa h1=>?_;exact QsN (ih.E X Θ a fa ok h1)
    | _=>exact nn h
  | BoolOp op es pos=>
    cases op with
    | And=>
      match es,h with
      | [],h=>exact nn h
      | [a],h=>(conv at h=>lhs;whnf);exact Qox (ih.E X Θ a f ok h)
      | a::b::r,h=>
        (conv at h=>lhs;whnf)
        refine bindR h λfa fb h1 h2=>?_;exact Qua (ih.E X Θ a fa ok h1) (ih.E X Θ _ fb ok h2)
    | Or=>
      match es,h with
      | [],h=>exact nn h
      | [a],h=>(conv at h=>lhs;whnf);exact Qox (ih.E X Θ a f ok h)
      | a::b::r,h=>
        (conv at h=>lhs;whnf)
        refine bindR h λfa fb h1 h2=>?_;exact QDz (ih.E X Θ a fa ok h1) (ih.E X Θ _ fb ok h2)
  | Compare a ops bs pos=>
    match ops,bs,h with
    | [op],[b],h=>
      (conv at h=>lhs;whnf)
      refine Qf h λfa h1 h=>?_;refine bindR h λfb g h2 h3=>?_;obtain⟨r,o1,o2,_⟩:=QsB ok h3;exact QBc o1 o2 (ih.E X Θ a fa ok h1) (ih.E X Θ b fb ok h2) (Qtc h2 op)
    | [],_,h=>exact nn h
    | [_],[],h=>exact nn h
    | [_],_::_::_,h=>exact nn h
    | _::_::_,_,h=>exact nn h
  | IfExp c a b pos=>
    (conv at h=>lhs;whnf)
    refine Qf h λg h1 h=>?_;refine bindR h λfa fb h2 h3=>?_;exact QDd (ih.T X Θ c g ok h1) (ih.E X Θ a fa ok h2) (ih.E X Θ b fb ok h3)
  | Tuple es k pos=>
    (conv at h=>lhs;whnf)
    refine mapR h λfs h1=>?_;exact QBp (ih.A X Θ es fs ok h1)
  | List es pos=>
    (conv at h=>lhs;whnf)
    refine mapR h λfs h1=>?_;exact Qut (ih.A X Θ es fs ok h1)
  | Dict ks vs pos=>
    have h:(match Θ.te (.Dict ks vs pos)with | some f=>some f | none=>_)=some f:=h;split at h
    · rename_i g hg
      cases h;exact ok.te _ _ hg
    · cases h
  | Subscript a b pos=>
    by_cases hb:∃lo hi p2,b= .Slice lo hi none p2
    · obtain⟨lo,hi,p2,rfl⟩:=hb
      (conv at h=>lhs;whnf)
      refine Qf h λfa h1 h=>?_;refine bindR h λfl fh h2 h3=>?_;exact QAf (ih.E X Θ a fa ok h1) (ih.O X Θ lo fl ok h2) (ih.O X Θ hi fh ok h3)
    · have h':(match Θ.te (.Subscript a b pos)with | some f=>some f | none=>(Qp n Θ a).bind λfa=>(Qp n Θ b).map λfb=>Qj fa fb)=some f:=by
        cases b<;>first
          | (exact h)
          | (rename_i lo hi st p2;cases lo<;>cases hi<;>cases st<;>first | (exact absurd ⟨_,_,_,rfl⟩ hb) | (exact h))
      split at h'
      · rename_i g hg
        cases h';exact ok.te _ _ hg
      refine bindR h' λfa fb h1 h2=>?_;exact QB7 (ih.E X Θ a fa ok h1) (ih.E X Θ b fb ok h2) (QlX h2)
  | Call fn args kws pos=>
    cases fn with
    | Name x p=>
     cases kws with
     | cons k ks=>exact nn h
     | nil=>
      have h:(if Θ.gl x then(match look x Θ.Γ with | some r=>if r.n<=args.length+r.dfl.length/\args.length<=r.n then(QaM n Θ args).map λfs=>Ql r.n r.den (r.dfl.drop (r.dfl.length-(r.n-args.length))) fs else none | none=>match Θ.te (.Call (.Name x p) args [] pos)with | some f=>some f | none=>QnK n Θ x args)else none)=some f:=h;split at h
      · rename_i hg
        obtain⟨g1,g2,g3⟩:=Qb1 ok.toCtxB hg;split at h
        · rename_i r hr
          split at h
          · rename_i hn
            refine mapR h λfs h1=>?_;obtain⟨k,fa,fd,ps,F1,F2,F3,F4,F5⟩:=ok.fns x r hr;obtain⟨ds,dvs,b1,b2,b3⟩:=F5 (r.n-args.length) ⋯;cases args with
            | nil=>
              cases n with
              | zero=>simp[QaM]at h1
              | succ n=>
                simp only[QaM]at h1;cases h1;exact Qwa F1 F2 g1 F3 F4 b1 b2 b3 g2
            | cons e es=>
              obtain⟨s1,s2⟩:=callArgs (X:=X) h1 rfl pos;exact Qy0 F1 F2 g1 F3 F4 b1 b2 b3 (ih.A X Θ _ fs ok h1) g2 s1 s2
          · cases h
        · split at h
          · rename_i g hg2
            cases h;exact ok.te _ _ hg2
          · exact ih.B X Θ x args f p pos ok hg h
      · cases h
    | Attribute o m apos=>
      match args,kws,h with
      | [b],[],h=>
        have h:(if Qhe o=true/\(apos.endLine == pos.line)=true then(Qp n Θ o).bind λfo=>(Qp n Θ b).bind λfb=>tm1 m fo fb else none)=some f:=by
          cases o<;>exact h
        split at h
        · rename_i hc
          refine Qf h λfo h1 h=>?_;refine Qf h λfb h2 h=>?_;exact QBm (ih.E X Θ o fo ok h1) (ih.E X Θ b fb ok h2) hc.1 hc.2 (QaT h2 [] X.env) h
        · cases h
      | [],[],h=>
        exact nomatch (show(none:Option DE)=some _ from(by cases o<;>exact h))
      | _::_::_,[],h=>exact ok.te _ _ (by cases o<;>exact h)
      | [],_::_,h=>exact nomatch (show(none:Option DE)=some _ from(by cases o<;>exact h))
      | [_],_::_,h=>exact nomatch (show(none:Option DE)=some _ from(by cases o<;>exact h))
      | _::_::_,_::_,h=>exact nomatch (show(none:Option DE)=some _ from(by cases o<;>exact h))
    | _=>exact nn h
  | Attribute o m p=>exact ok.te _ _ h
  | FormattedValue v c sp pos=>
    cases sp with
    | some q=>exact nn h
    | none=>
      have h:(if c= -1 then(Qp n Θ v).map Qv2 else none)=some f:=h;split at h
      · rename_i hc
        subst hc;refine mapR h λfa h1=>?_;exact QCm (ih.E X Θ v fa ok h1)
      · cases h
  | JoinedStr es pos=>
    match es,h with
    | v::v'::es,h=>
      (conv at h=>lhs;whnf)
      refine mapR h λfs h1=>?_;exact QDt (ih.J X Θ _ fs ok h1)
    | [],h=>exact nn h
    | [_],h=>exact nn h
  | ListComp elt gens scope pos=>
    match gens,h with
    | [⟨tg,iter,ifs,k⟩],h=>
      by_cases hk:k=0
      · subst hk
        (conv at h=>lhs;whnf)
        refine Qf h λt ht h=>?_;split at h
        · rename_i hc
          simp only[Zh]at hc;refine Qf h λfi h1 h=>?_;refine bindR h λft fe h2 h3=>?_;obtain⟨S,cap,inn⟩:=QhJ ok hc.1;obtain⟨i1,i2⟩:=ih.I X Θ tg iter fi ok h1;exact Qx1 ok.calm S i1 cap (λcl C fp s3 H3=>⟨Qjn (inn cl C fp s3 H3) ht,ih.Ts _ _ ifs ft (inn cl C fp s3 H3) h2,ih.E _ _ elt fe (inn cl C fp s3 H3) h3⟩) i2
        · cases h
      · exfalso
        cases k with
        | ofNat k=>
          cases k with
          | zero=>exact hk rfl
          | succ k=>exact nn h
        | negSucc k=>exact nn h
    | [],h=>exact nn h
    | ⟨_,_,_,.ofNat 0⟩::_::_,h=>exact nn h
    | ⟨_,_,_,.ofNat (k+1)⟩::_::_,h=>exact nn h
    | ⟨_,_,_,.negSucc k⟩::_::_,h=>exact nn h
  | _=>exact nn h
def QAz(ok:Qr X Θ)(g1:Gl X x)(sa:SA X [a] (Qa fa Qb))(st:starEach [a] X.env=(false,eval a X.env)::starEach [] X.env)(h:bf1 x fa=some f):SE X (.Call (.Name x p) [a] [] pos) f:=by
 unfold bf1 at h;by_cases e:x= "len"
 .rw[if_pos e]at h;cases h;subst e;have hm:=ok.mg "len" nofun;exact QhI QtK QBK g1 hm PySem.boot_len sa ∅ ∅ st rfl
 rw[if_neg e]at h;clear e;by_cases e:x= "list"
 .rw[if_pos e]at h;cases h;subst e;have hm:=ok.mg "list" nofun;exact QxI ok.calm g1 hm sa st rfl
 rw[if_neg e]at h;clear e;by_cases e:x= "min"
 .rw[if_pos e]at h;cases h;subst e;have hm:=ok.mg "min" nofun;exact QhI (QtH ok.calm) Qzf g1 hm PyProof.Rows.boot_min sa ∅ ∅ st rfl
 rw[if_neg e]at h;clear e;by_cases e:x= "sum"
 .rw[if_pos e]at h;cases h;subst e;have hm:=ok.mg "sum" nofun;exact QhI (Qtx ok.calm) QyV g1 hm PyProof.Rows.boot_sum sa ∅ ∅ st rfl
 rw[if_neg e]at h;clear e;by_cases e:x= "int"
 .rw[if_pos e]at h;cases h;subst e;have hm:=ok.mg "int" nofun;exact Qur Qs8 QBY g1 hm PyProof.Rows.boot_int sa ∅ ∅ st rfl
 rw[if_neg e]at h;clear e;by_cases e:x= "str"
 .rw[if_pos e]at h;cases h;subst e;have hm:=ok.mg "str" nofun;exact Qur Qn4 QAG g1 hm PyProof.Rows.boot_str sa ∅ ∅ st rfl
 rw[if_neg e]at h;clear e;by_cases e:x= "all"
 .rw[if_pos e]at h;cases h;subst e;have hm:=ok.mg "all" nofun;exact QhI (Qt0 ok.calm) QyH g1 hm PyProof.Rows.boot_all sa ∅ ∅ st rfl
 rw[if_neg e]at h;clear e;by_cases e:x= "any"
 .rw[if_pos e]at h;cases h;subst e;have hm:=ok.mg "any" nofun;exact QhI (Qto ok.calm) Qyj g1 hm PyProof.Rows.boot_any sa ∅ ∅ st rfl
 rw[if_neg e]at h;clear e;cases h
def QBX(ok:Qr X Θ)(g1:Gl X x)(sa:SA X [a,b] (Qa fa (Qa fb Qb)))(st:starEach [a,b] X.env=(false,eval a X.env)::starEach [b] X.env)(pl:(backTo pos (starEach [b] X.env)).any (·.1)=false)(h:bf2 x fa fb=some f):SE X (.Call (.Name x p) [a,b] [] pos) f:=by
 unfold bf2 at h;by_cases e:x= "min"
 .rw[if_pos e]at h;cases h;subst e;have hm:=ok.mg "min" nofun;exact QhI (Qul ok.calm) QzK g1 hm PyProof.Rows.boot_min sa ∅ ∅ st pl
 rw[if_neg e]at h;clear e;by_cases e:x= "max"
 .rw[if_pos e]at h;cases h;subst e;have hm:=ok.mg "max" nofun;exact QhI (QtZ ok.calm) Qy4 g1 hm PyProof.Rows.boot_max sa ∅ ∅ st pl
 rw[if_neg e]at h;clear e;cases h
def QCR(ih:QkQ n):∀X Θ x args f p pos,Qr X Θ->Θ.gl x=true->QnK (n+1) Θ x args=some f->SE X (.Call (.Name x p) args [] pos) f:=by
 intro X Θ x args f p pos ok hg h;obtain⟨g1,g2,g3⟩:=Qb1 ok.toCtxB hg
 match args,h with
 | [],h=>exact nn h
 | [a],h=>
  change(match Qko Θ x a with | some b=>(Qp n Θ b).map QhN | none=>_)=some f at h;split at h
  .rename_i b hr;refine mapR h λfb h1=>?_;unfold Qko at hr;split at hr
   .rename_i y p' b' pos';split at hr
    .rename_i hc;cases hr;obtain⟨c1,c2,c3,_⟩:=hc;subst c1;subst c2;obtain⟨y1,y2,y3⟩:=Qb1 ok.toCtxB c3;exact Qx0 g1 (ok.mg _ nofun) y1 (ok.mg _ nofun) ok.calm (ih.E X Θ b fb ok h1) (QaT h1 [] X.env)
    .cases hr
   .cases hr
  change((Qp n Θ a).bind λfa=>bf1 x fa)=some f at h;refine Qf h λfa h1 h=>?_;have ha:=ih.E X Θ a fa ok h1;have st:=QaT h1 [] X.env;exact QAz ok g1 (Qdp ha Qe9 st) st h
 | [a,b],h=>
  change(if x= "isinstance" then(Qp n Θ a).bind λfa=>(match b with | .Name y _=>if Θ.gl y then(QuX y).map λT=>Qkj T fa else none | _=>none)else(Qp n Θ a).bind λfa=>(Qp n Θ b).bind λfb=>bf2 x fa fb)=some f at h;split at h
  .rename_i e;refine Qf h λfa h1 h=>?_;have ha:=ih.E X Θ a fa ok h1;split at h
   .rename_i y p2;split at h
    .rename_i hy;refine mapR h λT hT=>?_;obtain⟨y1,y2,y3⟩:=Qb1 ok.toCtxB hy;clear h;subst e;refine QzS g1 (ok.mg _ nofun) ha ?_ (QaT h1 _ X.env);unfold QuX at hT;split at hT
     .rename_i e;cases hT;subst e;exact Qhd y1 (ok.mg _ nofun) PyProof.Rows.boot_int rfl
     .split at hT
      .rename_i e;cases hT;subst e;exact Qhd y1 (ok.mg _ nofun) PyProof.Rows.boot_bool rfl
      .split at hT
       .rename_i e;cases hT;subst e;exact Qhd y1 (ok.mg _ nofun) Zbl rfl
       .split at hT
        .rename_i e;cases hT;subst e;exact Qhd y1 (ok.mg _ nofun) PyProof.Rows.boot_tuple rfl
        .split at hT
         .rename_i e;cases hT;subst e;exact Qhd y1 (ok.mg _ nofun) PyProof.Rows.boot_str rfl
         .cases hT
    .cases h
   .cases h
  .refine Qf h λfa h1 h=>?_;refine Qf h λfb h2 h=>?_;have ha:=ih.E X Θ a fa ok h1;have hb:=ih.E X Θ b fb ok h2;have sb:SA X [b] (Qa fb Qb):=Qdp hb Qe9 (QaT h2 [] X.env);have sa:SA X [a,b] (Qa fa (Qa fb Qb)):=Qdp ha sb (QaT h1 [b] X.env);have pl:(backTo pos (starEach [b] X.env)).any (·.1)=false:=by rw[QaT h2 [] X.env];rfl
   exact QBX ok g1 sa (QaT h1 [b] X.env) pl h
 | _::_::_::_,h=>exact nn h
def QDu{n:Nat}(ih:QkQ n):∀X Θ e f,Qr X Θ->Qa3 (n+1) Θ e=some f->ST X e f:=by
 intro X Θ e f ok h;have dflt:(Qp n Θ e).map Qg=some f->(∀whole,isTrue e X.env whole=(do let v ← whole;standAt e.pos;holding [v] (truthy v)))->ST X e f:=λh he=>by
  refine mapR h λfa h1=>?_;exact QAZ (ih.E X Θ e fa ok h1) he
 cases e with
 | UnaryOp op a pos=>
  cases op with
  | Not=>
   change(Qa3 n Θ a).map QdN=some f at h;refine mapR h λfa h1=>?_;exact QAm (ih.T X Θ a fa ok h1)
  | _=>exact dflt h λ_=>rfl
 | BoolOp op es pos=>
  cases op with
  | And=>
   match es,h with
   | [],h=>exact nn h
   | [a],h=>exact(QzG (ih.T X Θ a f ok h)).st
   | a::b::r,h=>
    change((Qa3 n Θ a).bind λfa=>(Qa3 n Θ (.BoolOp .And (b::r) pos)).map λfb=>Qdf fa fb)=some f at h;refine bindR h λfa fb h1 h2=>?_;have hb:=ih.T X Θ _ fb ok h2;exact(QBJ (ih.T X Θ a fa ok h1) (λH0 A0 wh pins s U H Q I q=>by have:=hb H0 A0 pins s U H Q I q;exact this)).st
  | Or=>
   match es,h with
   | [],h=>exact nn h
   | [a],h=>exact(QBG (ih.T X Θ a f ok h)).st
   | a::b::r,h=>
    change((Qa3 n Θ a).bind λfa=>(Qa3 n Θ (.BoolOp .Or (b::r) pos)).map λfb=>bOr fa fb)=some f at h;refine bindR h λfa fb h1 h2=>?_;have hb:=ih.T X Θ _ fb ok h2;exact(QCJ (ih.T X Θ a fa ok h1) (λH0 A0 wh pins s U H Q I q=>by have:=hb H0 A0 pins s U H Q I q;exact this)).st
 | Compare a ops bs pos=>
  match ops,bs,h with
  | [op],[b],h=>
   have h:(match Θ.tt (.Compare a [op] [b] pos)with | some f=>some f | none=>(Qp n Θ a).bind λfa=>(Qp n Θ b).bind λfb=>(Qpy op).map λg=>Qg (dOp g fa fb))=some f:=h;split at h
   .rename_i g hg;cases h;exact ok.tt _ _ hg
   change((Qp n Θ a).bind λfa=>(Qp n Θ b).bind λfb=>(Qpy op).map λg=>Qg (dOp g fa fb))=some f at h;refine Qf h λfa h1 h=>?_;refine bindR h λfb g h2 h3=>?_;obtain⟨r,o1,o2,o3⟩:=QsB ok h3;exact QzV o1 o2 o3 (ih.E X Θ a fa ok h1) (ih.E X Θ b fb ok h2) (Qtc h2 op)
  | [],_,h=>exact nn h
  | [_],[],h=>exact nn h
  | [_],_::_::_,h=>exact nn h
  | _::_::_,_,h=>exact nn h
 | IfExp c a b pos=>exact nn h
 | _=>exact dflt h λ_=>rfl
def QC6(ih:QkQ n):∀X Θ tg e f,Qr X Θ->QgE (n+1) Θ tg e=some f->SI X tg e f/\∀x,foldedSetIterable e X.env x=pure x:=by
 intro X Θ tg e f ok h;have dflt:(Qp n Θ e).map QH=some f->SI X tg e f/\∀x,foldedSetIterable e X.env x=pure x:=λh=>by
  obtain⟨fa,h1,rfl⟩:=Zb.mp h;exact⟨QB0 (ih.E X Θ e fa ok h1),QB1 h1 X.env⟩
 cases e with
 | Call fn args kws pos=>
  cases fn with
  | Name x p=>
   cases kws with
   | cons k ks=>exact dflt h
   | nil=>
    change @ite _ _ _ _ _=_ at h;split at h
    .rename_i hg;simp only[Zh]at hg;obtain⟨g1,g2,g3⟩:=Qb1 ok.toCtxB hg.1
     match args,h with
     | [],h=>exact dflt h
     | [a],h=>
      dsimp only at h;by_cases er:x= "range"
      .rw[if_pos er]at h;obtain⟨fa,h1,rfl⟩:=Zb.mp h;subst er;exact⟨Qtg g1 (ok.mg _ nofun) (ih.E X Θ a fa ok h1) (QaT h1 [] X.env),λ_=>rfl⟩
      rw[if_neg er]at h;by_cases ez:x= "enumerate"
      .rw[if_pos ez]at h;split at h
       .rename_i ht;obtain⟨fa,h1,rfl⟩:=Zb.mp h;subst ez;cases tg with
        | Tuple es k tp=>exact⟨QxT g1 (ok.mg _ nofun) (ih.E X Θ a fa ok h1) (QaT h1 [] X.env),λ_=>rfl⟩
        | _=>exact nomatch (show false=true from ht)
       .cases h
      rw[if_neg ez]at h;exact dflt h
     | [a,b],h=>
      dsimp only at h;by_cases er:x= "range"
      .rw[if_pos er]at h;obtain⟨fa,fb,h1,h2,rfl⟩:=QbY h;subst er;exact⟨Qt8 g1 (ok.mg _ nofun) (ih.E X Θ a fa ok h1) (ih.E X Θ b fb ok h2) (by rw[QaT h1 [b] X.env,QaT h2 [] X.env];rfl) (QaT h2 [] X.env),λ_=>rfl⟩
      rw[if_neg er]at h;by_cases ez:x= "zip"
      .rw[if_pos ez]at h;split at h
       .rename_i ht;obtain⟨fa,fb,h1,h2,rfl⟩:=QbY h;subst ez;cases tg with
        | Tuple es k tp=>exact⟨QBl g1 (ok.mg _ nofun) (ih.E X Θ a fa ok h1) (ih.E X Θ b fb ok h2) (by rw[QaT h1 [b] X.env,QaT h2 [] X.env];rfl) (QaT h2 [] X.env),λ_=>rfl⟩
        | _=>exact nomatch (show false=true from ht)
       .cases h
      rw[if_neg ez]at h;exact dflt h
     | [a,b,c],h=>
      dsimp only at h;exact dflt h
     | _::_::_::_::_,h=>exact dflt h
    .exact dflt h
  | _=>exact dflt h
 | _=>exact dflt h
def Q5:∀n,QkQ n
 | 0=>⟨λ_ _ _ _ _ h=>(nn h),λ_ _ _ _ _ _ _ _ _ h=>(nn h),λ_ _ _ _ _ h=>(nn h),λ_ _ _ _ _ h=>(nn h),λ_ _ _ _ _ h=>(nn h),
  λ_ _ _ _ _ h=>(nn h),
  λ_ _ _ _ _ h=>(nn h),λ_ _ _ _ _ _ h=>(nn h)⟩
 | n+1=>by
  have ih:=Q5 n
  refine⟨QDM ih,QCR ih,QDu ih,λX Θ e f ok h=>?_,λX Θ e f ok h=>?_,
   λX Θ e f ok h=>?_,
   λX Θ e f ok h=>?_,QC6 ih⟩
  .match e,h with
   | [],h=>simp only[QeZ]at h;cases h;exact QuH
   | [c],h=>simp only[QeZ]at h;exact Qvn (ih.T X Θ c f ok h)
   | _::_::_,h=>simp only[QeZ]at h;cases h
  .match e,h with
   | [],h=>simp only[QaM]at h;cases h;exact Qe9
   | e::es,h=>
    simp only[QaM]at h;refine bindR h λfa fs h1 h2=>?_;exact Qdp (ih.E X Θ e fa ok h1) (ih.A X Θ es fs ok h2) (QaT h1 es X.env)
  .match e,h with
   | [],h=>simp only[QaM]at h;cases h;exact Qz9
   | e::es,h=>
    simp only[QaM]at h;refine bindR h λfa fs h1 h2=>?_;exact Qyk (ih.E X Θ e fa ok h1) (ih.J X Θ es fs ok h2)
  .match e,h with
   | none,h=>simp only[QkW]at h;cases h;exact Qyf
   | some e,h=>
    simp only[QkW]at h;refine mapR h λfa h1=>?_;exact Qyy (ih.E X Θ e fa ok h1)
section
noncomputable def Qi:DS:=λ_=>none
def Qv7:S1 X st Qi:=λH0 A0=>Qvp.mono λE U H ⟨ρ,hs,F,o,rel,e,q⟩=>by cases e
def Qq7(hN:X.N.Nodup)(hx1:X.N[i]? =some x)(hx:Loc X.env.scope x)(hf:X.fn x=true∨X.env.scope.names.lookup x=some .local)
  (hcalm:X.calm=true) (S:Qcw X N' scope) (hi:SI X tg iter fi) (hcap:Qgr X N' scope cap t.slots)
  (hin:∀cl C fp s3 H3,SG (cxc X N' scope cl C fp s3 H3) tg t/\QhF (cxc X N' scope cl C fp s3 H3) ifs ft/\SE (cxc X N' scope cl C fp s3 H3) elt fe) (hs:∀x,foldedSetIterable iter X.env x=pure x):
  S1 X (.Assign [.Name x pos'] (.ListComp elt [⟨tg,iter,ifs,0⟩] scope pos) spos) (Qq i (Qw fi t cap ft fe)):=
 QkP λH0 A0=>(QzD hN hx1 hx hf hcalm S (hi H0 A0) (λcl C fp s3 H3=>⟨(hin cl C fp s3 H3).1 _ _,(hin cl C fp s3 H3).2.1 _ _,(hin cl C fp s3 H3).2.2 _ _⟩) hs).mono λE U H h=>Qm0 hcap h
end
end HS
namespace HS
open PySem PySem.Spec L2 PyProof.Rows
section
variable {X:Cx}{a b e:Expr}{fa fb:DE}{pf:DP}{x:Nat}{pos apos:Pos}
def Qxw{X:Cx}{H:Hp}{ds:List D}{w:V}{Gm:LAd}(h:Rp X.K H (.lst ds) w Gm):tyV X.K "list" w H:=by
 obtain⟨l,ws,L,rfl,hl,_⟩:=h.lst_inv;exact .inl ⟨rfl,ws,QU hl⟩
def QR.unit{K:Fgg}{ρ:En}{F:Nat->List Addr}{H:Hp}:QR K ρ F H H ⟨.non,true,[]⟩ .non []:= .flat (Qs.refl _) .Qdd
def Qxy:MtM X "list.extend" (QnH X.K):=by
 intro pins s U H x vs v us Q I rx rv h;obtain⟨l,b,xs,zs,rfl,rfl,hH,hb,hz,q⟩:=h;cases rx;obtain⟨u,rfl,ru⟩:=rv.one;cases ru;obtain⟨z,its,n,r,hl,e⟩:=I.Qwp hH;obtain⟨z2,its2,n2,r2,hl2,e2⟩:=I.Qmf hb;have hsz:its.toArray.size+its2.toArray.size<=sizeLine:=by rw[Zu,Zu];lia
 have hlong:¬(!its.toArray.isEmpty && Builtin.List.listTooLong (its.toArray.size+its2.toArray.size))=true:=by
  rw[QpE hsz,Zbr];exact ZJ
 refine call_meets F.slot_list_extend ⟨_,e,rfl⟩ F.entry_list_extend (F.args_list_extend_2 _ _)
  (AutoSeq1.list_extend_list_list_0 l its.toArray n b its2.toArray n2 hlong (by rw[Zu];lia) ⋯) ⟨e,e2,?_⟩
 refine⟨.non,_,I.QBE (its':=its++its2) hH e ⋯ (r.append r2) ?_,rfl,q⟩;rw[Zl];lia
def Qu5{H0:Hp}{A0:LAd}{E:Ends}{U:L2.St}{H:Hp}:tS X.K H0 A0 (QmN x pf fa) E U H->QhC (tBM X.K "list" (QnH X.K) (tP X.K H0 A0 x pf) (QjO (tV X.K H0 A0 fa) QiP)) E U H:=exK λρ hs F o rel e q=>by
 unfold QmN at e;split at e
 .rename_i d hx;refine Qf e λis e2 e=>?_;refine Qf e λr0 e1 e=>?_;split at e
  .rename_i ds es hp hr;split at e
   .rename_i hc;simp only[Zh,decide_eq_true_eq]at hc;cases e;refine⟨ρ,hs,F,d,true,is,.lst ds,rel,hx,e2,hp,λv0 w H2 Gm s2 hv0 fo=>⟨Qxw fo.rp,ρ,hs,F,r0,rel.ext s2,e1,λvn H3 Gn p=>?_⟩⟩;have rel3:=(rel.ext s2).ext p.same;obtain⟨l,vsm,Gp,rfl,g1,g2,g3,g4,g5,g6,g7⟩:=rel3.write .unit rfl ZT hx ⋯ hv0 (fo.same p.same);have rn:=p.rp;rw[hr]at rn;obtain⟨b,zs,L,rfl,hb,rl,zl,el⟩:=rn.lst_inv;have eL:=rl.QbX hc.1;subst eL;have n1:=g2.length;have n2:=rl.length;refine⟨l,b,vsm,zs,rfl,rfl,g1,hb,⋯,?_⟩;obtain⟨F',rel'⟩:=g7 (ds++es) (vsm++zs) (Gp++[]) ((g2.upd g1 g4).append (rl.upd g1 ⋯)) (by rw[Zl];exact hc.2) (by rw[ZG,Qct,g3,Qh8 es hc.1];rfl) (λa=>by rw[ZG];lia);exact q _ _ F' rel'
   .cases e
  .cases e
 .cases e
end
noncomputable def QeE:Expr->Bool
 | .ListComp .. =>false
 | .SetComp .. =>false
 | .DictComp .. =>false
 | _=>true
def QdY(h:QeE e=true):swapsWith e t l env=pure false:=by
 cases e<;>first | rfl | cases h
def QeV(n:Nat)(Θ:Th)(e:Expr):Option (Nat×DP):=match n with
 | 0=>none
 | n+1=>match e with
  | .Name x _=>(Θ.slot x).map λi=>(i,Qau)
  | .Subscript a b _=>(QeV n Θ a).bind λq=>(Qp n Θ b).map λfb=>(q.1,QjP q.2 fb)
  | _=>none
def QhO:∀(n:Nat) (X:Cx) (Θ:Th) (e:Expr) (q:Nat×DP),Qr X Θ->QeV n Θ e=some q->SPa X e q.1 q.2/\attributeBase e=λ_ env w=>w
 | 0,_,_,_,_,_,h=>(nn h)
 | n+1,X,Θ,e,q,ok,h=>by
  cases e with
  | Name x pos=>
   change Option.map _ _=_ at h;obtain⟨i,hi,rfl⟩:=Zb.mp h;exact⟨QvL (Qdo ok.toCtxB hi),by funext a b c;rfl⟩
  | Subscript a b pos=>
   change Option.bind _ _=_ at h;obtain⟨q',fb,h1,h2,rfl⟩:=QbY h;exact⟨QxW (QhO n X Θ a q' ok h1).1 ((Q5 n).E X Θ b fb ok h2) (QlX h2),by funext a b c;rfl⟩
  | _=>exact nn h
noncomputable def Qjr:Expr->Bool
 | .Name .. =>true
 | .Subscript _ (.Slice ..) _=>false
 | .Subscript (.Call ..) _ _=>false
 | .Subscript .. =>true
 | _=>false
def Qu1:Operator->Option (D->D->Option D)
 | .Add=>some (gI λi j=>some (.int (i+j)))
 | .Sub=>some QdB
 | _=>none
def QAU(h:Qu1 op=some g):∃r,OpR X (inplaceOp op) r/\Qbw X.K g r:=by
 cases op<;>cases h
 .exact⟨_,QxE,QfI (λi j d e=>by cases e;rfl) λi j d e H Q q=>by cases e;exact⟨i,j,rfl,rfl,q _ λ_=> .int_mk⟩⟩
 .exact⟨_,Qyi,Qtl⟩
noncomputable def Qym:Expr->Bool
 | .Slice .. =>true
 | _=>false
def QkR(n:Nat)(Θ:Th)(o:Expr)(m:Str)(args:List Expr):Option DS:=match args with
  | []=>(QeV n Θ o).bind λq=>
    none
  | [e]=>if m= "append" then
     ((QeV n Θ o).bind λq=>(Qp n Θ e).map λfa=>QdA q.1 q.2 fa)
    else
    none
  | _=>none
def Qvd(ok:Qr X Θ)(h:QkR n Θ o m args=some f)(hl:(apos.endLine == cpos.line)=true):
  S1 X (.Expr (.Call (.Attribute o m apos) args [] cpos) pos) f:=by
 have base:∀{q:Nat×DP},QeV n Θ o=some q->SPa X o q.1 q.2/\attributeBase o m X.env (eval o X.env)=eval o X.env:=λ{q} h1=>by
  obtain⟨sp,ab⟩:=QhO n X Θ o _ ok h1;exact⟨sp,by rw[ab]⟩
 have app:∀{e:Expr}{f:DS},m= "append" ->((QeV n Θ o).bind λq=>(Qp n Θ e).map λfa=>QdA q.1 q.2 fa)=some f->S1 X (.Expr (.Call (.Attribute o m apos) [e] [] cpos) pos) f:=λ{e f} em h=>by
  obtain⟨q,fa,h1,h2,rfl⟩:=QbY h;obtain⟨sp,hb⟩:=base h1;subst em;have he:=(Q5 n).E X Θ e fa ok h2;have st:=QaT h2 [] X.env;have sa:∀H0 A0,PA X [e] (QjO (tV X.K H0 A0 fa) QiP):=λH0 A0=>Qa9 (he H0 A0) Qc0 st;exact λH0 A0=>(QgW (QnE Zbh PySem.F.slot_list_append PySem.F.type_list_append QiO (sp H0 A0) (sa H0 A0) hb (by rw[st];rfl) hl st rfl) rfl).mono λE U H q=>QuC q
 match args,h with
 | [],h=>
  unfold QkR at h;dsimp only at h;obtain⟨⟨x,pf⟩,h1,h⟩:=bind1 h;obtain⟨sp,hb⟩:=base h1;cases h
 | [e],h=>
  unfold QkR at h;dsimp only at h;by_cases em:m= "append"
  .rw[if_pos em]at h;exact app em h
  rw[if_neg em]at h;clear em;clear app;cases h
 | _::_::_,h=>exact nn h
end HS
namespace HS
open PySem PySem.Spec L2
section
variable {X:Cx}{K:Fgg}{H0 H H':Hp}{A0:LAd}{hs:List (V×D×List Addr)}{ρ:En}{F:Nat->List Addr}{U:L2.St}{st1 st2:Stmt}{sts:List Stmt}{g:DS}{gc:DT}{fe:DE}{w a b:Nat}
def Rel.QER(rel:Rel K H0 A0 hs ρ F U H){i:Nat}{v:V}(hi:∀d b,ρ[i]? ≠some (some (d,b))):Rel K H0 A0 hs ρ F (U.set i (some v)) H:=
 ⟨by rw[Zap];exact rel.len,λj d b e=>by
  have hj:i≠j:=λz=>by subst z;exact hi d b e
  rw[Zg hj];exact rel.val j d b e,rel.own,rel.src,rel.held,rel.same⟩
def Qro(w a b:Nat)(gc:DT)(fe:DE):DS:=λρ=>(gc ρ).bind λc=>if w<ρ.length/\w≠(if c=true then a else b)then QmN (if c=true then a else b) Qau fe (ρ.set w none)else none
def QCu{x:Nat}{Q:VK}(h:tP K H0 A0 x Qau U H Q)(hw:U[w]? =U[x]?):Qdz w U H Q:=by
 obtain⟨ρ,hs,F,d,b,is,dm,rel,hx,hp,hd,q⟩:=h;cases hp;cases hd;obtain⟨v,h1,h2⟩:=rel.val x d b hx;exact⟨v,by rw[hw];exact h1,q v v H (F x) (Qs.refl _) h1 ⟨rfl,rfl,rfl,h2⟩⟩
def Qr8{x:Nat}{o:Out}(h:QmN x Qau fe ρ=some o):(∃d,ρ[x]? =some (some (d,true)))/\∃ρ',o= .nx ρ':=by
 unfold QmN at h;split at h
 .rename_i d hx;refine⟨⟨d,hx⟩,?_⟩;refine Qf h λis _ h=>?_;refine Qf h λr _ h=>?_;split at h
  .split at h
   .cases h;exact⟨_,rfl⟩
   .cases h
  .cases h
 .cases h
def QBZ(p1:∀H0 A0,PS X st1 (QmL (tIf (tVT X.K H0 A0 gc) (Qdz a) (Qdz b)) (QgD w)))(p2:∀H0 A0,PS X st2 (QhC (tBM X.K "list" (QnH X.K) (Qdz w) (QjO (tV X.K H0 A0 fe) QiP))))(h:SS X sts g):
  SS X (st1::st2::sts) (Qc (Qro w a b gc fe) g):=λH0 A0=>
 (QhM (p1 H0 A0) (QhM (p2 H0 A0) (h H0 A0))).mono λE U H=>exK λρ hs F o rel e q=>by
 refine Qf e λo1 e1 e=>?_;refine Qf e1 λc ec e1=>?_;have e1:(if w<ρ.length/\w≠(if c=true then a else b)then QmN (if c=true then a else b) Qau fe (ρ.set w none)else none)=some o1:=e1;by_cases hw:w<ρ.length/\w≠(if c=true then a else b)
 case neg=>rw[if_neg hw]at e1;cases e1
 rw[if_pos hw]at e1;obtain⟨hwl,hwx⟩:=hw;refine⟨ρ,hs,F,c,rel,ec,λH1 s1=>?_⟩;have hr0:∀d b,(ρ.set w none)[w]? ≠some (some (d,b)):=λd b z=>by
  rw[Zo hwl]at z;cases z
 have rel0:=(rel.ext s1).weak (Qjf (ρ:=ρ) w);obtain⟨⟨d,hd⟩,ρ',rfl⟩:=Qr8 e1;obtain⟨v,hv,_⟩:=rel0.val _ d true hd;have rel1:=rel0.QER (i:=w) (v:=v) hr0;have key:Qdz (if c=true then a else b) U H1 λv' H'=>QgD w v' U H' λU' H'=>QhC (tBM X.K "list" (QnH X.K) (Qdz w) (QjO (tV X.K H0 A0 fe) QiP)) {E with nx:=tS X.K H0 A0 g E} U' H':=by
  refine⟨v,hv,?_⟩;have hUw:(U.set w (some v))[w]? =some (some v):=Zo (by rw[← rel.len];exact hwl);have hUx:(U.set w (some v))[if c=true then a else b]? =some (some v):=by rw[Zg hwx];exact hv
  show QhC _ _ (U.set w (some v)) H1;have:=Qu5 (X:=X) (H0:=H0) (A0:=A0) (E:={E with nx:=tS X.K H0 A0 g E}) (U:=U.set w (some v)) (H:=H1) (x:=if c=true then a else b) (pf:=Qau) (fa:=fe) ⟨ρ.set w none,hs,F,.nx ρ',rel1,e1,λU' H' F' rel'=>⟨ρ',hs,F',o,rel',e,q⟩⟩;exact QCu this (hUw.trans hUx.symm)
 cases c with
 | true=>exact key
 | false=>exact key
end
structure Alx where
 w:Str
 c:Expr
 a:Str
 b:Str
 e:Expr
 r:List Stmt
def QuI:Stmt->Option (Str×Expr)
 | .Assign ts e _=>match ts with
  | [t]=>(Q6 t).map λx=>(x,e)
  | _=>none
 | _=>none
def Qwt:Expr->Option (Expr×Str×Str)
 | .IfExp c a b _=>(Q6 a).bind λx=>(Q6 b).map λy=>(c,x,y)
 | _=>none
noncomputable def QCo:Expr->Option (Expr×Str×Pos)
 | .Attribute o m p=>some (o,m,p)
 | _=>none
def Qv9:Expr->Option (Str×Expr)
 | .Call f args kws cpos=>match args with
  | [e]=>match kws with
   | []=>(QCo f).bind λz=>if z.2.1= "extend" /\(z.2.2.endLine == cpos.line)=true then(Q6 z.1).map λw=>(w,e)else none
   | _=>none
  | _=>none
 | _=>none
noncomputable def QCd:Stmt->Option Expr
 | .Expr e _=>some e
 | _=>none
def Qr4:List Stmt->Option Alx
 | a::b::r=>(QuI a).bind λz=>(Qwt z.2).bind λy=>(QCd b).bind λf=>(Qv9 f).bind λu=>if u.1=z.1 then some ⟨z.1,y.1,y.2.1,y.2.2,u.2,r⟩else none
 | _=>none
def QeR{e:Expr}{x:Str}(h:Q6 e=some x):∃p,e= .Name x p:=by
 unfold Q6 at h;split at h
 .cases h;exact⟨_,rfl⟩
 .cases h
def Qvh{st:Stmt}{x:Str}{e:Expr}(h:QuI st=some (x,e)):∃p q,st= .Assign [.Name x p] e q:=by
 unfold QuI at h;split at h
 .split at h
  .obtain⟨y,hy,h⟩:=Zb.mp h;cases h;obtain⟨p,rfl⟩:=QeR hy;exact⟨p,_,rfl⟩
  .cases h
 .cases h
def QvI{e c:Expr}{x y:Str}(h:Qwt e=some (c,x,y)):∃p q r,e= .IfExp c (.Name x p) (.Name y q) r:=by
 unfold Qwt at h;split at h
 .refine Qf h λx' h1 h=>?_;obtain⟨y',h2,h⟩:=Zb.mp h;cases h;obtain⟨p,rfl⟩:=QeR h1;obtain⟨q,rfl⟩:=QeR h2;exact⟨p,q,_,rfl⟩
 .cases h
def Qwz{f e:Expr}{w:Str}(h:Qv9 f=some (w,e)):∃p apos cpos,f= .Call (.Attribute (.Name w p) "extend" apos) [e] [] cpos/\(apos.endLine == cpos.line)=true:=by
 unfold Qv9 at h;split at h
 .split at h
  .split at h
   .refine Qf h λz h1 h=>?_;split at h
    .rename_i hc;obtain⟨w',h2,h⟩:=Zb.mp h;cases h;unfold QCo at h1;split at h1
     .cases h1;obtain⟨p,rfl⟩:=QeR h2;obtain⟨rfl,hl⟩:=hc;exact⟨p,_,_,rfl,hl⟩
     .cases h1
    .cases h
   .cases h
  .cases h
 .cases h
def QuL{sts:List Stmt}{q:Alx}(h:Qr4 sts=some q):∃p1 p2 p3 p4 p5 p6 apos cpos p7,sts= .Assign [.Name q.w p1] (.IfExp q.c (.Name q.a p2) (.Name q.b p3) p4) p5:: .Expr (.Call (.Attribute (.Name q.w p6) "extend" apos) [q.e] [] cpos) p7::q.r/\(apos.endLine == cpos.line)=true:=by
 unfold Qr4 at h;split at h
 .refine Qf h λz h1 h=>?_;refine Qf h λy h2 h=>?_;refine Qf h λf h3 h=>?_;refine Qf h λu h4 h=>?_;split at h
  .rename_i hc;cases h;obtain⟨z1,z2⟩:=z;obtain⟨y1,y2,y3⟩:=y;obtain⟨u1,u2⟩:=u;cases hc;obtain⟨p1,p5,rfl⟩:=Qvh h1;obtain⟨p2,p3,p4,rfl⟩:=QvI h2;obtain⟨p6,apos,cpos,rfl,hl⟩:=Qwz h4;unfold QCd at h3;split at h3
   .cases h3;exact⟨p1,p2,p3,p4,p5,p6,apos,cpos,_,rfl,hl⟩
   .cases h3
  .cases h
 .cases h
end HS
namespace HS
open PySem PySem.Spec L2 PyProof.Rows
section
variable {K:Fgg}{H0 H H':Hp}{A0:LAd}{hs:List (V×D×List Addr)}{ρ:En}{F:Nat->List Addr}{U:L2.St}{x i j:Nat}{ds es:List D}{a:Addr}{vs:List V}{v vn:V}{dn:D}
end
mutual
noncomputable def QhK(n:Nat)(Θ:Th)(st:Stmt):Option DS:=match n with
 | 0=>none
 | n+1=>match st with
  | .Pass _=>some Qe
  | .Break _=>some Qvq
  | .Continue _=>some QvQ
  | .Raise _ _ _=>some Qi
  | .Return none _=>some QnY
  | .Return (some e) _=>(Qp n Θ e).map QJ
  | .Expr (.Constant (.str _) _ _) _=>some Qe
  | .Expr (.Call (.Attribute o m apos) args [] cpos) _=>if(apos.endLine == cpos.line)=true then QkR n Θ o m args else none
  | .Expr (.Call (.Name x p) args [] cpos) _=>(Qp n Θ (.Call (.Name x p) args [] cpos)).map QW
  | .Assign [.Name x _] e _=>(Θ.QbW x).bind λi=>(Qp n Θ e).map λfa=>Qq i (if Qjr e=true then Qbg fa else fa)
  | .Assign [.Subscript a i _] e _=>(QeV n Θ a).bind λq=>(Qp n Θ i).bind λfi=>(Qp n Θ e).map λfa=>QdR q.1 q.2 fi fa
  | .AugAssign (.Subscript a i _) op e _=>(QeV n Θ a).bind λq=>(Qp n Θ i).bind λfi=>(Qu1 op).bind λg=>(Qp n Θ e).map λfa=>Qgf g q.1 q.2 fi fa
  | .If c a b _=>(Qa3 n Θ c).bind λg=>(Q8 n Θ a).bind λf1=>(Q8 n Θ b).map λf2=>sIf g f1 f2
  | .For tg iter body [] _=>(QhA Θ tg).bind λt=>(QgE n Θ tg iter).bind λfi=>(Q8 n Θ body).map λfb=>Qay fi t fb
  | .Try a b c d p=>Θ.tr (.Try a b c d p)
  | _=>none
noncomputable def Q8(n:Nat)(Θ:Th)(sts:List Stmt):Option DS:=match n with
  | 0=>none
  | n+1=>match sts with
    | []=>some Qe
    | st::r=>
     match Θ.tr st with
     | some f=>(Q8 n Θ r).map λg=>Qc f g
     | none=>
       match Qr4 (st::r)with
       | some q=>(Θ.QbW q.w).bind λw=>(Θ.slot q.w).bind λw'=>(Θ.slot q.a).bind λa=>(Θ.slot q.b).bind λb=>if w'=w then(Qa3 n Θ q.c).bind λgc=>(Qp n Θ q.e).bind λfe=>(Q8 n Θ q.r).map λg=>Qc (Qro w a b gc fe) g else none
       | none=>
       (QhK n Θ st).bind λf=>(Q8 n Θ r).map λg=>Qc f g
end
def QqP(h:Qp n Θ e=some f):Qym e=false:=by
 cases n with
 | zero=>exact nn h
 | succ n=>cases e<;>first | rfl | (exact nn h)
def Qyh(h:Qp n Θ (.ListComp elt gens scope pos)=some f):∃m tg iter ifs t fi ft fe,n=m+1/\gens=[⟨tg,iter,ifs,0⟩]/\QhA (inner Θ scope) tg=some t/\Qg6 Θ scope t=true∧
  QgE m Θ tg iter=some fi/\QeZ m (inner Θ scope) ifs=some ft/\Qp m (inner Θ scope) elt=some fe/\f=Qw fi t (Qgl Θ scope) ft fe:=by
 cases n with
 | zero=>exact nn h
 | succ n=>
  match gens,h with
  | [⟨tg,iter,ifs,k⟩],h=>
   by_cases hk:k=0
   .subst hk
    (conv at h=>lhs;whnf)
    refine Qf h λt ht h=>?_;split at h
    .rename_i hc;simp only[Zh]at hc;refine Qf h λfi h1 h=>?_;obtain⟨ft,fe,h2,h3,rfl⟩:=QbY h;exact⟨n,tg,iter,ifs,t,fi,ft,fe,rfl,rfl,ht,hc.1,h1,h2,h3,rfl⟩
    .cases h
   .exfalso;cases k with
    | ofNat k=>
     cases k with
     | zero=>exact hk rfl
     | succ k=>exact nn h
    | negSucc k=>exact nn h
  | [],h=>exact nn h
  | ⟨_,_,_,.ofNat 0⟩::_::_,h=>exact nn h
  | ⟨_,_,_,.ofNat (k+1)⟩::_::_,h=>exact nn h
  | ⟨_,_,_,.negSucc k⟩::_::_,h=>exact nn h
def QxO(ok:Qr X Θ)(hx:Θ.QbW x=some i)(h:Qp n Θ e=some fa):S1 X (.Assign [.Name x p] e pos) (Qq i fa):=by
 have hN:X.N.Nodup:=by rw[ok.N];exact ok.nd
 obtain⟨h1,h2,h3⟩:=Qco ok.toCtxB hx;by_cases hc:QeE e=true
 .have he:=(Q5 n).E X Θ e fa ok h;exact QkP λH0 A0=>Qg8 hN h1 h2 (he H0 A0) (QdY hc) h3
 .cases e with
  | ListComp elt gens scope cpos=>
   obtain⟨m,tg,iter,ifs,t,fi,ft,fe,rfl,rfl,ht,hco,g1,g2,g3,rfl⟩:=Qyh h;obtain⟨S,cap,inn⟩:=QhJ ok hco;obtain⟨i1,i2⟩:=(Q5 m).I X Θ tg iter fi ok g1;exact Qq7 hN h1 h2 h3 ok.calm S i1 cap (λcl C fp s3 H3=>⟨Qjn (inn cl C fp s3 H3) ht,(Q5 m).Ts _ _ ifs ft (inn cl C fp s3 H3) g2,(Q5 m).E _ _ elt fe (inn cl C fp s3 H3) g3⟩) i2
  | SetComp _ _ _ _=>cases n<;>exact nn h
  | DictComp _ _ _ _ _=>cases n<;>exact nn h
  | _=>exact absurd rfl hc
def Qu2(ok:Qr X Θ)(hx:Θ.QbW x=some i)(h:Qp n Θ e=some fa)(ha:Qjr e=true):S1 X (.Assign [.Name x p] e pos) (Qq i (Qbg fa)):=by
 have hN:X.N.Nodup:=by rw[ok.N];exact ok.nd
 obtain⟨h1,h2,h3⟩:=Qco ok.toCtxB hx;have hc:QeE e=true:=by cases e<;>first | rfl | cases ha
 have he:=QvC ((Q5 n).E X Θ e fa ok h);exact QkP λH0 A0=>Qg8 hN h1 h2 (he H0 A0) (QdY hc) h3
def QtM:swapsWithSole [.Subscript a i p] e l env=pure false:=by
 cases e<;>rfl
structure QAE (n:Nat):Prop where
 S:∀X Θ st f,Qr X Θ->QhK n Θ st=some f->S1 X st f
 Ss:∀X Θ sts f,Qr X Θ->Q8 n Θ sts=some f->SS X sts f
def QAg(ih:QAE n):∀X Θ st f,Qr X Θ->QhK (n+1) Θ st=some f->S1 X st f:=by
 intro X Θ st f ok h;have hN:X.N.Nodup:=by rw[ok.N];exact ok.nd
 have E:=Q5 n;cases st with
 | Pass pos=>change some Qe=some f at h;cases h;exact QyR
 | Break pos=>change some Qvq=some f at h;cases h;exact Qu9
 | Continue pos=>change some QvQ=some f at h;cases h;exact QyX
 | Raise a b pos=>change some Qi=some f at h;cases h;exact Qv7
 | Return e pos=>
  cases e with
  | none=>change some QnY=some f at h;cases h;exact Qxs
  | some e=>
   change(Qp n Θ e).map QJ=some f at h;obtain⟨fa,h1,rfl⟩:=Zb.mp h;exact QtA (E.E X Θ e fa ok h1)
 | Expr e pos=>
  cases e with
  | Constant c k p=>
   cases c with
   | str x=>
    change some Qe=some f at h;cases h;exact λH0 A0=>QCr.mono λE U H ⟨ρ,hs,F,o,rel,e,q⟩=>by cases e;exact q U H F rel
   | _=>exact nn h
  | Call fn args kws cpos=>
   cases fn with
   | Attribute o m apos=>
    cases kws with
    | nil=>
     change(if(apos.endLine == cpos.line)=true then QkR n Θ o m args else none)=some f at h;split at h
     .rename_i hl;exact Qvd ok h hl
     .cases h
    | cons _ _=>exact nn h
   | Name x p=>
    cases kws with
    | nil=>
     change(Qp n Θ (.Call (.Name x p) args [] cpos)).map QW=some f at h;obtain⟨fa,h1,rfl⟩:=Zb.mp h;exact λH0 A0=>QxJ (QgW (E.E X Θ _ fa ok h1 H0 A0) rfl)
    | cons _ _=>exact nn h
   | _=>exact nn h
  | _=>exact nn h
 | Assign ts e pos=>
  match ts,h with
  | [t],h=>
   cases t with
   | Name x p=>
    change((Θ.QbW x).bind λi=>(Qp n Θ e).map λfa=>Qq i (if Qjr e=true then Qbg fa else fa))=some f at h;obtain⟨i,fa,h1,h2,rfl⟩:=QbY h;split
    .rename_i ha;exact Qu2 ok h1 h2 ha
    .exact QxO ok h1 h2
   | Subscript a i p=>
    change((QeV n Θ a).bind λq=>(Qp n Θ i).bind λfi=>(Qp n Θ e).map λfa=>QdR q.1 q.2 fi fa)=some f at h;refine Qf h λq h1 h=>?_;obtain⟨fi,fa,h2,h3,rfl⟩:=QbY h;obtain⟨sp,_⟩:=QhO n X Θ a q ok h1;have ns:=QqP h2;refine QAX (E.E X Θ e fa ok h3) sp (E.E X Θ i fi ok h2) λte to ti he ho hi=>QBu he (QBk ho hi set_list ?_) QtM ?_ rfl
    .intro v;cases i<;>first | rfl | (cases ns)
    .cases e<;>rfl
   | _=>exact nn h
  | [],h=>exact nn h
  | t::_::_,h=>cases t<;>exact nn h
 | AugAssign t op e pos=>
  cases t with
  | Subscript a i p=>
   change((QeV n Θ a).bind λq=>(Qp n Θ i).bind λfi=>(Qu1 op).bind λg=>(Qp n Θ e).map λfa=>Qgf g q.1 q.2 fi fa)=some f at h;refine Qf h λq h1 h=>?_;refine Qf h λfi h2 h=>?_;obtain⟨g,fa,h3,h4,rfl⟩:=QbY h;obtain⟨r,o1,o2⟩:=QAU (X:=X) h3;obtain⟨sp,_⟩:=QhO n X Θ a q ok h1;have ns:=QqP h2;exact Qzx o1 o2 (E.E X Θ e fa ok h4) sp (E.E X Θ i fi ok h2) λov iv new=>by cases i<;>first | rfl | (cases ns)
  | _=>exact nn h
 | If c a b pos=>
  change((Qa3 n Θ c).bind λg=>(Q8 n Θ a).bind λf1=>(Q8 n Θ b).map λf2=>sIf g f1 f2)=some f at h;refine Qf h λg h1 h=>?_;obtain⟨f1,f2,h2,h3,rfl⟩:=QbY h;exact QDC (E.T X Θ c g ok h1) (ih.Ss X Θ a f1 ok h2) (ih.Ss X Θ b f2 ok h3)
 | For tg iter body els pos=>
  cases els with
  | nil=>
   change((QhA Θ tg).bind λt=>(QgE n Θ tg iter).bind λfi=>(Q8 n Θ body).map λfb=>Qay fi t fb)=some f at h;refine Qf h λt h1 h=>?_;obtain⟨fi,fb,h2,h3,rfl⟩:=QbY h;obtain⟨i1,i2⟩:=E.I X Θ tg iter fi ok h2;exact QzW ok.pass ok.calm i1 (Qjn ok h1) (ih.Ss X Θ body fb ok h3) i2
  | cons _ _=>exact nn h
 | Try a b c d pos=>exact ok.tr _ _ h
 | _=>exact nn h
def Qfy:∀n,QAE n
 | 0=>⟨λ_ _ _ _ _ h=>(nn h),λ_ _ _ _ _ h=>(nn h)⟩
 | n+1=>by
  have ih:=Qfy n;refine⟨QAg ih,λX Θ sts f ok h=>?_⟩
  match sts,h with
  | [],h=>change some Qe=some f at h;cases h;exact QsU
  | st::r,h=>
   change(match Θ.tr st with
    | some f=>(Q8 n Θ r).map λg=>Qc f g
    | none=>_)=some f at h
   split at h
   .rename_i f0 hf0;exact mapR (M:=λf=>SS X (st::r) f) h λg hg=>Qmc (ok.tr st f0 hf0) (ih.Ss X Θ r g ok hg)
   change(match Qr4 (st::r)with
    | some q=>(Θ.QbW q.w).bind λw=>(Θ.slot q.w).bind λw'=>(Θ.slot q.a).bind λa=>(Θ.slot q.b).bind λb=>if w'=w then(Qa3 n Θ q.c).bind λgc=>(Qp n Θ q.e).bind λfe=>(Q8 n Θ q.r).map λg=>Qc (Qro w a b gc fe) g else none
    | none=>_)=some f at h
   split at h
   .rename_i q hq;refine Qf h λw hw h=>?_;refine Qf h λw' hw' h=>?_;refine Qf h λa ha h=>?_;refine Qf h λb hb h=>?_;split at h
    case isFalse=>cases h
    rename_i hww;subst hww;refine Qf h λgc h1 h=>?_;obtain⟨fe,g,h2,h3,rfl⟩:=QbY h;obtain⟨p1,p2,p3,p4,p5,p6,apos,cpos,p7,hs,hl⟩:=QuL hq;rw[hs];have E:=Q5 n;have B:=ok.toCtxB;have hN:X.N.Nodup:=by rw[ok.N];exact ok.nd
    obtain⟨l1,l2,l3⟩:=Qco B hw;have st:=QaT h2 [] X.env;exact QBZ (λH0 A0=>Qg8 hN l1 l2 (Qpq (E.T X Θ q.c gc ok h1 H0 A0) (Qdo B ha) (Qdo B hb)) (QdY rfl) l3) (λH0 A0=>QgW (QnE Zbh PySem.F.slot_list_extend PySem.F.type_list_extend Qxy (Qdo B hw') (Qa9 (E.E X Θ q.e fe ok h2 H0 A0) Qc0 st) rfl (by rw[st];rfl) hl st rfl) rfl) (ih.Ss X Θ q.r g ok h3)
   change((QhK n Θ st).bind λf=>(Q8 n Θ r).map λg=>Qc f g)=some f at h;obtain⟨fs,fr,h1,h2,rfl⟩:=QbY h;exact Qmc (ih.S X Θ st fs ok h1) (ih.Ss X Θ r fr ok h2)
def Qhp(n:Nat)(Θ:Th)(st:Stmt):Option DS:=match Θ.tr st with
 | some f=>some f
 | none=>QhK n Θ st
def Qm6{X:Cx}{Θ:Th}{n:Nat}{st:Stmt}{f:DS}(ok:Qr X Θ)(h:Qhp n Θ st=some f):S1 X st f:=by
 unfold Qhp at h;split at h
 .rename_i g hg;cases h;exact ok.tr st _ hg
 .exact(Qfy n).S X Θ st f ok h
def QaF(k:Nat)(ds:List D):En:=ds.map (λd=>some (d,d.flat))++List.replicate (k-ds.length) none
noncomputable def outD:Out->Option (D×Bool)
 | .rt d fr=>some (d,fr)
 | .nx _=>some (.non,true)
 | _=>none
def Qm(k:Nat)(f:DS):Den:=λds=>(f (QaF k ds)).bind outD
def Rps.parts{K:Fgg}{H:Hp}:∀{ds:List D}{vs:List V}{F:LAd},Rps K H ds vs F→
  ∃Fs:List (List Addr),(∀L∈Fs,∀a∈L,a∈F)/\∀(i:Nat) (d:D),ds[i]? =some d->∃v,vs[i]? =some v/\Rp K H d v (Fs.getD i [])
 | [],_,_,h=>⟨[],λL hL=>by simp at hL,λi d e=>by simp at e⟩
 | d::ds,_,_,h=>by
  simp only[Rps]at h;obtain⟨v,ws,F1,F2,rfl,rfl,r,q⟩:=h;obtain⟨Fs,h1,h2⟩:=Rps.parts q;refine⟨F1::Fs,λL hL a ha=>?_,λi d' e=>?_⟩
  .rcases Zn.mp hL with rfl | hL
   .exact Zk _ ha
   .exact Ze _ (h1 L hL a ha)
  .cases i with
   | zero=>simp at e;subst e;exact⟨v,⋯,by simpa using r⟩
   | succ i=>obtain⟨w,hw,hr⟩:=h2 i d' (by simpa using e);exact⟨w,by simpa using hw,by simpa using hr⟩
def QgN{k:Nat}{ds:List D}{i:Nat}{d:D}{b:Bool}(h:(QaF k ds)[i]? =some (some (d,b))):ds[i]? =some d/\b=d.flat:=by
 unfold QaF at h;by_cases hi:i<ds.length
 .rw[Zao (by simpa using hi),Zw]at h;cases e:ds[i]? with
  | none=>rw[e]at h;cases h
  | some a=>rw[e]at h;cases h;exact⟨rfl,rfl⟩
 .rw[ZaY (by simpa using hi),Zbc]at h;split at h<;>cases h
def Qck{K:Fgg}{H:Hp}{ds:List D}{vs:List V}{F:LAd}{N:List Str}(r:Rps K H ds vs F):∃F0,Rel K H F [] (QaF N.length ds) F0 (start N vs) H:=by
 obtain⟨Fs,h1,h2⟩:=r.parts;have hl:=r.length;have src:∀i a,a∈Fs.getD i []->a∈F:=λi a ha=>by
  by_cases hi:i<Fs.length
  .have:Fs.getD i []∈Fs:=by rw[ZR,ZV hi];exact List.getElem_mem hi
   exact h1 _ this a ha
  .rw[ZR,ZA ⋯]at ha;simp at ha
 refine⟨λi=>Fs.getD i [],?_,λi d b e=>?_,λi d e=>?_,λi d b e a ha=> .inr (src i a ha),λt ht=>absurd ht ⋯,Qs.refl _⟩
 .unfold QaF L2.start;simp[hl]
 .obtain⟨e1,_⟩:=QgN e;obtain⟨v,hv,hr⟩:=h2 i d e1;refine⟨v,?_,hr⟩;have hi:i<vs.length:=(Zm.mp hv).1;unfold L2.start;rw[Zao (by simpa using hi),Zw,hv];rfl
 .obtain⟨e1,e2⟩:=QgN e;obtain⟨v,hv,hr⟩:=h2 i d e1;have z:Fs.getD i []=[]:=hr.QbX e2.symm;simp only[z];exact⟨(Qdr d e2.symm).symm,ZT,λa ha=>by simp at ha,λ_ _ _ _ _ a ha=>by simp at ha,λ_ _ a ha=>by simp at ha⟩
section
variable (P:Program) (w:World) (K:Fgg) (mg:Str->Option Value) (base:Heap)
def Known(k:Nat)(x:Str)(r:FnR):Prop:=∃f fd ps,Qag P w K mg base CX0 k f fd ps (spV K r.n r.den)/\mg x=some (.ref f)/\PySem.W.keepIn K (.ref f)=true∧
 ∀m,m<=r.dfl.length->∃ds dvs,Binds K fd ps ds/\Qt dvs ds/\∀H,Rps K H (r.dfl.drop (r.dfl.length-m)) dvs []
def Qaj(k:Nat)(Γ:List (Str×FnR)):Prop:=∀x r,look x Γ=some r->Known P w K mg base k x r
structure QaV (cs:List (Str×Cn)):Prop where
 bn:∀x∈Qol,mg x=none
 cs:∀x i,look x cs=some i->∃t,mg x=some (cnV i t)
end
section
variable {P:Program}{w:World}{K:Fgg}{mg:Str->Option Value}{base:Heap}
def Qaj.nil{k:Nat}:Qaj P w K mg base k []:=λx r h=>by cases h
def Known.mono{j k:Nat}{x:Str}{r:FnR}(h:Known P w K mg base j x r)(hk:j<=k):Known P w K mg base k x r:=by
 obtain⟨f,fd,ps,h1,h2⟩:=h;exact⟨f,fd,ps,h1.mono hk,h2⟩
def Qaj.cons{k:Nat}{Γ:List (Str×FnR)}{x:Str}{r:FnR}(t:Qaj P w K mg base k Γ)(h:Known P w K mg base (k+1) x r):Qaj P w K mg base (k+1) ((x,r)::Γ):=λy q e=>by
 unfold look at e;split at e
 .rename_i z;cases e;subst z;exact h
 .exact(t y q e).mono (Zae _)
def namesOf(sc:Scope):List Str:=(sc.names.filter λy=>QwV y.2).map (·.1)
def QaO(st:Stmt)(Γ:List (Str×FnR))(cs:List (Str×Cn)):Th:=⟨namesOf (Qd st),(Qd st).names,Γ,cs,λ_=>none,λ_=>none
 ,λ_=>none
 ⟩
def QjJ{CX:CXT}{xe:Value->Shared->Prop}{st:Stmt}{ps:List Str}{qual:Str}{f:Addr}{cdv:Value}{A:Around}{outer:List Env}{s:Shared}{H:Hp}{E:XK}{k:Nat}{Γ:List (Str×FnR)}{cs:List (Str×Cn)}(S:QZ (namesOf (Qd st)) ps (Qd st))(M:QaV mg cs)(tab:Qaj P w K mg base k Γ)
  (hr:Q3 k (A.deeper (envOfC qual (Qd st) s.heap.objs.size f cdv))) (hp:PassesOwn (model P w) (A.deeper (envOfC qual (Qd st) s.heap.objs.size f cdv)) (envOfC qual (Qd st) s.heap.objs.size f cdv) xe):
  Qr ((Qbv CX P w K mg base (namesOf (Qd st)) qual (Qd st) f cdv A outer s H E).Qd7 xe) (QaO st Γ cs) where
 N:=rfl
 nd:=S.nd
 lc:=λx h=>by rw[Qbc]at h;exact h
 ce:=λx h=>by rw[Qbc]at h;exact⟨h,rfl⟩
 fe:=λx h=>by rw[Qbc]at h;exact absurd rfl (S.nofree _ (ZQ h))
 gl:=λx h=>by rw[Qbc]at h;exact h
 calm:=decide_eq_true hr.hd
 pass:=hp
 tr:=λ_ _ h=>by cases h
 te:=λ_ _ h=>by cases h
 tt:=λ_ _ h=>by cases h
 units:=hr.units
 mg:=M.bn
 fns:=λx r h=>by
  obtain⟨f',fd,ps',h1,h2,h3,h4⟩:=tab x r h;exact⟨k,f',fd,ps',h1,hr,h2,h3,h4⟩
 cs:=M.cs
def QoF{st:Stmt}{ps:List Str}{qual:Str}{f:Addr}{cdv:Value}{A:Around}{outer:List Env}{s:Shared}{H:Hp}{E:XK}{k:Nat}{Γ:List (Str×FnR)}{cs:List (Str×Cn)}(S:QZ (namesOf (Qd st)) ps (Qd st))(M:QaV mg cs)(tab:Qaj P w K mg base k Γ)
  (hr:Q3 k (A.deeper (envOfC qual (Qd st) s.heap.objs.size f cdv))):Qr (Qbv CX0 P w K mg base (namesOf (Qd st)) qual (Qd st) f cdv A outer s H E).nox (QaO st Γ cs):=QjJ S M tab hr ZaR
def QtB{x qual:Str}{st:Stmt}{f:Addr}{fd:FuncData}{ps:List Str}{k n:Nat}{Γ:List (Str×FnR)}{cs:List (Str×Cn)}{g:DS}(F:Fun K x qual st f fd)(S:QZ (namesOf (Qd st)) ps (Qd st))(M:QaV mg cs)(tab:Qaj P w K mg base k Γ)
  (hc:Q8 n (QaO st Γ cs) (Qx st)=some g):Qag P w K mg base CX0 (k+1) f fd ps (spV K ps.length (Qm (namesOf (Qd st)).length g)):=by
 refine F.ok S (QgX rfl) λcdv A outer s H vs Q E hr h=>?_;obtain⟨ds,L,d,fr,rps,hl,hd,q⟩:=h;refine⟨_,(Qfy n).Ss _ _ _ g (QoF S M tab hr) hc H L,?_⟩;obtain⟨F0,rel⟩:=Qck (N:=namesOf (Qd st)) rps;unfold Qm at hd;refine Qf hd λo ho hd=>?_;refine⟨_,[],F0,o,rel,ho,?_⟩;cases o with
 | nx ρ=>
  cases hd;exact λU H' F' rel'=>q .non H' [] ⟨rel'.same,.Qdd,λa ha=>by simp at ha,λ_=>⟨ZT,rfl,λa ha=>by simp at ha⟩⟩
 | bk ρ=>cases hd
 | ct ρ=>cases hd
 | rt d' fr'=>
  cases hd;exact λv H' G r=>q v H' G r
structure Fact (K:Fgg) (x:Str) (st:Stmt):Prop where
 ex:∃f fd,Fun K x x st f fd/\PySem.W.nsIn K mainGlobals x=some (some (.ref f))
def fact_mk{x:Str}{st:Stmt}{f:Addr}{oc:Value}{od an:Option Addr}{osl:Array (Option Value)}{kV doc pm cdv ct:Value}(a:PySem.W.nsIn K mainGlobals x=some (some (.ref f)))(l:K.lookup f=some ⟨oc,od,.func (PySem.W.fnOf x x (QaQ st) (Qx st) (Qd st) .none kV doc pm an cdv ct),osl⟩)
  (c:PySem.W.codeIn K cdv x=true) (k:PySem.W.keepIn K (.ref f)=true):Fact K x st:=⟨f,_,QsP l c k,a⟩
def l0{α:Type}{P:List α->Prop}(h:P []):∀l:List α,l.length=0->P l:=λl e=>(List.length_eq_zero_iff.mp e).symm▸h
def lc{α:Type}{n:Nat}{P:List α->Prop}(h:∀a,∀l:List α,l.length=n->P (a::l)):∀l:List α,l.length=n+1->P l
 | a::l,e=>h a l (Nat.succ.inj e)
def QA(x:Str)(st:Stmt)(ps:List Str):Prop:=∀(kV doc pm:Value) (an:Option Addr) (cdv ct:Value) (us:List Value),us.length=ps.length->bindArgs (PySem.W.fnOf x x (QaQ st) (Qx st) (Qd st) .none kV doc pm an cdv ct) ⟨us,[]⟩=pure (ps.zip us)
def Qc3{h:Heap}{x:Str}{st:Stmt}{ps:List Str}{k n:Nat}{Γ:List (Str×FnR)}{cs:List (Str×Cn)}{g:DS}(X:K.In h)(G:h.Ns mainGlobals mg)(F:Fact K x st)(S:QZ (namesOf (Qd st)) ps (Qd st))(B:QA x st ps)(M:QaV mg cs)(tab:Qaj P w K mg base k Γ)
  (hc:Q8 n (QaO st Γ cs) (Qx st)=some g):Known P w K mg base (k+1) x ⟨ps.length,[],Qm (namesOf (Qd st)).length g⟩:=by
 obtain⟨f,fd,Fn,a⟩:=F.ex;refine⟨f,fd,ps,QtB Fn S M tab hc,ZM X G a,Fn.kp,λm hm=>⟨[],[],Fn.binds (B ·),.nil,λH=>by simp[Rps]⟩⟩
end
end HS
namespace HS
open PySem PySem.Spec L2 PyProof.Rows
def Qwx{l:PySem.W.OpenLaw}{k:Nat}{q:Program}{loose:List Str}{XP:(Str->Option Value)->Heap->Prop}{YP:World->Heap->Prop}{d:DefRec}{K:Params->PySem.W.Frag}{den:Den}{x:Str}
  (hn:l.most=some 63) (hdf:d.params.defaults=[]) (hr:Q3 k callerA) (hY:∀(w:World) (h:Heap),YP w h->(K w.params).In h)
  (hden:∀ns:List Int,ns.length<=63->∃fr,den [.lst (ns.map .int)]=some (.bl true,fr))
  (F:∀(w:World) (mg:Str->Option Value) (fa:Addr) (h:Heap),(K w.params).In h->h.Ns mainGlobals mg->mg d.name=some (.ref fa)→
   ∃fd:FuncData,(∀(s:Shared) (u:Value),BindsTo s fd ⟨[u],[]⟩ [(x,u)])∧
    ∀base:Heap,(K w.params).In base->base.Ns mainGlobals mg->Qag l.prog w (K w.params) mg base CX0 k fa fd [x] (spV (K w.params) 1 den)):
  PySem.W.WalkO q loose XP YP l.row.toRowW d [] (λf vs=>PySem.call f vs):=by
 refine Att.QpY hn hdf λw s₀ s₁ mg mb fa o pm cd doc a vs ns G Y ho hd hcd hmg hobj hints hlen hg=>?_;have KX:=hY w _ Y;obtain⟨fd,hb,hF⟩:=F w mg fa _ KX G.T.g hmg;have h63:(63:Nat)<=sizeLine:= ∅
 refine Qwm KX G.T.g G.T.b G.T.builtins G.T.nolimit hg hobj hints (Zy hlen h63) hr hF hb (λH hO hS=>?_) λH e s' z=>z;have fx:Fix (K w.params) H a (ns.map V.int):=by
  rcases hS with(h | ⟨o,h⟩) | ⟨o,its,n,hk,hc,hdn,hda,hz,rv⟩
  .rcases hO a with z | ⟨o,xs,z⟩<;>rw[h]at z<;>cases z
  .exact .inl ⟨o,h⟩
  .have e:=KX a o hk;rw[hobj]at e;cases e;cases hda;exact .inr ⟨vs,_,hk,by rw[Zt];exact Zy hlen h63,by simpa using rv⟩
 obtain⟨fr,hfr⟩:=hden ns hlen;have rp:Rp (K w.params) H (.lst (ns.map .int)) (.ref a) []:=by
  simp only[Rp];refine⟨by rw[Zt];exact Zy hlen h63,a,_,rfl,.inr ⟨fx,?_⟩⟩;have gen:∀ns:List Int,Rps (K w.params) H (ns.map .int) (ns.map .int) []:=by
   intro ns
   induction ns with
   | nil=>simp[Rps]
   | cons n ns ih=>simp only[Zz,Rps];exact⟨_,_,[],[],rfl,rfl,.int_mk,ih⟩
  exact gen ns
 refine⟨[.lst (ns.map .int)],[],.bl true,fr,?_,rfl,hfr,λv H' G r=>r.rp.Qc2⟩;simp only[Rps];exact⟨_,_,[],[],rfl,rfl,rp,rfl,rfl⟩
def QDD{P:Program}{w:World}{K:Fgg}{mg:Str->Option Value}{h:Heap}{x y:Str}{st:Stmt}{fa:Addr}{k n:Nat}{Γ:List (Str×FnR)}{cs:List (Str×Cn)}{g:DS}(X:K.In h)(G:h.Ns mainGlobals mg)(hmg:mg x=some (.ref fa))
  (F:Fact K x st) (S:QZ (namesOf (Qd st)) [y] (Qd st)) (B:QA x st [y]) (M:QaV mg cs) (tab:∀base:Heap,Qaj P w K mg base k Γ) (hc:Q8 n (QaO st Γ cs) (Qx st)=some g):
  ∃fd:FuncData,(∀(s:Shared) (u:Value),BindsTo s fd ⟨[u],[]⟩ [(y,u)])∧
    ∀base:Heap,K.In base->base.Ns mainGlobals mg->Qag P w K mg base CX0 (k+1) fa fd [y] (spV K 1 (Qm (namesOf (Qd st)).length g)):=by
 obtain⟨f,fd,Fn,a⟩:=F.ex;have e:=hmg.symm.trans (ZM X G a);cases e;refine⟨fd,λs u=>?_,λbase _ _=>QtB Fn S M (tab base) hc⟩;obtain⟨oc,od,kV,doc,pm,an,cdv,ct,osl,rfl,lk,hcd⟩:=Fn.ex;exact .of_eq (B kV doc pm an cdv ct [u] rfl)
end HS
namespace HS
open PySem PySem.Spec PyProof.Rows L2
section
variable {P:Program}{w:World}{K:Fgg}{mg:Str->Option Value}{base:Heap}
def Qfz{h:Heap}{x:Str}{st:Stmt}{ps:List Str}{k:Nat}(X:K.In h)(G:h.Ns mainGlobals mg)(F:Fact K x st)(B:QA x st ps):Known P w K mg base k x ⟨ps.length,[],λ_=>none⟩:=by
 obtain⟨f,fd,Fn,a⟩:=F.ex;refine⟨f,fd,ps,⟨λvs H Q E h=>?_,λA outer s H args us vs Q E _ _ _ _ h=>?_⟩,ZM X G a,Fn.kp,λm hm=>⟨[],[],Fn.binds (B ·),.nil,λH=>by simp[Rps]⟩⟩
 .obtain⟨ds,L,d,fr,rps,hl,hd,q⟩:=h;cases hd
 .obtain⟨ds,L,d,fr,rps,hl,hd,q⟩:=h;cases hd
end
end HS
namespace HS
open PySem PySem.Spec L2 PyProof.Rows
noncomputable def hide(H:Hp)(P:LAd):Hp:=λa=>if a∈P then none else H a
def Qge:Option HO->Prop
 | some (.lst _)=>True
 | some (.ins _ _ _)=>True
 | some (.dT _)=>True
 | some (.dK _)=>True
 | _=>False
section
variable {K:Fgg}{H H':Hp}{P:LAd}
def Qjp{a:Addr}(h:a∈P):hide H P a=none:=if_pos h
def QhQ{a:Addr}(h:a∉P):hide H P a=H a:=if_neg h
def Qnf{a:Addr}(h:hide H P a=none):a∈P∨H a=none:=by
 by_cases q:a∈P
 .exact .inl q
 .rw[QhQ q]at h;exact .inr h
def QsV:Qs (hide H P) H:=λb o h=>by
 by_cases q:b∈P
 .rw[Qjp q]at h;cases h
 .rw[QhQ q]at h;exact h
def Qb7(s:Qs (hide H P) H'){a:Addr}{u:HO}(h:H a=some u)(n:a∉P):H' a=some u:=s a u (by rw[QhQ n];exact h)
def QjD(hm:∀a∈P,Qge (H a)){a:Addr}{u:HO}(h:H a=some u)(n:¬Qge (some u)):a∉P:=λz=>n (h▸hm a z)
def QcQ.mut{v:V}{vs:List V}{A:LAd}:∀{o:Ob},QcQ K H v vs A o->∀a∈A,Qge (H a)
 | .ins _ _,⟨a,C,dx,e1,e2,e3,e4,e5⟩,b,hb=>by rw[e2]at hb;rw[Zj.mp hb,e4];exact True.intro
 | .pin _,⟨_,_,e⟩,b,hb=>by rw[e]at hb;simp at hb
 | .pair,⟨e,_⟩,b,hb=>by rw[e]at hb;simp at hb
 | .dic _,⟨e1,a,e2,e3,e4⟩,b,hb=>by rw[e3]at hb;rw[Zj.mp hb,e4];exact True.intro
def QcQ.but(s:Qs (hide H P) H'){v:V}{vs:List V}{A:LAd}:∀{o:Ob},QcQ K H v vs A o->(∀a∈A,a∉P)->QcQ K H' v vs A o
 | .ins _ _,⟨a,C,dx,e1,e2,e3,e4,e5⟩,hn=>⟨a,C,dx,e1,e2,e3,Qb7 s e4 (hn a (by rw[e2];exact List.mem_singleton_self a)),e5⟩
 | .pin _,h,_=>h
 | .pair,h,_=>h
 | .dic _,⟨e1,a,e2,e3,e4⟩,hn=>⟨e1,a,e2,e3,Qb7 s e4 (hn a (by rw[e3];exact List.mem_singleton_self a))⟩
mutual
def Rp.mut:∀{d:D}{v:V}{F:LAd},Rp K H d v F->∀a∈F,Qge (H a)
 | .non,_,_,h,a,ha=>by simp only[Rp]at h;rw[h.2]at ha;simp at ha
 | .bl _,_,_,h,a,ha=>by simp only[Rp]at h;rw[h.2]at ha;simp at ha
 | .int _,_,_,h,a,ha=>by simp only[Rp]at h;rw[h.2]at ha;simp at ha
 | .str _,_,_,h,a,ha=>by simp only[Rp]at h;rw[h.2]at ha;simp at ha
 | .exc _,_,_,h,a,ha=>by simp only[Rp]at h;rw[h.2]at ha;simp at ha
 | .dk _,_,_,h,a,ha=>by simp only[Rp]at h;obtain⟨b,e,eF,q⟩:=h;subst eF;rw[Zj.mp ha,q];exact True.intro
 | .obj _ _,_,_,h,a,ha=>by
  simp only[Rp]at h;obtain⟨vs,A,G,eF,q,r⟩:=h;subst eF;exact(Zx.mp ha).elim (q.mut a) (Rps.mut r a)
 | .tup ds,_,_,h,a,ha=>by
  simp only[Rp]at h;obtain⟨_,vs,e,q,r⟩:=h;exact Rps.mut r a ha
 | .lst ds,_,_,h,a,ha=>by
  simp only[Rp]at h;obtain⟨_,b,vs,e,⟨G,eF,q,r⟩ | ⟨q,r⟩⟩:=h
  .subst eF;rcases Zn.mp ha with z | z
   .rw[z,q];exact True.intro
   .exact Rps.mut r a z
  .exact Rps.mut r a ha
def Rps.mut:∀{ds:List D}{vs:List V}{F:LAd},Rps K H ds vs F->∀a∈F,Qge (H a)
 | [],_,_,h,a,ha=>by simp only[Rps]at h;rw[h.2]at ha;simp at ha
 | d::ds,_,_,h,a,ha=>by
  simp only[Rps]at h;obtain⟨v,ws,F1,F2,e,eF,r,q⟩:=h;subst eF;exact(Zx.mp ha).elim (Rp.mut r a) (Rps.mut q a)
end
def Qxo(hm:∀a∈P,Qge (H a))(s:Qs (hide H P) H'){a:Addr}{vs:List V}(h:SqT K H a vs):SqT K H' a vs:=by
 rcases h with(h | ⟨o,h⟩) | h
 .exact .inl (.inl (Qb7 s h (QjD hm h λz=>z)))
 .exact .inl (.inr ⟨o,Qb7 s h (QjD hm h λz=>z)⟩)
 .exact .inr h
def Qzw(hm:∀a∈P,Qge (H a))(s:Qs (hide H P) H'){a:Addr}{vs:List V}(h:Fix K H a vs):Fix K H' a vs:=by
 rcases h with⟨o,h⟩ | h
 .exact .inl ⟨o,Qb7 s h (QjD hm h λz=>z)⟩
 .exact .inr h
mutual
def Rp.but(hm:∀a∈P,Qge (H a))(s:Qs (hide H P) H'):∀{d:D}{v:V}{F:LAd},Rp K H d v F->(∀a∈F,a∉P)->Rp K H' d v F
 | .exc _,_,_,h,_=>by
  simp only[Rp]at h ⊢;obtain⟨⟨a,e,C,q1,q2⟩,z⟩:=h;exact⟨⟨a,e,C,q1,Qb7 s q2 (QjD hm q2 λz=>z)⟩,z⟩
 | .dk _,_,_,h,hn=>by
  simp only[Rp]at h ⊢;obtain⟨a,e,eF,q⟩:=h;subst eF;exact⟨a,e,rfl,Qb7 s q (hn a (List.mem_singleton_self a))⟩
 | .obj _ _,_,_,h,hn=>by
  simp only[Rp]at h ⊢;obtain⟨vs,A,G,eF,q,r⟩:=h;subst eF;exact⟨vs,A,G,rfl,q.but s λa z=>hn a (Zk _ z),Rps.but hm s r λa z=>hn a (Ze _ z)⟩
 | .non,_,_,h,_=>h
 | .bl _,_,_,h,_=>h
 | .int _,_,_,h,_=>h
 | .str _,_,_,h,_=>h
 | .tup ds,_,_,h,hn=>by
  simp only[Rp]at h ⊢;obtain⟨a,vs,e,q,r⟩:=h;exact⟨a,vs,e,Qxo hm s q,Rps.but hm s r hn⟩
 | .lst ds,_,_,h,hn=>by
  simp only[Rp]at h ⊢;obtain⟨hz,a,vs,e,⟨G,eF,q,r⟩ | ⟨q,r⟩⟩:=h
  .subst eF;exact⟨hz,a,vs,e,.inl ⟨G,rfl,Qb7 s q (hn a Zf),Rps.but hm s r λb z=>hn b (Zc _ z)⟩⟩
  .exact⟨hz,a,vs,e,.inr ⟨Qzw hm s q,Rps.but hm s r hn⟩⟩
def Rps.but(hm:∀a∈P,Qge (H a))(s:Qs (hide H P) H'):∀{ds:List D}{vs:List V}{F:LAd},Rps K H ds vs F->(∀a∈F,a∉P)->Rps K H' ds vs F
 | [],_,_,h,_=>h
 | d::ds,_,_,h,hn=>by
  simp only[Rps]at h ⊢;obtain⟨v,ws,F1,F2,e,eF,r,q⟩:=h;subst eF;exact⟨v,ws,F1,F2,e,rfl,Rp.but hm s r λb z=>hn b (Zk _ z),Rps.but hm s q λb z=>hn b (Ze _ z)⟩
end
end
def Qom(H0:Hp)(hs:List (V×D×List Addr))(ρ:En)(F:Nat->List Addr)(i:Nat)(a:Addr):Prop:=
 H0 a=none/\(∀(j:Nat) d b,ρ[j]? =some (some (d,b))->j≠i->a∉F j)/\∀t∈hs,a∉t.2.2
section
variable {K:Fgg}{H0 H H':Hp}{A0:LAd}{hs:List (V×D×List Addr)}{ρ:En}{F:Nat->List Addr}{U:L2.St}{i:Nat}{d d':D}{v:V}{G:LAd}
def Rel.Qrj(r:Rel K H0 A0 hs ρ F U H)(e:ρ[i]? =some (some (d,true))){a:Addr}(h:a∈F i∨H a=none):Qom H0 hs ρ F i a:=by
 rcases h with h | h
 .obtain⟨_,_,h3,h4,h5⟩:=r.own i d e;exact⟨h3 a h,λj d' b' ej hj=>h4 j d' b' hj ej a h,λt ht=>h5 t ht a h⟩
 .refine⟨r.same.free h,λj d' b' ej hj z=>?_,λt ht z=>?_⟩
  .obtain⟨u,q⟩:=r.mem ej z;rw[h]at q;cases q
  .obtain⟨u,q⟩:=(r.held t ht).1.mem a z;rw[h]at q;cases q
def Rel.io(r:Rel K H0 A0 hs ρ F U H)(e:ρ[i]? =some (some (d,true)))(hv:U[i]? =some (some v))(s:Qs (hide H (F i)) H')(rp:Rp K H' d' v G)(nd:G.Nodup)(nl:G.length=d'.nl)(sub:∀a∈G,Qom H0 hs ρ F i a):
  Rel K H0 A0 hs (ρ.set i (some (d',true))) (λj=>if j=i then G else F j) U H':=by
 obtain⟨o1,o2,o3,o4,o5⟩:=r.own i d e;obtain⟨w,hw,rpi⟩:=r.val i d true e;have hm:∀a∈F i,Qge (H a):=rpi.mut;have hl:i<ρ.length:=(Zm.mp e).1;refine⟨by rw[Zap];exact r.len,λj d2 b ej=>?_,λj d2 ej=>?_,λj d2 b ej a ha=>?_,λt ht=>⟨(r.held t ht).1.but hm s λa ha z=>o5 t ht a z ha,(r.held t ht).2⟩,λb u hb=>?_⟩
 .by_cases hj:j=i
  .subst hj;rw[Zo hl]at ej;cases ej;exact⟨v,hv,by rw[if_pos rfl];exact rp⟩
  .rw[Zg (Ne.symm hj)]at ej;obtain⟨v2,h1,h2⟩:=r.val j d2 b ej;exact⟨v2,h1,by rw[if_neg hj];exact h2.but hm s λa ha z=>o4 j d2 b hj ej a z ha⟩
 .by_cases hj:j=i
  .subst hj;rw[Zo hl]at ej;cases ej;rw[if_pos rfl];refine⟨nl,nd,λa ha=>(sub a ha).1,λk d3 b3 hk ek a ha=>?_,λt ht a ha=>(sub a ha).2.2 t ht⟩;rw[Zg (Ne.symm hk)]at ek;rw[if_neg hk];exact(sub a ha).2.1 k d3 b3 ek hk
  .rw[Zg (Ne.symm hj)]at ej;obtain⟨p1,p2,p3,p4,p5⟩:=r.own j d2 ej;rw[if_neg hj];refine⟨p1,p2,p3,λk d3 b3 hk ek a ha=>?_,p5⟩;by_cases hki:k=i
   .subst hki;rw[if_pos rfl];exact λz=>(sub a z).2.1 j d2 true ej hj ha
   .rw[Zg (Ne.symm hki)]at ek;rw[if_neg hki];exact p4 k d3 b3 hk ek a ha
 .by_cases hj:j=i
  .subst hj;rw[if_pos rfl]at ha;exact .inl (sub a ha).1
  .rw[Zg (Ne.symm hj)]at ej;rw[if_neg hj]at ha;exact r.src j d2 b ej a ha
 .exact Qb7 s (r.same b u hb) λz=>by rw[o3 b z]at hb;cases hb
def Rel.new(r:Rel K H0 A0 hs ρ F U H)(rp:Rp K H d v G)(nd:G.Nodup)(nl:G.length=d.nl)(sub:∀a∈G,Qom H0 hs ρ F i a):
  Rel K H0 A0 hs (ρ.set i (some (d,true))) (λj=>if j=i then G else F j) (U.set i (some v)) H:=by
 have lt:∀{y:D×Bool},(ρ.set i (some (d,true)))[i]? =some (some y)->i<ρ.length:=λ{y} e=>by
  by_cases hl:i<ρ.length
  .exact hl
  .rw[ZA (by simp;lia)]at e;cases e
 refine⟨by simp[r.len],λj d2 b ej=>?_,λj d2 ej=>?_,λj d2 b ej a ha=>?_,r.held,r.same⟩
 .by_cases hj:j=i
  .subst hj;have hl:=lt ej;rw[Zo hl]at ej;cases ej;exact⟨v,by rw[Zo (by rw[← r.len];exact hl)],by rw[if_pos rfl];exact rp⟩
  .rw[Zg (Ne.symm hj)]at ej;obtain⟨v2,h1,h2⟩:=r.val j d2 b ej;exact⟨v2,by rw[Zg (Ne.symm hj)];exact h1,by rw[if_neg hj];exact h2⟩
 .by_cases hj:j=i
  .subst hj;have hl:=lt ej;rw[Zo hl]at ej;cases ej;rw[if_pos rfl];refine⟨nl,nd,λa ha=>(sub a ha).1,λk d3 b3 hk ek a ha=>?_,λt ht a ha=>(sub a ha).2.2 t ht⟩;rw[Zg (Ne.symm hk)]at ek;rw[if_neg hk];exact(sub a ha).2.1 k d3 b3 ek hk
  .rw[Zg (Ne.symm hj)]at ej;obtain⟨p1,p2,p3,p4,p5⟩:=r.own j d2 ej;rw[if_neg hj];refine⟨p1,p2,p3,λk d3 b3 hk ek a ha=>?_,p5⟩;by_cases hki:k=i
   .subst hki;rw[if_pos rfl];exact λz=>(sub a z).2.1 j d2 true ej hj ha
   .rw[Zg (Ne.symm hki)]at ek;rw[if_neg hki];exact p4 k d3 b3 hk ek a ha
 .by_cases hj:j=i
  .subst hj;rw[if_pos rfl]at ha;exact .inl (sub a ha).1
  .rw[Zg (Ne.symm hj)]at ej;rw[if_neg hj]at ha;exact r.src j d2 b ej a ha
end
end HS
namespace HS
open PySem PySem.Spec L2 PyProof.Rows
inductive Qcu (K:Fgg) (ρ:En) (F:Nat->List Addr) (U:L2.St) (i:Nat):Hp->Hp->List (Option R)->List V->List (List Addr)->Prop
 | nil {H:Hp}:Qcu K ρ F U i H H [] [] []
 | val {H H1 H2:Hp}{r:R}{v:V}{G:LAd}{rs:List (Option R)}{vs:List V}{Gs:List (List Addr)}(p:QR K ρ F H H1 r v G) (t:Qcu K ρ F U i H1 H2 rs vs Gs):Qcu K ρ F U i H H2 (some r::rs) (v::vs) (G::Gs)
 | slot {H H2:Hp}{v:V}{rs:List (Option R)}{vs:List V}{Gs:List (List Addr)}(e:U[i]? =some (some v)) (t:Qcu K ρ F U i H H2 rs vs Gs):Qcu K ρ F U i H H2 (none::rs) (v::vs) (F i::Gs)
def QDP(X:Cx)(i:Nat)(e:Expr):Option DE->Prop
 | some f=>SE X e f
 | none=>PE X e (Qdz i)
inductive Qi8 (X:Cx) (i:Nat):List Expr->List (Option DE)->Prop
 | nil:Qi8 X i [] []
 | cons {e:Expr}{f:Option DE}{es:List Expr}{fs:List (Option DE)}(h:QDP X i e f) (s:∀es env,starEach (e::es) env=(false,eval e env)::starEach es env) (t:Qi8 X i es fs):Qi8 X i (e::es) (f::fs)
section
variable {X:Cx}{i:Nat}{es:List Expr}{fs:List (Option DE)}
def Qi8.any(h:Qi8 X i es fs)(pos:Pos)(env:Env):(backTo pos (starEach es env)).any (·.1)=false:=by
 induction h with
 | nil=>rfl
 | cons h s t ih=>rw[s];simpa[backTo]using ih
end
structure Qtb (K:Fgg) (H:Hp) (Fp:LAd) (d dp:D) (vp v:V) (H':Hp) (G Gp:LAd):Prop where
 same:Qs (hide H Fp) H'
 rp:Rp K H' d v G
 rpp:Rp K H' dp vp Gp
 nd:(G++Gp).Nodup
 len:G.length=d.nl
 lenp:Gp.length=dp.nl
 fr:∀a∈G++Gp,a∈Fp∨H a=none
abbrev Qh9:=List D->Option (D×D)
def QfS(K:Fgg)(n p:Nat)(den:Qh9):Sp:=λvs H Q _=>∃(ds:List D) (F:Nat->List Addr) (a:Addr) (d dp:D),ds.length=n/\vs.length=n/\(∀j dj,ds[j]? =some dj->∃v,vs[j]? =some v/\Rp K H dj v (F j))/\p<n/\vs[p]? =some (.ref a)∧
 (F p).Nodup/\(F p).length=(ds.getD p .non).nl/\(∀j,j<n->j≠p->∀b∈F p,b∉F j)/\den ds=some (d,dp)/\∀v H' G Gp,Qtb K H (F p) d dp (.ref a) v H' G Gp->Q v H'
def QcG(k p:Nat)(a:Addr)(ds:List D):En:=(QaF k ds).set p (some (.obj (.pin a) [ds.getD p .non],true))
noncomputable def Qju(p:Nat)(a:Addr):Out->Option (D×D)
 | .rt (.obj .pair [d,.obj (.pin b) [dp]]) true=>if b=a then some (d,dp)else none
 | .nx ρ=>match ρ[p]? with
  | some (some (.obj (.pin b) [dp],true))=>if b=a then some (.non,dp)else none
  | _=>none
 | _=>none
def UIO(k p:Nat)(g:DS)(den:Qh9):Prop:=∀ds q,den ds=some q->∀a,∃o,g (QcG k p a ds)=some o/\Qju p a o=some q
section
variable {K:Fgg}{H H':Hp}
def Rps.Qzl{d:D}{v:V}{F:LAd}(h:Rps K H [d] [v] F):Rp K H d v F:=by
 simp only[Rps]at h;obtain⟨u,ws,F1,F2,e,eF,r,e2,e3⟩:=h;cases e;rw[eF,e3,ZG];exact r
def Rps.Qsy{d:D}{v:V}{F:LAd}(h:Rp K H d v F):Rps K H [d] [v] F:=by
 simp only[Rps];exact⟨v,[],F,[],rfl,(ZG F).symm,h,rfl,rfl⟩
def Rp.QfE{a:Addr}{d:D}{v:V}{F:LAd}(h:Rp K H (.obj (.pin a) [d]) v F):v= .ref a/\Rp K H d v F:=by
 simp only[Rp]at h;obtain⟨vs,A,G,eF,⟨e1,e2,e3⟩,r⟩:=h;subst e2 e3;rw[eF,ZaP];exact⟨e1,r.Qzl⟩
def Rp.Qpa{a:Addr}{d:D}{F:LAd}(h:Rp K H d (.ref a) F):Rp K H (.obj (.pin a) [d]) (.ref a) F:=by
 simp only[Rp];exact⟨[.ref a],[],F,rfl,⟨rfl,rfl,rfl⟩,Rps.Qsy h⟩
def Rp.QvR{d e:D}{v:V}{F:LAd}(h:Rp K H (.obj .pair [d,e]) v F):∃u F1 F2,F=F1++F2/\Rp K H d v F1/\Rp K H e u F2:=by
 simp only[Rp]at h;obtain⟨vs,A,G,eF,⟨e1,_,u,e2⟩,r⟩:=h;subst e1 e2;simp only[Rps]at r;obtain⟨v',ws,F1,F2,e1,e2,r1,u',ws',F3,F4,e3,e4,r2,e5,e6⟩:=r;cases e1;cases e3;subst e6;exact⟨u,F1,F3,by rw[eF,e2,e4,ZG,ZaP],r1,r2⟩
def Rp.QyM{d e:D}{v u:V}{F1 F2:LAd}(h1:Rp K H d v F1)(h2:Rp K H e u F2)(hn:v≠ .non):Rp K H (.obj .pair [d,e]) v (F1++F2):=by
 simp only[Rp];refine⟨[v,u],[],F1++F2,rfl,⟨rfl,hn,u,rfl⟩,?_⟩;simp only[Rps];exact⟨v,[u],F1,F2,rfl,rfl,h1,u,[],F2,[],rfl,(ZG F2).symm,h2,rfl,rfl⟩
def Qe0(a:Addr)(d:D):(D.obj (.pin a) [d]).nl=d.nl:=by simp only[D.nl,nls,Ob.n];lia
def Qqq(d e:D):(D.obj .pair [d,e]).nl=d.nl+e.nl:=by simp only[D.nl,nls,Ob.n];lia
end
section
variable {P:Program}{w:World}{K:Fgg}{mg:Str->Option Value}{base:Heap}
def QeO{k p:Nat}{a:Addr}{ds:List D}{j:Nat}{d:D}{b:Bool}(h:(QcG k p a ds)[j]? =some (some (d,b))):(j=p/\d= .obj (.pin a) [ds.getD p .non]/\b=true)∨(j≠p/\ds[j]? =some d/\b=d.flat):=by
 unfold QcG at h;by_cases hj:j=p
 .subst hj;by_cases hl:j<(QaF k ds).length
  .rw[Zo hl]at h;cases h;exact .inl ⟨rfl,rfl,rfl⟩
  .rw[ZA (by simp;lia)]at h;cases h
 .rw[Zg (Ne.symm hj)]at h;obtain⟨h1,h2⟩:=QgN h;exact .inr ⟨hj,h1,h2⟩
def QpV{H:Hp}{ds:List D}{vs:List V}{F:Nat->List Addr}{N:List Str}{n p:Nat}{a:Addr}(hl:ds.length=n)(hvl:vs.length=n)(hv:∀j dj,ds[j]? =some dj->∃v,vs[j]? =some v/\Rp K H dj v (F j))(hp:p<n)(ha:vs[p]? =some (.ref a))
  (nd:(F p).Nodup) (ln:(F p).length=(ds.getD p .non).nl) (ap:∀j,j<n->j≠p->∀b∈F p,b∉F j):Rel K (hide H (F p)) ((List.range n).flatMap F) [] (QcG N.length p a ds) F (start N vs) H:=by
 have at_:∀{j:Nat}{v:V},vs[j]? =some v->(start N vs)[j]? =some (some v):=λ{j v} e=>by
  have hi:j<vs.length:=(Zm.mp e).1;unfold L2.start;rw[Zao (by simpa using hi),Zw,e];rfl
 have hd:ds[p]? =some (ds.getD p .non):=by rw[ZR,ZV ⋯];rfl
 obtain⟨v0,e0,r0⟩:=hv p _ hd;rw[ha]at e0;cases e0;have inA:∀{j:Nat}{b:Addr},j<n->b∈F j->b∈(List.range n).flatMap F:=λ{j b} h1 h2=>List.mem_flatMap.mpr ⟨j,Zal.mpr h1,h2⟩;refine⟨by unfold QcG QaF L2.start;simp[hl,hvl],λj d b e=>?_,λj d e=>?_,λj d b e c hc=>?_,λt ht=>absurd ht ⋯,QsV⟩
 .rcases QeO e with⟨rfl,rfl,rfl⟩ | ⟨hj,e1,_⟩
  .exact⟨_,at_ ha,Rp.Qpa r0⟩
  .obtain⟨v,h1,h2⟩:=hv j d e1;exact⟨v,at_ h1,h2⟩
 .rcases QeO e with⟨rfl,rfl,_⟩ | ⟨hj,e1,ef⟩
  .refine⟨by rw[Qe0];exact ln,nd,λc hc=>Qjp hc,λk d' b' hk ek c hc=>?_,λt ht=>absurd ht ⋯⟩;rcases QeO ek with⟨z,_⟩ | ⟨_,e2,_⟩
   .exact absurd z hk
   .have:k<ds.length:=(Zm.mp e2).1;exact ap k ⋯ hk c hc
  .obtain⟨v,h1,h2⟩:=hv j d e1;have z:F j=[]:=h2.QbX ef.symm;rw[z];exact⟨(Qdr d ef.symm).symm,ZT,λa ha=>by simp at ha,λ_ _ _ _ _ a ha=>by simp at ha,λ_ _ a ha=>by simp at ha⟩
 .rcases QeO e with⟨rfl,_⟩ | ⟨_,e1,_⟩
  .exact .inl (Qjp hc)
  .have:j<ds.length:=(Zm.mp e1).1;exact .inr (inA ⋯ hc)
def Qws{n p:Nat}{den:Qh9}{ps:List Str}(hn:ps.length=n):∀vs H Q E,QfS K n p den vs H Q E->vs.length=ps.length:=λvs H Q E ⟨ds,F,a,d,dp,h1,h2,_⟩=>by rw[hn,h2]
def QzB{H:Hp}{F:Nat->List Addr}{p:Nat}{a:Addr}{A0:LAd}{o:Out}{d dp:D}{Q:VK}(ho:Qju p a o=some (d,dp))(q:∀v H' G Gp,Qtb K H (F p) d dp (.ref a) v H' G Gp->Q v H'):
  Fits K (hide H (F p)) A0 [] {nx:=λ_ H'=>Q .non H',rt:=Q} o:=by
 unfold Qju at ho;split at ho
 .rename_i d' b dp';split at ho
  .rename_i hb;cases ho;subst hb;refine λv H' G rt=>?_;obtain⟨u,G1,G2,eG,r1,r2⟩:=rt.rp.QvR;obtain⟨e,r3⟩:=r2.QfE;subst e eG;obtain⟨n1,n2,n3⟩:=rt.cnt rfl;rw[Qqq,Qe0,Zl]at n2;have l1:=r1.Qaq;have l2:=r3.Qaq;exact q v H' G1 G2 ⟨rt.same,r1,r3,n1,⋯,⋯,λc hc=>Qnf (n3 c hc)⟩
  .cases ho
 .rename_i ρ;split at ho
  .rename_i b dp' hρ;split at ho
   .rename_i hb;cases ho;subst hb;refine λU H' F' rel=>?_;obtain⟨v,e,rp⟩:=rel.val p _ _ hρ;obtain⟨e,r3⟩:=rp.QfE;subst e;obtain⟨o1,o2,o3,_,_⟩:=rel.own p _ hρ;rw[Qe0]at o1;exact q .non H' [] (F' p) ⟨rel.same,.Qdd,r3,by simpa using o2,rfl,o1,λc hc=>Qnf (o3 c (by simpa using hc))⟩
   .cases ho
  .cases ho
 .cases ho
def QD8{x qual:Str}{st:Stmt}{f:Addr}{fd:FuncData}{ps:List Str}{k n p:Nat}{Θ:Th}{g:DS}{den:Qh9}(F:Fun K x qual st f fd)(S:QZ (namesOf (Qd st)) ps (Qd st))
  (hΘ:∀(cdv:Value) (A:Around) (outer:List Env) (s:Shared) (H:Hp) (E:XK),Q3 k (A.deeper (envOfC qual (Qd st) s.heap.objs.size f cdv))->Qr (Qbv CX0 P w K mg base (namesOf (Qd st)) qual (Qd st) f cdv A outer s H E).nox Θ)
  (hc:Q8 n Θ (Qx st)=some g) (hU:UIO (namesOf (Qd st)).length p g den):Qag P w K mg base CX0 (k+1) f fd ps (QfS K ps.length p den):=by
 refine F.ok S (Qws rfl) λcdv A outer s H vs Q E hr h=>?_;obtain⟨ds,L,a,d,dp,h1,h2,h3,h4,h5,h6,h7,h8,h9,q⟩:=h;refine⟨_,(Qfy n).Ss _ _ _ g (hΘ cdv A outer s H E hr) hc (hide H (L p)) ((List.range ps.length).flatMap L),?_⟩;obtain⟨o,e1,e2⟩:=hU ds _ h9 a;exact⟨_,[],L,o,QpV h1 h2 h3 h4 h5 h6 h7 h8,e1,QzB e2 q⟩
end
def QrW(p:Nat)(fa:DE):DS:=λρ=>(fa ρ).bind λr=>match ρ[p]? with
 | some (some (dp,true))=>if(r.norm.fr && decide r.norm.M.Nodup && !r.norm.M.contains p && !r.d.QnO)=true then some (.rt (.obj .pair [r.d,dp]) true)else none
 | _=>none
section
variable {X:Cx}{e:Expr}{fa:DE}{pos:Pos}{p:Nat}
def QxF(he:SE X e fa):S1 X (.Return (some e) pos) (QrW p fa):=λH0 A0=>(QpI (he H0 A0)).mono λE U H=>exK λρ hs F o rel e q=>by
 refine Qf e λr e1 e=>?_;split at e
 .rename_i dp hρ;split at e
  .rename_i hc;cases e;simp only[Zh,decide_eq_true_eq,ZF]at hc;obtain⟨⟨⟨c1,c2⟩,c3⟩,c4⟩:=hc;refine⟨ρ,hs,F,r,rel,e1,λv H' G p1=>q v H' (G++F p) ?_⟩;have p':=p1.norm;obtain⟨g1,g2⟩:=p'.fresh rel c1 c2;have g3:=(p'.cnt c1).2;rw[r.QdH]at g3;obtain⟨u,eu,ru⟩:=rel.val p dp true hρ;obtain⟨o1,o2,o3,o4,o5⟩:=rel.own p dp hρ;refine⟨rel.same.trans p1.same,Rp.QyM p1.rp (ru.same p1.same) ?_,λa ha=>?_,λ_=>⟨ZP.mpr ⟨g1,o2,λa ha b hb hab=>?_⟩,by rw[Qqq,Zl,g3,o1],λa ha=>?_⟩⟩
   .have:=QlY p1.rp;rw[c4]at this;exact of_decide_eq_false this
   .rcases Zx.mp ha with z | z
    .exact .inl (g2 a z).1
    .exact .inl (o3 a z)
   .subst hab;rcases(g2 a ha).2 with z | ⟨i,d,hi,ei,mi⟩
    .obtain⟨w,hw⟩:=ru.mem a hb;rw[z]at hw;cases hw
    .have hne:i≠p:=λz=>by
      subst z;have:r.norm.M.contains i=true:=ZN.mpr hi;rw[this]at c3;cases c3
     exact o4 i d true hne ei a hb mi
   .rcases Zx.mp ha with z | z
    .exact(g2 a z).1
    .exact o3 a z
  .cases e
 .cases e
end
abbrev ClT:=List (Str×List Str)
def QhL(K:Fgg)(T:ClT):Prop:=∀x fs,look x T=some fs->∀C,PySem.W.nsIn K mainGlobals x=some (some (.ref C))->Cls K C/\∀f∈fs,Qcy K C f
noncomputable def unp:D->D
 | .obj (.pin _) [d]=>d
 | d=>d
def QCH(T:ClT)(f:Str)(d:D):Option D:=match unp d with
 | .obj (.ins x ns) ds=>(look x T).bind λfs=>if fs.contains f=true then(posOf f ns).bind λj=>ds[j]? else none
 | _=>none
def Qej(T:ClT)(f:Str)(fa:DE):DE:=λρ=>(fa ρ).bind λr=>(QCH T f r.d).map λd=>R.norm ⟨d,r.fr,r.M⟩
section
variable {K:Fgg}{H H':Hp}
def Rp.unp{d:D}{v:V}{F:LAd}(h:Rp K H d v F):Rp K H (HS.unp d) v F/\(HS.unp d).nl=d.nl:=by
 unfold HS.unp;split
 .exact⟨h.QfE.2,(Qe0 _ _).symm⟩
 .exact⟨h,rfl⟩
def Rp.QgY{x:Str}{ns:List Str}{ds:List D}{v:V}{F:LAd}(h:Rp K H (.obj (.ins x ns) ds) v F):
  ∃a C dx vs G,v= .ref a/\F=a::G/\PySem.W.nsIn K mainGlobals x=some (some (.ref C))/\H a=some (.ins C dx (ns.zip vs))/\ns.length=vs.length/\Rps K H ds vs G:=by
 simp only[Rp]at h;obtain⟨vs,A,G,eF,⟨a,C,dx,e1,e2,e3,e4,e5⟩,r⟩:=h;subst e2;exact⟨a,C,dx,vs,G,e1,eF,e3,e4,e5,r⟩
def Rp.Qo3{x:Str}{ns:List Str}{ds:List D}{a C dx:Addr}{vs:List V}{G:LAd}(e3:PySem.W.nsIn K mainGlobals x=some (some (.ref C)))(e4:H a=some (.ins C dx (ns.zip vs)))(e5:ns.length=vs.length)(r:Rps K H ds vs G):Rp K H (.obj (.ins x ns) ds) (.ref a) (a::G):=by
 simp only[Rp];exact⟨vs,[a],G,rfl,⟨a,C,dx,rfl,rfl,e3,e4,e5⟩,r⟩
def Qla{f:Str}:∀{ns:List Str}{vs:List V}{j:Nat}{v:V},posOf f ns=some j->vs[j]? =some v->(ns.zip vs).lookup f=some v
 | [],_,_,_,h,_=>by cases h
 | g::ns,[],_,_,_,e=>by simp at e
 | g::ns,u::vs,j,v,h,e=>by
  unfold posOf at h;split at h
  .rename_i hg;cases h;subst hg;simp at e;subst e;simp[Zv]
  .rename_i hg;obtain⟨k,hk,rfl⟩:=Zb.mp h;rw[Zax,Zv,beq_eq_false_iff_ne.mpr hg];exact Qla hk (by simpa using e)
def QcW{f:Str}:∀{ns:List Str}{vs:List V},f∉ns->(ns.zip vs).lookup f=none
 | [],_,_=>rfl
 | g::ns,[],_=>rfl
 | g::ns,u::vs,h=>by
  have h1:f≠g:=λz=>h (by rw[z];exact Zf);rw[Zax,Zv,beq_eq_false_iff_ne.mpr h1];exact QcW λz=>h (Zc _ z)
def Qn3{f:Str}{y:V}:∀{ns:List Str}{vs:List V}{j:Nat},posOf f ns=some j->ns.length=vs.length->Qbz f y (ns.zip vs)=ns.zip (vs.set j y)
 | [],_,_,h,_=>by cases h
 | g::ns,[],_,_,e=>by simp at e
 | g::ns,u::vs,j,h,e=>by
  unfold posOf at h;split at h
  .rename_i hg;cases h;subst hg;simp[Qbz]
  .rename_i hg;obtain⟨k,hk,rfl⟩:=Zb.mp h;rw[Zax,Qbz,if_neg (Ne.symm hg),Qn3 hk (by simpa using e)];rfl
def QoC{f:Str}{y:V}:∀{ns:List Str}{vs:List V},posOf f ns=none->ns.length=vs.length->Qbz f y (ns.zip vs)=(ns++[f]).zip (vs++[y])
 | [],[],_,_=>rfl
 | [],_::_,_,e=>by simp at e
 | g::ns,[],_,e=>by simp at e
 | g::ns,u::vs,h,e=>by
  unfold posOf at h;split at h
  .cases h
  .rename_i hg;have hk:posOf f ns=none:=by
    cases q:posOf f ns with
    | none=>rfl
    | some k=>rw[q]at h;cases h
   rw[Zax,Qbz,if_neg (Ne.symm hg),QoC hk (by simpa using e)];rfl
end
section
variable {X:Cx}{T:ClT}{f:Str}{e:Expr}{fa:DE}{pos:Pos}
def QBg(hT:QhL X.K T)(he:SE X e fa)(hb:attributeBase e f X.env (eval e X.env)=eval e X.env):SE X (.Attribute e f pos) (Qej T f fa):=λH0 A0=>(QBx (he H0 A0) hb).mono λU H Q=>exK λρ hs F r rel e q=>by
 refine Qf e λra e1 e=>?_;obtain⟨d,e2,rfl⟩:=Zb.mp e;refine⟨ρ,hs,F,ra,rel,e1,λv H1 G p=>?_⟩;unfold QCH at e2;obtain⟨ru,rn⟩:=p.rp.unp;split at e2
 .rename_i x ns ds hu;rw[hu]at ru rn;refine Qf e2 λfs h1 e2=>?_;split at e2
  .rename_i hf;refine Qf e2 λj h2 e2=>?_;obtain⟨a,C,dx,vs,G0,ev,eG,e3,e4,e5,rs⟩:=ru.QgY;obtain⟨c1,c2⟩:=hT x fs h1 C e3;obtain⟨u,F1,G1,F2,g1,g2,g3,g4⟩:=rs.get e2;refine⟨a,C,dx,_,u,ev,e4,c1,c2 f (ZN.mp hf),Qla h2 g1,q u H1 G1 (p.sub g3 (λb=>?_) λhl=>g4 ?_).norm⟩
   .rw[eG,g2,Zaj,ZS,ZS];lia
   .rw[eG,Zs,← rn]at hl;simp only[D.nl,Ob.n]at hl;lia
  .cases e2
 .cases e2
end
def putD(T:ClT)(f:Str)(y:D)(d:D):Option D:=match d with
 | .obj (.ins x ns) ds=>(look x T).bind λfs=>if(fs.contains f && decide (ns.length<1000))=true then(match posOf f ns with
  | some j=>if j<ds.length then some (.obj (.ins x ns) (ds.set j y))else none
  | none=>some (.obj (.ins x (ns++[f])) (ds++[y])))else none
 | _=>none
noncomputable def Qsx(g:D->Option D)(d:D):Option D:=match d with
 | .obj (.pin a) [e]=>(g e).map λz=> .obj (.pin a) [z]
 | d=>g d
section
variable {K:Fgg}{H0 H H':Hp}{A0:LAd}{hs:List (V×D×List Addr)}{ρ:En}{F:Nat->List Addr}{U:L2.St}{i:Nat}{d d' dy:D}{v y:V}{G:LAd}{T:ClT}{f:Str}
def Qne{a:Addr}{u:HO}{P:LAd}(h:a∈P):Qs (hide H P) (upd H a u):=λb o e=>by
 by_cases q:b∈P
 .rw[Qjp q]at e;cases e
 .rw[QhQ q]at e;rw[Qy (λz:b=a=>q (by rw[z];exact h))];exact e
def Qy2{a:Addr}{L:LAd}(hT:QhL K T)(rp:Rp K H d v L)(nd:L.Nodup)(ln:L.length=d.nl)(ry:Rp K H dy y G)(gn:G.Nodup)(gl:G.length=dy.nl)(ap:∀b∈G,b∉L)(e:putD T f dy d=some d'):
  ∃a C dx fs,v= .ref a/\H a=some (.ins C dx fs)/\Cls K C/\Qcy K C f/\fs.length<1000/\a∈L/\∃L',Rp K (upd H a (.ins C dx (Qbz f y fs))) d' v L'/\L'.Nodup/\L'.length=d'.nl/\∀b∈L',b∈L∨b∈G:=by
 unfold putD at e;split at e
 .rename_i x ns ds;refine Qf e λfs h1 e=>?_;split at e
  .rename_i hc;simp only[Zh,decide_eq_true_eq]at hc;obtain⟨a,C,dx,vs,G0,ev,eL,e3,e4,e5,rs⟩:=rp.QgY;obtain⟨c1,c2⟩:=hT x fs h1 C e3;subst eL;obtain⟨na,n0⟩:=Zac.mp nd;have hm:∀b∈[a],Qge (H b):=λb hb=>by rw[Zj.mp hb,e4];exact True.intro
   have sm:∀u,Qs (hide H [a]) (upd H a u):=λu=>Qne (List.mem_singleton_self a);have keep:∀{b:Addr},b∈G0->b∉[a]:=λ{b} hb z=>na (by rw[Zj.mp z]at hb;exact hb);have keepG:∀{b:Addr},b∈G->b∉[a]:=λ{b} hb z=>ap b hb (by rw[Zj.mp z];exact Zf);have l0:G0.length=nls ds:=by
    rw[Zs]at ln;simp only[D.nl,Ob.n]at ln;lia
   refine⟨a,C,dx,_,ev,e4,c1,c2 f (ZN.mp hc.1),by rw[List.length_zip];lia,Zf,?_⟩;subst ev;split at e
   .rename_i j hj;split at e
    .rename_i hlt;cases e;have hd:ds[j]? =some ds[j]:=ZV hlt;obtain⟨F1,Gj,F2,w,eG,ew,r1,r2,r3⟩:=rs.split hd;have hvl:j<vs.length:=(Zm.mp ew).1;have i1:∀b∈F1,b∈G0:=λb hb=>by rw[eG];exact Zk _ hb
     have i2:∀b∈F2,b∈G0:=λb hb=>by rw[eG];exact Ze _ (Ze _ hb)
     have ij:∀b∈Gj,b∈G0:=λb hb=>by rw[eG];exact Ze _ (Zk _ hb)
     rw[eG]at n0;obtain⟨m1,m2,m3⟩:=ZP.mp n0;obtain⟨m4,m5,m6⟩:=ZP.mp m2;refine⟨a::(F1++(G++F2)),Rp.Qo3 e3 (by rw[Q4,Qn3 hj e5]) (by rw[Zap];exact e5) (Rps.QwU (r1.but hm (sm _) λb hb=>keep (i1 b hb)) (ry.but hm (sm _) λb hb=>keepG hb) (r3.but hm (sm _) λb hb=>keep (i2 b hb)) hlt hvl),?_,?_,λb hb=>?_⟩
     .refine Zac.mpr ⟨λz=>?_,ZP.mpr ⟨m1,ZP.mpr ⟨gn,m5,λb hb c hcc hbc=>?_⟩,λb hb c hcc hbc=>?_⟩⟩
      .rcases Zx.mp z with z | z
       .exact na (i1 a z)
       .rcases Zx.mp z with z | z
        .exact ap a z Zf
        .exact na (i2 a z)
      .subst hbc;exact ap b hb (Zc _ (i2 b hcc))
      .subst hbc;rcases Zx.mp hcc with z | z
       .exact ap b z (Zc _ (i1 b hb))
       .exact m3 b hb b (Ze _ z) rfl
     .have k1:=Qhf (e:=dy) hd;have k2:=r2.Qaq;have k3:=congrArg List.length eG;simp only[Zl]at k3;have k4:=r1.Qaq;have k5:=r3.Qaq;have k6:nls ds=nls (ds.take j)+(ds[j].nl+nls (ds.drop (j+1))):=by
       have:ds=ds.take j++ds[j]::ds.drop (j+1):=by rw[← ZH hlt,Zaz]
       have h':=congrArg nls this;rw[Qct]at h';exact h'
      simp only[D.nl,Ob.n,Zs,Zl];lia
     .rcases Zn.mp hb with z | z
      .exact .inl (by rw[z];exact Zf)
      .rcases Zx.mp z with z | z
       .exact .inl (Zc _ (i1 b z))
       .rcases Zx.mp z with z | z
        .exact .inr z
        .exact .inl (Zc _ (i2 b z))
    .cases e
   .rename_i hj;cases e;refine⟨a::(G0++G),Rp.Qo3 e3 (by rw[Q4,QoC hj e5]) (by rw[Zl,Zl,e5];rfl) ((rs.but hm (sm _) λb hb=>keep hb).append (Rps.Qsy (ry.but hm (sm _) λb hb=>keepG hb))),?_,?_,λb hb=>?_⟩
    .refine Zac.mpr ⟨λz=>?_,ZP.mpr ⟨n0,gn,λb hb c hcc hbc=>?_⟩⟩
     .rcases Zx.mp z with z | z
      .exact na z
      .exact ap a z Zf
     .subst hbc;exact ap b hcc (Zc _ hb)
    .simp only[D.nl,Ob.n,Zs,Zl,Qct,nls];lia
    .rcases Zn.mp hb with z | z
     .exact .inl (by rw[z];exact Zf)
     .rcases Zx.mp z with z | z
      .exact .inl (Zc _ z)
      .exact .inr z
  .cases e
 .cases e
def QuU{g:D->Option D}{d d':D}(h:Qsx g d=some d'):(∃a e z,d= .obj (.pin a) [e]/\g e=some z/\d'= .obj (.pin a) [z])∨g d=some d':=by
 unfold Qsx at h;split at h
 .rename_i a e;obtain⟨z,h1,h2⟩:=Zb.mp h;exact .inl ⟨a,e,z,rfl,h1,h2.symm⟩
 .exact .inr h
def Rel.QEv(hT:QhL K T)(r:Rel K H0 A0 hs ρ F U H)(e:ρ[i]? =some (some (d,true)))(ry:Rp K H dy y G)(gn:G.Nodup)(gl:G.length=dy.nl)(gs:∀b∈G,Qom H0 hs ρ F i b/\b∉F i)(hp:Qsx (putD T f dy) d=some d'):
  ∃v a C dx fs,U[i]? =some (some v)/\v= .ref a/\H a=some (.ins C dx fs)/\Cls K C/\Qcy K C f/\fs.length<1000/\∃F',Rel K H0 A0 hs (ρ.set i (some (d',true))) F' U (upd H a (.ins C dx (Qbz f y fs))):=by
 obtain⟨v,hv,rp⟩:=r.val i d true e;obtain⟨o1,o2,o3,o4,o5⟩:=r.own i d e
 have core:∀{e0 z:D},Rp K H e0 v (F i)->(F i).length=e0.nl->putD T f dy e0=some z->(∀{H'':Hp}{L':LAd},Rp K H'' z v L'->Rp K H'' d' v L')->z.nl=d'.nl→
   ∃v a C dx fs,U[i]? =some (some v)/\v= .ref a/\H a=some (.ins C dx fs)/\Cls K C/\Qcy K C f/\fs.length<1000/\∃F',Rel K H0 A0 hs (ρ.set i (some (d',true))) F' U (upd H a (.ins C dx (Qbz f y fs))):=λ{e0 z} r0 l0 hz up hn=>by
  obtain⟨a,C,dx,fs,ev,ha,c1,c2,c3,hm,L',rl,nl',ll,sub⟩:=Qy2 (a:=0) hT r0 o2 l0 ry gn gl (λb hb=>(gs b hb).2) hz;refine⟨v,a,C,dx,fs,hv,ev,ha,c1,c2,c3,_,r.io e hv (Qne hm) (up rl) nl' (by rw[ll,hn]) λb hb=>?_⟩;rcases sub b hb with q | q
  .exact r.Qrj e (.inl q)
  .exact(gs b q).1
 rcases QuU hp with⟨a,e0,z,rfl,hz,rfl⟩ | hz
 .obtain⟨ea,r0⟩:=rp.QfE;subst ea;exact core r0 (by rw[o1,Qe0]) hz (λh=>Rp.Qpa h) (Qe0 _ _).symm
 .exact core rp o1 hz (λh=>h) rfl
def Qiw:∀(M:List Nat) (ρ:En) (i:Nat),i∉M->(kill M ρ)[i]? =ρ[i]?
 | [],ρ,i,_=>rfl
 | j::M,ρ,i,h=>by
  unfold kill;rw[Qiw M _ i (λz=>h (Zc _ z)),Zg (λz=>h (by rw[z];exact Zf))]
def QR.Qrj{rr:R}{v:V}(r:Rel K H0 A0 hs ρ F U H)(p:QR K ρ F H H' rr v G)(hf:rr.fr=true)(nd:rr.M.Nodup)(hi:i∉rr.M)(e:ρ[i]? =some (some (d,true))):∀b∈G,Qom H0 hs (kill rr.M ρ) F i b/\b∉F i:=by
 obtain⟨gn,gs⟩:=p.fresh r hf nd;have apart:∀(j:Nat) d b,(kill rr.M ρ)[j]? =some (some (d,b))->∀a∈G,a∉F j:=λj d b e a ha hj=>by
  obtain⟨b',e',_⟩:=(QbT rr.M ρ).2 j d b e;rcases(gs a ha).2 with q | ⟨k,d',hk,ek,hak⟩
  .obtain⟨vs,w⟩:=r.mem e' hj;rw[q]at w;cases w
  .have hjk:j≠k:=λz=>by subst z;exact Qgk rr.M ρ j d b hk e
   exact(r.own k d' ek).2.2.2.1 j d b' hjk e' a hak hj
 refine λb hb=>⟨⟨(gs b hb).1,λj d' b' ej hj=>apart j d' b' ej b hb,λt ht hj=>?_⟩,apart i d true (by rw[Qiw _ _ _ hi];exact e) b hb⟩;rcases(gs b hb).2 with q | ⟨k,d',hk,ek,hak⟩
 .obtain⟨vs,w⟩:=(r.held t ht).1.mem b hj;rw[q]at w;cases w
 .exact(r.own k d' ek).2.2.2.2 t ht b hak hj
end
def QeU(T:ClT)(i:Nat)(f:Str)(fa:DE):DS:=λρ=>(fa ρ).bind λr=>match ρ[i]? with
 | some (some (d,true))=>if(r.norm.fr && decide r.norm.M.Nodup && !r.norm.M.contains i)=true then(Qsx (putD T f r.d) d).map λd'=> .nx ((kill r.norm.M ρ).set i (some (d',true)))else none
 | _=>none
section
variable {X:Cx}{T:ClT}{f:Str}{o e:Expr}{fa:DE}{pos pos':Pos}{i:Nat}
def QyS(hT:QhL X.K T)(ho:PE X o (Qdz i))(he:SE X e fa)(hs:swapsWith e (some (.Attribute o f pos')) pos.line X.env=pure false):S1 X (.Assign [.Attribute o f pos'] e pos) (QeU T i f fa):=λH0 A0=>(QCp ho (he H0 A0) hs).mono λE U H=>exK λρ hs F out rel e q=>by
 refine Qf e λr e1 e=>?_;split at e
 .rename_i d hρ;split at e
  .rename_i hc;simp only[Zh,decide_eq_true_eq,ZF]at hc;obtain⟨⟨c1,c2⟩,c3⟩:=hc;have hi:i∉r.norm.M:=λz=>by rw[ZN.mpr z]at c3;cases c3
   obtain⟨d',e2,rfl⟩:=Zb.mp e;refine⟨ρ,hs,F,r,rel,e1,λy H1 G p=>?_⟩;have p':=p.norm;obtain⟨gn,_⟩:=p'.fresh rel c1 c2;have gl:=(p'.cnt c1).2;have lo:=p'.Qrj rel c1 c2 hi hρ;rw[r.QdH]at gl;have r1:=(rel.ext p.same).weak (QbT r.norm.M ρ);obtain⟨v,a,C,dx,fs,hv,ev,ha,k1,k2,k3,F',rel'⟩:=r1.QEv hT (by rw[Qiw _ _ _ hi];exact hρ) p.rp gn gl lo e2;exact⟨v,hv,a,C,dx,fs,ev,ha,k1,k2,k3,q _ _ F' rel'⟩
  .cases e
 .cases e
end
structure IoR where
 n:Nat
 p:Nat
 den:Qh9
abbrev MeT:=List (Str×List (Str×IoR))
def Qta(X:Cx)(T:MeT):Prop:=∀x ms m r,look x T=some ms->look m ms=some r->∀C,PySem.W.nsIn X.K mainGlobals x=some (some (.ref C))->∃k f fd ps,Cls X.K C/\QiD X.K C m f/\Qag X.prog X.w X.K X.mg X.base CX0 k f fd ps (QfS X.K r.n 0 r.den)/\Q3 k X.A/\Binds X.K fd ps []
def ioM(T:MeT)(m:Str)(ds:List D)(d:D):Option (D×D):=match d with
 | .obj (.ins x ns) es=>(look x T).bind λms=>(look m ms).bind λr=>if(!ns.contains m && decide (r.n=ds.length+1))=true then r.den (.obj (.ins x ns) es::ds)else none
 | _=>none
noncomputable def QmH(g:D->Option (D×D))(d:D):Option (D×D):=match d with
 | .obj (.pin a) [e]=>(g e).map λq=>(q.1,.obj (.pin a) [q.2])
 | d=>g d
section
variable {K:Fgg}{H0 H H':Hp}{A0:LAd}{hs:List (V×D×List Addr)}{ρ:En}{F:Nat->List Addr}{U:L2.St}{i x:Nat}{d d2 dp:D}{v v2:V}{G Gp:LAd}
def QvH{g:D->Option (D×D)}{d:D}{q:D×D}(h:QmH g d=some q):∃e z,g e=some (q.1,z)/\((∃a,d= .obj (.pin a) [e]/\q.2= .obj (.pin a) [z])∨(d=e/\q.2=z)):=by
 unfold QmH at h;split at h
 .rename_i a e;obtain⟨z,h1,h2⟩:=Zb.mp h;subst h2;exact⟨e,z.2,h1,.inl ⟨a,rfl,rfl⟩⟩
 .exact⟨d,q.2,h,.inr ⟨rfl,rfl⟩⟩
end
section
variable {X:Cx}{T:MeT}{m nm:Str}{o e:Expr}{es:List Expr}{fs:DA}{pos cpos apos p:Pos}{i x:Nat}
def QoX{K:Fgg}{H:Hp}{ds:List D}{vs:List V}{G:LAd}(h:Rps K H ds vs G):∃F:Nat->List Addr,(∀j b,b∈F j->b∈G)/\∀j d,ds[j]? =some d->∃v,vs[j]? =some v/\Rp K H d v (F j):=by
 obtain⟨Fs,h1,h2⟩:=h.parts;refine⟨λj=>Fs.getD j [],λj b hb=>?_,h2⟩;dsimp only at hb;rw[ZR]at hb;by_cases hj:j<Fs.length
 .rw[ZV hj]at hb;exact h1 _ (List.getElem_mem hj) b hb
 .rw[ZA ⋯]at hb;simp at hb
end
noncomputable def rsD:List (Option R)->D->List D
 | [],_=>[]
 | some r::rs,d=>r.d::rsD rs d
 | none::rs,d=>d::rsD rs d
noncomputable def rsM:List (Option R)->List Nat
 | []=>[]
 | some r::rs=>r.M++rsM rs
 | none::rs=>rsM rs
section
variable {K:Fgg}{H0 H H':Hp}{A0:LAd}{hs:List (V×D×List Addr)}{ρ:En}{F:Nat->List Addr}{U:L2.St}{i:Nat}{rs:List (Option R)}{vs:List V}{Gs:List (List Addr)}
def Qcu.same(h:Qcu K ρ F U i H H' rs vs Gs):Qs H H':=by
 induction h with
 | nil=>exact Qs.refl _
 | val p t ih=>exact p.same.trans ih
 | slot e t ih=>exact ih
def Qcu.len(h:Qcu K ρ F U i H H' rs vs Gs):vs.length=rs.length:=by
 induction h with
 | nil=>rfl
 | val p t ih=>rw[Zs,Zs,ih]
 | slot e t ih=>rw[Zs,Zs,ih]
def Qcu.each(h:Qcu K ρ F U i H H' rs vs Gs){e0:D}{v:V}(hv:U[i]? =some (some v))(r0:Rp K H e0 v (F i)):∀j dj,(rsD rs e0)[j]? =some dj->∃u,vs[j]? =some u/\Rp K H' dj u (Gs.getD j []):=by
 induction h with
 | nil=>intro j dj e;simp[rsD]at e
 | val p t ih=>
  intro j dj e;cases j with
  | zero=>simp[rsD]at e;subst e;exact⟨_,rfl,by simpa using p.rp.same t.same⟩
  | succ j=>
   obtain⟨u,g1,g2⟩:=ih (r0.same p.same) j dj (by simpa[rsD]using e);exact⟨u,by simpa using g1,by simpa using g2⟩
 | slot e1 t ih=>
  intro j dj e;cases j with
  | zero=>
   simp[rsD]at e;subst e;rw[hv]at e1;cases e1;exact⟨_,rfl,by simpa using r0.same t.same⟩
  | succ j=>
   obtain⟨u,g1,g2⟩:=ih r0 j dj (by simpa[rsD]using e);exact⟨u,by simpa using g1,by simpa using g2⟩
def Qcu.apart(rel:Rel K H0 A0 hs ρ F U H)(h:Qcu K ρ F U i H H' rs vs Gs){d:D}(hρ:ρ[i]? =some (some (d,true)))(hM:i∉rsM rs):∀j,(∃r,rs[j]? =some (some r))->∀b∈F i,b∉Gs.getD j []:=by
 induction h with
 | nil=>intro j ⟨r,e⟩;simp at e
 | val p t ih=>
  intro j hj b hb;cases j with
  | zero=>
   simp only[List.getD_cons_zero];intro hbG;obtain⟨o1,o2,o3,o4,o5⟩:=rel.own i d hρ;rcases p.src b hbG with w | ⟨j,d',b',ej,mj,hj'⟩
   .obtain⟨u,hu⟩:=rel.mem hρ hb;rw[w]at hu;cases hu
   .by_cases hji:j=i
    .subst hji;rw[hρ]at ej;cases ej;exact hM (Zk _ (hj' rfl))
    .exact o4 j d' b' hji ej b hb mj
  | succ j=>
   obtain⟨r',e⟩:=hj;simp only[List.getD_cons_succ];exact ih (rel.ext p.same) (λz=>hM (Ze _ z)) j ⟨r',by simpa using e⟩ b hb
 | slot e1 t ih=>
  intro j hj b hb;obtain⟨r',e⟩:=hj;cases j with
  | zero=>simp at e
  | succ j=>
   simp only[List.getD_cons_succ];exact ih rel hM j ⟨r',by simpa using e⟩ b hb
end
def QEo(X:Cx)(x:Str)(r:IoR):Prop:=∃k f fd ps,Qag X.prog X.w X.K X.mg X.base CX0 k f fd ps (QfS X.K r.n r.p r.den)/\Q3 k X.A/\X.mg x=some (.ref f)/\PySem.W.keepIn X.K (.ref f)=true/\Binds X.K fd ps []
section
variable {X:Cx}{nm g:Str}{e:Expr}{es:List Expr}{f:Option DE}{fs:List (Option DE)}{pos cpos np p:Pos}{i x:Nat}{r:IoR}
end
section
variable {K:Fgg}{H0 H H':Hp}{A0:LAd}{hs:List (V×D×List Addr)}{ρ:En}{F:Nat->List Addr}{U:L2.St}{i:Nat}{rs:List (Option R)}{vs:List V}{Gs:List (List Addr)}
def Qcu.later(rel:Rel K H0 A0 hs ρ F U H)(h:Qcu K ρ F U i H H' rs vs Gs){b:Addr}(hb:∃u,H b=some u)(hf:∀(j:Nat) d c,ρ[j]? =some (some (d,c))->b∉F j):∀j,(∃r,rs[j]? =some (some r))->b∉Gs.getD j []:=by
 induction h with
 | nil=>intro j ⟨r,e⟩;simp at e
 | val p t ih=>
  intro j hj;cases j with
  | zero=>
   simp only[List.getD_cons_zero];intro hbG;rcases p.src b hbG with w | ⟨j,d',b',ej,mj,_⟩
   .obtain⟨u,hu⟩:=hb;rw[w]at hu;cases hu
   .exact hf j d' b' ej mj
  | succ j=>
   obtain⟨r',e⟩:=hj;simp only[List.getD_cons_succ];obtain⟨u,hu⟩:=hb;exact ih (rel.ext p.same) ⟨u,p.same _ _ hu⟩ j ⟨r',by simpa using e⟩
 | slot e1 t ih=>
  intro j hj;obtain⟨r',e⟩:=hj;cases j with
  | zero=>simp at e
  | succ j=>
   simp only[List.getD_cons_succ];exact ih rel hb j ⟨r',by simpa using e⟩
end
section
variable {X:Cx}{g:Str}{e:Expr}{es:List Expr}{fs:List (Option DE)}{cpos np:Pos}{r:IoR}
end
def QjL(cn:Str)(r:IoR)(fs:DA):DE:=λρ=>(fs ρ).bind λra=>if r.n=ra.ds.length+1 then(r.den (.obj (.ins cn []) []::ra.ds)).bind λq=>match q.1 with
 | .non=>some ⟨q.2,true,[]⟩
 | _=>none
 else none
def QCz(X:Cx)(cn:Str)(r:IoR):Prop:=∃k C f fd ps,PySem.W.nsIn X.K mainGlobals cn=some (some (.ref C))/\Mk X.K C f/\Qag X.prog X.w X.K X.mg X.base CX0 k f fd ps (QfS X.K r.n 0 r.den)/\Q3 (k+1) X.A/\X.mg cn=some (.ref C)/\Binds X.K fd ps []
def QDh(X:Cx)(cn:Str):Prop:=∃C,PySem.W.nsIn X.K mainGlobals cn=some (some (.ref C))/\PySem.W.makesIn X.K C=true/\PySem.W.findIn X.K (.ref C) "__init__" =some (some (.builtin "object.__init__"))/\PySem.W.keepIn X.K (.ref C)=true/\X.mg cn=some (.ref C)
section
variable {X:Cx}{g:Str}{e:Expr}{es:List Expr}{fs:DA}{cpos np:Pos}{r:IoR}
def QsK{C:Addr}{H0 H:Hp}{A0:LAd}{U:L2.St}{Q:VK}(cn:PySem.W.nsIn X.K mainGlobals g=some (some (.ref C))):tV X.K H0 A0 (QjL g r fs) U H Q->Qxh C (QfS X.K r.n 0 r.den) [] E0 (tVA X.K H0 A0 fs) U H Q:=exK λρ hs F out rel e q=>by
 refine Qf e λra e1 e=>?_;split at e
 .rename_i hn;refine Qf e λqq e2 e=>?_;split at e
  .rename_i hq1;cases e;refine⟨ρ,hs,F,ra,rel,e1,λvs H1 G p1 x dx hx hdx hne=>?_⟩;obtain⟨Fs,f1,f2⟩:=QoX p1.rp;have hlen:=p1.rp.length;have sm:Qs H1 (upd (upd H1 dx (.own x)) x (.ins C dx [])):=(Qa0 hdx).trans (Qa0 (by rw[Qy (Ne.symm hne)];exact hx));have hxx:(upd (upd H1 dx (.own x)) x (.ins C dx [])) x=some (.ins C dx []):=Q4 ..;refine⟨.obj (.ins g []) []::ra.ds,λj=>match j with | 0=>[x] | j+1=>Fs j,x,qq.1,qq.2,by rw[Zs,hn],by rw[ZG,Zs,← hlen,hn],λj dj ej=>?_,⋯,rfl,⋯,rfl,λj hj hj0 b hb=>?_,e2,λv2 H2 G2 Gp ip=>?_⟩
   .cases j with
    | zero=>
     simp at ej;subst ej;refine⟨_,rfl,Rp.Qo3 (ns:=[]) (vs:=[]) (G:=[]) cn hxx rfl ?_⟩;simp[Rps]
    | succ j=>
     obtain⟨u,g1,g2⟩:=f2 j dj (by simpa using ej);exact⟨u,by simpa using g1,g2.same sm⟩
   .cases j with
    | zero=>exact absurd rfl hj0
    | succ j=>
     intro z;rw[Zj.mp hb]at z;obtain⟨u,hu⟩:=p1.rp.mem x (f1 j x z);rw[hx]at hu;cases hu
   .have hv:v2= .non:=by
     have:=ip.rp;rw[hq1]at this;exact this.Qex
    refine⟨hv,q _ H2 Gp ?_⟩;have fr:∀a∈Gp,H a=none:=λa ha=>by
     rcases ip.fr a (Ze _ ha)with z | z
     .rw[Zj.mp z];exact p1.same.free hx
     .exact p1.same.free (sm.free z)
    refine⟨λb u eb=>Qb7 ip.same (sm b u (p1.same b u eb)) λz=>?_,ip.rpp,λa ha=> .inl (fr a ha),λ_=>⟨λa=>?_,ip.lenp⟩,QaX.nil⟩
    .rw[Zj.mp z]at eb;rw[p1.same.free hx]at eb;cases eb
    .by_cases ha:a∈Gp
     .rw[Qa8 (fr a ha)];have:=ZY.mp (ZP.mp ip.nd).2.1 a;lia
     .rw[ZI.mpr ha];exact ZK _
  .cases e
 .cases e
def Qwf(hF:QCz X g r)(hg:Gl X g)(hdb:(g == ("__debug__" :Str))=false):SE X (.Call (.Name g np) [] [] cpos) (QjL g r Qb):=by
 intro H0 A0;obtain⟨k,C,f,fd,ps,cn,c2,c3,c4,c6,c5⟩:=hF;refine(QuN c2 c3 c4 hg c6 c5 .nil QjK hdb).mono λU H Q h=>?_;obtain⟨ρ,hs,F,r',rel,e,q⟩:=QsK cn h;cases e;exact q [] H [] ⟨Qs.refl _,by simp[Rps],Src.nil,λ_=>⟨Cnt.nil,rfl⟩,QaX.nil⟩
end
structure ObT where
 cl:ClT
 me:MeT
 io:List (Str×IoR)
 ma:List (Str×IoR)
 mk0:List Str
structure QiM (X:Cx) (T:ObT):Prop where
 cl:QhL X.K T.cl
 me:Qta X T.me
 io:∀g r,look g T.io=some r->QEo X g r
 ma:∀g r,look g T.ma=some r->QCz X g r
 mk0:∀g∈T.mk0,QDh X g
def te1(n:Nat)(Θ:Th)(T:ObT)(e:Expr):Option DE:=match e with
 | .Attribute o f _=>(Q6 o).bind λx=>(Θ.slot x).map λi=>Qej T.cl f (Qn i)
 | _=>none
def te2(n:Nat)(Θ:Th)(T:ObT)(e:Expr):Option DE:=te1 n Θ T e
def QEV(T:MeT)(m:Str):Bool:=T.any λq=>(look m q.2).isSome
def QAw(n:Nat)(Θ:Th)(T:ObT)(p:Option Nat)(st:Stmt):Option DS:=match st with
 | .Assign ts e _=>match ts with
  | []=>none
  | t::ts=>match ts with
   | _::_=>none
   | []=>match t with
    | .Attribute o f _=>if QeE e=true then(Q6 o).bind λy=>(Θ.slot y).bind λi=>(Qp n Θ e).map λfa=>QeU T.cl i f fa else none
    | _=>none
 | .Return v _=>v.bind λe=>p.bind λp=>(Qp n Θ e).map λfa=>QrW p fa
 | _=>none
def Quz{o:Expr}{m:Str}{apos cpos:Pos}{es:List Expr}{env:Env}(hb:attributeBase o m env (eval o env)=eval o env)(hl:(apos.endLine == cpos.line)=true)(ha:(backTo cpos (starEach es env)).all (λx=> !x.1)=true)(hn:es.length<29):
  eval (.Call (.Attribute o m apos) es [] cpos) env=(do
   let ov ← eval o env
   standAt apos.atName
   let (f,first) ← holding [ov] (getMethod ov m (do return (← importBound o env).getD true))
   callWith cpos f first (backTo cpos (starEach es env)) (backToKw cpos (keywordEach [] env))):=by
 rw[arm_eval_Call,hb];have hform:methodCallForm (es.length+([]:List Keyword).length) (backTo cpos (starEach es env)) (backToKw cpos (keywordEach [] env))=true:=by
  unfold methodCallForm;rw[ha];have:es.length+([]:List Keyword).length+(if(backToKw cpos (keywordEach [] env)).isEmpty=true then 0 else 1)<30:=by
   split<;>(simp only[List.length_nil];lia)
  simp only[Zbs,Zh,decide_eq_true_eq];exact⟨rfl,this⟩
 have hpos:methodCallPos true o env apos cpos=pure cpos:=by unfold methodCallPos;simp[hl]
 have key:∀ov,methodCall o m apos cpos env ov (es.length+([]:List Keyword).length) (backTo cpos (starEach es env)) (backToKw cpos (keywordEach [] env))=(do
   let (f,first) ← holding [ov] (getMethod ov m (do return (← importBound o env).getD true))
   callWith cpos f first (backTo cpos (starEach es env)) (backToKw cpos (keywordEach [] env))):=by
  intro ov;unfold methodCall;rw[hform,hpos];rfl
 simp only[key]
section
variable {X:Cx}{Θ:Th}{T:ObT}{n:Nat}
def Qr.Qux{f:Expr->Option DE}(ok:Qr X Θ)(h:∀e g,f e=some g->SE X e g):Qr X {Θ with te:=f}:=
 ⟨⟨ok.N,ok.nd,ok.lc,ok.ce,ok.fe,ok.gl,ok.units,ok.mg,ok.cs⟩,ok.calm,ok.pass,ok.fns,ok.tr,h
 ,ok.tt
 ⟩
def Qr.QBt{f:Stmt->Option DS}(ok:Qr X Θ)(h:∀st g,f st=some g->S1 X st g):Qr X {Θ with tr:=f}:=
 ⟨⟨ok.N,ok.nd,ok.lc,ok.ce,ok.fe,ok.gl,ok.units,ok.mg,ok.cs⟩,ok.calm,ok.pass,ok.fns,h,ok.te
 ,ok.tt
 ⟩
def Qby{e:Expr}{x:Str}(h:Q6 e=some x):∃p,e= .Name x p:=by
 cases e with
 | Name z p=>cases h;exact⟨p,rfl⟩
 | _=>exact nn h
def Qz8(ok:Qr X Θ)(ob:QiM X T):∀e f,te1 n Θ T e=some f->SE X e f:=by
 intro e f h;cases e with
 | Attribute o fl p=>
  refine Qf (show(Q6 o).bind _=some f from h) λx hx h=>?_;refine mapR h λi hi=>?_;obtain⟨np,rfl⟩:=Qby hx;exact QBg ob.cl (Qpv (Qdo ok.toCtxB hi)) rfl
 | _=>exact nn h
def QAK(ok:Qr X Θ)(ob:QiM X T):∀e f,te2 n Θ T e=some f->SE X e f:=Qz8 ok ob
def QxQ(ok:Qr X Θ)(ob:QiM X T)(p:Option Nat):∀st f,QAw n Θ T p st=some f->S1 X st f:=by
 intro st f h;have hN:X.N.Nodup:=by rw[ok.N];exact ok.nd
 cases st with
 | Assign ts e pos=>
  rcases ts with _ | ⟨t,_ | ⟨t2,ts⟩⟩
  .exact nn h
  .cases t with
   | Attribute o fl ap=>
    change(if QeE e=true then _ else none)=some f at h;split at h
    .rename_i hc;refine Qf h λy hy h=>?_;refine Qf h λi hi h=>?_;refine mapR h λfa hfa=>?_;obtain⟨np,rfl⟩:=Qby hy;exact QyS ob.cl (Qdo ok.toCtxB hi) ((Q5 n).E X Θ e fa ok hfa) (QdY hc)
    .cases h
   | _=>exact nn h
  .exact nn h
 | Return v pos=>
  refine Qf (show v.bind _=some f from h) λe he h=>?_;cases he;refine Qf h λp hp h=>?_;exact mapR (M:=λf=>S1 X (.Return (some e) pos) f) h λfa hfa=>QxF ((Q5 n).E X Θ e fa ok hfa)
 | _=>exact nn h
end
section
variable (P:Program) (w:World) (K:Fgg) (mg:Str->Option Value) (base:Heap)
structure QcT (k:Nat) (T:ObT):Prop where
 cl:QhL K T.cl
 me:∀x ms m r,look x T.me=some ms->look m ms=some r->∀C,PySem.W.nsIn K mainGlobals x=some (some (.ref C))->∃f fd ps,Cls K C/\QiD K C m f/\Qag P w K mg base CX0 k f fd ps (QfS K r.n 0 r.den)/\Binds K fd ps []
 io:∀g r,look g T.io=some r->∃f fd ps,Qag P w K mg base CX0 k f fd ps (QfS K r.n r.p r.den)/\mg g=some (.ref f)/\PySem.W.keepIn K (.ref f)=true/\Binds K fd ps []
 ma:∀g r,look g T.ma=some r->∃C f fd ps,PySem.W.nsIn K mainGlobals g=some (some (.ref C))/\Mk K C f/\Qag P w K mg base CX0 k f fd ps (QfS K r.n 0 r.den)/\mg g=some (.ref C)/\Binds K fd ps []
 mk0:∀g∈T.mk0,∃C,PySem.W.nsIn K mainGlobals g=some (some (.ref C))/\PySem.W.makesIn K C=true/\PySem.W.findIn K (.ref C) "__init__" =some (some (.builtin "object.__init__"))/\PySem.W.keepIn K (.ref C)=true/\mg g=some (.ref C)
end
section
variable {P:Program}{w:World}{K:Fgg}{mg:Str->Option Value}{base:Heap}
def QcT.mono{j k:Nat}{T:ObT}(t:QcT P w K mg base j T)(h:j<=k):QcT P w K mg base k T where
 cl:=t.cl
 me:=λx ms m r h1 h2 C h3=>let ⟨f,fd,ps,c1,c2,c3,c4⟩:=t.me x ms m r h1 h2 C h3;⟨f,fd,ps,c1,c2,c3.mono h,c4⟩
 io:=λg r h1=>let ⟨f,fd,ps,c1,c2⟩:=t.io g r h1;⟨f,fd,ps,c1.mono h,c2⟩
 ma:=λg r h1=>let ⟨C,f,fd,ps,c1,c2,c3,c4⟩:=t.ma g r h1;⟨C,f,fd,ps,c1,c2,c3.mono h,c4⟩
 mk0:=t.mk0
def QcT.ob{k:Nat}{T:ObT}{X:Cx}(t:QcT X.prog X.w X.K X.mg X.base k T)(hr:Q3 (k+1) X.A):QiM X T where
 cl:=t.cl
 me:=λx ms m r h1 h2 C h3=>let ⟨f,fd,ps,c1,c2,c3,c4⟩:=t.me x ms m r h1 h2 C h3;⟨k,f,fd,ps,c1,c2,c3,hr.mono (Zae k),c4⟩
 io:=λg r h1=>let ⟨f,fd,ps,c1,c2,c3,c4⟩:=t.io g r h1;⟨k,f,fd,ps,c1,hr.mono (Zae k),c2,c3,c4⟩
 ma:=λg r h1=>let ⟨C,f,fd,ps,c1,c2,c3,c4,c5⟩:=t.ma g r h1;⟨k,C,f,fd,ps,c1,c2,c3,hr,c4,c5⟩
 mk0:=t.mk0
structure QhP (K:Fgg) (c m qual:Str) (st:Stmt):Prop where
 ex:∃C f fd,PySem.W.nsIn K mainGlobals c=some (some (.ref C))/\Cls K C/\QiD K C m f/\Fun K m qual st f fd
def Qkh{c m qual:Str}{st:Stmt}{C f:Addr}{oc:Value}{od an:Option Addr}{osl:Array (Option Value)}{kV doc pm cdv ct:Value}(a:PySem.W.nsIn K mainGlobals c=some (some (.ref C)))
  (c1:PySem.W.plainGet K C Str.empty=true) (c2:PySem.W.hasDictIn K C=true) (c3:PySem.W.plainOver K C=true) (c4:PySem.W.findIn K (.ref C) "__setattr__" =some (some (.builtin "object.__setattr__")))
  (m1:PySem.W.findIn K (.ref C) m=some (some (.ref f))) (m2:PySem.W.isFn K (.ref f)=true) (k:PySem.W.keepIn K (.ref f)=true)
  (l:K.lookup f=some ⟨oc,od,.func (PySem.W.fnOf m qual (QaQ st) (Qx st) (Qd st) .none kV doc pm an cdv ct),osl⟩) (cd:PySem.W.codeIn K cdv qual=true):QhP K c m qual st:=
 ⟨C,f,_,a,⟨c1,c2,c3,c4⟩,⟨m1,m2,k⟩,QsP l cd k⟩
end
def Qc6(k p:Nat)(g:DS):Qh9:=λds=>open Classical in if h:∃q,∀a,∃o,g (QcG k p a ds)=some o/\Qju p a o=some q then some h.choose else none
def QoU{k p:Nat}{g:DS}:UIO k p g (Qc6 k p g):=λds q e a=>by
 unfold Qc6 at e;split at e
 .rename_i h;cases e;exact h.choose_spec a
 .cases e
def Qqi{k p:Nat}{g:DS}{ds:List D}{q:D×D}(h:∀a,∃o,g (QcG k p a ds)=some o/\Qju p a o=some q):Qc6 k p g ds=some q:=by
 have hx:∃q,∀a,∃o,g (QcG k p a ds)=some o/\Qju p a o=some q:=⟨q,h⟩;unfold Qc6;rw[dif_pos hx];obtain⟨o,h1,h2⟩:=h 0;obtain⟨o',h3,h4⟩:=hx.choose_spec 0;rw[h1]at h3;cases h3;rw[h2]at h4;exact h4.symm
section
variable (P:Program) (w:World) (K:Fgg) (mg:Str->Option Value) (base:Heap)
def QnZ(C:Addr):List Str->Prop
 | []=>True
 | f::r=>Qcy K C f/\QnZ C r
def Qsh(x:Str)(fs:List Str):Prop:=∃C,PySem.W.nsIn K mainGlobals x=some (some (.ref C))/\Cls K C/\QnZ K C fs
def QrR:ClT->Prop
 | []=>True
 | (x,fs)::r=>Qsh K x fs/\QrR r
def QDy(x:Str):Prop:=∃C,PySem.W.nsIn K mainGlobals x=some (some (.ref C))/\PySem.W.makesIn K C=true/\PySem.W.findIn K (.ref C) "__init__" =some (some (.builtin "object.__init__"))/\PySem.W.keepIn K (.ref C)=true
def QnR(x:Str):Prop:=∃C,PySem.W.nsIn K mainGlobals x=some (some (.ref C))/\PySem.W.makesIn K C=true/\PySem.W.keepIn K (.ref C)=true
def QvS:List Str->Prop
 | []=>True
 | x::r=>QDy K x/\QvS r
def QhZ(k:Nat)(x m:Str)(r:IoR):Prop:=∃C f fd ps,PySem.W.nsIn K mainGlobals x=some (some (.ref C))/\Cls K C/\QiD K C m f/\Qag P w K mg base CX0 k f fd ps (QfS K r.n 0 r.den)/\Binds K fd ps []
def Qrd(k:Nat)(x:Str):List (Str×IoR)->Prop
 | []=>True
 | (m,r)::l=>QhZ P w K mg base k x m r/\Qrd k x l
def QrD(k:Nat):MeT->Prop
 | []=>True
 | (x,ms)::l=>Qrd P w K mg base k x ms/\QrD k l
def QCv(k:Nat)(g:Str)(r:IoR):Prop:=∃f fd ps,Qag P w K mg base CX0 k f fd ps (QfS K r.n r.p r.den)/\mg g=some (.ref f)/\PySem.W.keepIn K (.ref f)=true/\Binds K fd ps []
def Qsv(k:Nat):List (Str×IoR)->Prop
 | []=>True
 | (g,r)::l=>QCv P w K mg base k g r/\Qsv k l
def Qrg(k:Nat):List (Str×IoR)->Prop
 | []=>True
 | (g,r)::l=>(QnR K g/\QhZ P w K mg base k g "__init__" r)/\Qrg k l
def Qhn(x qual:Str)(st:Stmt)(ps:List Str):Prop:=∀(kV doc pm:Value) (an:Option Addr) (cdv ct:Value) (us:List Value),us.length=ps.length->bindArgs (PySem.W.fnOf x qual (QaQ st) (Qx st) (Qd st) .none kV doc pm an cdv ct) ⟨us,[]⟩=pure (ps.zip us)
end
section
variable {P:Program}{w:World}{K:Fgg}{mg:Str->Option Value}{base:Heap}
def Qov{C:Addr}:∀{fs:List Str},QnZ K C fs->∀f∈fs,Qcy K C f
 | [],_,f,hf=>by simp at hf
 | g::r,h,f,hf=>by
  rcases Zn.mp hf with rfl | hf
  .exact h.1
  .exact Qov h.2 f hf
def Qo8:∀{T:ClT},QrR K T->QhL K T
 | [],_,x,fs,h,_,_=>by cases h
 | (y,gs)::r,hc,x,fs,h,C,hC=>by
  unfold look at h;split at h
  .rename_i e;cases h;subst e;obtain⟨C',h1,h2,h3⟩:=hc.1;rw[hC]at h1;cases h1;exact⟨h2,Qov h3⟩
  .exact Qo8 hc.2 x fs h C hC
def QqE{h:Heap}(X:K.In h)(G:h.Ns mainGlobals mg):∀{l:List Str},QvS K l->∀g∈l,∃C,PySem.W.nsIn K mainGlobals g=some (some (.ref C))/\PySem.W.makesIn K C=true/\PySem.W.findIn K (.ref C) "__init__" =some (some (.builtin "object.__init__"))/\PySem.W.keepIn K (.ref C)=true/\mg g=some (.ref C)
 | [],_,f,hf=>by simp at hf
 | g::r,hh,f,hf=>by
  rcases Zn.mp hf with rfl | hf
  .obtain⟨C,h1,h2,h3,h4⟩:=hh.1;exact⟨C,h1,h2,h3,h4,ZM X G h1⟩
  .exact QqE X G hh.2 f hf
def Qn9{k:Nat}{x:Str}:∀{l:List (Str×IoR)},Qrd P w K mg base k x l->∀m r,look m l=some r->QhZ P w K mg base k x m r
 | [],_,m,r,h=>by cases h
 | (y,q)::l,hh,m,r,h=>by
  unfold look at h;split at h
  .rename_i e;cases h;subst e;exact hh.1
  .exact Qn9 hh.2 m r h
def Qo2{k:Nat}:∀{T:MeT},QrD P w K mg base k T->∀x ms m r,look x T=some ms->look m ms=some r->QhZ P w K mg base k x m r
 | [],_,x,ms,m,r,h,_=>by cases h
 | (y,q)::l,hh,x,ms,m,r,h,h2=>by
  unfold look at h;split at h
  .rename_i e;cases h;subst e;exact Qn9 hh.1 m r h2
  .exact Qo2 hh.2 x ms m r h h2
def Qn6{k:Nat}:∀{l:List (Str×IoR)},Qsv P w K mg base k l->∀g r,look g l=some r->QCv P w K mg base k g r
 | [],_,m,r,h=>by cases h
 | (y,q)::l,hh,m,r,h=>by
  unfold look at h;split at h
  .rename_i e;cases h;subst e;exact hh.1
  .exact Qn6 hh.2 m r h
def QpB{k:Nat}:∀{l:List (Str×IoR)},Qrg P w K mg base k l->∀g r,look g l=some r->QnR K g/\QhZ P w K mg base k g "__init__" r
 | [],_,m,r,h=>by cases h
 | (y,q)::l,hh,m,r,h=>by
  unfold look at h;split at h
  .rename_i e;cases h;subst e;exact hh.1
  .exact QpB hh.2 m r h
def QhZ.mono{j k:Nat}{x m:Str}{r:IoR}(h:QhZ P w K mg base j x m r)(hk:j<=k):QhZ P w K mg base k x m r:=by
 obtain⟨C,f,fd,ps,c1,c2,c3,c4,c5⟩:=h;exact⟨C,f,fd,ps,c1,c2,c3,c4.mono hk,c5⟩
def Qaj.rise{j k:Nat}{Γ:List (Str×FnR)}(t:Qaj P w K mg base j Γ)(hk:j<=k):Qaj P w K mg base k Γ:=λx r e=>(t x r e).mono hk
def Ql9{h:Heap}{k:Nat}{T:ObT}(X:K.In h)(G:h.Ns mainGlobals mg)(h1:QrR K T.cl)(h2:QrD P w K mg base k T.me)(h3:Qsv P w K mg base k T.io)(h4:Qrg P w K mg base k T.ma)(h5:QvS K T.mk0):QcT P w K mg base k T where
 cl:=Qo8 h1
 me:=λx ms m r e1 e2 C hC=>by
  obtain⟨C',f,fd,ps,c1,c2,c3,c4,c5⟩:=Qo2 h2 x ms m r e1 e2;rw[hC]at c1;cases c1;exact⟨f,fd,ps,c2,c3,c4,c5⟩
 io:=λg r e=>Qn6 h3 g r e
 ma:=λg r e=>by
  obtain⟨⟨C,b1,b2,b3⟩,C',f,fd,ps,c1,c2,c3,c4,c5⟩:=QpB h4 g r e;rw[b1]at c1;cases c1;exact⟨C,f,fd,ps,b1,⟨b2,c3.at_,c3.fn,b3⟩,c4,ZM X G b1,c5⟩
 mk0:=QqE X G h5
def QvY{x:Str}{fs:List Str}{C:Addr}(a:PySem.W.nsIn K mainGlobals x=some (some (.ref C)))(c1:PySem.W.plainGet K C Str.empty=true)(c2:PySem.W.hasDictIn K C=true)(c3:PySem.W.plainOver K C=true)(c4:PySem.W.findIn K (.ref C) "__setattr__" =some (some (.builtin "object.__setattr__")))(n:QnZ K C fs):Qsh K x fs:=
 ⟨C,a,⟨c1,c2,c3,c4⟩,n⟩
def QvG{x:Str}{C:Addr}(a:PySem.W.nsIn K mainGlobals x=some (some (.ref C)))(c1:PySem.W.makesIn K C=true)(c3:PySem.W.keepIn K (.ref C)=true):QnR K x:=⟨C,a,c1,c3⟩
end
abbrev CdT:=List (Str×List Str)
def StrsAre:List Value->List Str->Prop
 | [],[]=>True
 | v::vs,x::xs=>(∃t,v= .str x t)/\StrsAre vs xs
 | _,_=>False
def QgS(K:Fgg)(P:Params):List DictEntry->CdT->Prop
 | [],[]=>True
 | e::es,p::r=>(∃t b its m dd sl,e.key= .str p.1 t/\e.hash=PyData.keyHash P p.1/\e.val= .ref b/\K.lookup b=some ⟨.type "tuple",dd,.seq its m,sl⟩/\StrsAre its.toList p.2)/\QgS K P es r
 | _,_=>False
def Qmm(w:World)(K:Fgg)(x:Str)(kvs:CdT):Prop:=∃a es n,PySem.W.nsIn K mainGlobals x=some (some (.ref a))/\K.lookup a=some ⟨.type "dict",none,.dict es n,#[]⟩/\(a == sysModules)=false/\QgS K w.params es.toList kvs/\kvs.all (λp=>decide (p.2.length<=100))=true
def QzL{w:World}{K:Fgg}{x:Str}{kvs:CdT}{a:Addr}{es:Array DictEntry}{n:Nat}(h1:PySem.W.nsIn K mainGlobals x=some (some (.ref a)))(h2:K.lookup a=some ⟨.type "dict",none,.dict es n,#[]⟩)(h3:(a == sysModules)=false)(h4:QgS K w.params es.toList kvs)(h5:kvs.all (λp=>decide (p.2.length<=100))=true):Qmm w K x kvs:=⟨a,es,n,h1,h2,h3,h4,h5⟩
def Qyn{K:Fgg}{P:Params}{x:Str}{t:Tok}{b:Addr}{its:Array Value}{m:Nat}{dd:Option Addr}{sl:Array (Option Value)}{es:List DictEntry}{ts:List Str}{r:CdT}(l:K.lookup b=some ⟨.type "tuple",dd,.seq its m,sl⟩)(s:StrsAre its.toList ts)(q:QgS K P es r):QgS K P (⟨PyData.keyHash P x,.str x t,.ref b⟩::es) ((x,ts)::r):=
 ⟨⟨t,b,its,m,dd,sl,rfl,rfl,rfl,l,s⟩,q⟩
def StrsAre.vals:∀{vs:List Value}{xs:List Str},StrsAre vs xs->Qt (xs.map .str) vs
 | [],[],_=> .nil
 | v::vs,x::xs,⟨h,r⟩=> .cons h r.vals
 | [],_::_,h=>h.elim
 | _::_,[],h=>h.elim
def QgS.keys{K:Fgg}{P:Params}:∀{es:List DictEntry}{kvs:CdT},QgS K P es kvs->PySem.W.KeysLit P es
 | [],[],_=>True.intro
 | e::es,p::r,⟨⟨t,b,its,m,dd,sl,h1,h2,_⟩,q⟩=>⟨⟨p.1,t,h1,h2⟩,q.keys⟩
 | [],_::_,h=>h.elim
 | _::_,[],h=>h.elim
def Qst(k x:Str)(t:Tok):Value.isStrOf k (.str x t)=decide (k=x):=by
 by_cases h:k=x
 .subst h;simp[Value.isStrOf]
 .simp[Value.isStrOf,h,Ne.symm h]
def QgS.find{K:Fgg}{P:Params}{k:Str}:∀{es:List DictEntry}{kvs:CdT},QgS K P es kvs->(look k kvs=none/\es.find? (λe=>Value.isStrOf k e.key)=none)∨∃ts e b its m dd sl,look k kvs=some ts/\es.find? (λe=>Value.isStrOf k e.key)=some e/\e.val= .ref b/\K.lookup b=some ⟨.type "tuple",dd,.seq its m,sl⟩/\StrsAre its.toList ts
 | [],[],_=> .inl ⟨rfl,rfl⟩
 | e::es,(x,ts)::r,⟨⟨t,b,its,m,dd,sl,h1,h2,h3,h4,h5⟩,q⟩=>by
  have e1:Value.isStrOf k e.key=decide (k=x):=by rw[h1];exact Qst k x t
  unfold look;by_cases hk:k=x
  .rw[if_pos hk];exact .inr ⟨ts,e,b,its,m,dd,sl,rfl,by rw[List.find?_cons,e1,decide_eq_true hk],h3,h4,h5⟩
  .rw[if_neg hk,List.find?_cons,e1,decide_eq_false hk];exact q.find
 | [],_::_,h=>h.elim
 | _::_,[],h=>h.elim
def Qpd(kvs:CdT)(neg:Bool)(fa:DE):DT:=λρ=>(fa ρ).bind λr=>match r.d with
 | .str k=>some ((look k kvs).isSome != neg)
 | _=>none
def QhR(kvs:CdT)(fa:DE):DE:=λρ=>(fa ρ).bind λr=>match r.d with
 | .str k=>(look k kvs).map λts=>⟨.tup (ts.map .str),true,[]⟩
 | _=>none
def DcX(X:Cx)(x:Str)(kvs:CdT):Prop:=Qmm X.w X.K x kvs/\∀a,PySem.W.nsIn X.K mainGlobals x=some (some (.ref a))->X.mg x=some (.ref a)
section
variable {X:Cx}{x:Str}{kvs:CdT}{a:Expr}{fa:DE}{p pos:Pos}
def QsF{pins:List (Addr×Obj)}{U:L2.St}{H:Hp}{s:Shared}{c:Addr}{es:Array DictEntry}{n:Nat}(I:Inv X pins U H s)(h2:X.K.lookup c=some ⟨.type "dict",none,.dict es n,#[]⟩)(h4:QgS X.K X.w.params es.toList kvs)(k:Str):s.heap.MapOf (strKind X.prog X.w) c (λk=>findBy Value.isStrOf es k)∧
  ((look k kvs=none/\findBy Value.isStrOf es k=none)∨∃ts b its m dd sl,look k kvs=some ts/\findBy Value.isStrOf es k=some (.ref b)/\X.K.lookup b=some ⟨.type "tuple",dd,.seq its m,sl⟩/\StrsAre its.toList ts):=by
 refine⟨PySem.W.mapOf_K I.kIn h2 h4.keys,?_⟩;unfold findBy;rw[← Array.find?_toList];rcases h4.find (k:=k)with⟨h,q⟩ | ⟨ts,e,b,its,m,dd,sl,h,q,e3,e4,e5⟩
 .exact .inl ⟨h,by rw[q];rfl⟩
 .exact .inr ⟨ts,b,its,m,dd,sl,h,by rw[q,ZD,e3],e4,e5⟩
def Qy5(hd:DcX X x kvs):OpR X (compareOp .NotIn) (λu v H Q=>∃k c,u= .str k/\v= .ref c/\PySem.W.nsIn X.K mainGlobals x=some (some (.ref c))/\Q (.bl ((look k kvs).isSome != true)) H):=by
 intro pins s U H u v v' u' Q I rx ry ⟨k,c,ex,ey,hc,q⟩;subst ex ey;cases(show u'=Value.ref c from ry);obtain⟨t,rfl⟩:=(show ∃t,v'=Value.str k t from rx);obtain⟨⟨c',es,n,h1,h2,h3,h4,h5⟩,_⟩:=hd;rw[hc]at h1;cases h1;obtain⟨hm,hf⟩:=QsF I h2 h4 k;refine wpAny_notIn_of (strKind_is X.prog X.w k t) h3 hm ?_;have e:(findBy Value.isStrOf es k).isSome=(look k kvs).isSome:=by
  rcases hf with⟨h,q⟩ | ⟨ts,b,its,m,dd,sl,h,q,_⟩<;>rw[h,q]<;>rfl
 rw[e];exact⟨.bl (!(look k kvs).isSome),H,I.tok _,rfl,by rw[Bool.bne_true]at q;exact q⟩
def Qy6(hd:DcX X x kvs)(hg:Gl X x)(hdb:(x == ("__debug__" :Str))=false)(ha:SE X a fa):ST X (.Compare a [.NotIn] [.Name x p] pos) (Qpd kvs true fa):=λH0 A0=>by
 obtain⟨c,es,n,h1,_⟩:=hd.1;refine(QqY (Qy5 hd) (ha H0 A0) (QmC (v:= .ref c) hg (hd.2 c h1) rfl hdb) rfl).mono λU H Q=>exK λρ hs F k rel e q=>?_;refine Qf e λr e1 e=>?_;split at e
 .rename_i z hz;cases e;refine⟨ρ,hs,F,r,rel,e1,λv H' G p=>?_⟩;have rp:=p.rp;rw[hz]at rp;exact⟨z,c,rp.str_inv,rfl,h1,_,rfl,q H' p.same⟩
 .cases e
def Qxu(hd:DcX X x kvs)(hg:Gl X x)(hdb:(x == ("__debug__" :Str))=false)(ha:SE X a fa)(hs:Qhi a):SE X (.Subscript (.Name x p) a pos) (QhR kvs fa):=λH0 A0 pins s U H Q I=>exK λρ hs' F r' rel e q=>by
 obtain⟨⟨c,es,n,h1,h2,h3,h4,h5⟩,hm⟩:=hd;refine Qf e λr e1 e=>?_;split at e
 .rename_i z hz;refine Qxx PySem.F.slot_dict_getitem.lookup (λo i=>hs o i) (QcF I hg (hm c h1) (thn (ha H0 A0 pins s U H (λv H'=>∃G,QR X.K ρ F H H' r v G) I ⟨ρ,hs',F,r,rel,e1,λv H' G p=>⟨G,p⟩⟩) ?_) hdb);rintro iv s2 ⟨y,H2,I2,ry,G2,p2⟩;have rp:=p2.rp;rw[hz]at rp;rw[rp.str_inv]at ry;obtain⟨t,rfl⟩:=(show ∃t,iv=Value.str z t from ry);obtain⟨ts,ets,er⟩:=Zb.mp e;subst er;obtain⟨hmp,hf⟩:=QsF I2 h2 h4 z;refine⟨hmp.typeIs,?_⟩;rcases hf with⟨h,_⟩ | ⟨ts',b,its,m,dd,sl,h,hfb,hb,hst⟩
  .rw[h]at ets;cases ets
  .rw[h]at ets;cases ets;have hv:=hst.vals;have hl:ts.length<=100:=by
    have hall:=ZU.mp h5;have key:∀{l:CdT},look z l=some ts->∃y,(y,ts)∈l:=λ{l}=>by
     induction l with
     | nil=>intro h;cases h
     | cons p l ih=>
      obtain⟨y,u⟩:=p;intro h;unfold look at h;split at h
      .cases h;exact⟨y,Zf⟩
      .obtain⟨y',h'⟩:=ih h;exact⟨y',Zc _ h'⟩
    obtain⟨y,hy⟩:=key h;simpa using hall _ hy
   refine wpAny_getItem_of (strKind_is X.prog X.w z t) hmp hfb ⟨.ref b,H2,I2.tok _,rfl,q _ _ [] (.flat p2.same ?_ ?_)⟩
   .simp only[Rp];refine⟨b,ts.map .str,rfl,.inr ⟨_,its,m,hb,rfl,rfl,?_,hv⟩,Rps.ofStrs ts⟩;have:=hv.length;rw[Zt]at this;have e:its.size=its.toList.length:=(ZO).symm;rw[e,← this,Qbr];lia
   .exact QkX ts
 .cases e
end
def Qwj(x:Qa7 P w H h a o):∃u,h.get? a=some u:=by
 cases o with
 | lst xs=>obtain⟨_,_,_,_,e⟩:=x;exact⟨_,e⟩
 | tup xs=>obtain⟨_,_,_,ob,e,_⟩:=x;exact⟨_,e⟩
 | dK kvs=>obtain⟨_,_,_,_,o,_,_,e,_⟩:=x;exact⟨_,e⟩
 | dT kvs=>obtain⟨_,_,_,_,o,_,_,e,_⟩:=x;exact⟨_,e⟩
 | set S n=>obtain⟨o,_,_,_,e,_⟩:=x;exact⟨_,e⟩
 | ins C dx fs=>obtain⟨_,_,_,e,_⟩:=x;exact⟨_,e⟩
 | own y=>exact x
 | xd fs=>obtain⟨_,⟨_,_,_,e,_⟩,_⟩:=x;exact⟨_,e⟩
 | rng lo hi=>obtain⟨_,_,_,e⟩:=x;exact⟨_,e⟩
 | frz ob u=>obtain⟨e,_⟩:=x;exact⟨_,e⟩
 | tbl ps=>exact⟨_,show h.get? a=some _ from x⟩
 | met f y=>exact⟨_,show h.get? a=some _ from x⟩
 | ext φ=>obtain⟨_,e,_⟩:=x;exact e
section
variable {P:Program}{w:World}{H H':Hp}{h0 h h' B:Heap}{fs:LAd}
def Cov(H:Hp)(B:Heap):Prop:=∀b u,H b=some u->∃o,B.get? b=some o
def QlT(hok:HOk P w H h)(hB:B.StaysIn h)(hB':B.StaysIn h')(cov:Cov H B):HOk P w H h':=λa o e=>
 (hok a o e).QgI (λc v hc q=>by
  have:∃u,H c=some u:=by
   rcases hc with rfl | hc
   .exact⟨_,e⟩
   .exact⟨_,hc⟩
  obtain⟨u,hu⟩:=this;obtain⟨o',ho'⟩:=cov c u hu;have:=hB _ _ ho';rw[q]at this;cases this;exact hB' _ _ ho') (λ_ q=>q) λ_ _ q=>q
def QoV(u:Un fs [] H H' h0 h)(hB:B.StaysIn h)(hB':B.StaysIn h')(up:h.UpToSlots h')(old:∀b o,h0.get? b=some o->b∉fs->∃o',B.get? b=some o')
  (dat:∀b o,h0.get? b=some o->b∈fs->∀vs,o.data≠ .fields vs) (frf:∀b∈fs,H b=none):Un fs [] H H' h0 h' where
 keep:=λb o e n hb hx=>by
  obtain⟨o',e1⟩:=old b o e hb;have:=hB _ _ e1;rw[u.keep b o e n hb hx]at this;cases this;exact hB' _ _ e1
 slot:=λb o e n hb hx=>by
  obtain⟨sl,e1⟩:=u.slot b o e n hb hx;obtain⟨sl',e2⟩:=up b _ e1 (dat b o e hb);exact⟨sl',e2⟩
 free:=u.free
 there:=λb o e hx=>by
  by_cases hb:b∈fs
  .obtain⟨sl,e1⟩:=u.slot b o e (frf b hb) hb hx;obtain⟨sl',e2⟩:=up b _ e1 (dat b o e hb);exact⟨_,e2⟩
  .obtain⟨o',e1⟩:=old b o e hb;exact⟨_,hB' _ _ e1⟩
 tups:=u.tups
 frzs:=u.frzs
 tbls:=u.tbls
end
def CXR(P:Program)(w:World):CXT:=λouter H s E e s'=>∃ea C H' B a0,e=Value.ref ea/\s'.os=s.os/\AllBare s'.gens/\Un (frs outer) [] H H' s.heap s'.heap/\HOk P w H' s'.heap/\Heap.FlyingW B outer ea C a0 s'.heap∧
 Cov H' B/\(∀b o,s.heap.get? b=some o->b∉frs outer->∃o',B.get? b=some o')/\E C none H'
def Qgg(B:Heap)(l:List Env)(e:Addr)(cls a0 fl:Value)(h:Heap):Prop:=B.StaysIn h/\B.get? e=none/\h.FunFrames B l/\h.TracedAtW B e cls a0 fl
section
variable {M:Model}{A:Around}{E:Value->Shared->Prop}{s:Shared}{B:Heap}{env:Env}{outer:List Env}{L e:Addr}{cls a0 fl:Value}{Q:Unit->Shared->Prop}
def QkC(hfr:A.frames=some (env::outer))(hf:env.frame=some L)(hh:Qgg B (env::outer) e cls a0 fl s.heap)(hQ:∀h',Heap.HeldW B (env::outer) e cls a0 L h'->s.heap.UpToSlots h'->Q () {s with heap:=h'}):wpAny M A (noteFrame (.ref e) env) Q E s:=by
 obtain⟨g1,g2,g3,tr⟩:=hh;by_cases hq:fl=rawInt L
 .subst hq;exact wpAny_noteFrame_againW hf tr (hQ _ ⟨g1,g2,g3,tr⟩ (Heap.UpToSlots.refl _))
 obtain⟨o1,v1,T,o2,v2,e1,⟨c1,c2⟩,d1,f1,nT,ne,e2,d2,f3⟩:=tr;subst c1;unfold noteFrame;rw[hf];refine wpAny_bind (wpAny_field e1 d1 f1 ?_);rw[if_pos ⋯];refine wpAny_bind (wpAny_field e2 d2 f3 ?_);rw[if_neg (by simpa using hq)];refine wpAny_bind (wpAny_setField e2 d2 (Array.getElem?_eq_some_iff.mp f3).1 ?_);have oth:∀b,b≠T->(s.heap.update T (Obj.mapFields (·.setIfInBounds 3 Value.none))).get? b=s.heap.get? b:=λb n=>Zaw _ _ n.symm;have far:∀b o,s.heap.get? b=some o->(∀vs,o.data≠ .fields vs)->b≠T:=λb o x y z=>by
  subst z;cases x.symm.trans e2;exact y _ d2
 refine wpAny_entryW hfr (g3.of_keeps λb o x y=>⟨o,(oth b (far b o x y)).trans x,rfl⟩) hf ((oth e ne.symm).trans e1) (λb o x=>(oth b λz=>by subst z;rw[nT]at x;cases x).trans (g1 b o x)) g2 d1 (Array.getElem?_eq_some_iff.mp f1).1 c2 λh' ⟨k1,k2,k3,k4⟩=>
  hQ h' ⟨k1,g2,k2,k3⟩ λb o x y=>k4 b o ((oth b (far b o x y)).trans x) y
def Qui(hfr:A.frames=some (env::outer))(hf:env.frame=some L)(hh:Qgg B (env::outer) e cls a0 fl s.heap)(hQ:∀h',Heap.FlyingW B outer e cls a0 h'->s.heap.UpToSlots h'->Q () {s with heap:=h'}):wpAny M A (leaving env (.ref e)) Q E s:=by
 unfold leaving;refine wpAny_bind (QkC hfr hf hh λh1 hd up=>?_);refine wpAny_landsW (s:={s with heap:=h1}) hd λh2 ⟨k1,k2,⟨_,_,k3⟩,k4⟩ up2=>?_;exact hQ h2 ⟨k1,k2,k3,k4⟩ (up.trans up2)
end
def Qhb(X:Cx)(H0:Hp)(A0:LAd)(hs:List (V×D×List Addr))(ρ:En)(C:Value)(ea:Addr)(s':Shared):Prop:=∃pins U H F,Rel X.K H0 A0 hs ρ F U H∧
 ((∃sg args,Inv X pins U H sg/\Heap.MadeExcOf sg.heap s'.heap ea C args/\s'.os=sg.os/\s'.gens=sg.gens)∨
  ∃B a0 fl,Inv X pins U H s'/\Qgg B X.stack ea C a0 fl s'.heap/\Cov H B/\(∀b o,X.s₀.heap.get? b=some o->b∉X.fs->∃o',B.get? b=some o')/\∀p∈X.pn++pins,∃o,B.get? p.1=some o)
def QoZ(I:Inv X pins U H s)(hx:X.ex=[])(e:X.s₀.heap.get? b=some o)(hb:b∉X.fs):(∃o',s.heap.get? b=some o')/\b∉frs X.stack:=by
 refine⟨I.base.there b o e (by rw[hx];simp),λz=>?_⟩;rcases Zn.mp (I.QdC b z)with q | q
 .have h1:=Zp e;have h2:=I.ok.above;rw[q]at h1;exact absurd (Zr h1 h2) (ZE _)
 .exact hb q
def QlB{X:Cx}(ok:X.Ok){b:Addr}{o:Obj}(e:X.s₀.heap.get? b=some o)(hb:b∈X.fs):∀vs,o.data≠ .fields vs:=by
 obtain⟨_,o',e',h⟩:=ok.QdV.mem hb;rw[e]at e';cases e';exact h
def Qpi(I:Inv X pins U H s)(hx:X.ex=[]):∃B:Heap,B.StaysIn s.heap/\s.heap.FunFrames B X.stack/\Cov H B/\(∀b o,X.s₀.heap.get? b=some o->b∉X.fs->∃o',B.get? b=some o')/\∀p∈X.pn++pins,∃o,B.get? p.1=some o:=by
 refine⟨PySem.W.hideAll s.heap (frs X.stack),λb o e=>Zav _ e,PySem.W.funFrames_hide I.stack λenv he a ha=>Zad.mpr ⟨env,he,ha⟩,λb u e=>?_,λb o e hb=>?_,λp hp=>?_⟩
 .obtain⟨o,ho⟩:=Qwj (I.hok b u e);exact⟨o,Zat _ ho λz=>by rw[I.QlW b z]at e;cases e⟩
 .obtain⟨⟨o',h1⟩,h2⟩:=QoZ I hx e hb;exact⟨o',Zat _ h1 h2⟩
 .obtain⟨e,_,ne,nf,_⟩:=I.pin p hp;exact⟨_,Zat _ e λz=>(Zn.mp (I.QdC _ z)).elim ne nf⟩
def Qf9{X:Cx}{P:Program}{w:World}{E:XK}{H0:Hp}{A0:LAd}{hs:List (V×D×List Addr)}{ρ:En}{C:Value}{ea:Addr}{s':Shared}{env:Env}{outer:List Env}{Er:Value->Shared->Prop}
  (hp:X.prog=P) (hw:X.w=w) (hx:X.ex=[]) (hst:X.stack=env::outer) (hfs:X.outer=outer) (hen:X.env=env) (hf:env.frame=some X.env.locals) (T:Qhb X H0 A0 hs ρ C ea s')
  (hE:∀H,Qs H0 H->E C none H):wpAny (model P w) X.A (leaving env (.ref ea)) (λ_ s''=>CXR P w outer X.H₀ X.s₀ E (.ref ea) s'') Er s':=by
 subst hp hw hfs;obtain⟨pins,U,H,F,rel,⟨sg,args,I,hm,ho,hg⟩ | ⟨B,a0,f0,I,fl,cov,old,_⟩⟩:=T
 .obtain⟨B,b1,b2,cov,old,_⟩:=Qpi I hx;rw[hst]at b2;have hfr:=I.ok.frames;rw[hst]at hfr;refine wpAny_leaves_madeW hfr hf b1 b2 hm λh' t fl _ _ up=>?_;have up':sg.heap.UpToSlots h':=(Heap.UpToSlots.of_keeps hm.keeps).trans up;have hb:=I.base;rw[hx]at hb;exact⟨ea,C,H,B,_,rfl,ho.trans I.os,hg▸I.bare,QoV hb b1 fl.1 up' old (λb o e hb=>QlB I.ok e hb) I.ok.frf,QlT I.hok b1 fl.1 cov,fl,cov,old,hE H rel.same⟩
 .have hfr:=I.ok.frames;rw[hst]at hfr fl;refine Qui hfr hf fl λh' fl' up=>?_;have hb:=I.base;rw[hx]at hb;exact⟨ea,C,H,B,_,rfl,I.os,I.bare,QoV hb fl.1 fl'.1 up old (λb o e hb=>QlB I.ok e hb) I.ok.frf,QlT I.hok fl.1 fl'.1 cov,fl',cov,old,hE H rel.same⟩
section
variable {X:Cx}{pins:List (Addr×Obj)}{U:L2.St}{H:Hp}{s s':Shared}{B:Heap}
def Qm8{h h':Heap}{c:Addr}{v:Option Value}(up:h.UpToSlots h')(z:h.IsCell c v):h'.IsCell c v:=by
 obtain⟨o,e,d⟩:=z;obtain⟨sl,e'⟩:=up c o e λvs q=>by rw[d]at q;cases q
 exact⟨_,e',d⟩
def Qhx(I:Inv X pins U H s)(ho:s'.os=s.os)(hg:AllBare s'.gens)(hx:X.ex=[])(b1:B.StaysIn s.heap)(b2:B.StaysIn s'.heap)(up:s.heap.UpToSlots s'.heap)(cov:Cov H B)
  (old:∀b o,X.s₀.heap.get? b=some o->b∉X.fs->∃o',B.get? b=some o') (pb:∀p∈X.pn++pins,∃o,B.get? p.1=some o):Inv X pins U H s' where
 ok:=I.ok
 os:=ho.trans I.os
 bare:=hg
 base:=by
  have hb:=I.base;rw[hx]at hb ⊢;exact QoV hb b1 b2 up old (λb o e hb=>QlB I.ok e hb) I.ok.frf
 loc:=by
  obtain⟨m,hn,hl⟩:=I.loc;refine⟨m,up.ns hn,λi x v e1 e2 e3=>?_⟩;obtain⟨u,r,q⟩:=hl i x v e1 e2 e3;refine⟨u,r,?_⟩;rcases q with q | ⟨k,c,e,z⟩
  .exact .inl q
  .exact .inr ⟨k,c,e,Qm8 up z⟩
 cell:=λx c e=>by
  obtain⟨v,z⟩:=I.cell x c e;exact⟨v,Qm8 up z⟩
 free:=I.free
 freeC:=I.freeC
 pin:=λp hp=>by
  obtain⟨e,n,ne,nf,d⟩:=I.pin p hp;obtain⟨o,eo⟩:=pb p hp;have:=b1 _ _ eo;rw[e]at this;cases this;exact⟨b2 _ _ eo,n,ne,nf,d⟩
 hok:=QlT I.hok b1 b2 cov
 len:=I.len
end
abbrev DX:=En->Option (Str×En)
def ClsAt(K:Fgg)(x:Str)(C:Addr):Prop:=PySem.W.nsIn K mainGlobals x=some (some (.ref C))
def cRz(X:Cx)(H0:Hp)(A0:LAd)(fx:DX)(U:L2.St)(H:Hp):Prop:=∃ρ hs F x ρ',Rel X.K H0 A0 hs ρ F U H/\fx ρ=some (x,ρ')/\∀C ea s',ClsAt X.K x C->Qhb X H0 A0 hs ρ' (.ref C) ea s'->X.xe (.ref ea) s'
def tRz(X:Cx)(H0:Hp)(A0:LAd)(fx:DX):TS:=λ_ U H=>cRz X H0 A0 fx U H
def eRz(X:Cx)(H0:Hp)(A0:LAd)(fx:DX):TE:=λU H _=>cRz X H0 A0 fx U H
def Rz(X:Cx)(st:Stmt)(fx:DX):Prop:=∀H0 A0,PS X st (tRz X H0 A0 fx)
def RzS(X:Cx)(sts:List Stmt)(fx:DX):Prop:=∀H0 A0,PSs X sts (tRz X H0 A0 fx)
def RzE(X:Cx)(e:Expr)(fx:DX):Prop:=∀H0 A0,PE X e (eRz X H0 A0 fx)
noncomputable def xNo:DX:=λ_=>none
def Q9(x:Str)(fs:DA):DX:=λρ=>(fs ρ).bind λr=>if r.ds.length<=1 then some (x,ρ)else none
def QT(n:Nat)(xd:List D->Option Str)(fs:DA):DX:=λρ=>(fs ρ).bind λr=>if r.ds.length=n then(xd r.ds).map λc=>(c,ρ)else none
noncomputable def xIf(g:DT)(fa fb:DX):DX:=λρ=>(g ρ).bind λb=>if b=true then fa ρ else fb ρ
noncomputable def Qh(f:DS)(fx fr:DX):DX:=λρ=>match f ρ with
 | some (.nx ρ')=>fr ρ'
 | some _=>none
 | none=>fx ρ
def QeW(t:Tg)(fb:DS)(fx:DX):List D->DX
 | [],_=>none
 | d::ds,ρ=>(Qbe t d ρ).bind λρ1=>match fb ρ1 with
  | some (.nx ρ2)=>QeW t fb fx ds ρ2
  | some (.ct ρ2)=>QeW t fb fx ds ρ2
  | some _=>none
  | none=>fx ρ1
def QdO(fi:DI)(t:Tg)(fb:DS)(fx:DX):DX:=λρ=>(fi ρ).bind λir=>QeW t fb fx ir.items (Qce ir.M ρ)
def spX(K:Fgg)(n:Nat)(xd:List D->Option Str):Sp:=λvs H _ E=>∃ds L x,Rps K H ds vs L/\ds.length=n/\xd ds=some x/\∀C H',ClsAt K x C->Qs H H'->E (.ref C) none H'
def Qmk{K:Fgg}{n:Nat}{xd:List D->Option Str}{ps:List Str}(hn:ps.length=n):∀vs H Q E,spX K n xd vs H Q E->vs.length=ps.length:=λvs H Q E ⟨ds,L,x,r,hl,_⟩=>by rw[hn,← hl,r.length]
section
variable {X:Cx}{st:Stmt}{sts:List Stmt}{e:Expr}{es:List Expr}{fs:DA}{f:DS}{fx fr fy:DX}{g:DT}{pos p np cpos:Pos}{x:Str}{k n:Nat}{fa:Addr}{fd:FuncData}{ps:List Str}{xd:List D->Option Str}
def Qfx:Rz X st xNo:=λH0 A0 pins s U H Dd I ⟨ρ,hs,F,x,ρ',rel,e,q⟩=>by cases e
def QqI:RzS X [] xNo:=λH0 A0 pins s U H Dd I ⟨ρ,hs,F,x,ρ',rel,e,q⟩=>by cases e
def Qhb.hold(h:Qhb X H0 A0 (ts++hs) ρ C ea s'):Qhb X H0 A0 hs ρ C ea s':=by
 obtain⟨pins,U,H,F,rel,q⟩:=h;exact⟨pins,U,H,F,rel.Qpw,q⟩
def RzC(X:Cx)(e:Expr)(fx:DX):Prop:=∀H0 A0 pins s U H ρ hs F c ρ' (Er:Value->Shared->Prop),Inv X pins U H s->Rel X.K H0 A0 hs ρ F U H->fx ρ=some (c,ρ')->(∀v s',X.xe v s'->Er v s')→
 (∀C ea s' H' s1 H1 B a0,ClsAt X.K c C->Inv X pins U H1 s1->Qs H H'->Inv X pins U H' s'->Heap.FlyingW B X.stack ea (.ref C) a0 s'.heap->Cov H' B->(∀b o,s1.heap.get? b=some o->b∉frs X.stack->∃o',B.get? b=some o')->ρ'=ρ->Er (.ref ea) s')→
 wpAny (model X.prog X.w) X.A (eval e X.env) (λ_ _=>False) Er s
def QyU(Fk:Qag X.prog X.w X.K X.mg X.base (CXR X.prog X.w) k fa fd ps (spX X.K n xd))(hr:Q3 k X.A)(hg:Gl X x)(hm:X.mg x=some (.ref fa))(hk:PySem.W.keepIn X.K (.ref fa)=true)(hb:Binds X.K fd ps [])(hn:ps.length=n)
  (ha:SA X (e::es) fs) (hdb:(x == ("__debug__" :Str))=false) (he:starEach (e::es) X.env=(false,eval e X.env)::starEach es X.env) (hpl:(backTo pos (starEach es X.env)).any (·.1)=false):
  RzC X (.Call (.Name x p) (e::es) [] pos) (QT n xd fs):=λH0 A0 pins s U H ρ hs F c ρ' Er I rel ex hxe q=>by
 refine Qf ex λra e1 ex=>?_;split at ex
 .rename_i hl;obtain⟨c',e2,e3⟩:=Zb.mp ex;cases e3;refine wpAny_Call_Name_kw (QcF I hg hm ?_ hdb);refine Zam (h₀:=X.base) I.ok.mod.kin hk (wpAny_mono (ha H0 A0 pos pins s U H (λvs H1=>∃G,Qk0 X.K ρ F H H1 ra vs G) I ⟨ρ,hs,F,ra,rel,e1,λvs H1 G p1=>⟨G,p1⟩⟩) (λus s1 ⟨vs,H1,I1,rv,G,p1⟩=>⟨I1.kIn,?_⟩) hxe) he hpl;have hlen:(us++[]).length=ps.length:=by rw[ZG,← rv.length,← p1.rp.length,hl,hn]
  have hbb:=hb s1 us I1.kIn hlen;rw[ZG]at hbb;refine wpAny_call (codeAny_mono (Fk.run X.A X.stack s1 H1 ⟨us,[]⟩ us vs (λ_ _=>False) (λc' _ H'=>∃C,c'= .ref C/\ClsAt X.K c C/\Qs H1 H') hr I1.Qmx hbb rv ⟨ra.ds,G,c,p1.rp,hl,e2,λC H' hC sm=>⟨C,rfl,hC,sm⟩⟩) λr s' hq=>?_);cases r with
  | error ev=>
   obtain⟨ea,C',H',B,a0,rfl,os,bare,un,hok,fl,cov,old,C,rfl,hC,sm⟩:=hq;exact q C ea s' H' s1 H1 B a0 hC I1 (p1.same.trans sm) (I1.Qlt os un hok bare (λb z=>absurd z ⋯)) fl cov old rfl
  | ok fl=>
   cases fl with
   | ret u=>obtain⟨v,H',_,_,_,_,_,z⟩:=hq;exact z.elim
   | next=>exact False.elim hq
   | brk=>exact False.elim hq
   | cont=>exact False.elim hq
 .cases ex
def QrZ(hx:X.ex=[])(h:RzC X e fx):RzE X e fx:=λH0 A0 pins s U H Q I=>λ⟨ρ,hs,F,c,ρ',rel,ex,q⟩=>
 thn (h H0 A0 pins s U H ρ hs F c ρ' X.xe I rel ex (λ_ _ z=>z) λC ea s' H' s1 H1 B a0 hC I1 sm I' fl cov old z=>q C ea s' hC ⟨pins,U,H',F,by subst z;exact rel.ext sm,.inr ⟨B,a0,.none,I',fl,cov,λb o eb hbf=>by
  obtain⟨⟨o',h1⟩,h2⟩:=QoZ I1 hx eb hbf;exact old b o' h1 h2,λp hp=>by
  obtain⟨e,_,ne,nf,_⟩:=I1.pin p hp;exact old _ _ e λz=>(Zn.mp (I1.QdC _ z)).elim ne nf⟩⟩) λ_ _ z=>z.elim
def Ql8(h:RzE X e fx)(hs:swapsWith e none pos.line X.env=pure false):Rz X (.Expr e pos) fx:=λH0 A0=>QgW (h H0 A0) hs
def QAA(h:RzE X e fx):Rz X (.Return (some e) pos) fx:=λH0 A0=>QpI (h H0 A0)
def QsI{i:Nat}(hN:X.N.Nodup)(h1:X.N[i]? =some x)(h2:Loc X.env.scope x)(h3:X.fn x=true∨X.env.scope.names.lookup x=some .local)(h:RzE X e fx)(hs:swapsWith e (some (.Name x p)) pos.line X.env=pure false):Rz X (.Assign [.Name x p] e pos) fx:=λH0 A0=>Qg8 hN h1 h2 (h H0 A0) hs h3
def QwO(hc:ST X c g)(ha:RzS X a fx)(hb:RzS X b fy):Rz X (.If c a b pos) (xIf g fx fy):=λH0 A0=>(QwP (hc H0 A0) (ha H0 A0) (hb H0 A0)).mono λDd U H Z=>by
 obtain⟨ρ,hs,F,x,ρ',rel,e,q⟩:=Z;refine Qf e λc e1 e=>?_;refine⟨ρ,hs,F,c,rel,e1,λH1 s1=>?_⟩;cases c with
 | true=>exact QrM ⟨ρ,hs,F,x,ρ',rel.ext s1,e,q⟩
 | false=>exact Qrw ⟨ρ,hs,F,x,ρ',rel.ext s1,e,q⟩
def QDa{t u:TS}(h1:PS X st t)(h2:PS X st u):PS X st (λDd U H=>t Dd U H∨u Dd U H):=λpins s U H Dd I q=>q.elim (h1 pins s U H Dd I) (h2 pins s U H Dd I)
def QAj(h1:PSs X sts t)(h2:PSs X sts u):PSs X sts (λDd U H=>t Dd U H∨u Dd U H):=λpins s U H Dd I q=>q.elim (h1 pins s U H Dd I) (h2 pins s U H Dd I)
def QpG(h1:S1 X st f)(h2:Rz X st fx)(h3:RzS X sts fr):RzS X (st::sts) (Qh f fx fr):=λH0 A0=>(QhM (QDa (h1 H0 A0) (h2 H0 A0)) (h3 H0 A0)).mono λDd U H Z=>by
 obtain⟨ρ,hs,F,x,ρ',rel,e,q⟩:=Z;unfold Qh at e;split at e
 .rename_i ρ1 e1;exact .inl ⟨ρ,hs,F,_,rel,e1,λU' H' F' rel'=>⟨ρ1,hs,F',x,ρ',rel',e,q⟩⟩
 .cases e
 .exact .inr ⟨ρ,hs,F,x,ρ',rel,e,q⟩
def QAJ(hp:PassesOwn (model X.prog X.w) X.A X.env X.xe)(hc:X.calm=true)(hi:SI X tg iter fi)(hg:SG X tg t)(hb:SS X body f)(hbx:RzS X body fx)(hs:∀x,foldedSetIterable iter X.env x=pure x):
  Rz X (.For tg iter body [] pos) (QdO fi t f fx):=λH0 A0=>(QtW hp hc (hi H0 A0) (hg H0 A0) (QAj (hb H0 A0) (hbx H0 A0)) hs).mono λDd U H Z=>by
 obtain⟨ρ,hs,F,c,ρ',rel,e,q⟩:=Z;refine Qf e λir e1 e=>?_;refine⟨ρ,hs,F,ir,rel,e1,λJ H1 ts s1 wk hts ow hz=>?_⟩;have rel1:Rel X.K H0 A0 (ts++hs) (Qce ir.M ρ) F U H1:=((rel.ext s1).weak (QcJ ir.M ρ)).hold λt ht=>⟨(hts t ht).1,Shr.of rel (hts t ht).2⟩;refine⟨λi m U' H'=>m=ir.items.length-i/\i<=ir.items.length/\∃ρi Fi,Rel X.K H0 A0 (ts++hs) ρi Fi U' H'/\QeW t f fx (ir.items.drop i) ρi=some (c,ρ'),⟨_,rfl,ZK _,_,F,rel1,by simpa using e⟩,?_⟩;rintro i m U' H' ⟨rfl,hi',ρi,Fi,reli,ei⟩;have held:QkH X.K H' ts:=λt ht=>(reli.held t (Zk _ ht)).1;by_cases hlt:i<ir.items.length
 .rw[ZH hlt]at ei;unfold QeW at ei;refine Qf ei λρ1 eb ei=>?_;refine .inr ⟨wk.go i H' hlt held,λU2 H2=>∃ρ2 F2,Rel X.K H0 A0 (ts++hs) ρ2 F2 U2 H2/\QeW t f fx (ir.items.drop (i+1)) ρ2=some (c,ρ'),λU2 H2 ⟨ρ2,F2,rel2,e2⟩=>⟨_,⋯,rfl,hlt,ρ2,F2,rel2,e2⟩,λx H2 hy=>?_⟩;obtain⟨s2,G0,rp0,hG0⟩:=wk.yld i ir.items[i] H' x H2 (by simp[hlt]) held hy;have shr:Shr H0 A0 ρi Fi G0:=λa ha=>by
   obtain⟨t,ht,hat⟩:=hG0 a ha;exact⟨(reli.held t (Zk _ ht)).2 a hat,λj d ej hj=>(reli.own j d ej).2.2.2.2 t (Zk _ ht) a hj hat⟩
  refine⟨ρi,ts++hs,Fi,ir.items[i],G0,ρ1,reli.ext s2,rp0,shr,eb,λU3 F3 rel3 _ _=>?_⟩;split at ei
  .rename_i ρ2 eo;exact .inl ⟨ρ1,ts++hs,F3,_,rel3,eo,λU4 H4 F4 rel4=>⟨ρ2,F4,rel4,ei⟩⟩
  .rename_i ρ2 eo;exact .inl ⟨ρ1,ts++hs,F3,_,rel3,eo,λU4 H4 F4 rel4=>⟨ρ2,F4,rel4,ei⟩⟩
  .cases ei
  .exact .inr ⟨ρ1,ts++hs,F3,c,ρ',rel3,ei,λC ea s' hC T=>q C ea s' hC T.hold⟩
 .have hn:i=ir.items.length:= ⋯
  subst hn;rw[Zbg]at ei;cases ei
end
noncomputable abbrev QE9:List Value:=[.type "ValueError",.type "Exception",.type "BaseException",.type "object"]
structure Qel (K:Fgg) (x:Str):Prop where
 ex:∃C,ClsAt K x C/\PySem.W.excIn K C QE9 "ValueError.__new__" =true
def Qv5{K:Fgg}{C:Addr}{bmB:List Value}{newId:String}(q:PySem.W.excIn K C bmB newId=true){h:Heap}(X:K.In h):∃bm N nm qn bs hdct sn sub ab col dd k0 k1 k2 k3 k5 mN,
  h.get? C=some (excClassObj nm qn C N bs bm hdct sn sub ab col dd k0 k1 k2 k3 k5 newId)/\h.Ns N mN/\mN "__init__" =none/\OwnTail h bmB bm:=by
 rw[PySem.W.excIn.eq_def]at q;split at q
 case h_2=>cases q
 rename_i dd cd sl ho;split at q
 case h_2=>cases q
 rename_i C1 bm k0 k1 k2 k3 nid k5 em es;simp only[Zh,beq_iff_eq,ZF]at q;obtain⟨⟨⟨⟨⟨z1,z2⟩,nodel⟩,tl⟩,okN⟩,noInit⟩:=q;subst z1 z2;have hget:=X _ _ ho;have hsl:sl= #[k0,k1,k2,k3,some (.builtin nid),k5]:=Array.ext' es;rw[hsl]at hget;refine⟨bm,cd.ns,cd.name,cd.qualname,cd.bases,cd.hasDict,cd.slotNames,cd.subclasses,cd.abstract,cd.collection,dd,k0,k1,k2,k3,k5,_,?_,.of_isNs (PySem.W.isNs_of_in X okN),PySem.W.nsMap_none_of_in X okN noInit,PySem.W.tail_of_in X tl⟩;rw[hget];cases cd with
 | mk c1 c2 c3 c4 c5 c6 c7 c8 c9 c10 c11=>
  dsimp only at em nodel;rw[em,nodel]
section
variable {X:Cx}{e:Expr}{fs:DA}{x:Str}{np cpos pos:Pos}
def QuD(hc:X.calm=true)(hg:Gl X x)(hk:Qel X.K x)(hdb:(x == ("__debug__" :Str))=false)(ha:SA X [e] fs)(he:starEach [e] X.env=(false,eval e X.env)::starEach [] X.env):
  Rz X (.Raise (some (.Call (.Name x np) [e] [] cpos)) none pos) (Q9 x fs):=λH0 A0 pins s U H Dd I Z=>by
 obtain⟨ρ,hs,F,c,ρ',rel,ex,q⟩:=Z;refine Qf ex λra e1 e2=>?_;split at e2
 case isFalse=>cases e2
 rename_i hl;cases e2;obtain⟨C,hC,hq⟩:=hk.ex;obtain⟨bm,N,nm,qn,bs,hdct,sn,sub,ab,col,dd,k0,k1,k2,k3,k5,mN,o1,o2,o3,o4⟩:=Qv5 hq I.ok.mod.kin;have hm:X.mg x=some (.ref C):=ZM I.ok.mod.kin I.ok.mod.glob hC
 refine wpAny_Raise_call_subT (C:=C) (nm:=nm) (q:=qn) (N:=N) (bs:=bs) (bm:=bm) (hdct:=hdct) (sn:=sn) (sub:=sub) (ab:=ab) (col:=col) (dd:=dd) (k0:=k0) (k1:=k1) (k2:=k2) (k3:=k3) (k5:=k5)
  PySem.F.excBase_ValueError (mN:=mN) (o4.hasType PySem.F.excBase_ValueError.hasBase) (I.ok.hd hc) (by rw[he];rfl) o3 (QcF I hg hm ⟨rfl,?_⟩ hdb)
 have hargs:=ha H0 A0 cpos pins s U H (λvs H1=>∃G,Qk0 X.K ρ F H H1 ra vs G) I ⟨ρ,hs,F,ra,rel,e1,λvs H1 G p1=>⟨G,p1⟩⟩;rw[he]at hargs ⊢;refine Calls.evalArgs_plain (thn hargs λus s2 ⟨vs,H1,I1,rv,G,p1⟩=>⟨rfl,?_,I1.bk _ _ o1,o2.keeps I1.bk,o4.keeps I1.bk,λh' ea hm=>?_⟩)
 .show us.length<=sizeLine;rw[← rv.length,← p1.rp.length];exact Zy hl ∅
 .exact q C ea _ hC ⟨pins,U,H1,F,rel.ext p1.same,.inl ⟨s2,us,I1,hm,rfl,rfl⟩⟩
end
section
variable {M:Model}{A:Around}{E:Value->Shared->Prop}{s:Shared}{B h h':Heap}{env:Env}{l:List Env}{L e C:Addr}{cls a0 fl:Value}
def Qvk{α:Type}{what:String}{Q:α->Shared->Prop}(hh:Qgg B l e cls a0 fl s.heap)(hQ:∀h' f',Qgg B l e cls a0 f' h'->s.heap.UpToSlots h'->E (.ref e) {s with heap:=h'}):wpAny M A (PySem.passOn what (.ref e) env:Sem α) Q E s:=by
 obtain⟨g1,g2,g3,o1,v1,T,o2,v2,e1,c1,d1,f1,nT,ne,e2,d2,f3⟩:=hh;unfold PySem.passOn setFlight;refine wpAny_bind (wpAny_field e1 d1 f1 ?_);rw[if_neg ⋯];refine wpAny_bind (wpAny_bind (wpAny_field e1 d1 f1 ?_));rw[if_pos ⋯];have hz:3<v2.size:=(Array.getElem?_eq_some_iff.mp f3).1;have oth:∀x b,b≠T->(s.heap.update T (Obj.mapFields (·.setIfInBounds 3 x))).get? b=s.heap.get? b:=λx b n=>Zaw _ _ n.symm;have far:∀b o,s.heap.get? b=some o->(∀vs,o.data≠ .fields vs)->b≠T:=λb o x y z=>by
  subst z;cases x.symm.trans e2;exact y _ d2
 refine wpAny_setField e2 d2 hz (wpAny_throw (hQ _ (env.frame.elim Value.none λf=>rawInt f) ⟨λb o x=>(oth _ b λz=>by subst z;rw[nT]at x;cases x).trans (g1 b o x),g2,g3.of_keeps λb o x y=>⟨o,(oth _ b (far b o x y)).trans x,rfl⟩,o1,v1,T,_,_,(oth _ e ne.symm).trans e1,c1,d1,f1,nT,ne,
  ZaG _ e2 (Obj.isFreed_of_fields (Obj.data_mapFields d2 _)),Obj.data_mapFields d2 _,by simp[hz]⟩ λb o x y=>⟨o.slots,(oth _ b (far b o x y)).trans x⟩))
def Qqk(hs:Heap.SameBut C h h'):∀{l:List Env},(∀b∈frs l,b≠C)->h.FunFrames B l->h'.FunFrames (PySem.W.hideAll B [C]) l
 | [],_,_=>trivial
 | env::l,hn,⟨k,⟨L,o,f,n,ho,hd⟩,r⟩=>by
  have hL:L≠C:=hn L (Zad.mpr ⟨env,Zf,f⟩);refine⟨k,⟨L,o,f,?_,(hs.2 L hL).trans ho,hd⟩,Qqk hs (λb hb=>hn b ?_) r⟩
  .cases q:(PySem.W.hideAll B [C]).get? L with
   | none=>rfl
   | some u=>have:=Zav _ q;rw[n]at this;cases this
  .obtain⟨v,h1,h2⟩:=Zad.mp hb;exact Zad.mpr ⟨v,Zc _ h1,h2⟩
def Quj(hs:Heap.SameBut C h h')(hn:∀b∈frs l,b≠C){m:Str->Option Value}(hC:h.Ns C m)(hh:Qgg B l e cls a0 fl h):Qgg (PySem.W.hideAll B [C]) l e cls a0 fl h':=by
 obtain⟨g1,g2,g3,o1,v1,T,o2,v2,e1,c1,d1,f1,nT,ne,e2,d2,f3⟩:=hh;have apart:∀b o vs,h.get? b=some o->o.data= .fields vs->b≠C:=λb o vs x y z=>by
  subst z;obtain⟨o',es,ep,ho,hd,_⟩:=hC;rw[x]at ho;cases ho;rw[hd]at y;cases y
 have gone:∀b,B.get? b=none->(PySem.W.hideAll B [C]).get? b=none:=λb n=>by
  cases q:(PySem.W.hideAll B [C]).get? b with
  | none=>rfl
  | some u=>have:=Zav _ q;rw[n]at this;cases this
 refine⟨λb o x=>?_,gone _ g2,Qqk hs hn g3,o1,v1,T,o2,v2,(hs.2 e (apart _ _ _ e1 d1)).trans e1,c1,d1,f1,gone _ nT,ne,(hs.2 T (apart _ _ _ e2 d2)).trans e2,d2,f3⟩;have hb:b≠C:=λz=>by
  subst z;have hm:(PySem.W.hideAll B [b]).get? b=none:=PySem.W.hideAll_none _ Zf;rw[hm]at x;cases x
 exact(hs.2 b hb).trans (g1 b o (Zav _ x))
end
section
variable {prog:Program}{w:World}{A:Around}{env:Env}{it acc:Value}{tg iter elt:Expr}{ifs:List Expr}{scope:Scope}{pos:Pos}{R:Result->Shared->Prop}{s0:Shared}
def Qrb(J:Nat->Shared->Prop)
  (turn:∀n s,J n s->wpAny (model prog w) A (pyNext it) (λr s1=>∃v,r=some v/\wpAny (model prog w) A (letOwnedTupleGo tg it v) (λ_ s2=>wpAny (model prog w) A (assign tg env v) (λ_ s3=>
     wpAny (model prog w) A (forIn ifs true λc r=>if r=true then do let ok ← isTrue c env (eval c env);pure (ForInStep.yield ok)else pure (ForInStep.yield r)) (λok s4=>
      if ok=true then wpAny (model prog w) A (eval elt env) (λx s5=>wpAny (model prog w) A (call (.builtin "list.append") [acc,x]) (λ_ s6=>∃m,m<n/\J m s6) (λ_ _=>False) s5) (notedBy (model prog w) A env λx s=>R (.error x) s) s4
      else ∃m,m<n/\J m s4) (λ_ _=>False) s3) (λ_ _=>False) s2) (λ_ _=>False) s1) (λ_ _=>False) s)
  (n:Nat) (h:J n s0):codeAny (model prog w) A (.compLoop (.ListComp elt [⟨tg,iter,ifs,0⟩] scope pos) 0 it acc env) R s0:=by
 have up:∀{α:Type}{t:Sem α}{Q:α->Shared->Prop}{E:Value->Shared->Prop}{s:Shared},wpAny (model prog w) A t Q (λ_ _=>False) s->wpAny (model prog w) A t Q E s:=λh=>wpAny_mono h (λ_ _ q=>q) λ_ _ f=>f.elim;refine codeAny_loop (by rfl) J (λk sk hk=>?_) n h;show wpAny (model prog w) A ((compTurn (.ListComp elt [⟨tg,iter,ifs,0⟩] scope pos) 0 it acc env).onRaise (λx=>do noteFrame x env;theTreesLotGoes x)) _ _ sk;refine wpAny_noted ?_;rw[compTurn_list];refine wpAny_bind (wpAny_standAt (wpAny_bind (thn (up (turn k sk hk)) λr s1 h1=>?_)));obtain⟨v,rfl,h1⟩:=h1;refine wpAny_bind (thn (up h1) λ_ s2 h2=>wpAny_bind (thn (up h2) λ_ s3 h3=>wpAny_bind (thn (up h3) λok s4 h4=>?_)));cases ok with
 | false=>exact wpAny_pure ⟨rfl,h4⟩
 | true=>exact wpAny_bind (wpAny_bind (thn h4 λx s5 h5=>wpAny_bind (thn (up h5) λ_ s6 h6=>wpAny_pure (wpAny_pure ⟨rfl,h6⟩))))
end
section
variable {X:Cx}{tg iter elt:Expr}{ifs:List Expr}{scope:Scope}{N':List Str}{pos:Pos}
def Qt7{it D C:Addr}{fp:LAd}{tn:Nat->Heap->Prop}{J:It}{cl:List (Str×Addr)}{s3 s4:Shared}{H3:Hp}{Uc:L2.St}{g:TG}{tc:TT}{te:TE}{tr:L2.St->Hp->Prop}{R:Result->Shared->Prop}(hcalm:X.calm=true)
  (T:Turn X.prog X.w X.K tg J fp it tn)
  (hg:PG (cxc X N' scope cl C fp s3 H3) tg g) (ht:PTs (cxc X N' scope cl C fp s3 H3) ifs tc) (he:PE (cxc X N' scope cl C fp s3 H3) elt te)
  (hx:∀pins s U H,Inv (cxc X N' scope cl C fp s3 H3) pins U H s->tr U H->wpAny (model X.prog X.w) X.A (eval elt (compEnvC scope cl C X.env)) (λ_ _=>False) (notedBy (model X.prog X.w) X.A (compEnvC scope cl C X.env) λx s=>R (.error x) s) s)
  (I:Inv (cxc X N' scope cl C fp s3 H3) [] Uc H3 s4) (st:tn 0 s4.heap) (ff:∀b∈fp,Qcn (cxc X N' scope cl C fp s3 H3) [] H3 b)
  (W:Nat->Nat->List V->Hp->Prop) (hw:∃m,W 0 m [] H3)
  (turn:∀i m acc H2,W i m acc H2->J.go i H2/\∀x H5,J.yld i H2 x H5->g x Uc H5 λU2 H6=>(∀(j:Nat) v,Uc[j]? =some (some v)->U2[j]? =some (some v))/\tc U2 H6 λb H7=>if b=true then
    (te U2 H7 λy H8=>H8 D=some (.lst acc)/\acc.length<sizeLine/\∃m',m'<m/\W (i+1) m' (acc++[y]) (upd H8 D (.lst (acc++[y]))))∨tr U2 H7
    else ∃m',m'<m/\W (i+1) m' acc H7):
  codeAny (model X.prog X.w) X.A (.compStart (.ListComp elt [⟨tg,iter,ifs,0⟩] scope pos) 0 (.ref it) (.ref D) (compEnvC scope cl C X.env)) R s4:=by
 obtain⟨m0,w0⟩:=hw;have stat:∀{H':Hp},(∀b∈fp,H' b=none)->∀b∈fp,Qcn (cxc X N' scope cl C fp s3 H3) [] H' b:=λhn b hb=>⟨hn b hb,(ff b hb).2⟩;have loop:codeAny (model X.prog X.w) X.A (.compLoop (.ListComp elt [⟨tg,iter,ifs,0⟩] scope pos) 0 (.ref it) (.ref D) (compEnvC scope cl C X.env)) R s4:=by
  refine Qrb (λn s'=>∃i acc H',Inv (cxc X N' scope cl C fp s3 H3) [] Uc H' s'/\tn i s'.heap/\(∀b∈fp,H' b=none)/\W i n acc H') ?_ m0 ⟨0,[],H3,I,st,λb hb=>(ff b hb).1,w0⟩;rintro n s5 ⟨i,acc,H5,I5,st5,fr5,w5⟩;obtain⟨go,step⟩:=turn i n acc H5 w5;refine thn (T.item (cxc X N' scope cl C fp s3 H3) rfl rfl rfl hcalm i [] s5 Uc H5 _ I5 (stat fr5) st5 go) λr s6 Z=>?_;obtain⟨u,hr,h6⟩:=Z;refine⟨u,hr,?_⟩;refine thn h6 λ_ s7 Z=>?_;obtain⟨x,H7,I7,r7,y7,st7,fr7⟩:=Z;have I7':=I7.pinned (stat fr7) (T.obj _ _ st7);refine thn (hg _ s7 Uc H7 x u _ I7' r7 (step x H7 y7)) λ_ s8=>exJ λU8 H8 I8 k8 q8=>?_;refine thn (ht _ s8 U8 H8 _ I8 q8) λok s9 Z=>?_;obtain⟨H9,I9,q9⟩:=Z
  have again:∀{H':Hp}{s':Shared}{acc':List V},Inv (cxc X N' scope cl C fp s3 H3) ([]++Qhr fp s7.heap) U8 H' s'->(∃m',m'<n/\W (i+1) m' acc' H')→
    ∃m,m<n/\∃i acc H',Inv (cxc X N' scope cl C fp s3 H3) [] Uc H' s'/\tn i s'.heap/\(∀b∈fp,H' b=none)/\W i m acc H':=λ{H' s' acc'} I' ⟨m',hm,w'⟩=>by
   have pin:∀b∈fp,∀o,s7.heap.get? b=some o->s'.heap.get? b=some o/\H' b=none:=λb hb o e=>by
    have z:=I'.pin (b,o) (Ze _ (Ze _ (Qfu hb e)));exact⟨z.1,z.2.1⟩
   refine⟨m',hm,i+1,acc',H',?_,T.keep _ _ _ st7 λb hb o e=>(pin b hb o e).1,λb hb=>?_,w'⟩
   .exact I'.Qgb.weak (I.len.trans I8.len.symm) k8
   .obtain⟨o,e,_⟩:=T.obj _ _ st7 b hb;exact(pin b hb o e).2
  cases ok with
  | false=>
   rw[if_neg ZJ]at q9 ⊢;exact again I9 q9
  | true=>
   rw[if_pos rfl]at q9 ⊢;rcases q9 with q9 | q9
   .refine wpAny_mono (he _ s9 U8 H9 _ I9 q9) (λyv s10 Z=>?_) λ_ _ z=>z.elim;obtain⟨y,H10,I10,r10,e10,l10,q10⟩:=Z;refine thn (QiO _ s10 U8 H10 (.ref D) [y] (.ref D) [yv] (λv H11=>H11=upd H10 D (.lst (acc++[y]))) I10 rfl (.cons r10 .nil) ⟨D,acc,y,rfl,rfl,e10,l10,rfl⟩) λ_ s11 Z=>?_;obtain⟨_,H11,I11,_,e11⟩:=Z;subst e11;exact again I11 q10
   .exact thn (hx _ s9 U8 H9 I9 q9) λ_ _ z=>z.elim
 exact codeAny_compStart_list loop (T.self _ 0 _ _ _ st loop)
end
def QjF(t:Tg)(ft:DT)(fe:DE)(fx:DX)(ρc:En):List D->Option Str
 | []=>none
 | d::ds=>(Qbe t d ρc).bind λρ1=>(ft ρ1).bind λc=>if c=true then(match fe ρ1 with
  | some _=>QjF t ft fe fx ρc ds
  | none=>(fx ρ1).map (·.1))else QjF t ft fe fx ρc ds
def QeY(fi:DI)(t:Tg)(cap:List (Option Nat))(ft:DT)(fe:DE)(fx:DX):DX:=λρ=>(fi ρ).bind λir=>(QjF t ft fe fx (Qbx cap ρ) ir.items).map λc=>(c,ρ)
section
variable {K:Fgg}{H0 H1:Hp}{A0:LAd}{hs:List (V×D×List Addr)}{ρ:En}{F:Nat->List Addr}{U:L2.St}{cap:List (Option Nat)}
def Qzy(rel1:Rel K H0 A0 hs ρ F U H1):∃Fc:Nat->List Addr,(∀H2,Qs H1 H2->Rel K (λ_=>none) [] [] (Qbx cap ρ) Fc (cap.map λo=>o.bind λi=>U[i]?.join) H2)/\∀G,Shr (λ_=>none) [] (Qbx cap ρ) Fc G:=by
 have hF0:∃Fc:Nat->List Addr,Fc=λj=>match cap[j]? with
  | some (some i)=>(match ρ[i]? with
   | some (some _)=>F i
   | _=>[])
  | _=>[]:=⟨_,rfl⟩
 obtain⟨Fc,hFc⟩:=hF0;have nil:∀j d,(Qbx cap ρ)[j]? =some (some (d,true))->d.flat=true/\Fc j=[]:=λj d e=>by
  have hf:d.flat=true:=QhX cap ρ j d e;obtain⟨i,b',h1,h2⟩:=Qgh e;obtain⟨v,h3,h4⟩:=rel1.val i d b' h2;refine⟨hf,?_⟩;rw[hFc];simp only[h1,h2];exact h4.QbX hf
 refine⟨Fc,λH2 s2=>⟨by simp[Qbx],λj d b e=>?_,λj d e=>?_,λj d b e a ha=> .inl rfl,λt ht=>(by simp at ht),λb o z=>(by cases z)⟩,λG a ha=>⟨.inl rfl,λj d e hj=>?_⟩⟩
 .obtain⟨i,b',h1,h2⟩:=Qgh e;obtain⟨v,h3,h4⟩:=(rel1.ext s2).val i d b' h2;refine⟨v,?_,?_⟩
  .rw[Zw,h1];simp only[ZD,Za,h3,Option.join_some]
  .rw[hFc];simp only[h1,h2];exact h4
 .obtain⟨hf,z⟩:=nil j d e;rw[z];exact⟨(Qdr d hf).symm,ZT,λa ha=>(by simp at ha),λ_ _ _ _ _ a ha=>(by simp at ha),λt ht=>(by simp at ht)⟩
 .rw[(nil j d e).2]at hj;simp at hj
end
section
variable {X:Cx}{tg iter elt:Expr}{ifs:List Expr}{scope:Scope}{N':List Str}{pos:Pos}{fi:DI}{t:Tg}{cap:List (Option Nat)}{ft:DT}{fe:DE}{fx:DX}
def Qpk(hcalm:X.calm=true)(hxs:X.ex=[])(hst:X.stack=X.env::X.outer)(hfe:X.env.frame=some X.env.locals)(S:Qcw X N' scope)(hi:SI X tg iter fi)(hcap:Qgr X N' scope cap t.slots)
  (hin:∀cl C fp s3 H3,SG (cxc X N' scope cl C fp s3 H3) tg t/\QhF (cxc X N' scope cl C fp s3 H3) ifs ft/\SE (cxc X N' scope cl C fp s3 H3) elt fe) (hr:∀cl C fp s3 H3,RzC (cxc X N' scope cl C fp s3 H3) elt fx) (hs':∀x,foldedSetIterable iter X.env x=pure x):
  ∀H0 A0 pins s U H (QV:Value->Shared->Prop) (cp:Pos) (use:Option (Value->Sem Unit)),Inv X pins U H s->cRz X H0 A0 (QeY fi t cap ft fe fx) U H->wpAny (model X.prog X.w) X.A (comprehension (.ListComp elt [⟨tg,iter,ifs,0⟩] scope pos) scope X.env cp (newList []) false (eval iter X.env) use) QV X.xe s:=λH0 A0 pins s U H QV cp use I=>λ⟨ρ,hs,F,c,ρ',rel,ex,q⟩=>by
 refine Qf ex λir e1 ex=>?_;obtain⟨c',e2,e3⟩:=Zb.mp ex;cases e3;obtain⟨cl,hcl,hc1,hc2⟩:=QqS λy hy hf=>I.ok.has y.1 (S.free y hy hf);refine wpAny_comprehension_free rfl hs' hcl S.kind S.loc ?_;refine thn (hi H0 A0 pins s U H (λJ H1=>∃ts,Qs H H1/\Walk X.K J ts ir.items/\(∀t∈ts,Rp X.K H1 t.2.1 t.1 t.2.2)/\ir.items.length<=sizeLine) I ⟨ρ,hs,F,ir,rel,e1,λJ H1 ts s1 wk hts ow hz=>⟨ts,s1,wk,λt ht=>(hts t ht).1,hz⟩⟩) λv s1 h1=>thn h1 λitv s2 h2=>?_;obtain⟨it,fp,tn,J,H2,e,I2,T,st2,f2,ts,sm2,wk,hts,hz⟩:=h2;subst e;have rel2:=rel.ext sm2;obtain⟨Fc,relC,shC⟩:=Qzy (cap:=cap) rel2;have cap':Qjx X N' scope U (cap.map λo=>o.bind λi=>U[i]?.join):=⟨by simp[hcap.len],λj x v hN hv=>by
  rw[Zw]at hv;cases qc:cap[j]? with
  | none=>rw[qc]at hv;cases hv
  | some o=>
   rw[qc]at hv;cases o with
   | none=>cases hv
   | some i=>
    simp only[ZD,Za,Option.some.injEq]at hv;obtain⟨y,h1,h2,h3,h4⟩:=hcap.get j i qc;rw[hN]at h1;cases h1;exact⟨h2,i,h3,join_some hv,h4⟩⟩
 generalize hUc:(cap.map λo=>o.bind λi=>U[i]?.join)=Uc at relC cap';have hD0:H2 s2.heap.objs.size=none:=I2.hok.fresh (Zi _);have fpl:∀b∈fp,b<s2.heap.objs.size:=λb hb=>let ⟨o,e,_⟩:=T.obj _ _ st2 b hb;Zp e;refine wpAny_newObj_type ?_
 have I3:Inv X pins U (upd H2 s2.heap.objs.size (.lst [])) {s2 with heap:=s2.heap.push {cls:= .type "list",dict:=none,data:= .seq ([]:List Value).toArray}}:=
  I2.laid (t':=s2.toks) (λb o e=>Zd _ e) (Zi _) ⟨ZK _,[],0,.nil,Zq _ rfl⟩
 generalize hs3:({s2 with heap:=s2.heap.push {cls:= .type "list",dict:=none,data:= .seq ([]:List Value).toArray}}:Shared)=s3 at I3;have hs3':s3.heap=s2.heap.push {cls:= .type "list",dict:=none,data:= .seq ([]:List Value).toArray}:=by rw[← hs3]
 have sz3:s3.heap.objs.size=s2.heap.objs.size+1:=by rw[hs3',ZX]
 have old3:∀b o,s2.heap.get? b=some o->s3.heap.get? b=some o:=λb o e=>by rw[hs3'];exact Zd _ e
 have f3:∀b∈fp,Qcn X pins (upd H2 s2.heap.objs.size (.lst [])) b:=λb hb=>⟨by rw[Qy (ZC (fpl b hb))];exact(f2 b hb).1,(f2 b hb).2⟩;have fpl3:∀b∈fp,b<s3.heap.objs.size:=λb hb=>by rw[sz3];exact Zar (fpl b hb)
 refine Qk9 (λh4 hns4' keep4 hown4=>?_);have I4:=Qoy (tk:=s3.toks) S I3 f3 fpl3 hc1 hc2 cap' hns4' keep4 hown4;have hout:∀{pins' U' H' s'},Inv (cxc X N' scope (cellsFrom (s3.heap.objs.size+1) scope.names cl) s3.heap.objs.size fp s3 (upd H2 s2.heap.objs.size (.lst []))) pins' U' H' s'->Inv X pins U H' s':=λJ'=>
  I3.Qlt J'.os J'.base J'.hok J'.bare λb hb=>⟨(f3 b hb).2.2.2.1,(f3 b hb).2.1,(f3 b hb).2.2.2.2.1,(f3 b hb).2.2.2.2.2⟩
 obtain⟨hg,ht,he⟩:=hin (cellsFrom (s3.heap.objs.size+1) scope.names cl) s3.heap.objs.size fp s3 (upd H2 s2.heap.objs.size (.lst []));have hrz:=hr (cellsFrom (s3.heap.objs.size+1) scope.names cl) s3.heap.objs.size fp s3 (upd H2 s2.heap.objs.size (.lst []));have fc:∀b∈fp,Qcn (cxc X N' scope (cellsFrom (s3.heap.objs.size+1) scope.names cl) s3.heap.objs.size fp s3 (upd H2 s2.heap.objs.size (.lst []))) [] (upd H2 s2.heap.objs.size (.lst [])) b:=λb hb=>
  ⟨(f3 b hb).1,ZC (fpl3 b hb),λhs'=>(Zn.mp (I3.QdC b hs')).elim (f3 b hb).2.1 (f3 b hb).2.2.1,.inl hb,λx c e=>(by
   rcases QfF scope.names _ cl x c e with e | ⟨e,_⟩
   .exact(f3 b hb).2.2.2.2.1 x c (hc1 x c e)
   .intro z;rw[z]at e;exact absurd (Zr (fpl3 b hb) (Zy (Zae _) e)) (ZE _)),λp hp=>absurd (show p∈([]:List (Addr×Obj))from hp) ⋯⟩
 have hCf:∀b∈frs X.stack,b≠s3.heap.objs.size:=λb hb z=>by
  rcases Zn.mp (I3.QdC b hb)with y | y
  .exact absurd I3.lt (by rw[← y,z];exact ZE _)
  .exact I3.QzY (Nat.le_of_eq z.symm) y
 have hC1:s3.heap.objs.size≠X.env.locals:=Ne.symm (ZC I3.lt);have hC4:∀x c,X.env.cells.lookup x=some c->c≠s3.heap.objs.size:=λx c e z=>by
  obtain⟨v,o,ho,_⟩:=I3.cell x c e;exact absurd (Zp ho) (by rw[z];exact ZE _)
 have hC5:∀p∈X.pn++pins,p.1≠s3.heap.objs.size:=λp hp z=>absurd (Zp (I3.pin p hp).1) (by rw[z];exact ZE _);have hCB:∀{B:Heap} b,(∃o,B.get? b=some o)->b≠s3.heap.objs.size->∃o,(PySem.W.hideAll B [s3.heap.objs.size]).get? b=some o:=λ{B} b ⟨o,ho⟩ hb=>⟨o,Zat _ ho (by simpa using hb)⟩
 refine Qt7 (D:=s2.heap.objs.size) (tr:=λU' H'=>∃ρ1 ρ2 F1,Rel X.K (λ_=>none) [] [] ρ1 F1 U' H'/\fx ρ1=some (c,ρ2)/\Qs H2 H') (W:=λi m acc H'=>m=ir.items.length-i/\i<=ir.items.length/\Qs H2 H'/\H' s2.heap.objs.size=some (.lst acc)/\acc.length<=i/\QjF t ft fe fx (Qbx cap ρ) (ir.items.drop i)=some c)
  hcalm T (hg (λ_=>none) []) (ht (λ_=>none) []) (he (λ_=>none) []) (λpn s5 U5 H5 I5 ⟨ρ1,ρ2,F1,rel5,e5,sm5⟩=>?_) I4 (T.keep _ _ _ st2 λb hb o e=>keep4 b o (old3 b o e)) fc ⟨_,rfl,ZK _,Qa0 hD0,Q4,Zi _,by simpa using e2⟩ ?_
 .refine hrz (λ_=>none) [] pn s5 U5 H5 ρ1 [] F1 c ρ2 _ I5 rel5 e5 (λ_ _ z=>z.elim) λC ea s' H' s6 H6 B a0 hC I6 sm I' fl cov old _=>?_;have O6:=hout I6;have O:=hout I';have hfr:=I.ok.frames;have fl':Heap.FlyingW B X.stack ea (.ref C) a0 s'.heap:=fl;have oldX:∀b o,X.s₀.heap.get? b=some o->b∉X.fs->∃o',B.get? b=some o':=λb o eb hbf=>by
   obtain⟨⟨o',h1⟩,h2⟩:=QoZ O6 hxs eb hbf;exact old b o' h1 h2
  have pb:∀p∈X.pn++pins,∃o,B.get? p.1=some o:=λp hp=>by
   obtain⟨e,_,ne,nf,_⟩:=O6.pin p hp;exact old _ _ e λz=>(Zn.mp (O6.QdC _ z)).elim ne nf
  have frC:H' s3.heap.objs.size=none:=I'.free;have ns:∃m,s'.heap.Ns s3.heap.objs.size m:=let ⟨m,hn,_⟩:=I'.loc;⟨m,hn⟩;obtain⟨m,hm⟩:=ns;rw[hst]at hfr fl';show wpAny (model X.prog X.w) X.A (noteFrame (.ref ea) X.env) _ _ s';refine QkC (fl:= .none) hfr hfe fl' λh1 hd up=>?_;refine⟨m,up.ns hm,λh2 hsb cenv _=>?_⟩;have O1:Inv X pins U H' {s' with heap:=h1}:=Qhx O rfl O.bare hxs fl.1 hd.1 up cov oldX pb;have O2:=O1.QrN (h':=h2) hsb frC hC1 (Zy I3.sz (Zi _)) hC4 hC5;have hd2:Qgg (PySem.W.hideAll B [s3.heap.objs.size]) X.stack ea (.ref C) a0 (rawInt X.env.locals) h2:=Quj hsb hCf (up.ns hm) (by rw[hst];exact hd);have cov2:Cov H' (PySem.W.hideAll B [s3.heap.objs.size]):=λb u e=>hCB b (cov b u e) λz=>by rw[z,frC]at e;cases e
  have old2:∀b o,X.s₀.heap.get? b=some o->b∉X.fs->∃o',(PySem.W.hideAll B [s3.heap.objs.size]).get? b=some o':=λb o eb hbf=>hCB b (oldX b o eb hbf) λz=>absurd (Zr (Zp eb) I3.sz) (by rw[z];exact ZE _);have pb2:∀p∈X.pn++pins,∃o,(PySem.W.hideAll B [s3.heap.objs.size]).get? p.1=some o:=λp hp=>hCB _ (pb p hp) (hC5 p hp);refine Qvk (s:={s' with heap:=h2}) hd2 λh3 f3' hd3 up3=>?_;exact q C ea _ hC ⟨pins,U,H',F,rel2.ext (sm5.trans sm),.inr ⟨_,a0,f3',Qhx O2 rfl O2.bare hxs hd2.1 hd3.1 up3 cov2 old2 pb2,hd3,cov2,old2,pb2⟩⟩
 .rintro i m acc H3 ⟨rfl,hi3,s3',eD,hlen,hst'⟩;have heldOf:∀H4,Qs H2 H4->QkH X.K H4 ts:=λH4 s4 t ht=>(hts t ht).same s4;have hlt:i<ir.items.length:=by
   rcases Nat.lt_or_ge i ir.items.length with z | z
   .exact z
   .rw[List.drop_eq_nil_of_le z]at hst';cases hst'
  refine⟨wk.go i H3 hlt (heldOf H3 s3'),λx H5 hy=>?_⟩;obtain⟨s5,G0,rp0,hG0⟩:=wk.yld i ir.items[i] H3 x H5 (by simp[hlt]) (heldOf H3 s3') hy;rw[ZH hlt]at hst';refine Qf hst' λρ1 eb hst'=>?_;refine Qf hst' λb ec hst'=>?_;refine⟨Qbx cap ρ,[],Fc,ir.items[i],G0,ρ1,relC H5 (s3'.trans s5),rp0,shC G0,eb,λU6 F6 rel6 keep mem6=>⟨λj v hv=>?_,ρ1,[],F6,b,rel6,ec,λH7 s7=>?_⟩⟩
  .have hj:j∉t.slots:=λhj=>by
    rw[← hUc,Zw]at hv;cases qc:cap[j]? with
    | none=>rw[qc]at hv;cases hv
    | some o=>
     cases o with
     | none=>rw[qc]at hv;cases hv
     | some k=>exact hcap.apart j k qc hj
   rw[keep j hj];exact hv
  have s17:Qs H2 H7:=(s3'.trans s5).trans s7;have eD7:H7 s2.heap.objs.size=some (.lst acc):=s7 _ _ (s5 _ _ eD);cases b with
  | false=>
   refine Qrw ⟨_,⋯,rfl,hlt,s17,eD7,⋯,?_⟩;exact hst'
  | true=>
   refine QrM ?_;cases er:fe ρ1 with
   | some r=>
    have hst2:QjF t ft fe fx (Qbx cap ρ) (ir.items.drop (i+1))=some c:=by
     have:=hst';rw[if_pos rfl,er]at this;exact this
    refine .inl ⟨ρ1,[],F6,r,rel6.ext s7,er,λy H8 Ge pe=>⟨pe.same _ _ eD7,ZaZ hlen (Zr hlt hz),_,⋯,rfl,hlt,λb o hb=>?_,Q4,by rw[Zl,Zay];lia,hst2⟩⟩;rw[Qy (QbA hb hD0)];exact pe.same _ _ (s17 b o hb)
   | none=>
    have hst2:(fx ρ1).map (·.1)=some c:=by
     have:=hst';rw[if_pos rfl,er]at this;exact this
    obtain⟨⟨c',ρ2⟩,e1',e2'⟩:=Zb.mp hst2;cases e2';exact .inr ⟨ρ1,ρ2,F6,rel6.ext s7,e1',s17⟩
def Qqg(hcalm:X.calm=true)(hxs:X.ex=[])(hst:X.stack=X.env::X.outer)(hfe:X.env.frame=some X.env.locals)(S:Qcw X N' scope)(hi:SI X tg iter fi)(hcap:Qgr X N' scope cap t.slots)
  (hin:∀cl C fp s3 H3,SG (cxc X N' scope cl C fp s3 H3) tg t/\QhF (cxc X N' scope cl C fp s3 H3) ifs ft/\SE (cxc X N' scope cl C fp s3 H3) elt fe) (hr:∀cl C fp s3 H3,RzC (cxc X N' scope cl C fp s3 H3) elt fx) (hs':∀x,foldedSetIterable iter X.env x=pure x):
  RzE X (.ListComp elt [⟨tg,iter,ifs,0⟩] scope pos) (QeY fi t cap ft fe fx):=λH0 A0 pins s U H Q I h=>by
 rw[eval_ListComp];exact Qpk hcalm hxs hst hfe S hi hcap hin hr hs' H0 A0 pins s U H _ _ _ I h
def QuJ{x:Str}{i:Nat}{pos' spos:Pos}(hN:X.N.Nodup)(hx1:X.N[i]? =some x)(hx2:Loc X.env.scope x)(hx3:X.fn x=true∨X.env.scope.names.lookup x=some .local)(hcalm:X.calm=true)(hxs:X.ex=[])(hst:X.stack=X.env::X.outer)(hfe:X.env.frame=some X.env.locals)(S:Qcw X N' scope)(hi:SI X tg iter fi)(hcap:Qgr X N' scope cap t.slots)
  (hin:∀cl C fp s3 H3,SG (cxc X N' scope cl C fp s3 H3) tg t/\QhF (cxc X N' scope cl C fp s3 H3) ifs ft/\SE (cxc X N' scope cl C fp s3 H3) elt fe) (hr:∀cl C fp s3 H3,RzC (cxc X N' scope cl C fp s3 H3) elt fx) (hs':∀x,foldedSetIterable iter X.env x=pure x):
  Rz X (.Assign [.Name x pos'] (.ListComp elt [⟨tg,iter,ifs,0⟩] scope pos) spos) (QeY fi t cap ft fe fx):=by
 have hb:∃b,swapsWith (.ListComp elt [⟨tg,iter,ifs,0⟩] scope pos) (some (.Name x pos')) spos.line X.env=pure b:=⟨_,rfl⟩;obtain⟨b,hb⟩:=hb;cases b with
 | false=>exact QsI hN hx1 hx2 hx3 (Qqg hcalm hxs hst hfe S hi hcap hin hr hs') hb
 | true=>
  intro H0 A0 pins s U H D I h;rw[exec_Assign_Name_used _ _ _ _ hb];refine wpAny_bind (wpAny_standAt (wpAny_bind ?_));show wpAny _ X.A (do let _ ← comprehension (.ListComp elt [⟨tg,iter,ifs,0⟩] scope pos) scope X.env _ (newList []) false (eval iter X.env) (some (assign (.Name x pos') X.env))) _ _ s;exact wpAny_bind (thn (Qpk hcalm hxs hst hfe S hi hcap hin hr hs' H0 A0 pins s U H (λ_ _=>False) _ _ I h) λ_ s' hq=>hq.elim)
end
structure ThX where
 Γx:List (Str×(Nat×(List D->Option Str)))
 cls:List Str
structure XOk (X:Cx) (ΘX:ThX):Prop where
 ex:X.ex=[]
 stk:X.stack=X.env::X.outer
 fr:X.env.frame=some X.env.locals
 fx:∀x r,look x ΘX.Γx=some r->∃k f fd ps,Qag X.prog X.w X.K X.mg X.base (CXR X.prog X.w) k f fd ps (spX X.K r.1 r.2)/\Q3 k X.A/\X.mg x=some (.ref f)/\PySem.W.keepIn X.K (.ref f)=true/\Binds X.K fd ps []/\ps.length=r.1
 cl:∀x∈ΘX.cls,Qel X.K x
def xc0(n:Nat)(Θ:Th)(ΘX:ThX)(e:Expr):DX:=match e with
 | .Call (.Name x _) (a::as) [] _=>if Θ.gl x then(match look x ΘX.Γx with
  | some r=>(match QaM n Θ (a::as)with | some fs=>QT r.1 r.2 fs | none=>xNo)
  | none=>xNo)else xNo
 | _=>xNo
abbrev xcE:=xc0
def xbE(n:Nat)(Θ:Th)(ΘX:ThX)(e:Expr):DX:=
 xcE n Θ ΘX e
def xuE(n:Nat)(Θ:Th)(ΘX:ThX)(e:Expr):DX:=
 xbE n Θ ΘX e
def xmE(n:Nat)(Θ:Th)(ΘX:ThX)(e:Expr):DX:=match e with
 | .ListComp elt [⟨tg,iter,ifs,0⟩] scope _=>match QhA (inner Θ scope) tg with
  | some t=>if(Qg6 Θ scope t && Qru ifs)=true then(match QgE n Θ tg iter with
   | some fi=>(match QeZ n (inner Θ scope) ifs with
    | some ft=>(match Qp n (inner Θ scope) elt with
     | some fe=>QeY fi t (Qgl Θ scope) ft fe (xc0 n (inner Θ scope) ΘX elt)
     | none=>xNo)
    | none=>xNo)
   | none=>xNo)else xNo
  | none=>xNo
 | e=>xuE n Θ ΘX e
def xtE(n:Nat)(Θ:Th)(ΘX:ThX)(e:Expr):DX:=
 xmE n Θ ΘX e
def xaE(n:Nat)(Θ:Th)(ΘX:ThX)(e:Expr):DX:=
 xcE n Θ ΘX e
def QpM:List Expr->Option Str
 | [e]=>Q6 e
 | _=>none
def QnG{e:Expr}{x:Str}{G:Expr->Prop}(h:Q6 e=some x)(g:∀p,G (.Name x p)):G e:=by
 cases e with
 | Name z p=>cases h;exact g p
 | _=>exact nn h
def QDG:Expr->Option (Str×Expr)
 | .Call f as kw _=>match kw with
  | _::_=>none
  | []=>match as with
   | []=>none
   | a::as=>match as with
    | _::_=>none
    | []=>(Q6 f).map λx=>(x,a)
 | _=>none
mutual
noncomputable def QlH(n:Nat)(Θ:Th)(ΘX:ThX)(st:Stmt):Option DX:=match n with
 | 0=>none
 | n+1=>match st with
  | .Raise v c _=>match c with
   | some _=>none
   | none=>v.bind λe=>(QDG e).bind λq=>if Θ.gl q.1 && ΘX.cls.contains q.1 then(QaM n Θ [q.2]).map λfs=>Q9 q.1 fs else none
  | .Expr e _=>some (xcE n Θ ΘX e)
  | .Return v _=>match v with
   | none=>some xNo
   | some e=>some (xtE n Θ ΘX e)
  | .Assign ts e _=>match QpM ts with
   | none=>some xNo
   | some x=>(Θ.QbW x).map λ_=>xaE n Θ ΘX e
  | .If c a b _=>(Qa3 n Θ c).bind λg=>(QcX n Θ ΘX a).bind λfa=>(QcX n Θ ΘX b).map λfb=>xIf g fa fb
  | .For tg iter body els _=>match els with
   | _::_=>some xNo
   | []=>(QhA Θ tg).bind λt=>(QgE n Θ tg iter).bind λfi=>(Q8 n Θ body).bind λfb=>(QcX n Θ ΘX body).map λfx=>QdO fi t fb fx
  | _=>some xNo
noncomputable def QcX(n:Nat)(Θ:Th)(ΘX:ThX)(sts:List Stmt):Option DX:=match n with
  | 0=>none
  | n+1=>match sts with
    | []=>some xNo
    | st::r=>
     (Qhp n Θ st).bind λf=>(QlH n Θ ΘX st).bind λfx=>(QcX n Θ ΘX r).map λfr=>Qh f fx fr
end
section
variable {X:Cx}{Θ:Th}{ΘX:ThX}
def QiY{e:Expr}:RzE X e xNo:=λH0 A0 pins s U H Q I ⟨ρ,hs,F,x,ρ',rel,e,q⟩=>by cases e
def XFx(X:Cx)(ΘX:ThX):Prop:=∀x r,look x ΘX.Γx=some r->∃k f fd ps,Qag X.prog X.w X.K X.mg X.base (CXR X.prog X.w) k f fd ps (spX X.K r.1 r.2)/\Q3 k X.A/\X.mg x=some (.ref f)/\PySem.W.keepIn X.K (.ref f)=true/\Binds X.K fd ps []/\ps.length=r.1
def QkV{e:Expr}:RzC X e xNo:=λH0 A0 pins s U H ρ hs F c ρ' Er I rel ex=>by cases ex
def Qtt{n:Nat}(ok:Qr X Θ)(xf:XFx X ΘX)(e:Expr):RzC X e (xc0 n Θ ΘX e):=by
 unfold xc0;split
 .split
  .rename_i hg;obtain⟨g1,g2,g3⟩:=Qb1 ok.toCtxB hg;split
   .rename_i r hr;split
    .rename_i fs hfs;obtain⟨k,f,fd,ps,F1,F2,F3,F4,F5,F6⟩:=xf _ r hr;obtain⟨s1,s2⟩:=callArgs (X:=X) hfs rfl _;exact QyU F1 F2 g1 F3 F4 F5 F6 ((Q5 n).A X Θ _ fs ok hfs) g2 s1 s2
    .exact QkV
   .exact QkV
  .exact QkV
 .exact QkV
def QvZ{n:Nat}{e:Expr}(h:xc0 n Θ ΘX e≠xNo):∃x p a as pos,e= .Call (.Name x p) (a::as) [] pos:=by
 unfold xc0 at h;split at h
 .exact⟨_,_,_,_,_,rfl⟩
 .exact absurd rfl h
def QBi{n:Nat}(ok:Qr X Θ)(xk:XOk X ΘX)(e:Expr):RzE X e (xc0 n Θ ΘX e)/\(xc0 n Θ ΘX e≠xNo->∃x p a as pos,e= .Call (.Name x p) (a::as) [] pos):=⟨QrZ xk.ex (Qtt ok xk.fx e),QvZ⟩
def QoB{n:Nat}(ok:Qr X Θ)(xk:XOk X ΘX)(e:Expr):RzE X e (xcE n Θ ΘX e)/\(xcE n Θ ΘX e≠xNo->∃x p a as pos,e= .Call (.Name x p) (a::as) [] pos):=QBi ok xk e
def QCa{n:Nat}(ok:Qr X Θ)(xk:XOk X ΘX)(e:Expr):RzE X e (xbE n Θ ΘX e):=
 (QoB ok xk e).1
def QAD{n:Nat}(ok:Qr X Θ)(xk:XOk X ΘX)(e:Expr):RzE X e (xuE n Θ ΘX e):=
 QCa ok xk e
def QAW{n:Nat}(ok:Qr X Θ)(xk:XOk X ΘX)(e:Expr):RzE X e (xmE n Θ ΘX e):=by
 unfold xmE;split
 .rename_i elt tg iter ifs scope pos;split
  .rename_i t ht;split
   .rename_i hc;simp only[Zh]at hc;split
    .rename_i fi h1;split
     .rename_i ft h2;split
      .rename_i fe h3;obtain⟨S,cap,inn⟩:=QhJ ok hc.1;obtain⟨i1,i2⟩:=(Q5 n).I X Θ tg iter fi ok h1;exact Qqg ok.calm xk.ex xk.stk xk.fr S i1 cap (λcl C fp s3 H3=>⟨Qjn (inn cl C fp s3 H3) ht,(Q5 n).Ts _ _ ifs ft (inn cl C fp s3 H3) h2,(Q5 n).E _ _ elt fe (inn cl C fp s3 H3) h3⟩) (λcl C fp s3 H3=>Qtt (inn cl C fp s3 H3) xk.fx elt) i2
      .exact QiY
     .exact QiY
    .exact QiY
   .exact QiY
  .exact QiY
 .exact QAD ok xk _
def QA7{n:Nat}(ok:Qr X Θ)(xk:XOk X ΘX)(e:Expr):RzE X e (xtE n Θ ΘX e):=
 QAW ok xk e
def QBj{n:Nat}(ok:Qr X Θ)(xk:XOk X ΘX)(e:Expr):RzE X e (xaE n Θ ΘX e)/\(xaE n Θ ΘX e≠xNo->QeE e=true):=by
 obtain⟨h1,h2⟩:=QoB (n:=n) ok xk e;refine⟨h1,λz=>?_⟩;obtain⟨y,p,a,as,pos,rfl⟩:=h2 z;rfl
structure QBW (n:Nat):Prop where
 X:∀X Θ ΘX st f,Qr X Θ->XOk X ΘX->QlH n Θ ΘX st=some f->Rz X st f
 Xs:∀X Θ ΘX sts f,Qr X Θ->XOk X ΘX->QcX n Θ ΘX sts=some f->RzS X sts f
def QBz{n:Nat}(ih:QBW n):∀X Θ ΘX st f,Qr X Θ->XOk X ΘX->QlH (n+1) Θ ΘX st=some f->Rz X st f:=by
 intro X Θ ΘX st f ok xk h;have hN:X.N.Nodup:=by rw[ok.N];exact ok.nd
 cases st with
 | Raise v c pos=>
  cases c with
  | some _=>exact nn h
  | none=>
   refine Qf (show v.bind _=some _ from h) λe he h=>?_;cases he;refine Qf h λq hq h'=>?_;clear h;split at h'
   .rename_i hc;simp only[Zh]at hc;refine mapR h' λfs h1=>?_;clear h';obtain⟨g1,g2,g3⟩:=Qb1 ok.toCtxB hc.1;obtain⟨s1,s2⟩:=callArgs (X:=X) h1 rfl pos;cases e with
    | Call fn as kw cp=>
     rcases kw with _ | ⟨k1,k2⟩
     .rcases as with _ | ⟨a,_ | ⟨a2,as⟩⟩
      .cases hq
      .obtain⟨x,hx,rfl⟩:=Zb.mp (show(Q6 fn).map _=some q from hq);exact QnG (G:=λt=>Rz X (.Raise (some (.Call t [a] [] cp)) none pos) (Q9 x fs)) hx λnp=>QuD ok.calm g1 (xk.cl x (by simpa using hc.2)) g2 ((Q5 n).A X Θ _ fs ok h1) s1
      .cases hq
     .cases hq
    | _=>exact nomatch (show(none:Option (Str×Expr))=some _ from hq)
   .cases h'
 | Expr e pos=>
  cases(show some (xcE n Θ ΘX e)=some f from h);obtain⟨h1,h2⟩:=QoB (n:=n) ok xk e;by_cases hz:xcE n Θ ΘX e=xNo
  .rw[hz];exact Qfx
  .obtain⟨x,p,a,as,pos',rfl⟩:=h2 hz;exact Ql8 h1 rfl
 | Return v pos=>
  cases v with
  | none=>cases(show some xNo=some f from h);exact Qfx
  | some e=>cases(show some (xtE n Θ ΘX e)=some f from h);exact QAA (QA7 (n:=n) ok xk e)
 | Assign ts e pos=>
  rcases ts with _ | ⟨t,_ | ⟨t2,ts⟩⟩
  .cases(show some xNo=some f from h);exact Qfx
  .cases t with
   | Name x p=>
    refine mapR (show(Θ.QbW x).map _=some f from h) λi hi=>?_;obtain⟨g1,g2,g3⟩:=Qco ok.toCtxB hi;obtain⟨h1,h2⟩:=QBj (n:=n) ok xk e;by_cases hz:xaE n Θ ΘX e=xNo
    .rw[hz];exact Qfx
    .exact QsI hN g1 g2 g3 h1 (QdY (h2 hz))
   | _=>cases(show some xNo=some f from h);exact Qfx
  .cases(show some xNo=some f from h);exact Qfx
 | If c a b pos=>
  refine Qf (show(Qa3 n Θ c).bind _=some f from h) λg h1 h=>?_;exact bindR h λfa fb h2 h3=>QwO ((Q5 n).T X Θ c g ok h1) (ih.Xs X Θ ΘX a fa ok xk h2) (ih.Xs X Θ ΘX b fb ok xk h3)
 | For tg iter body els pos=>
  cases els with
  | cons _ _=>cases(show some xNo=some f from h);exact Qfx
  | nil=>
   refine Qf (show(QhA Θ tg).bind _=some f from h) λt h1 h=>?_;refine Qf h λfi h2 h=>?_;refine bindR h λfb fx h3 h4=>?_;obtain⟨i1,i2⟩:=(Q5 n).I X Θ tg iter fi ok h2;exact QAJ ok.pass ok.calm i1 (Qjn ok h1) ((Qfy n).Ss X Θ body fb ok h3) (ih.Xs X Θ ΘX body fx ok xk h4) i2
 | _=>cases(show some xNo=some f from h);exact Qfx
def Qk8:∀n,QBW n
 | 0=>⟨λ_ _ _ _ _ _ _ h=>(nn h),λ_ _ _ _ _ _ _ h=>(nn h)⟩
 | n+1=>by
  have ih:=Qk8 n;refine⟨QBz ih,λX Θ ΘX sts f ok xk h=>?_⟩;cases sts with
  | nil=>cases(show some xNo=some f from h);exact QqI
  | cons st r=>
   refine Qf (show(Qhp n Θ st).bind _=some f from h) λfs h1 h=>?_;exact bindR h λfx fr h2 h3=>QpG (Qm6 ok h1) (ih.X X Θ ΘX st fx ok xk h2) (ih.Xs X Θ ΘX r fr ok xk h3)
end
def QF(k:Nat)(f:DX):List D->Option Str:=λds=>(f (QaF k ds)).map (·.1)
section
variable (P:Program) (w:World) (K:Fgg) (mg:Str->Option Value) (base:Heap)
def Qe6(k:Nat)(x:Str)(r:Nat×(List D->Option Str)):Prop:=∃f fd ps,Qag P w K mg base (CXR P w) k f fd ps (spX K r.1 r.2)/\mg x=some (.ref f)/\PySem.W.keepIn K (.ref f)=true/\Binds K fd ps []/\ps.length=r.1
def QcO(k:Nat)(Γx:List (Str×(Nat×(List D->Option Str)))):Prop:=∀x r,look x Γx=some r->Qe6 P w K mg base k x r
end
section
variable {P:Program}{w:World}{K:Fgg}{mg:Str->Option Value}{base:Heap}
def QcO.nil{k:Nat}:QcO P w K mg base k []:=λx r h=>by cases h
def Qe6.mono{j k:Nat}{x:Str}{r:Nat×(List D->Option Str)}(h:Qe6 P w K mg base j x r)(hk:j<=k):Qe6 P w K mg base k x r:=by
 obtain⟨f,fd,ps,h1,h2⟩:=h;exact⟨f,fd,ps,h1.mono hk,h2⟩
def QcO.mono{j k:Nat}{Γ:List (Str×(Nat×(List D->Option Str)))}(t:QcO P w K mg base j Γ)(hk:j<=k):QcO P w K mg base k Γ:=λx r e=>(t x r e).mono hk
def QcO.cons{k:Nat}{Γ:List (Str×(Nat×(List D->Option Str)))}{x:Str}{r:Nat×(List D->Option Str)}(t:QcO P w K mg base k Γ)(h:Qe6 P w K mg base (k+1) x r):QcO P w K mg base (k+1) ((x,r)::Γ):=λy q e=>by
 unfold look at e;split at e
 .rename_i z;cases e;subst z;exact h
 .exact(t y q e).mono (Zae _)
def QcH{h:Heap}{x:Str}{st:Stmt}{ps:List Str}{k n:Nat}{Γ:List (Str×FnR)}{Γx:List (Str×(Nat×(List D->Option Str)))}{cls:List Str}{cs:List (Str×Cn)}{g:DX}(X:K.In h)(G:h.Ns mainGlobals mg)(F:Fact K x st)(S:QZ (namesOf (Qd st)) ps (Qd st))(B:QA x st ps)(M:QaV mg cs)(tab:Qaj P w K mg base k Γ)(tabx:QcO P w K mg base k Γx)
  (hcl:∀x∈cls,Qel K x) (hc:QcX n (QaO st Γ cs) ⟨Γx,cls⟩ (Qx st)=some g):Qe6 P w K mg base (k+1) x (ps.length,QF (namesOf (Qd st)).length g):=by
 obtain⟨f,fd,Fn,a⟩:=F.ex;refine⟨f,fd,ps,?_,ZM X G a,Fn.kp,Fn.binds (B ·),rfl⟩;obtain⟨oc,od,kV,doc,pm,an,cdv,ct,osl,rfl,lk,hcd⟩:=Fn.ex;refine QlK lk hcd S (Qmk rfl) λA outer s H vs Q E hr hsp=>?_;obtain⟨ds,L,y,rps,hl,hd,hE⟩:=hsp;have ok:Qr (Qbv (CXR P w) P w K mg base (namesOf (Qd st)) x (Qd st) f cdv A outer s H E) (QaO st Γ cs):=QjJ (CX:=CXR P w) (E:=E) S M tab hr PassesOwn.leaving;have xk:XOk (Qbv (CXR P w) P w K mg base (namesOf (Qd st)) x (Qd st) f cdv A outer s H E) ⟨Γx,cls⟩:=⟨rfl,rfl,rfl,λz r e=>by
  obtain⟨f',fd',ps',h1,h2,h3,h4,h5⟩:=tabx z r e;exact⟨k,f',fd',ps',h1,hr,h2,h3,h4,h5⟩,hcl⟩
 refine⟨_,(Qk8 n).Xs _ _ _ _ g ok xk hc H L,?_⟩;obtain⟨F0,rel⟩:=Qck (N:=namesOf (Qd st)) rps;obtain⟨⟨y',ρ'⟩,e1,e2⟩:=Zb.mp hd;cases e2;exact⟨_,[],F0,y',ρ',rel,e1,λC ea s' hC T=>Qf9 rfl rfl rfl rfl rfl rfl rfl T λH' sm=>hE C H' hC sm⟩
end
end HS
namespace HS
open PySem PySem.Spec L2 PyProof.Rows
section
variable {X:Cx}{pins:List (Addr×Obj)}{U:L2.St}{H:Hp}{s s':Shared}{B:Heap}
def Qzs{ea C:Addr}{a0:Value}(I:Inv X pins U H s)(hx:X.ex=[])(fl:Heap.FlyingW B X.stack ea (.ref C) a0 s.heap)(cov:Cov H B)(old:∀b o,X.s₀.heap.get? b=some o->b∉X.fs->∃o',B.get? b=some o')
  (pb:∀p∈X.pn++pins,∃o,B.get? p.1=some o):H ea=none/\Inv X pins U (upd H ea (.ext (QdP ea C))) s:=by
 obtain⟨oe,vs,he,hc,hd,_⟩:=fl.first
 have ne:∀{b o},B.get? b=some o->b≠ea:=λ{b o} e z=>by rw[z,fl.2.1]at e;cases e
 have hn:H ea=none:=by
  cases q:H ea with
  | none=>rfl
  | some u=>obtain⟨o,e⟩:=cov ea u q;exact absurd rfl (ne e)
 have nd:∀{b o},s.heap.get? b=some o->(∀vs,o.data≠ .fields vs)->b≠ea:=λ{b o} e h z=>by
  rw[z,he]at e;cases e;exact h vs hd
 have tr:∀b u,H b=some u->upd H ea (.ext (QdP ea C)) b=some u:=λb u e=>by
  obtain⟨o,eo⟩:=cov b u e;rw[Qy (ne eo)];exact e
 refine⟨hn,I.ok,I.os,I.bare,⟨I.base.keep,I.base.slot,λb o e n hxx=>?_,I.base.there,λb xs q=>tr _ _ (I.base.tups b xs q),λb o u q=>tr _ _ (I.base.frzs b o u q),λb ps q=>?_⟩,I.loc,I.cell,?_,λx c e=>?_,λp hp=>?_,λb u e=>?_,I.len⟩
 .rw[Qy]
  .exact I.base.free b o e n hxx
  .by_cases hb:b∈X.fs
   .obtain⟨sl,e1⟩:=I.base.slot b o e n hb hxx;exact nd e1 λvs q=>QlB I.ok e hb vs q
   .obtain⟨o',e1⟩:=old b o e hb;exact ne e1
 .obtain⟨more,q⟩:=I.base.tbls b ps q;exact⟨more,tr _ _ q⟩
 .rw[Qy]
  .exact I.free
  .obtain⟨m,⟨o,es,ep,e,d,_⟩,_⟩:=I.loc;exact nd e λvs q=>by rw[d]at q;cases q
 .rw[Qy]
  .exact I.freeC x c e
  .obtain⟨v,o,eo,d⟩:=I.cell x c e;exact nd eo λvs q=>by rw[d]at q;cases q
 .obtain⟨e,n,ne',nf,d⟩:=I.pin p hp;obtain⟨o,eo⟩:=pb p hp;exact⟨e,by rw[Qy (ne eo)];exact n,ne',nf,d⟩
 .by_cases hb:b=ea
  .subst hb;rw[Q4]at e;cases e;refine⟨⟨oe,vs,he,hc,hd⟩,⟨oe,he⟩,λh1 h2 ⟨o,w,e1,e2,e3⟩ k=>⟨o,w,k _ e1,e2,e3⟩⟩
  .rw[Qy hb]at e;exact(I.hok b u e).QgI (λc v _ q=>q) (λc q=>tr _ _ q) λc xs q=>tr _ _ q
def QlQ{M:Model}{A:Around}{E:Value->Shared->Prop}{i:Nat}{x:Str}{pos:Pos}{Q:Unit->Shared->Prop}(I:Inv X pins U H s)(hN:X.N.Nodup)(hi:X.N[i]? =some x)(hx:X.env.scope.names.lookup x=some .local)
  (h:∀s',Inv X pins (U.set i none) H s'->Q () s'):wpAny M A (do bindName X.env x .none;unbindBehindTheSuite X.env x pos) Q E s:=by
 refine wpAny_bind (wpAny_bindName (QhT (v:= .non) I hN hi (.inl hx) rfl (λs1 I1=>?_) (.inr hx)));have hcls:(X.env.scope.kind == .class || (X.env.scope.kind == .module && X.env.locals != X.env.globals))=false:=by rw[I.ok.kind];rfl
 have hiU:i<U.length:=by rw[I.len];exact(Zm.mp hi).1
 obtain⟨m,hn,hl⟩:=id I1.loc;obtain⟨u,_,q⟩:=hl i x .non hi (Zo hiU) (.inl hx);have hm:m x=some u:=by
  rcases q with⟨_,e⟩ | ⟨k,_⟩
  .exact e
  .have hx':X.env.kindOf x=some .local :=hx;rcases k with k | k<;>rw[hx']at k<;>cases k
 unfold unbindBehindTheSuite;refine wpAny_onRaise (wpAny_unbindName_local hx hn hm hcls λh' u' hn' hs=>h _ ?_);have cne:=I1.cne;obtain⟨oL,_,_,hoL,_⟩:=id hn;refine⟨I1.ok,I1.os,I1.bare,⟨λb o e n hb hx=>?_,λb o e n hb hx=>?_,I1.base.free,λb o e hx=>?_,I1.base.tups,I1.base.frzs,I1.base.tbls⟩,⟨_,hn',λj y v' e1 e2 e3=>?_⟩,λy c e=>?_,I1.free,I1.freeC,λp hp=>?_,λb ob e=>?_,by simpa using I1.len⟩
 .exact(hs.2 b (ZC (Zr (Zp e) I.ok.above))).trans (I1.base.keep b o e n hb hx)
 .obtain⟨sl,e1⟩:=I1.base.slot b o e n hb hx;exact⟨sl,(hs.2 b (ZC (Zr (Zp e) I.ok.above))).trans e1⟩
 .obtain⟨o',e1⟩:=I1.base.there b o e hx;exact⟨o',(hs.2 b (ZC (Zr (Zp e) I.ok.above))).trans e1⟩
 .by_cases hj:j=i
  .subst hj;rw[Zo hiU]at e2;cases e2
  .rw[Zg (Ne.symm hj)]at e2;have e2':(U.set i (some V.non))[j]? =some (some v'):=by rw[Zg (Ne.symm hj)];exact e2
   obtain⟨u1,r1,q1⟩:=hl j y v' e1 e2' e3;refine⟨u1,r1,?_⟩;rcases q1 with⟨k,e⟩ | ⟨k,c,e,z⟩
   .refine .inl ⟨k,?_⟩;have:y≠x:=λe=>hj (Qkz hN e1 (e▸hi));simp[this,e]
   .exact .inr ⟨k,c,e,z.sameBut hs (cne y c e)⟩
 .obtain⟨w',z⟩:=I1.cell y c e;exact⟨w',z.sameBut hs (cne y c e)⟩
 .obtain⟨e,n,ne,nf,d⟩:=I1.pin p hp;exact⟨(hs.2 p.1 ne).trans e,n,ne,nf,d⟩
 .refine(I1.hok b ob e).QgI (λc w' hc q=>(hs.2 c ?_).trans q) (λ_ q=>q) λ_ _ q=>q;rintro rfl;have hfree:=I1.free;rcases hc with rfl | hc
  .rw[hfree]at e;cases e
  .rw[hfree]at hc;cases hc
end
noncomputable abbrev inH(X:Cx)(ea:Addr):Cx:={X with A:=X.A.mark (some (.ref ea)),calm:=false,xe:=λ_ _=>False}
def Fly(X:Cx)(pins:List (Addr×Obj))(H:Hp)(ea C:Addr)(s:Shared):Prop:=∃B a0,Heap.FlyingW B X.stack ea (.ref C) a0 s.heap/\Cov H B/\(∀b o,X.s₀.heap.get? b=some o->b∉X.fs->∃o',B.get? b=some o')/\∀p∈X.pn++pins,∃o,B.get? p.1=some o
section
variable {X:Cx}{pins:List (Addr×Obj)}{U:L2.St}{H:Hp}{s s':Shared}{B:Heap}{ea C:Addr}
def _root_.L2.Inv.inH(I:Inv X pins U H s):Inv (HS.inH X ea) pins U H s:=
 ⟨⟨I.ok.mod,I.ok.kind,I.ok.glob,I.ok.blt,I.ok.above,I.ok.inj,I.ok.has,I.ok.cab,λz=>(by cases z),I.ok.frames,I.ok.stk,I.ok.exf,I.ok.bs,I.ok.bsz,I.ok.noex,I.ok.exfs,I.ok.QdV,I.ok.frf⟩,I.os,I.bare,I.base,I.loc,I.cell,I.free,I.freeC,I.pin,I.hok,I.len⟩
def _root_.L2.Inv.QgM(ok:X.Ok)(I:Inv (HS.inH X ea) pins U H s):Inv X pins U H s:=⟨ok,I.os,I.bare,I.base,I.loc,I.cell,I.free,I.freeC,I.pin,I.hok,I.len⟩
def Qqf{E:Value->Shared->Prop}{Qk:Shared->Prop}{H0:Hp}{A0:LAd}{hs:List (V×D×List Addr)}{ρ:En}(T:Qhb X H0 A0 hs ρ (.ref C) ea s')(hx:X.ex=[])(hst:X.stack=X.env::X.outer)(hf:X.env.frame=some X.env.locals)
  (k:∀pins U H F s'',Rel X.K H0 A0 hs ρ F U H->Inv X pins U H s''->Fly X pins H ea C s''->Qk s''):
  wpAny (model X.prog X.w) X.A (noteFrame (.ref ea) X.env) (λ_ s₂=>wpAny (model X.prog X.w) X.A (setFlight (.ref ea) none) (λ_ s₃=>Qk s₃) E s₂) E s':=by
 obtain⟨pins,U,H,F,rel,⟨sg,args,I,hm,ho,hg⟩ | ⟨B,a0,f0,I,fl,cov,old,pb⟩⟩:=T
 .obtain⟨B,b1,b2,cov,old,pb⟩:=Qpi I hx;have hfr:=I.ok.frames;rw[hst]at hfr b2;obtain⟨t,he,htn,ht⟩:=hm.there;have fresh:B.get? ea=none:=by
   cases q:B.get? ea with
   | none=>rfl
   | some o=>have:=b1 _ _ q;rw[hm.new]at this;cases this
  have note:∀Q:Unit->Shared->Prop,(∀h',Heap.NotedW B (X.env::X.outer) ea (.ref C) (.ref t) (rawInt X.env.locals) s'.heap h'->Q () {s' with heap:=h'})->wpAny (model X.prog X.w) X.A (noteFrame (.ref ea) X.env) Q E s':=λQ hq=>by
   unfold noteFrame;simp only[hf];refine wpAny_bind (wpAny_field (x:= .none) he rfl rfl ?_);rw[if_neg ∅];exact wpAny_entryW (a0:= .ref t) hfr (b2.of_keeps λb o hb _=>⟨o,hm.keeps b o hb,rfl⟩) hf he (λb o hb=>hm.keeps b o (b1 b o hb)) fresh rfl (by show 1<6;decide) rfl hq
  refine note _ λh1 Z=>?_;obtain⟨n1,n2,n3,n4⟩:=Z;refine wpAny_landsW (s:={s' with heap:=h1}) (L:=X.env.locals) ⟨n1,fresh,n2,n3⟩ λh2 fl up=>?_;have up':sg.heap.UpToSlots h2:=((Heap.UpToSlots.of_keeps hm.keeps).trans n4).trans up;refine k pins U H F _ rel (Qhx I ho (by show AllBare s'.gens;rw[hg];exact I.bare) hx b1 fl.1 up' cov old pb) ⟨B,_,by rw[hst];exact fl,cov,old,pb⟩
 .have hfr:=I.ok.frames;rw[hst]at hfr fl;refine QkC hfr hf fl λh1 hd up1=>?_;refine wpAny_landsW (s:={s' with heap:=h1}) hd λh2 fl2 up2=>?_;exact k pins U H F _ rel (Qhx I rfl I.bare hx fl.1 fl2.1 (up1.trans up2) cov old pb) ⟨B,a0,by rw[hst];exact fl2,cov,old,pb⟩
def QrK(K:Fgg)(sub:Str->Str->Option Bool):Prop:=∀x y b,sub x y=some b->∃C c,ClsAt K x C/\PySem.W.KtsName K y c/\PySem.W.exmOne K (.ref C) c=some b
def QsQ{E:Value->Shared->Prop}{y:Str}{c:Value}{np:Pos}{Q:Value->Shared->Prop}(I:Inv X pins U H s)(hg:Gl X y)(hdb:(y == ("__debug__" :Str))=false)(k:PySem.W.KtsName X.K y c)(h:Q c s):wpAny (model X.prog X.w) X.A (eval (.Name y np) X.env) Q E s:=by
 rcases k with k | ⟨k1,k2,k3⟩
 .exact QcF I hg (ZM I.ok.mod.kin I.ok.mod.glob k) h hdb
 .exact Qc4 I hg (PySem.W.mg_none_of I.ok.mod.kin I.ok.mod.glob k1) k2 h k3 hdb
def Qiz{K:Fgg}{x:Str}{C C':Addr}(a:ClsAt K x C)(b:ClsAt K x C'):C=C':=by
 unfold ClsAt at a b;rw[a]at b;exact Value.ref.inj (Option.some.inj (Option.some.inj b))
def Rel.QlZ{K:Fgg}{H0:Hp}{A0:LAd}{hs:List (V×D×List Addr)}{ρ:En}{F:Nat->List Addr}{i:Nat}(r:Rel K H0 A0 hs ρ F U H):Rel K H0 A0 hs (ρ.set i none) F (U.set i none) H:=by
 have w:=r.weak (Qjf (ρ:=ρ) i);refine⟨by simpa using r.len,λj d b e=>?_,w.own,w.src,w.held,w.same⟩;obtain⟨v,h1,h2⟩:=w.val j d b e;refine⟨v,?_,h2⟩;by_cases hj:i=j
 .subst hj;exfalso;by_cases hl:i<ρ.length
  .rw[Zo hl]at e;cases e
  .rw[ZA (by simp;lia)]at e;cases e
 .rw[Zg hj];exact h1
noncomputable def QBV(i:Nat):Out->Out
 | .nx ρ=> .nx (ρ.set i none)
 | .bk ρ=> .bk (ρ.set i none)
 | .ct ρ=> .ct (ρ.set i none)
 | .rt d fr=> .rt d fr
abbrev Hd:=Str×Option Nat×DS
def Qrh(sub:Str->Str->Option Bool)(x:Str)(ρ:En):List Hd->Option Out
 | []=>none
 | h::r=>(sub x h.1).bind λb=>if b=true then(match h.2.1 with
  | none=>h.2.2 ρ
  | some i=>(h.2.2 (ρ.set i (some (.exc x,true)))).map (QBV i))else Qrh sub x ρ r
def QmM(f:DS)(fx:DX)(sub:Str->Str->Option Bool)(hl:List Hd):DS:=λρ=>match f ρ with
 | some o=>some o
 | none=>(fx ρ).bind λq=>Qrh sub q.1 q.2 hl
inductive QgL (X:Cx):List ExceptHandler->List Hd->Prop
 | nil:QgL X [] []
 | bare {y:Str}{np pos:Pos}{b₀:Stmt}{suite:List Stmt}{r:List ExceptHandler}{hr:List Hd}{f:DS}(hg:Gl X y) (hdb:(y == ("__debug__" :Str))=false) (hS:∀ea,SS (inH X ea) (b₀::suite) f) (t:QgL X r hr):
   QgL X (.ExceptHandler (some (.Name y np)) none (b₀::suite) pos::r) ((y,none,f)::hr)
 | as {y n:Str}{np pos:Pos}{b₀:Stmt}{suite:List Stmt}{r:List ExceptHandler}{hr:List Hd}{f:DS}{i:Nat}(hg:Gl X y) (hdb:(y == ("__debug__" :Str))=false) (hi:X.N[i]? =some n) (hl:X.env.scope.names.lookup n=some .local) (hS:∀ea,SS (inH X ea) (b₀::suite) f) (t:QgL X r hr):
   QgL X (.ExceptHandler (some (.Name y np)) (some n) (b₀::suite) pos::r) ((y,some i,f)::hr)
def _root_.L2.SP.QgM{Dd:Ends}{f:Flow}(ok:X.Ok)(h:SP (HS.inH X ea) pins Dd f s):SP X pins Dd f s:=by
 cases f with
 | next=>obtain⟨U',H',I,q⟩:=h;exact⟨U',H',I.QgM ok,q⟩
 | brk=>obtain⟨U',H',I,q⟩:=h;exact⟨U',H',I.QgM ok,q⟩
 | cont=>obtain⟨U',H',I,q⟩:=h;exact⟨U',H',I.QgM ok,q⟩
 | ret u=>obtain⟨v,U',H',I,r,q⟩:=h;exact⟨v,U',H',I.QgM ok,r,q⟩
def Qtf{sub:Str->Str->Option Bool}{x:Str}{H0:Hp}{A0:LAd}{hs:List (V×D×List Addr)}{ρ:En}{Dd:Ends}{o:Out}(hN:X.N.Nodup)(hx:X.ex=[])(hsub:QrK X.K sub)(hC:ClsAt X.K x C):
  ∀{hds:List ExceptHandler}{hl:List Hd},QgL X hds hl->∀{F:Nat->List Addr}{U:L2.St}{H:Hp}{s:Shared},Inv X pins U H s->Rel X.K H0 A0 hs ρ F U H->Fly X pins H ea C s->Qrh sub x ρ hl=some o->Fits X.K H0 A0 hs Dd o→
   wpAny (model X.prog X.w) X.A (handleBy (.ref ea) X.env hds) (SP X pins Dd) X.xe s:=by
 intro hds hl h
 have test:∀{y:Str}{np pos:Pos}{nm:Option Str}{b₀:Stmt}{suite:List Stmt}{r:List ExceptHandler}{b:Bool}{U:L2.St}{H:Hp}{s:Shared},Gl X y->(y == ("__debug__" :Str))=false->sub x y=some b->Inv X pins U H s->Fly X pins H ea C s→
   (b=true->codeAny (model X.prog X.w) (X.A.mark (some (.ref ea))) (.handlers (.ref ea) [.ExceptHandler none nm (b₀::suite) pos] X.env) (λr s₂=>match r with
     | .ok f=>(match nm with
      | none=>SP X pins Dd f s₂
      | some n=>wpAny (model X.prog X.w) X.A (do bindName X.env n .none;unbindBehindTheSuite X.env n pos) (λ_ s₃=>SP X pins Dd f s₃) X.xe s₂)
     | .error x=>cameBackBy (model X.prog X.w) X.A X.env X.xe x s₂) s)→
   (b=false->wpAny (model X.prog X.w) X.A (handleBy (.ref ea) X.env r) (SP X pins Dd) X.xe s)->wpAny (model X.prog X.w) X.A (handleBy (.ref ea) X.env (.ExceptHandler (some (.Name y np)) nm (b₀::suite) pos::r)) (SP X pins Dd) X.xe s:=by
  intro y np pos nm b₀ suite r b U H s hg hdb e1 I fly ht hf;obtain⟨C',c,k1,k2,k3⟩:=hsub x y b e1;cases Qiz hC k1;obtain⟨B,a0,fl,_⟩:=fly;obtain⟨ob,hob,hc⟩:=fl.there;have LT:PySem.W.Looks (model X.prog X.w) s.heap (typeOf (.ref ea)) (.ref C):=hc▸(PySem.W.Looks.ld hob).andThen .now;refine wpAny_handleBy_cons (codeAny_handlers_test (QsQ (X:=HS.inH X ea) (I.inH (ea:=ea)) hg hdb k2 ((PySem.W.exm_one I.kIn LT k3).here ?_))) (by intro q;cases q);cases b with
  | true=>exact ht rfl
  | false=>exact hf rfl
 induction h with
 | nil=>intro F U H s I rel fly e q;cases e
 | @bare y np pos b₀ suite r hr f hg hdb hS t ih=>
  intro F U H s I rel fly e q;refine Qf e λb e1 e=>?_;refine test hg hdb e1 I fly (λhb=>?_) λhb=>?_
  .subst hb;rw[if_pos rfl]at e;obtain⟨B,a0,fl,cov,old,pb⟩:=fly;refine codeAny_handlers_suite (lands_againW fl λh' fl' up=>?_);have I1:=Qhx (s':={s with heap:=h'}) I rfl I.bare hx fl.1 fl'.1 up cov old pb;exact wpAny_mono (hS ea H0 A0 pins _ U H Dd (I1.inH (ea:=ea)) ⟨ρ,hs,F,o,rel,e,q⟩) (λf s2 hq=>SP.QgM I.ok hq) λ_ _ z=>z.elim
  .subst hb;rw[if_neg ZJ]at e;exact ih I rel fly e q
 | @as y n np pos b₀ suite r hr f i hg hdb hi hl hS t ih=>
  intro F U H s I rel fly e q;refine Qf e λb e1 e=>?_;refine test hg hdb e1 I fly (λhb=>?_) λhb=>?_
  .subst hb;rw[if_pos rfl]at e;obtain⟨o1,e2,e3⟩:=Zb.mp e;subst e3;obtain⟨B,a0,fl,cov,old,pb⟩:=fly;refine codeAny_handlers_suite_as (lands_againW fl λh' fl' up=>?_);have I1:=Qhx (s':={s with heap:=h'}) I rfl I.bare hx fl.1 fl'.1 up cov old pb;obtain⟨hn,I2⟩:=Qzs I1 hx fl' cov old pb;have sm:Qs H (upd H ea (.ext (QdP ea C))):=λb u eb=>by rw[Qy (λz=>by rw[z,hn]at eb;cases eb)];exact eb
   refine QhT (X:=HS.inH X ea) (v:= .ref ea) (I2.inH (ea:=ea)) hN hi (.inl hl) rfl (λs3 I3=>?_) (.inr hl);obtain⟨F',rel'⟩:=(rel.ext sm).QEq (i:=i) (d:= .exc x) (v:= .ref ea) (by rw[Rp];exact⟨⟨ea,rfl,C,hC,Q4⟩,rfl⟩) rfl;refine wpAny_mono (hS ea H0 A0 pins _ _ _ ⟨λU' H'=>Dd.nx (U'.set i none) H',Dd.rt,λU' H'=>Dd.bk (U'.set i none) H',λU' H'=>Dd.ct (U'.set i none) H'⟩ I3 ⟨_,hs,F',o1,rel',e2,?_⟩) (λf s4 hq=>?_) λ_ _ z=>z.elim
   .cases o1 with
    | nx ρ1=>exact λU' H' F' rel'=>q _ _ _ rel'.QlZ
    | bk ρ1=>exact λU' H' F' rel'=>q _ _ _ rel'.QlZ
    | ct ρ1=>exact λU' H' F' rel'=>q _ _ _ rel'.QlZ
    | rt d fr=>exact q
   .cases f with
    | next=>obtain⟨U',H',I4,q4⟩:=hq;exact QlQ (I4.QgM I.ok) hN hi hl λs5 I5=>⟨_,H',I5,q4⟩
    | brk=>obtain⟨U',H',I4,q4⟩:=hq;exact QlQ (I4.QgM I.ok) hN hi hl λs5 I5=>⟨_,H',I5,q4⟩
    | cont=>obtain⟨U',H',I4,q4⟩:=hq;exact QlQ (I4.QgM I.ok) hN hi hl λs5 I5=>⟨_,H',I5,q4⟩
    | ret u=>obtain⟨v,U',H',I4,r4,q4⟩:=hq;exact QlQ (I4.QgM I.ok) hN hi hl λs5 I5=>⟨v,_,H',I5,r4,q4⟩
  .subst hb;rw[if_neg ZJ]at e;exact ih I rel fly e q
noncomputable abbrev Cx.chg(X:Cx)(xe:Value->Shared->Prop)(pn:List (Addr×Obj)):Cx:={X with xe:=xe,pn:=pn}
def _root_.L2.Inv.chg{xe:Value->Shared->Prop}(I:Inv X pins U H s):Inv (Cx.chg X xe (X.pn++pins)) [] U H s:=
 ⟨⟨I.ok.mod,I.ok.kind,I.ok.glob,I.ok.blt,I.ok.above,I.ok.inj,I.ok.has,I.ok.cab,I.ok.hd,I.ok.frames,I.ok.stk,I.ok.exf,I.ok.bs,I.ok.bsz,I.ok.noex,I.ok.exfs,I.ok.QdV,I.ok.frf⟩,I.os,I.bare,I.base,I.loc,I.cell,I.free,I.freeC,λp hp=>I.pin p (by simpa using hp),I.hok,I.len⟩
def _root_.L2.Inv.QlI{xe:Value->Shared->Prop}{pins':List (Addr×Obj)}(ok:X.Ok)(I:Inv (Cx.chg X xe (X.pn++pins)) pins' U H s):Inv X pins U H s:=
 ⟨ok,I.os,I.bare,I.base,I.loc,I.cell,I.free,I.freeC,λp hp=>I.pin p (Zk _ hp),I.hok,I.len⟩
def QAe{sub:Str->Str->Option Bool}{body:List Stmt}{h₀:ExceptHandler}{hds:List ExceptHandler}{hl:List Hd}{f:DS}{fx:DX}{pos:Pos}(hN:X.N.Nodup)(hx:X.ex=[])(hst:X.stack=X.env::X.outer)(hf:X.env.frame=some X.env.locals)(hsub:QrK X.K sub)
  (hb:∀xe pn,PassesOwn (model X.prog X.w) X.A X.env xe->SS (Cx.chg X xe pn) body f/\RzS (Cx.chg X xe pn) body fx) (hh:QgL X (h₀::hds) hl):S1 X (.Try body (h₀::hds) [] [] pos) (QmM f fx sub hl):=λH0 A0 pins s U H Dd I=>exK λρ hs F o rel e q=>by
 refine wpAny_Try_except ?_;have pass:PassesOwn (model X.prog X.w) X.A X.env (λe s₁=>wpAny (model X.prog X.w) X.A (noteFrame e X.env) (λ_ s₂=>wpAny (model X.prog X.w) X.A (setFlight e none) (λ_ s₃=>wpAny (model X.prog X.w) X.A (handleBy e X.env (h₀::hds)) (SP X pins Dd) X.xe s₃) X.xe s₂) X.xe s₁):=PassesOwn.looking;obtain⟨b1,b2⟩:=hb _ (X.pn++pins) pass;unfold QmM at e;split at e
 .rename_i o' eo;cases e;refine thn (b1 H0 A0 [] s U H Dd I.chg ⟨ρ,hs,F,o,rel,eo,q⟩) λfl s1 hq=>?_;cases fl with
  | next=>obtain⟨U',H',I1,q1⟩:=hq;exact wpAny_execs_nil ⟨U',H',I1.QlI I.ok,q1⟩
  | brk=>obtain⟨U',H',I1,q1⟩:=hq;exact⟨U',H',I1.QlI I.ok,q1⟩
  | cont=>obtain⟨U',H',I1,q1⟩:=hq;exact⟨U',H',I1.QlI I.ok,q1⟩
  | ret u=>obtain⟨v,U',H',I1,r1,q1⟩:=hq;exact⟨v,U',H',I1.QlI I.ok,r1,q1⟩
 .obtain⟨⟨x,ρ'⟩,e1,e⟩:=bind1 e;refine thn (b2 H0 A0 [] s U H ⟨λ_ _=>False,λ_ _=>False,λ_ _=>False,λ_ _=>False⟩ I.chg ⟨ρ,hs,F,x,ρ',rel,e1,λC ea s' hC T=>?_⟩) λfl s1 hq=>?_
  .refine Qqf (X:=Cx.chg X _ (X.pn++pins)) (E:=X.xe) (Qk:=λs₃=>wpAny (model X.prog X.w) X.A (handleBy (.ref ea) X.env (h₀::hds)) (SP X pins Dd) X.xe s₃) T hx hst hf λpins' U' H' F' s'' rel' I' fly=>?_;obtain⟨B,a0,fl,cov,old,pb⟩:=fly;exact Qtf hN hx hsub hC hh (I'.QlI I.ok) rel' ⟨B,a0,fl,cov,old,λp hp=>pb p (Zk _ hp)⟩ e q
  .cases fl with
   | next=>obtain⟨U',H',I1,q1⟩:=hq;exact q1.elim
   | brk=>obtain⟨U',H',I1,q1⟩:=hq;exact q1.elim
   | cont=>obtain⟨U',H',I1,q1⟩:=hq;exact q1.elim
   | ret u=>obtain⟨v,U',H',I1,r1,q1⟩:=hq;exact q1.elim
end
end HS
namespace HS
open PySem PySem.Spec L2 PyProof.Rows PySem.W
structure QhH (K:Frag) (C:Addr):Prop where
 cl:(clsIn K C).isSome=true
 ga:findIn K (.ref C) "__getattribute__" =some (some (.builtin "BaseException.__getattribute__"))
 hk:findIn K (.ref C) "__getattr__" =some none
 ca:findIn K (.ref C) "__class__" =some (some (.builtin "object.__class__"))
 mo:mroIn K C (.type "object")=some true
 be:subIn K (.ref C) (.type "BaseException")=some true
section
variable {prog:Program}{w:World}{A:Around}{E:Value->Shared->Prop}{s:Shared}{K:Frag}{a C:Addr}
def QiG{M:Model}{h:Heap}(x:QdP a C h):Looks M h (typeOf (.ref a)) (.ref C):=by
 obtain⟨o,vs,e,c,_⟩:=x;exact c▸(Looks.ld e).andThen .now
def QyN{R:Result->Shared->Prop}{tp:Value}(z:QhH K C)(X:K.In s.heap)(x:QdP a C s.heap)(h:R (.ok (.ret (.ref C))) s):
  codeAny (model prog w) A (.call (.builtin "getset_descriptor.__get__") ⟨[.builtin "object.__class__",.ref a,tp],[]⟩) R s:=by
 obtain⟨hh,g,dr,t,os⟩:=s;have T0:=QiG (M:=model prog w) x;have T1:=looks_mroIn (M:=model prog w) X z.mo
 refine codeAny_call_builtin KF.slot_gs.plain KF.entry_gs
  (KF.slot_gs.check _ _ _ _ _ _ _ _ KF.type_class (KF.args_gs _ _ _) ?_)
 unfold Builtin.«getset_descriptor.__get__» Builtin.Getset_descriptor.descrGet;rw[dga_obj];refine wpAny_bind (wpAny_pure ?_)
 unfold Builtin.Getset_descriptor.descrGetter Builtin.Getset_descriptor.descrCheckInstance
  Builtin.Getset_descriptor.descrNameAndClass isInstance
 simp only[KF.owner_class]
 repeat lk
 refine⟨Code.quiet_builtin _ nofun,
  codeAny_builtin KF.entry_class ?_⟩
 unfold Builtin.«object.__class__» shownTypeOf;repeat lk
 exact h
def Qtp{tk:Tok}{Q:Fin->Shared->Prop}(z:QhH K C)(X:K.In s.heap)(x:QdP a C s.heap)(h:Q (.done (.ret (.ref C))) s):
  wpAny (model prog w) A (Builtin.«object.__getattribute__» ⟨[.ref a,.str "__class__" tk],[]⟩) Q E s:=by
 obtain⟨hh,g,dr,t,os⟩:=s;have T0:=QiG (M:=model prog w) x;have T1:=looks_findIn (M:=model prog w) X z.ca;have f5:=F.typeOf_object_class;have f6:=F.slot_gs_get.lookup;have f7:=F.slot_gs_set.lookup;obtain⟨o,vs,hx,hc,hd⟩:=id x;have hT5:(⟨hh,g,dr,t,os⟩:Shared).TypeIs (.builtin "object.__class__") "getset_descriptor" :=f5
 repeat (any_goals (first | assumption | (with_reducible refine wpAny_loadPart_at hx ?_;rw[hc]) | with_reducible refine T1.at ?_ | wp_step))
 refine QyN z X x ?_
 repeat (any_goals (first | assumption | wp_step))
def Qtv{M:Model}{nameV:Value}{Q:Unit->Shared->Prop}(z:QhH K C)(X:K.In s.heap)(x:QdP a C s.heap)(h:Q () s):wpAny M A (checkBuiltinCall "BaseException.__getattribute__" ⟨[.ref a,nameV],[]⟩) Q E s:=by
 obtain⟨hh,g,dr,t,os⟩:=s;have k1:builtinKind "BaseException.__getattribute__" =some .slot:= nofun
 have k2:splitId "BaseException.__getattribute__" =some ("BaseException","__getattribute__"):= nofun
 have T0:=QiG (M:=M) x;have T1:=looks_subIn (M:=M) X z.be;have T2:Looks M hh (isInstance (.ref a) (.type "BaseException")) true:=T0.andThen T1;have k3:=F.args_bexc_ga (.ref a) nameV;simp only[checkBuiltinCall,k1,k2];refine wpAny_bind (T2.at ?_);rw[if_neg ∅];have k4:Q () ⟨hh,g,dr,t,os⟩:=h
 repeat (any_goals (first | assumption | wp_step))
def Qz1{tk:Tok}{Q:Value->Shared->Prop}(z:QhH K C)(X:K.In s.heap)(x:QdP a C s.heap)(h:Q (.ref C) s):wpAny (model prog w) A (getAttrBy (.ref a) (.str "__class__" tk) false) Q E s:=by
 obtain⟨hh,g,dr,t,os⟩:=s;have T0:=QiG (M:=model prog w) x;have T1:=looks_findIn (M:=model prog w) X z.ga;have T2:=looks_findIn (M:=model prog w) X z.hk;have f3:=PySem.F.attr_ValueError.ga.bind (.ref a);have n2:(Value.builtin "BaseException.__getattribute__" == Value.builtin "object.__getattribute__")=false:= nofun
 have n1:(onTheHeap (Value.ref C) && Value.builtin "BaseException.__getattribute__" == Value.builtin "object.__getattribute__")=false:=by rw[n2];rfl
 obtain⟨o,vs,hx,hc,hd⟩:=id x
 repeat (any_goals (first | assumption | (with_reducible refine wpAny_loadPart_at hx ?_;rw[hc]) | with_reducible refine T1.at ?_ | with_reducible refine T2.at ?_ | wp_step))
 refine codeAny_call_builtin PySem.F.attr_ValueError.ga.plain F.entry_bexc_ga (Qtv z X x (Qtp z X x ?_));have k4:Q (.ref C) ⟨hh,g,dr,t,os⟩:=h
 repeat (any_goals (first | assumption | wp_step))
def Qwi{Q:Option Value->Shared->Prop}(z:QhH K C)(X:K.In s.heap)(x:QdP a C s.heap)(h:Q (some (.ref C)) {s with toks:=s.toks+1}):wpAny (model prog w) A (getAttr? (.ref a) "__class__") Q E s:=by
 obtain⟨hh,g,dr,t,os⟩:=s;have k4:Q (some (.ref C)) ⟨hh,g,dr,t+1,os⟩:=h;have X':K.In (⟨hh,g,dr,t+1,os⟩:Shared).heap:=X;have x':QdP a C (⟨hh,g,dr,t+1,os⟩:Shared).heap:=x;unfold getAttr? getAttrBy?
 repeat (any_goals (first | assumption | with_reducible apply Qz1 z X' x' | wp_step))
def Qo5(z:QhH K C):KitX K (.ref a) (.ref C) (QdP a C) where
 ty:=λ_ _ _ x=>QiG x
 it:=λ_ _ X _=>by
  have h0:=z.cl;unfold clsIn at h0;split at h0
  .rename_i ho;intro A' Q' E' s' k q;unfold isType loadHead;refine wpAny_bind ?_;exact wpAny_loadPart (k _ _ (X _ _ ho)) (wpAny_pure q)
  .cases h0
 ne:=λh tp dd its n sl X htp=>by
  have h0:=z.cl;refine Bool.eq_false_iff.mpr λq=>?_;obtain rfl:C=tp:=Value.ref.inj (beq_iff_eq.mp q);unfold clsIn at h0;split at h0
  .rename_i ho;have e:=X _ _ ho;rw[htp]at e;cases e
  .cases h0
 ca:=λX x k=>Qwi z X x k
end
end HS
namespace HS
open PySem PySem.Spec L2 PyProof.Rows
def QzJ(K:Fgg)(x y:Str)(b:Bool):Prop:=∃C c,ClsAt K x C/\PySem.W.KtsName K y c/\PySem.W.exmOne K (.ref C) c=some b/\PySem.W.kitOne K (.ref C) c=some b/\QhH K C
def QbH(K:Fgg)(sub:Str->Str->Option Bool):Prop:=∀x y b,sub x y=some b->QzJ K x y b
def QbH.ok{K:Fgg}{sub:Str->Str->Option Bool}(h:QbH K sub):QrK K sub:=λx y b e=>by
 obtain⟨C,c,h1,h2,h3,_⟩:=h x y b e;exact⟨C,c,h1,h2,h3⟩
def vC:Value->V
 | .ref a=> .ref a
 | .type n=> .ty n
 | _=> .non
def QtE{K:Fgg}{C:Addr}{c:Value}{b:Bool}(h:PySem.W.kitOne K (.ref C) c=some b):RelV (vC c) c:=by
 cases c with
 | ref a=>exact rfl
 | type n=>exact rfl
 | _=>
  unfold PySem.W.kitOne at h;split at h
  .rename_i q;have:=beq_iff_eq.mp q;cases this
  .cases h
noncomputable def anyS(sub:Str->Str->Option Bool)(x:Str):List Str->Option Bool
 | []=>some false
 | y::r=>(sub x y).bind λb=>(anyS sub x r).map λd=>b || d
def Qcm(sub:Str->Str->Option Bool)(ys:List Str)(fa:DE):DE:=λρ=>(fa ρ).bind λr=>match r.d with
 | .exc x=>(anyS sub x ys).map λb=>⟨.bl b,true,[]⟩
 | _=>none
section
variable {X:Cx}{a:Expr}{fa:DE}{p p2 pos:Pos}{sub:Str->Str->Option Bool}
def QEZ(K:Fgg):List V->Hp->VK->Prop:=λxs H Q=>∃C a y,xs=[.ref a,y]/\H a=some (.ext (QdP a C))/\QhH K C∧
 ((∃c b,y=vC c/\PySem.W.kitOne K (.ref C) c=some b/\Q (.bl b) H)∨∃tp cs b,y= .ref tp/\H tp=some (.tup (cs.map vC))/\(∀c∈cs,RelV (vC c) c)/\PySem.W.kitAny K (.ref C) cs=some b/\Q (.bl b) H)
def Qn0{v:V}{c c':Value}(hv:v=vC c)(h:RelV (vC c) c)(h':RelV v c'):c'=c:=by
 subst hv;cases c with
 | ref a=>exact h'
 | type n=>exact h'
 | none=>cases h';rfl
 | _=>cases h
def QpP:∀{cs:List Value}{us:List Value},(∀c∈cs,RelV (vC c) c)->Qt (cs.map vC) us->us=cs
 | [],_,_,.nil=>rfl
 | c::cs,_,h,.cons r t=>by
  rw[Qn0 rfl (h c Zf) r,QpP (λc hc=>h c (Zc _ hc)) t]
def Qv0:QaS X (.builtin "isinstance") (QEZ X.K):=by
 intro pins s U H xs us Q I r h;obtain⟨C,a,y,rfl,hH,z,h⟩:=h;obtain⟨u,w,rfl,ru,rw'⟩:=vals2 r;cases(show u=Value.ref a from ru);have xo:QdP a C s.heap:=(show Qa7 X.prog X.w H s.heap a (.ext (QdP a C))from I.hok a _ hH).1;rcases h with⟨c,b,rfl,k,q⟩ | ⟨tp,cs,b,rfl,ht,hr,k,q⟩
 .cases Qn0 rfl (QtE k) rw';exact Zaq (Qo5 z) I.kIn xo k (λz=>nomatch z) λtk=>⟨.bl b,H,I.tok _,rfl,q⟩
 .cases(show w=Value.ref tp from rw');obtain⟨_,its,rv,o,e1,e2,n,e3⟩:=(show Qa7 X.prog X.w H s.heap tp (.tup (cs.map vC))from I.hok tp _ ht);have hits:=QpP hr rv;subst hits;obtain⟨oc,od,odat,osl⟩:=o;dsimp only at e2 e3;subst e2 e3;exact PySem.W.kia_tup (Qo5 z) I.kIn xo e1 k (λz=>nomatch z) λtk=>⟨.bl b,H,I.tok _,rfl,q⟩
def QBq{y:Str}{c:Value}{np:Pos}(hg:Gl X y)(hdb:(y == ("__debug__" :Str))=false)(k:PySem.W.KtsName X.K y c)(hr:RelV (vC c) c):PE X (.Name y np) (tC (vC c)):=λpins s U H Q I h=>QsQ I hg hdb k ⟨vC c,H,I,hr,h⟩
def Qy8{y:Str}(hsub:QbH X.K sub)(hg:Gl X "isinstance")(hm:X.mg "isinstance" =none)(hy:Gl X y)(hdb:(y == ("__debug__" :Str))=false)(ha:SE X a fa)(he:starEach [a,.Name y p2] X.env=(false,eval a X.env)::starEach [.Name y p2] X.env):
  SE X (.Call (.Name "isinstance" p) [a,.Name y p2] [] pos) (Qcm sub [y] fa):=λH0 A0 pins s U H Q I=>exK λρ hs F r' rel e q=>by
 refine Qf e λr e1 e=>?_;split at e
 .rename_i x hd;obtain⟨b,eb,rfl⟩:=Zb.mp e;have eb':sub x y=some b:=by
   unfold anyS at eb;refine Qf eb λb' h1 h2=>?_;cases b' with
   | true=>cases h2;exact h1
   | false=>cases h2;exact h1
  obtain⟨C,c,k1,k2,k3,k4,k5⟩:=hsub x y b eb';refine Qkt Qv0 hg hm ZaQ (Qa9 (ha H0 A0) (Qa9 (QBq hy hdb k2 (QtE k4)) Qc0) he) ∅ ∅ he (by rfl) pins s U H Q I ?_;refine⟨ρ,hs,F,r,rel,e1,λv H1 G p=>?_⟩;have rp:=p.rp;rw[hd,Rp]at rp;obtain⟨⟨ea,rfl,C',hC',hH⟩,rfl⟩:=rp;cases Qiz k1 hC';exact⟨C,ea,_,rfl,hH,k5,.inl ⟨c,b,rfl,k4,q _ H1 [] (.flat p.same .Qbf)⟩⟩
 .cases e
end
structure Qcb (k:Nat) (A:Around):Prop where
 dp:A.depth+3*k+5<recursionLimit
 un:A.units+16*k+200<cLine
def QCV{k:Nat}{A:Around}(r:Q3 k A):Qcb k A:=⟨r.dp,r.un⟩
def Qcb.mono{j k:Nat}{A:Around}(r:Qcb k A)(h:j<=k):Qcb j A:=⟨by have:=r.dp;lia,by have:=r.un;lia⟩
def Qcb.deeper{k:Nat}{A:Around}(r:Qcb (k+1) A)(env:Env):Qcb k (A.deeper env):=
 ⟨by have:=r.dp;show A.depth+1+3*k+5<_;lia,by have:=r.un;show A.units+3+16*k+200<_;lia⟩
def Qcb.units{k:Nat}{A:Around}(r:Qcb k A):A.units+64<cLine:=by have:=r.un;lia
def Qcb.mark{k:Nat}{A:Around}{v:Option Value}(r:Qcb k A):Qcb k (A.mark v):=⟨r.dp,r.un⟩
structure FnH (P:Program) (w:World) (K:Fgg) (mg:Str->Option Value) (base:Heap) (k:Nat) (f:Addr) (fd:FuncData) (ps:List Str) (sp:Sp):Prop where
 len:∀vs H Q E,sp vs H Q E->vs.length=ps.length
 run:∀(A:Around) (outer:List Env) (s:Shared) (H:Hp) (args:Args) (us:List Value) (vs:List V) (Q:VK) (E:XK),Qcb k A->QiU P w K mg base A outer s H->BindsTo s fd args (ps.zip us)->Qt vs us->sp vs H Q E→
  codeAny (model P w) A (.call (.ref f) args) (CR CX0 outer P w H s Q E) s
section
variable {P:Program}{w:World}{K:Fgg}{mg:Str->Option Value}{base:Heap}
def FnH.mono{j k:Nat}{f:Addr}{fd:FuncData}{ps:List Str}{sp:Sp}(F:FnH P w K mg base j f fd ps sp)(h:j<=k):FnH P w K mg base k f fd ps sp:=⟨F.len,λA outer s H args us vs Q E hr=>F.run A outer s H args us vs Q E (hr.mono h)⟩
def QyK{x qual:Str}{st:Stmt}{f:Addr}{fd:FuncData}{N ps:List Str}{k:Nat}{sp:Sp}(F:Fun K x qual st f fd)(S:QZ N ps (Qd st))(len:∀vs H Q E,sp vs H Q E->vs.length=ps.length)
  (hbody:∀(cdv:Value) (A:Around) (outer:List Env) (s:Shared) (H:Hp) (vs:List V) (Q:VK) (E:XK),Qcb k (A.deeper (envOfC qual (Qd st) s.heap.objs.size f cdv))->sp vs H Q E→
   ∃t,PSs (Qbv CX0 P w K mg base N qual (Qd st) f cdv A outer s H E).nox (Qx st) t/\t {nx:=λ_ H'=>Q .non H',rt:=Q} (start N vs) H):FnH P w K mg base (k+1) f fd ps sp:=by
 obtain⟨oc,od,kV,doc,pm,an,cdv,ct,osl,rfl,lk,hcd⟩:=F.ex;refine⟨len,λA outer s H args us vs Q E hr e0 hb r hsp=>?_⟩;have hl:=len _ _ _ _ hsp;have KX:K.In s.heap:=e0.mod.kin.keeps λb o e=>(e0.bs b o e).1;have lim:s.heap.NoLimit:=e0.mod.nolimit.keeps λb o e=>(e0.bs b o e).1;have hkind:∀y∈ps.zip us,(Qd st).names.lookup y.1=some .local ∨((Qd st).names.lookup y.1=some .cell/\((cellsFrom (s.heap.objs.size+1) (Qd st).names []).lookup y.1).isSome=true):=λZ hy=>by
  obtain⟨n,v⟩:=Z;rcases S.par n (ZaO hy).1 with q | q
  .exact .inl q
  .exact .inr ⟨q,ZaE _ _ _ (.inl q)⟩
 refine codeAny_call_function (by have:=hr.dp;lia) (KX _ _ lk) rfl S.co S.gen rfl (PySem.W.codeRec_of KX hcd) (hb _ _ _ _ ?_);refine wpAny_newFunctionEnv_cells S.kind hkind λenv he s1 x=>?_;subst he;refine⟨lim.keeps x.toInCall.keep,codeAny_func ?_⟩;obtain⟨t,ht,hq⟩:=hbody cdv A outer s H vs Q E (hr.deeper _) hsp;have I:Inv (Qbv CX0 P w K mg base N qual (Qd st) f cdv A outer s H E) [] (start N vs) H s1:=QmR S e0 hl r x;refine wpAny_mono (ht.nox [] s1 (start N vs) H _ I hq) (λfl s' hs=>?_) λe s' hs=>hs
 have fin:∀{U':L2.St}{H':Hp}{v:V}{u:Value},Inv (Qbv CX0 P w K mg base N qual (Qd st) f cdv A outer s H E) [] U' H' s'->RelV v u->Q v H'->CE outer P w H s Q u s':=
  λ{U' H' v u} J rv q=>⟨v,H',J.os,J.bare,J.base,J.hok,rv,q⟩
 cases fl with
 | ret u=>obtain⟨v,U',H',J,rv,q⟩:=hs;exact fin J rv q
 | next=>obtain⟨U',H',J,q⟩:=hs;exact fin (v:=V.non) (u:=Value.none) J rfl q
 | brk=>obtain⟨_,_,_,q⟩:=hs;exact False.elim q
 | cont=>obtain⟨_,_,_,q⟩:=hs;exact False.elim q
end
section
variable {X:Cx}{e:Expr}{es:List Expr}{fs:DA}{pos p:Pos}{x:Str}{n k:Nat}{f:Addr}{fd:FuncData}{ps:List Str}{den:Den}
def QwG(Fk:FnH X.prog X.w X.K X.mg X.base k f fd ps (spV X.K n den))(hr:Qcb k X.A)(hg:Gl X x)(hm:X.mg x=some (.ref f))(hk:PySem.W.keepIn X.K (.ref f)=true)(hb:Binds X.K fd ps [])
  (ha:SA X (e::es) fs) (hdb:(x == ("__debug__" :Str))=false) (he:starEach (e::es) X.env=(false,eval e X.env)::starEach es X.env) (hpl:(backTo pos (starEach es X.env)).any (·.1)=false):
  SE X (.Call (.Name x p) (e::es) [] pos) (Ql n den [] fs):=λH0 A0=>by
 intro pins s U H Q I h;have h:=Qix (X:=X) (dvs:=[]) (λH=>by simp[Rps]) h;refine wpAny_Call_Name_kw (QcF I hg hm ?_ hdb);refine Zam (h₀:=X.base) I.ok.mod.kin hk (thn (ha H0 A0 pos pins s U H _ I h) λus s1 ⟨vs,H1,I1,r,q⟩=>⟨I1.kIn,?_⟩) he hpl;have r2:Qt (vs++[]) (us++[]):=by rw[ZG,ZG];exact r
 have hl:(us++[]).length=ps.length:=by rw[← r2.length];exact Fk.len _ _ _ _ q
 refine wpAny_call (codeAny_mono (Fk.run X.A X.stack s1 H1 ⟨us,[]⟩ (us++[]) (vs++[]) Q E0 hr I1.Qmx (hb s1 us I1.kIn hl) r2 q) λr s' hq=>?_);cases r with
 | error ev=>exact QjK pins U H1 s1 ev s' I1 hq
 | ok fl=>
  cases fl with
  | ret u=>exact I1.after hq
  | next=>exact False.elim hq
  | brk=>exact False.elim hq
  | cont=>exact False.elim hq
end
def Qga(X:Cx)(hΓ:List (Str×FnR)):Prop:=∀x r,look x hΓ=some r->∃k f fd ps,FnH X.prog X.w X.K X.mg X.base k f fd ps (spV X.K r.n r.den)/\Qcb k X.A/\X.mg x=some (.ref f)/\PySem.W.keepIn X.K (.ref f)=true/\Binds X.K fd ps []
def Qga.inH{X:Cx}{hΓ:List (Str×FnR)}{ea:Addr}(h:Qga X hΓ):Qga (HS.inH X ea) hΓ:=λx r e=>by
 obtain⟨k,f,fd,ps,h1,h2,h3⟩:=h x r e;exact⟨k,f,fd,ps,h1,h2.mark,h3⟩
section
variable (P:Program) (w:World) (K:Fgg) (mg:Str->Option Value) (base:Heap)
def Qg9(k:Nat)(x:Str)(r:FnR):Prop:=∃f fd ps,FnH P w K mg base k f fd ps (spV K r.n r.den)/\mg x=some (.ref f)/\PySem.W.keepIn K (.ref f)=true/\Binds K fd ps []
def QeG(k:Nat)(Γ:List (Str×FnR)):Prop:=∀x r,look x Γ=some r->Qg9 P w K mg base k x r
end
section
variable {P:Program}{w:World}{K:Fgg}{mg:Str->Option Value}{base:Heap}
def QeG.nil{k:Nat}:QeG P w K mg base k []:=λx r h=>by cases h
def Qg9.mono{j k:Nat}{x:Str}{r:FnR}(h:Qg9 P w K mg base j x r)(hk:j<=k):Qg9 P w K mg base k x r:=by
 obtain⟨f,fd,ps,h1,h2⟩:=h;exact⟨f,fd,ps,h1.mono hk,h2⟩
def QeG.mono{j k:Nat}{Γ:List (Str×FnR)}(t:QeG P w K mg base j Γ)(hk:j<=k):QeG P w K mg base k Γ:=λx r e=>(t x r e).mono hk
def QeG.cons{k:Nat}{Γ:List (Str×FnR)}{x:Str}{r:FnR}(t:QeG P w K mg base k Γ)(h:Qg9 P w K mg base (k+1) x r):QeG P w K mg base (k+1) ((x,r)::Γ):=λy q e=>by
 unfold look at e;split at e
 .rename_i z;cases e;subst z;exact h
 .exact(t y q e).mono (Zae _)
end
def QC0{X:Cx}{hΓ:List (Str×FnR)}{k:Nat}(hr:Q3 k X.A)(t:QeG X.prog X.w X.K X.mg X.base k hΓ):Qga X hΓ:=λz r e=>by
 obtain⟨f',fd',ps',h1,h2⟩:=t z r e;exact⟨k,f',fd',ps',h1,QCV hr,h2⟩
def QAS:Const->Option DE
 | .bool b=>some (dC (.bl b))
 | _=>none
noncomputable def QEt:List Expr->Option (Expr×Expr)
 | [a,y]=>some (a,y)
 | _=>none
def QCj(Θ:Th):Expr->Option (List Str)
 | .Name y _=>if Θ.gl y=true then some [y]else none
 | _=>none
mutual
noncomputable def Qdj(n:Nat)(Θ:Th)(sub:Str->Str->Option Bool)(hΓ:List (Str×FnR))(e:Expr):Option DE:=match n with
 | 0=>none
 | n+1=>match e with
  | .Name x _=>(Θ.slot x).map Qn
  | .Constant v _ _=>QAS v
  | .UnaryOp o a _=>match o with
   | .Not=>(Qdj n Θ sub hΓ a).map Qv8
   | _=>none
  | .BoolOp o es p=>match es with
   | []=>none
   | a::r=>match r with
    | []=>Qdj n Θ sub hΓ a
    | b::r=>match o with
     | .And=>(Qdj n Θ sub hΓ a).bind λfa=>(Qdj n Θ sub hΓ (.BoolOp .And (b::r) p)).map λfb=>Ql5 fa fb
     | .Or=>none
  | .BinOp a o b _=>match o with
   | .Add=>(Qdj n Θ sub hΓ a).bind λfa=>(Qdj n Θ sub hΓ b).map λfb=>QC fa fb
   | _=>none
  | .Call f as kw _=>match kw with
   | _::_=>none
   | []=>(Q6 f).bind λx=>if Θ.gl x=true then if x= "isinstance" then(QEt as).bind λp=>(QCj Θ p.2).bind λys=>(Qdj n Θ sub hΓ p.1).map λfa=>Qcm sub ys fa
    else match as with
     | []=>none
     | a::as=>(look x hΓ).bind λr=>(Qhw n Θ sub hΓ (a::as)).map λfs=>Ql r.n r.den [] fs
    else none
  | .List es _=>(Qhw n Θ sub hΓ es).map QI
  | _=>none
noncomputable def Qhw(n:Nat)(Θ:Th)(sub:Str->Str->Option Bool)(hΓ:List (Str×FnR))(es:List Expr):Option DA:=match n with
 | 0=>none
 | n+1=>match es with
  | []=>some Qb
  | e::es=>(Qdj n Θ sub hΓ e).bind λfa=>(Qhw n Θ sub hΓ es).map λfs=>Qa fa fs
end
def QnU{n:Nat}{Θ:Th}{sub:Str->Str->Option Bool}{hΓ:List (Str×FnR)}{e:Expr}{f:DE}(h:Qdj n Θ sub hΓ e=some f)(es:List Expr)(env:Env):starEach (e::es) env=(false,eval e env)::starEach es env:=by
 cases n with
 | zero=>exact nn h
 | succ n=>cases e<;>first | rfl | exact nn h
def Qn1:∀{n:Nat}{Θ:Th}{sub:Str->Str->Option Bool}{hΓ:List (Str×FnR)}{es:List Expr}{fs:DA},Qhw n Θ sub hΓ es=some fs->∀(pos:Pos) (env:Env),(backTo pos (starEach es env)).any (·.1)=false
 | 0,_,_,_,_,_,h,_,_=>nomatch (show(none:Option DA)=some _ from h)
 | n+1,_,_,_,[],_,h,_,_=>rfl
 | n+1,_,_,_,e::es,_,h,pos,env=>by
  refine Qf (show Option.bind _ _=some _ from h) λfa h1 h=>?_;refine mapR (M:=λ_=>(backTo pos (starEach (e::es) env)).any (·.1)=false) h λfs' h2=>?_;rw[QnU h1];have:=Qn1 h2 pos env;simpa[backTo]using this
def QCL{X:Cx}{n:Nat}{Θ:Th}{sub:Str->Str->Option Bool}{hΓ:List (Str×FnR)}{a:Expr}{as:List Expr}{fs:DA}(h:Qhw n Θ sub hΓ (a::as)=some fs)(pos:Pos):
  starEach (a::as) X.env=(false,eval a X.env)::starEach as X.env/\(backTo pos (starEach as X.env)).any (·.1)=false:=by
 cases n with
 | zero=>exact nn h
 | succ n=>
  refine Qf (show Option.bind _ _=some _ from h) λfa h1 h=>?_;exact mapR (M:=λ_=>starEach (a::as) X.env=(false,eval a X.env)::starEach as X.env/\(backTo pos (starEach as X.env)).any (·.1)=false) h λfs' h2=>⟨QnU h1 _ _,Qn1 h2 pos X.env⟩
def QEU{X:Cx}{Θ:Th}{sub:Str->Str->Option Bool}{a e:Expr}{fa:DE}{ys:List Str}{p pos:Pos}(ok:CtxB X Θ)(hs:QbH X.K sub)(g1:Θ.gl "isinstance" =true)(h:QCj Θ e=some ys)(ha:SE X a fa)(he:starEach [a,e] X.env=(false,eval a X.env)::starEach [e] X.env):SE X (.Call (.Name "isinstance" p) [a,e] [] pos) (Qcm sub ys fa):=by
 obtain⟨a1,a2,a3⟩:=Qb1 ok g1;cases e with
 | Name y p2=>
  change(if Θ.gl y=true then some [y]else none)=some ys at h;split at h
  .rename_i g2;cases h;obtain⟨b1,b2,b3⟩:=Qb1 ok g2;exact Qy8 hs a1 (ok.mg _ nofun) b1 b2 ha he
  .cases h
 | _=>exact nomatch (show(none:Option (List Str))=some _ from h)
structure QzT (n:Nat):Prop where
 E:∀X Θ sub hΓ e f,CtxB X Θ->QbH X.K sub->Qga X hΓ->Qdj n Θ sub hΓ e=some f->SE X e f
 A:∀X Θ sub hΓ es f,CtxB X Θ->QbH X.K sub->Qga X hΓ->Qhw n Θ sub hΓ es=some f->SA X es f
def Qz0{n:Nat}(ih:QzT n)(X:Cx)(Θ:Th)(sub:Str->Str->Option Bool)(hΓ:List (Str×FnR))(e:Expr)(f:DE)(ok:CtxB X Θ)(hs:QbH X.K sub)(hu:Qga X hΓ)(h:Qdj (n+1) Θ sub hΓ e=some f):SE X e f:=by
 have ihE:=λe f=>ih.E X Θ sub hΓ e f ok hs hu;cases e with
 | Name x p=>exact mapR (show Option.map _ _=some _ from h) λi h1=>Qpv (Qdo ok h1)
 | Constant v k p=>
  change QAS v=some f at h;cases v with
  | bool b=>cases h;exact Qky Qw2 (λ_ _=> .Qbf) rfl
  | _=>exact nn h
 | UnaryOp o a p=>
  cases o with
  | Not=>exact mapR (show Option.map _ _=some _ from h) λfa h1=>QsN (ihE _ fa h1)
  | _=>exact nn h
 | BoolOp o es p=>
  cases es with
  | nil=>exact nn h
  | cons a r=>
   cases r with
   | nil=>exact Qox (ihE _ f h)
   | cons b r=>
    cases o with
    | And=>exact bindR h λfa fb h1 h2=>Qua (ihE _ fa h1) (ihE _ fb h2)
    | Or=>exact nn h
 | BinOp a o b p=>
  cases o with
  | Add=>exact bindR h λfa fb h1 h2=>QsS (ihE _ fa h1) (ihE _ fb h2)
  | _=>exact nn h
 | Call fn as kw p=>
  cases kw with
  | cons _ _=>exact nn h
  | nil=>
   refine Qf (show(Q6 fn).bind _=some _ from h) λx hx h=>QnG (G:=λt=>SE X (.Call t as [] p) f) hx λnp=>?_;split at h
   .rename_i hg;split at h
    .rename_i hi;subst hi;refine Qf h λq hq h=>?_;rcases as with _ | ⟨a,_ | ⟨y,_ | ⟨z,as⟩⟩⟩
     .cases hq
     .cases hq
     .cases hq;exact bindR h λys fa h1 h2=>QEU ok hs hg h1 (ihE _ fa h2) (QnU h2 _ _)
     .cases hq
    .cases as with
     | nil=>cases h
     | cons a as=>
      refine Qf h λr hr h=>?_;refine mapR h λfs h1=>?_;obtain⟨a1,a2,a3⟩:=Qb1 ok hg;obtain⟨k,f,fd,ps,F1,F2,F3,F4,F5⟩:=hu _ r hr;obtain⟨s1,s2⟩:=QCL (X:=X) h1 _;exact QwG F1 F2 a1 F3 F4 F5 (ih.A X Θ sub hΓ _ fs ok hs hu h1) a2 s1 s2
   .cases h
 | List es p=>exact mapR (show Option.map _ _=some _ from h) λfs h1=>Qut (ih.A X Θ sub hΓ _ fs ok hs hu h1)
 | _=>exact nn h
def Qln:∀n,QzT n
 | 0=>⟨λ_ _ _ _ _ _ _ _ _ h=>(nn h),λ_ _ _ _ _ _ _ _ _ h=>(nn h)⟩
 | n+1=>⟨Qz0 (Qln n),λX Θ sub hΓ es f ok hs hu h=>by
  cases es with
  | nil=>cases(show some Qb=some f from h);exact Qe9
  | cons e es=>exact bindR h λfa fs h1 h2=>Qdp ((Qln n).E X Θ sub hΓ _ fa ok hs hu h1) ((Qln n).A X Θ sub hΓ _ fs ok hs hu h2) (QnU h1 _ _)⟩
def Qs6(Θ:Th)(sub:Str->Str->Option Bool)(hΓ:List (Str×FnR))(st:Stmt):Option DS:=match st with
 | .Assign ts e _=>(QpM ts).bind λx=>(Θ.QbW x).bind λi=>if Qjr e=false/\QeE e=true then(Qdj 20 Θ sub hΓ e).map λfa=>Qq i fa else none
 | .Return v _=>v.bind λe=>(Qdj 20 Θ sub hΓ e).map λfa=>QJ fa
 | _=>none
def Qtq{X:Cx}{Θ:Th}{sub:Str->Str->Option Bool}{hΓ:List (Str×FnR)}{st:Stmt}{f:DS}(ok:CtxB X Θ)(hs:QbH X.K sub)(hu:Qga X hΓ)(h:Qs6 Θ sub hΓ st=some f):S1 X st f:=by
 cases st with
 | Assign ts e p=>
  refine Qf (show(QpM ts).bind _=some _ from h) λx hx h'=>?_;clear h;rcases ts with _ | ⟨t,_ | ⟨t2,ts⟩⟩
  .cases hx
  .refine QnG (G:=λt=>S1 X (.Assign [t] e p) f) hx λq=>?_;refine Qf h' λi hi h=>?_;split at h
   .rename_i hc;refine mapR h λfa h1=>?_;obtain⟨a1,a2,a3⟩:=Qco ok hi;exact QkP λH0 A0=>Qg8 (by rw[ok.N];exact ok.nd) a1 a2 ((Qln 20).E X Θ sub hΓ _ fa ok hs hu h1 H0 A0) (QdY hc.2) a3
   .cases h
  .cases hx
 | Return v p=>
  refine Qf (show v.bind _=some _ from h) λe he h=>?_;cases he;exact mapR h λfa h1=>QtA ((Qln 20).E X Θ sub hΓ _ fa ok hs hu h1)
 | _=>exact nn h
def Qiy(Θ:Th)(sub:Str->Str->Option Bool)(hΓ:List (Str×FnR)):List Stmt->Option DS
 | []=>some Qe
 | st::r=>(Qs6 Θ sub hΓ st).bind λf=>(Qiy Θ sub hΓ r).map λg=>Qc f g
def Qi1{X:Cx}{Θ:Th}{sub:Str->Str->Option Bool}{hΓ:List (Str×FnR)}(ok:CtxB X Θ)(hs:QbH X.K sub)(hu:Qga X hΓ):∀(sts:List Stmt) (f:DS),Qiy Θ sub hΓ sts=some f->SS X sts f
 | [],f,h=>by cases(show some Qe=some f from h);exact QsU
 | st::r,f,h=>bindR h λf g h1 h2=>Qmc (Qtq ok hs hu h1) (Qi1 ok hs hu r g h2)
def hd1(Θ:Th)(y:Str)(f:DS):Option Str->Option Hd
 | none=>some (y,none,f)
 | some nm=>if look nm Θ.sc=some .local then(Θ.QbW nm).map λi=>(y,some i,f)else none
def Qo0(Θ:Th)(sub:Str->Str->Option Bool)(hΓ:List (Str×FnR)):List ExceptHandler->Option (List Hd)
 | []=>some []
 | .ExceptHandler t nm bs _::r=>match bs with
  | []=>none
  | b::bs=>t.bind λt=>(Q6 t).bind λy=>if Θ.gl y=true then(Qiy Θ sub hΓ (b::bs)).bind λf=>(hd1 Θ y f nm).bind λq=>(Qo0 Θ sub hΓ r).map λl=>q::l else none
def Qvw{X:Cx}{Θ:Th}{ea:Addr}(ok:CtxB X Θ):CtxB (inH X ea) Θ:=⟨ok.N,ok.nd,ok.lc,ok.ce,ok.fe,ok.gl,ok.units,ok.mg,ok.cs⟩
def Qna{X:Cx}{Θ:Th}{sub:Str->Str->Option Bool}{hΓ:List (Str×FnR)}(ok:CtxB X Θ)(hs:QbH X.K sub)(hu:Qga X hΓ):∀(hds:List ExceptHandler) (hl:List Hd),Qo0 Θ sub hΓ hds=some hl->QgL X hds hl
 | [],f,h=>by cases(show some []=some f from h);exact .nil
 | .ExceptHandler t nm bs p::r,l,h=>by
  cases bs with
  | nil=>exact nomatch (show(none:Option (List Hd))=some _ from h)
  | cons b bs=>
   refine Qf (show t.bind _=some _ from h) λt ht h=>?_;cases ht;refine Qf h λy hy h=>QnG (G:=λt=>QgL X (.ExceptHandler (some t) nm (b::bs) p::r) l) hy λnp=>?_;split at h
   .rename_i hc;obtain⟨g1,g2,_⟩:=Qb1 ok hc;refine Qf h λf h1 h=>?_;refine bindR h λq l hq h2=>?_;have hS:=λea=>Qi1 (Qvw (ea:=ea) ok) hs hu.inH _ f h1;have tl:=Qna ok hs hu r l h2;cases nm with
    | none=>cases(show some (y,none,f)=some q from hq);exact .bare g1 g2 hS tl
    | some nm=>
     change(if look nm Θ.sc=some .local then(Θ.QbW nm).map λi=>(y,some i,f)else none)=some q at hq;split at hq
     .rename_i hn;refine mapR (M:=λq=>QgL X (.ExceptHandler (some (.Name y np)) (some nm) (b::bs) p::r) (q::l)) hq λi hi=>?_;obtain⟨a1,a2,a3⟩:=Qco ok hi;exact .as g1 g2 a1 (ok.lc nm hn) hS tl
     .cases hq
   .cases h
def Qu7(n:Nat)(Θ:Th)(ΘX:ThX)(sub:Str->Str->Option Bool)(hΓ:List (Str×FnR))(st:Stmt):Option DS:=match st with
 | .Try body (h::hs) [] [] _=>(Q8 n Θ body).bind λf=>(QcX n Θ ΘX body).bind λfx=>(Qo0 Θ sub hΓ (h::hs)).map λhl=>QmM f fx sub hl
 | _=>none
def QoW(Θ:Th):Prop:=(∀e f,Θ.te e=some f->∀X,SE X e f)
 /\∀e f,Θ.tt e=some f->∀X,ST X e f
def QBL{st:Stmt}{Γ:List (Str×FnR)}{cs:List (Str×Cn)}:QoW (QaO st Γ cs):=
 ⟨λ_ _ h=>(nomatch h),λ_ _ h=>(nomatch h)⟩
def Qzh{X:Cx}{Θ:Th}{xe:Value->Shared->Prop}{pn:List (Addr×Obj)}(ok:Qr X Θ)(ht:∀st f,Θ.tr st=some f->∀X,S1 X st f)(hte:QoW Θ)(hp:PassesOwn (model X.prog X.w) X.A X.env xe):Qr (Cx.chg X xe pn) Θ:=
 ⟨⟨ok.N,ok.nd,ok.lc,ok.ce,ok.fe,ok.gl,ok.units,ok.mg,ok.cs⟩,ok.calm,hp,ok.fns,λst f h=>ht st f h _
 ,λe f h=>hte.1 e f h _,λe f h=>hte.2 e f h _
 ⟩
def Qzm{X:Cx}{Θ:Th}{ΘX:ThX}{sub:Str->Str->Option Bool}{hΓ:List (Str×FnR)}{n:Nat}{st:Stmt}{f:DS}(ok:Qr X Θ)(ht:∀st f,Θ.tr st=some f->∀X,S1 X st f)(hte:QoW Θ)(xk:XOk X ΘX)(hs:QbH X.K sub)(hu:Qga X hΓ)(h:Qu7 n Θ ΘX sub hΓ st=some f):S1 X st f:=by
 unfold Qu7 at h;split at h
 .rename_i body h0 hds pos;refine Qf h λfb h1 h=>?_;obtain⟨fx,hl,h2,h3,rfl⟩:=QbY h;have hN:X.N.Nodup:=by rw[ok.N];exact ok.nd
  refine QAe hN xk.ex xk.stk xk.fr hs.ok (λxe pn hp=>?_) (Qna ok.toCtxB hs hu _ hl h3);have ok':=Qzh (pn:=pn) ok ht hte hp;have xk':XOk (Cx.chg X xe pn) ΘX:=⟨xk.ex,xk.stk,xk.fr,xk.fx,xk.cl⟩;exact⟨(Qfy n).Ss _ _ _ fb ok' h1,(Qk8 n).Xs _ _ _ _ fx ok' xk' h2⟩
 .cases h
def thT(n:Nat)(st:Stmt)(Γ:List (Str×FnR))(cs:List (Str×Cn))(ΘX:ThX)(sub:Str->Str->Option Bool)(hΓ:List (Str×FnR)):Th:={QaO st Γ cs with tr:=Qu7 n (QaO st Γ cs) ΘX sub hΓ}
section
variable {P:Program}{w:World}{K:Fgg}{mg:Str->Option Value}{base:Heap}
def QzC{h:Heap}{x:Str}{st:Stmt}{ps:List Str}{k n m:Nat}{Γ:List (Str×FnR)}{Γx:List (Str×(Nat×(List D->Option Str)))}{cls:List Str}{cs:List (Str×Cn)}{sub:Str->Str->Option Bool}{hΓ:List (Str×FnR)}{g:DS}(X:K.In h)(G:h.Ns mainGlobals mg)(F:Fact K x st)(S:QZ (namesOf (Qd st)) ps (Qd st))(B:QA x st ps)(M:QaV mg cs)(tab:Qaj P w K mg base k Γ)(tabx:QcO P w K mg base k Γx)
  (hcl:∀x∈cls,Qel K x) (hs:QbH K sub) (tabh:QeG P w K mg base k hΓ) (hc:Q8 n (thT m st Γ cs ⟨Γx,cls⟩ sub hΓ) (Qx st)=some g):Known P w K mg base (k+1) x ⟨ps.length,[],Qm (namesOf (Qd st)).length g⟩:=by
 obtain⟨f,fd,Fn,a⟩:=F.ex;refine⟨f,fd,ps,?_,ZM X G a,Fn.kp,λm hm=>⟨[],[],Fn.binds (B ·),.nil,λH=>by simp[Rps]⟩⟩;refine Fn.ok S (QgX rfl) λcdv A outer s H vs Q E hr h=>?_;obtain⟨ds,L,d,fr,rps,hl,hd,q⟩:=h;have ok:=QoF (P:=P) (w:=w) (K:=K) (base:=base) (qual:=x) (f:=f) (outer:=outer) (H:=H) (E:=E) S M tab hr;have xk:XOk (Qbv CX0 P w K mg base (namesOf (Qd st)) x (Qd st) f cdv A outer s H E).nox ⟨Γx,cls⟩:=⟨rfl,rfl,rfl,λz r e=>by
  obtain⟨f',fd',ps',h1,h2,h3,h4,h5⟩:=tabx z r e;exact⟨k,f',fd',ps',h1,hr,h2,h3,h4,h5⟩,hcl⟩
 have ok2:Qr (Qbv CX0 P w K mg base (namesOf (Qd st)) x (Qd st) f cdv A outer s H E).nox (thT m st Γ cs ⟨Γx,cls⟩ sub hΓ):=
  ⟨⟨ok.N,ok.nd,ok.lc,ok.ce,ok.fe,ok.gl,ok.units,ok.mg,ok.cs⟩,ok.calm,ok.pass,ok.fns,λst' f' h'=>Qzm ok (λ_ _ h=>(nomatch h)) QBL xk hs (QC0 hr tabh) h',λ_ _ h=>(nomatch h)
  ,λ_ _ h=>(nomatch h)
  ⟩
 refine⟨_,(Qfy n).Ss _ _ _ g ok2 hc H L,?_⟩;obtain⟨F0,rel⟩:=Qck (N:=namesOf (Qd st)) rps;unfold Qm at hd;refine Qf hd λo ho hd=>?_;refine⟨_,[],F0,o,rel,ho,?_⟩;cases o with
 | nx ρ=>
  cases hd;exact λU H' F' rel'=>q .non H' [] ⟨rel'.same,.Qdd,λa ha=>by simp at ha,λ_=>⟨ZT,rfl,λa ha=>by simp at ha⟩⟩
 | bk ρ=>cases hd
 | ct ρ=>cases hd
 | rt d' fr'=>
  cases hd;exact λv H' G r=>q v H' G r
def Qzb{h:Heap}{x:Str}{st:Stmt}{ps:List Str}{k:Nat}{cs:List (Str×Cn)}{sub:Str->Str->Option Bool}{hΓ:List (Str×FnR)}{g:DS}(X:K.In h)(G:h.Ns mainGlobals mg)(F:Fact K x st)(S:QZ (namesOf (Qd st)) ps (Qd st))(B:QA x st ps)(M:QaV mg cs)
  (hs:QbH K sub) (tabh:QeG P w K mg base k hΓ) (hc:Qiy (QaO st [] cs) sub hΓ (Qx st)=some g):Qg9 P w K mg base (k+1) x ⟨ps.length,[],Qm (namesOf (Qd st)).length g⟩:=by
 obtain⟨f,fd,Fn,a⟩:=F.ex;refine⟨f,fd,ps,?_,ZM X G a,Fn.kp,Fn.binds (B ·)⟩;refine QyK Fn S (QgX rfl) λcdv A outer s H vs Q E hr h=>?_;obtain⟨ds,L,d,fr,rps,hl,hd,q⟩:=h
 have ok:CtxB (Qbv CX0 P w K mg base (namesOf (Qd st)) x (Qd st) f cdv A outer s H E).nox (QaO st [] cs):=
  ⟨rfl,S.nd,λx h=>by rw[Qbc]at h;exact h,λx h=>by rw[Qbc]at h;exact⟨h,rfl⟩,λx h=>by rw[Qbc]at h;exact absurd rfl (S.nofree _ (ZQ h)),λx h=>by rw[Qbc]at h;exact h,hr.units,M.bn,M.cs⟩
 refine⟨_,Qi1 ok hs (λz r e=>by
   obtain⟨f',fd',ps',h1,h2⟩:=tabh z r e;exact⟨k,f',fd',ps',h1,hr,h2⟩) _ g hc H L,?_⟩
 obtain⟨F0,rel⟩:=Qck (N:=namesOf (Qd st)) rps;unfold Qm at hd;refine Qf hd λo ho hd=>?_;refine⟨_,[],F0,o,rel,ho,?_⟩;cases o with
 | nx ρ=>
  cases hd;exact λU H' F' rel'=>q .non H' [] ⟨rel'.same,.Qdd,λa ha=>by simp at ha,λ_=>⟨ZT,rfl,λa ha=>by simp at ha⟩⟩
 | bk ρ=>cases hd
 | ct ρ=>cases hd
 | rt d' fr'=>
  cases hd;exact λv H' G r=>q v H' G r
end
end HS
namespace HS
open PySem PySem.Spec L2 PyProof.Rows
section
variable {K:Fgg}{x y:Str}{C C':Addr}{v:Bool}
def Qxm(a:PySem.W.nsIn K mainGlobals x=some (some (.ref C)))(b:PySem.W.excIn K C [.type "ValueError",.type "Exception",.type "BaseException",.type "object"] "ValueError.__new__" =true):Qel K x:=⟨⟨C,a,b⟩⟩
def XK1(K:Fgg)(x:Str):Prop:=∃C,ClsAt K x C/\QhH K C
def QD3(a:PySem.W.nsIn K mainGlobals x=some (some (.ref C)))(h1:PySem.W.isClsIn K C=true)(h2:PySem.W.findIn K (.ref C) "__getattribute__" =some (some (.builtin "BaseException.__getattribute__")))(h3:PySem.W.findIn K (.ref C) "__getattr__" =some none)
  (h4:PySem.W.findIn K (.ref C) "__class__" =some (some (.builtin "object.__class__"))) (h5:PySem.W.mroIn K C (.type "object")=some true) (h6:PySem.W.subIn K (.ref C) (.type "BaseException")=some true):XK1 K x:=⟨C,a,h1,h2,h3,h4,h5,h6⟩
def QnP(K:Fgg)(x y:Str)(b:Bool):Prop:=∃C c,ClsAt K x C/\PySem.W.KtsName K y c/\PySem.W.exmOne K (.ref C) c=some b/\PySem.W.kitOne K (.ref C) c=some b
def Qvu(a:PySem.W.nsIn K mainGlobals x=some (some (.ref C)))(b:PySem.W.nsIn K mainGlobals y=some (some (.ref C')))(c:PySem.W.exmOne K (.ref C) (.ref C')=some v)(d:PySem.W.kitOne K (.ref C) (.ref C')=some v):QnP K x y v:=⟨C,_,a,.inl b,c,d⟩
def Qyu(a:PySem.W.nsIn K mainGlobals x=some (some (.ref C)))(b:PySem.W.nsIn K mainGlobals "ValueError" =some none)(c:PySem.W.exmOne K (.ref C) (.type "ValueError")=some v)(d:PySem.W.kitOne K (.ref C) (.type "ValueError")=some v):QnP K x "ValueError" v:=
 ⟨C,_,a,.inr ⟨b,PyProof.Rows.Boot.«ValueError»,∅⟩,c,d⟩
def Qmr(K:Fgg)(x:Str):List (Str×Bool)->Prop
 | []=>True
 | q::r=>QnP K x q.1 q.2/\Qmr K x r
def SubL(K:Fgg):List (Str×List (Str×Bool))->Prop
 | []=>True
 | q::r=>(XK1 K q.1/\Qmr K q.1 q.2)/\SubL K r
def QwZ(tab:List (Str×List (Str×Bool))):Str->Str->Option Bool:=λx y=>(look x tab).bind λr=>look y r
def QkK{α:Type}:∀{x:Str}{l:List (Str×α)}{a:α},look x l=some a->(x,a)∈l
 | x,[],a,h=>by cases h
 | x,(y,b)::r,a,h=>by
  unfold look at h;split at h
  .rename_i e;cases h;subst e;exact Zf
  .exact Zc _ (QkK h)
def Qmr.mem:∀{r:List (Str×Bool)},Qmr K x r->∀q∈r,QnP K x q.1 q.2
 | [],_,q,h=>by simp at h
 | p::r,h,q,hq=>by
  rcases Zn.mp hq with rfl | hq
  .exact h.1
  .exact Qmr.mem h.2 q hq
def SubL.mem:∀{t:List (Str×List (Str×Bool))},SubL K t->∀q∈t,XK1 K q.1/\Qmr K q.1 q.2
 | [],_,q,h=>by simp at h
 | p::r,h,q,hq=>by
  rcases Zn.mp hq with rfl | hq
  .exact h.1
  .exact SubL.mem h.2 q hq
def Qye{tab:List (Str×List (Str×Bool))}(h:SubL K tab):QbH K (QwZ tab):=λx y b e=>by
 refine Qf e λr h1 h2=>?_;obtain⟨⟨C,k1,k2⟩,k3⟩:=h.mem _ (QkK h1);obtain⟨C',c,m1,m2,m3,m4⟩:=k3.mem _ (QkK h2);cases Qiz k1 m1;exact⟨C,c,k1,m2,m3,m4,k2⟩
def QB4(K:Fgg):List Str->Prop
 | []=>True
 | x::r=>Qel K x/\QB4 K r
def Qqm:∀{l:List Str},QB4 K l->∀x∈l,Qel K x
 | [],_,x,h=>by simp at h
 | y::l,h,x,hx=>by
  rcases Zn.mp hx with rfl | hx
  .exact h.1
  .exact Qqm h.2 x hx
end
section
variable {P:Program}{w:World}{K:Fgg}{mg:Str->Option Value}{base:Heap}
end
abbrev MxT:=List (Str×List (Str×(Nat×(List D->Option Str))))
def Qjj(P:Program)(w:World)(K:Fgg)(mg:Str->Option Value)(base:Heap)(k:Nat)(x m:Str)(r:Nat×(List D->Option Str)):Prop:=∃C f fd ps,PySem.W.nsIn K mainGlobals x=some (some (.ref C))/\Cls K C/\QiD K C m f/\Qag P w K mg base (CXR P w) k f fd ps (spX K r.1 r.2)/\Binds K fd ps []/\ps.length=r.1
def Qri(X:Cx)(T:MxT):Prop:=∀x ms m r,look x T=some ms->look m ms=some r->∃k,Qjj X.prog X.w X.K X.mg X.base k x m r/\Q3 k X.A
def xMe(T:MxT)(i:Nat)(m:Str)(fs:DA):DX:=λρ=>match ρ[i]? with
 | some (some (d,_))=>match unp d with
  | .obj (.ins x ns) es=>(look x T).bind λms=>(look m ms).bind λr=>(fs ρ).bind λra=>if(!ns.contains m && decide (r.1=ra.ds.length+1))=true then(r.2 (.obj (.ins x ns) es::ra.ds)).map λc=>(c,ρ)else none
  | _=>none
 | _=>none
section
variable {X:Cx}{T:MxT}{m:Str}{o e:Expr}{es:List Expr}{fs:DA}{pos cpos apos:Pos}{i:Nat}
end
section
variable {P:Program}{w:World}{K:Fgg}{mg:Str->Option Value}{base:Heap}
def Qjj.mono{j k:Nat}{x m:Str}{r:Nat×(List D->Option Str)}(h:Qjj P w K mg base j x m r)(hk:j<=k):Qjj P w K mg base k x m r:=by
 obtain⟨C,f,fd,ps,h1,h2,h3,h4,h5⟩:=h;exact⟨C,f,fd,ps,h1,h2,h3,h4.mono hk,h5⟩
end
noncomputable def QwL:Expr->Option (Expr×Str×Pos×Pos×Expr×List Expr)
 | .Call fn args kw cp=>match kw with
  | _::_=>none
  | []=>match args with
   | []=>none
   | a::as=>match fn with
    | .Attribute o m ap=>some (o,m,ap,cp,a,as)
    | _=>none
 | _=>none
def QsO{e o a:Expr}{m:Str}{ap cp:Pos}{as:List Expr}(h:QwL e=some (o,m,ap,cp,a,as)):e= .Call (.Attribute o m ap) (a::as) [] cp:=by
 cases e with
 | Call fn args kw cp'=>
  cases kw with
  | cons _ _=>exact nomatch (show(none:Option (Expr×Str×Pos×Pos×Expr×List Expr))=some _ from h)
  | nil=>
   cases args with
   | nil=>exact nomatch (show(none:Option (Expr×Str×Pos×Pos×Expr×List Expr))=some _ from h)
   | cons a' as'=>
    cases fn with
    | Attribute o' m' ap'=>cases(show some (o',m',ap',cp',a',as')=some _ from h);rfl
    | _=>exact nomatch (show(none:Option (Expr×Str×Pos×Pos×Expr×List Expr))=some _ from h)
 | _=>exact nomatch (show(none:Option (Expr×Str×Pos×Pos×Expr×List Expr))=some _ from h)
section
variable {P:Program}{w:World}{K:Fgg}{mg:Str->Option Value}{base:Heap}
def Qw3(P:Program)(w:World)(K:Fgg)(mg:Str->Option Value)(base:Heap)(k:Nat)(MX:MxT):Prop:=∀x ms m r,look x MX=some ms->look m ms=some r->Qjj P w K mg base k x m r
end
abbrev MvT:=List (Str×List (Str×(Nat×Den)))
def Qia(P:Program)(w:World)(K:Fgg)(mg:Str->Option Value)(base:Heap)(k:Nat)(x m:Str)(r:Nat×Den):Prop:=∃C f fd ps,PySem.W.nsIn K mainGlobals x=some (some (.ref C))/\Cls K C/\QiD K C m f/\Qag P w K mg base CX0 k f fd ps (spV K r.1 r.2)/\Binds K fd ps []/\ps.length=r.1
def QpH(X:Cx)(T:MvT):Prop:=∀x ms m r,look x T=some ms->look m ms=some r->∃k,Qia X.prog X.w X.K X.mg X.base k x m r/\Q3 k X.A
def QgR(T:MvT)(i:Nat)(m:Str)(fs:DA):DE:=λρ=>match ρ[i]? with
 | some (some (d,_))=>match unp d with
  | .obj (.ins x ns) es=>(look x T).bind λms=>(look m ms).bind λr=>(fs ρ).bind λra=>if(!ns.contains m && decide (r.1=ra.ds.length+1))=true then(r.2 (.obj (.ins x ns) es::ra.ds)).bind λq=>if q.2=true then some ⟨q.1,true,[]⟩else none else none
  | _=>none
 | _=>none
section
variable {X:Cx}{T:MvT}{MX:MxT}{m:Str}{o e:Expr}{es:List Expr}{fs:DA}{pos cpos apos:Pos}{i:Nat}
def QCF{pl:Sem Bool}(hM:QpH X T)(ho:PE X o (Qdz i))(ha:SA X (e::es) fs)
  (hst:starEach (e::es) X.env=(false,eval e X.env)::starEach es X.env) (hpl:(backTo cpos (starEach es X.env)).any (·.1)=false)
  (ht:eval (.Call (.Attribute o m apos) (e::es) [] cpos) X.env=(do
   let ov ← eval o X.env
   standAt apos.atName
   let (f,first) ← holding [ov] (getMethod ov m pl)
   callWith cpos f first (backTo cpos (starEach (e::es) X.env)) (backToKw cpos (keywordEach [] X.env)))):
  SE X (.Call (.Attribute o m apos) (e::es) [] cpos) (QgR T i m fs):=λH0 A0 pins s U H Q I Z=>by
 obtain⟨ρ,hs,F,r',rel,ex,q⟩:=Z;unfold QgR at ex;split at ex
 case h_2=>cases ex
 rename_i d b hρ;split at ex
 case h_2=>cases ex
 rename_i cn ns ds0 hu;refine Qf ex λms h1 ex=>?_;refine Qf ex λr h2 ex=>?_;refine Qf ex λra e1 ex=>?_;split at ex
 case isFalse=>cases ex
 rename_i hn;simp only[Zh,decide_eq_true_eq,ZF]at hn;obtain⟨hn1,hn2⟩:=hn;refine Qf ex λqq e2 ex=>?_;split at ex
 case isFalse=>cases ex
 rename_i hfr;cases ex;obtain⟨v,hv,rp⟩:=rel.val i d b hρ;have rpu:=rp.unp.1;rw[hu]at rpu;obtain⟨a,C,dx,vs0,G0,ev,eG,k3,k4,k5,rs⟩:=rpu.QgY;subst ev;obtain⟨k,⟨C',f,fd,ps,m1,m2,m3,Fk,hb,hpn⟩,hr⟩:=hM cn ms m r h1 h2;rw[k3]at m1;cases m1;refine(Qqr ho m2 m3 Fk hr hb .nil QjK (ha H0 A0) hst hpl ht) pins s U H Q I ⟨_,hv,a,dx,_,rfl,k4,QcW λz=>?_,ρ,hs,F,ra,rel,e1,λvs H1 G p1=>?_⟩
 .rw[ZN.mpr z]at hn1;cases hn1
 .refine⟨.obj (.ins cn ns) ds0::ra.ds,F i++G,qq.1,qq.2,?_,by rw[Zs,hn2],e2,λv2 H2 G2 rt=>q v2 H2 G2 ?_⟩
  .rw[ZG];simp only[Rps];exact⟨_,_,_,_,rfl,rfl,rpu.same p1.same,p1.rp⟩
  .obtain⟨n1,n2,n3⟩:=rt.cnt hfr;refine⟨p1.same.trans rt.same,rt.rp,λb hb=> .inl (p1.same.free (n3 b hb)),λ_=>⟨λb=>?_,n2⟩,QaX.nil⟩;by_cases hb:b∈G2
   .rw[Qa8 (p1.same.free (n3 b hb))];have:=ZY.mp n1 b;lia
   .rw[ZI.mpr hb];exact ZK _
def QwC{pl:Sem Bool}(hM:Qri X MX)(ho:PE X o (Qdz i))(ha:SA X (e::es) fs)
  (hst:starEach (e::es) X.env=(false,eval e X.env)::starEach es X.env) (hpl:(backTo cpos (starEach es X.env)).any (·.1)=false)
  (ht:eval (.Call (.Attribute o m apos) (e::es) [] cpos) X.env=(do
   let ov ← eval o X.env
   standAt apos.atName
   let (f,first) ← holding [ov] (getMethod ov m pl)
   callWith cpos f first (backTo cpos (starEach (e::es) X.env)) (backToKw cpos (keywordEach [] X.env)))):
  RzC X (.Call (.Attribute o m apos) (e::es) [] cpos) (xMe MX i m fs):=λH0 A0 pins s U H ρ hs F c ρ' Er I rel ex hxe q=>by
 unfold xMe at ex;split at ex
 case h_2=>cases ex
 rename_i d b hρ;split at ex
 case h_2=>cases ex
 rename_i cn ns ds0 hu;refine Qf ex λms h1 ex=>?_;refine Qf ex λxr h2 ex=>?_;refine Qf ex λra e1 ex=>?_;split at ex
 case isFalse=>cases ex
 rename_i hn;simp only[Zh,decide_eq_true_eq,ZF]at hn;obtain⟨hn1,hn2⟩:=hn;obtain⟨c',e2,e3⟩:=Zb.mp ex;cases e3;obtain⟨v,hv,rp⟩:=rel.val i d b hρ;have rpu:=rp.unp.1;rw[hu]at rpu;obtain⟨a,C,dx,vs0,G0,ev,eG,k3,k4,k5,rs⟩:=rpu.QgY;subst ev;obtain⟨k,⟨C',f,fd,ps,m1,m2,m3,Fk,hb,hpn⟩,hr⟩:=hM cn ms m xr h1 h2;rw[k3]at m1;cases m1;refine PySem.W.methodCall_KW (pl:=pl) (wpAny_mono (ho pins s U H (λx H1=>x= .ref a/\H1=H) I ⟨_,hv,rfl,rfl⟩) (λu s1 ⟨x,H1,I1,rx,ex,eH⟩=>?_) hxe) ht;subst ex eH;obtain rfl:u=Value.ref a:=rx;refine QlE I1 k4 m2 m3 (QcW λz=>by rw[ZN.mpr z]at hn1;cases hn1) ?_;refine Zam (first:=[.ref a]) (h₀:=X.base) I.ok.mod.kin m3.kp (wpAny_mono (ha H0 A0 cpos pins s1 U H1 (λvs H2=>∃G,Qk0 X.K ρ F H1 H2 ra vs G) I1 ⟨ρ,hs,F,ra,rel,e1,λvs H2 G p1=>⟨G,p1⟩⟩) (λus s2 ⟨vs,H2,I2,rv,G,p1⟩=>⟨I2.kIn,?_⟩) hxe) hst hpl;have rps:Rps X.K H2 (.obj (.ins cn ns) ds0::ra.ds) (.ref a::vs) (F i++G):=by
  simp only[Rps];exact⟨_,_,_,_,rfl,rfl,rpu.same p1.same,p1.rp⟩
 have hlen:((Value.ref a::us)++[]).length=ps.length:=by rw[ZG,Zs,← rv.length,← p1.rp.length,hpn,hn2]
 have hbb:=hb s2 (.ref a::us) I2.kIn hlen;rw[ZG]at hbb;refine wpAny_call (codeAny_mono (Fk.run X.A X.stack s2 H2 ⟨.ref a::us,[]⟩ (.ref a::us) (.ref a::vs) (λ_ _=>False) (λc' _ H'=>∃C,c'= .ref C/\ClsAt X.K c C/\Qs H2 H') hr I2.Qmx hbb (.cons rfl rv) ⟨_,_,c,rps,by rw[Zs,hn2],e2,λC H' hC sm=>⟨C,rfl,hC,sm⟩⟩) λrr s' hq=>?_);cases rr with
 | error ev=>
  obtain⟨ea,C',H',B,a0,rfl,os,bare,un,hok,fl,cov,old,C2,rfl,hC,sm⟩:=hq;exact q C2 ea s' H' s2 H2 B a0 hC I2 (p1.same.trans sm) (I2.Qlt os un hok bare (λb z=>absurd z ⋯)) fl cov old rfl
 | ok fl=>
  cases fl with
  | ret u=>obtain⟨v,H',_,_,_,_,_,z⟩:=hq;exact z.elim
  | next=>exact False.elim hq
  | brk=>exact False.elim hq
  | cont=>exact False.elim hq
end
def QgQ(n:Nat)(Θ:Th)(e:Expr):Option (Nat×Str×DA):=(QwL e).bind λq=>if(q.2.2.1.endLine == q.2.2.2.1.line && decide (q.2.2.2.2.2.length<20))=true then(Q6 q.1).bind λy=>(Θ.slot y).bind λi=>(QaM n Θ (q.2.2.2.2.1::q.2.2.2.2.2)).map λfs=>(i,q.2.1,fs)else none
def Qjs{X:Cx}{Θ:Th}{n:Nat}{e:Expr}{i:Nat}{m:Str}{fs:DA}(ok:Qr X Θ)(h:QgQ n Θ e=some (i,m,fs)):
  ∃o a as ap cp,∃pl:Sem Bool,e= .Call (.Attribute o m ap) (a::as) [] cp/\PE X o (Qdz i)/\SA X (a::as) fs/\starEach (a::as) X.env=(false,eval a X.env)::starEach as X.env/\(backTo cp (starEach as X.env)).any (·.1)=false∧
   eval (.Call (.Attribute o m ap) (a::as) [] cp) X.env=(do
   let ov ← eval o X.env
   standAt ap.atName
   let (f,first) ← holding [ov] (getMethod ov m pl)
   callWith cp f first (backTo cp (starEach (a::as) X.env)) (backToKw cp (keywordEach [] X.env))):=by
 unfold QgQ at h;refine Qf h λq hq h=>?_;split at h
 case isFalse=>cases h
 rename_i hcc;simp only[Zh,decide_eq_true_eq]at hcc;refine Qf h λy hy h=>?_;refine Qf h λi' hi h=>?_;obtain⟨fs',hfs,h⟩:=Zb.mp h;obtain⟨o,m',ap,cp,a,as⟩:=q;cases h;obtain⟨np,rfl⟩:=Qby hy;obtain⟨s1,s2⟩:=callArgs (X:=X) hfs rfl cp;refine⟨_,a,as,ap,cp,_,QsO hq,Qdo ok.toCtxB hi,(Q5 n).A _ Θ _ _ ok hfs,s1,s2,Quz rfl hcc.1 (by
  have:=QjI hfs cp X.env;rw[List.all_eq_not_any_not];simpa using this) (by rw[Zs];exact ZaZ (Nat.succ_le_succ (Zbj hcc.2)) ∅)⟩
def Qq6{X:Cx}{Θ:Th}{n:Nat}{e:Expr}{q:Nat×Str×DA}{T:MvT}(ok:Qr X Θ)(h:QgQ n Θ e=some q)(hM:QpH X T):SE X e (QgR T q.1 q.2.1 q.2.2):=by
 obtain⟨o,a,as,ap,cp,pl,rfl,h1,h2,h3,h4,h5⟩:=Qjs ok h;exact QCF hM h1 h2 h3 h4 h5
def Qqz{X:Cx}{Θ:Th}{n:Nat}{e:Expr}{q:Nat×Str×DA}{T:MxT}(ok:Qr X Θ)(h:QgQ n Θ e=some q)(hM:Qri X T):RzC X e (xMe T q.1 q.2.1 q.2.2):=by
 obtain⟨o,a,as,ap,cp,pl,rfl,h1,h2,h3,h4,h5⟩:=Qjs ok h;exact QwC hM h1 h2 h3 h4 h5
def QsX{X:Cx}:MtR X "str.split" (λx xs H Q=>∃z y k,x= .str z/\xs=[.str y,.int k]/\(y.length == 0)=false/\(decide (k< -(2^63:Int)) || decide (k≥2^63))=false/\z.length+2<=sizeLine/\∀l,H l=none->Q (.ref l) (L2.upd H l (.lst ((Txt.splitMax z y k).map .str)))):=by
 intro pins s U H x xs v us Q I rx rs q;obtain⟨z,y,k,rfl,rfl,hy,hk,hsz,q⟩:=q;obtain⟨t,rfl⟩:=(show ∃t,v=Value.str z t from rx);obtain⟨u',w',rfl,ru,rw'⟩:=vals2 rs;obtain⟨u,rfl⟩:=(show ∃t,u'=Value.str y t from ru);obtain⟨kt,rfl⟩:=(show ∃t,w'=Value.int k t from rw');have hn:(Builtin.Str.partsBetween z (Builtin.Str.occurrences z y 0 z.length (PySem.limitOf z k)) y.length).length<=sizeLine:=by
  have e1:=StrLaws.occ_length_le_len z y 0 z.length (PySem.limitOf z k);rw[length_partsBetween];lia
 have fin:∀(l:List (Str×Tok)) (tk:Nat),l.length<=sizeLine->l.map (·.1)=Txt.splitMax z y k->EP X pins U Q (.ref s.heap.objs.size) {s with heap:=s.heap.push {cls:= .type "list",data:= .seq (strValues l).toArray},toks:=tk}:=λl tk hl e=>by
  have e2:(Txt.splitMax z y k).map V.str=l.map λp=>V.str p.1:=by rw[← e,ZZ];rfl
  refine⟨.ref s.heap.objs.size,_,I.laid (t':=tk) (λb o h=>Zd _ h) (Zi _) (show Qa7 X.prog X.w _ _ _ (.lst ((Txt.splitMax z y k).map .str))from⟨by rw[e2,Zt];exact hl,strValues l,0,by rw[e2];exact Qjk l,Zq _ rfl⟩),rfl,q _ (I.hok.fresh (Zi _))⟩
 cases h1:(decide (z.length<y.length) || decide (Builtin.Str.strKind z<Builtin.Str.strKind y))
 .cases hf:(Builtin.Str.occurrences z y 0 z.length (PySem.limitOf z k)).isEmpty
  .refine call_meets F.slot_str_split (typeIs_str _ _ _) F.entry_str_split (F.args_str_split_3 _ _ _) (meets_str_split_sep_max z y k t u kt hk h1 hy hf ⋯ hn) ?_;show wants _ _ _ {s with toks:=_,heap:=s.heap.push {cls:= .type "list",data:= .seq (strsFrom s.toks (Builtin.Str.partsBetween z (Builtin.Str.occurrences z y 0 z.length (PySem.limitOf z k)) y.length)).toArray}};rw[strsFrom_eq];have en:=numbered_texts s.toks (Builtin.Str.partsBetween z (Builtin.Str.occurrences z y 0 z.length (PySem.limitOf z k)) y.length);exact fin (numbered s.toks _) _ (by rw[← Zt (f:=(·.1)),en];exact hn) (en.trans ((if_neg (ne_true_of_eq_false h1)).trans (if_neg (ne_true_of_eq_false hf))).symm)
  .exact call_meets F.slot_str_split (typeIs_str _ _ _) F.entry_str_split (F.args_str_split_3 _ _ _) (meets_str_split_max_not_found z y k t u kt hk h1 hy hf) (fin [(z,t)] s.toks (show 1<=sizeLine by decide) ((if_neg (ne_true_of_eq_false h1)).trans (if_pos hf)).symm)
 .exact call_meets F.slot_str_split (typeIs_str _ _ _) F.entry_str_split (F.args_str_split_3 _ _ _) (meets_str_split_max_cannot_occur z y k t u kt hk h1) (fin [(z,t)] s.toks (show 1<=sizeLine by decide) (if_pos h1).symm)
noncomputable def Qsg(a:D)(ds:List D):Option D:=match a with
 | .str z=>match ds with
  | []=>none
  | b::ds=>match b with
   | .str y=>match ds with
    | []=>none
    | c::ds=>match c with
     | .int k=>if((ds.isEmpty && !(y.length == 0)) && !(decide (k< -(2^63:Int)) || decide (k≥2^63)) && decide (z.length<=16000000) && decide ((Txt.splitMax z y k).length<=16000000))=true then some (.lst ((Txt.splitMax z y k).map .str))else none
     | _=>none
   | _=>none
 | _=>none
def QtQ{a d:D}{ds:List D}(h:Qsg a ds=some d):∃z y k,a= .str z/\ds=[.str y,.int k]/\(y.length == 0)=false/\(decide (k< -(2^63:Int)) || decide (k≥2^63))=false/\z.length<=16000000/\(Txt.splitMax z y k).length<=16000000/\d= .lst ((Txt.splitMax z y k).map .str):=by
 unfold Qsg at h;split at h
 case h_2=>cases h
 split at h
 case h_1=>cases h
 split at h
 case h_2=>cases h
 split at h
 case h_1=>cases h
 split at h
 case h_2=>cases h
 split at h
 case isFalse=>cases h
 rename_i hc;simp only[Zh,ZF,decide_eq_true_eq,List.isEmpty_iff]at hc;obtain⟨⟨⟨⟨rfl,h1⟩,h2⟩,h3⟩,h4⟩:=hc;cases h;exact⟨_,_,_,rfl,rfl,h1,h2,h3,h4,rfl⟩
def QlR(fa:DE)(fs:DA):DE:=λρ=>(fa ρ).bind λra=>(fs ρ).bind λr=>(Qsg ra.d r.ds).map λd=>⟨d,true,[]⟩
def Qyb{X:Cx}{o b c:Expr}{fa:DE}{fs:DA}{apos cpos:Pos}(ho:SE X o fa)(ha:SA X [b,c] fs)(hb:attributeBase o "split" X.env (eval o X.env)=eval o X.env)(hl:(apos.endLine == cpos.line)=true)
  (hst:starEach [b,c] X.env=(false,eval b X.env)::starEach [c] X.env) (hpl:(backTo cpos (starEach [c] X.env)).any (·.1)=false) (hall:(backTo cpos (starEach [b,c] X.env)).any (·.1)=false):
  SE X (.Call (.Attribute o "split" apos) [b,c] [] cpos) (QlR fa fs):=λH0 A0=>
 (QnE PySem.F.plainAttrs_str PySem.F.slot_str_split PySem.F.type_str_split QsX (ho H0 A0) (ha H0 A0) hb (by
  have e:(backTo cpos (starEach [b,c] X.env)).all (λx=> !x.1)=true:=by rw[List.all_eq_not_any_not];simpa using hall
  rw[e];rfl) hl hst hpl).mono λU H Q=>exK λρ hs F r' rel e q=>by
  refine Qf e λra e1 e=>?_;refine Qf e λrb e2 e=>?_;obtain⟨d,ed,e⟩:=Zb.mp e;subst e;obtain⟨z,y,k,ez,eds,h1,h2,h3,h4,rfl⟩:=QtQ ed;refine⟨ρ,hs,F,ra,rel,e1,λx H1 G1 p1=>?_⟩;have rp:=p1.rp;rw[ez]at rp;rw[rp.str_inv];refine⟨QqN,ρ,hs,F,rb,rel.ext p1.same,e2,λxs H2 G2 p2=>?_⟩;have rp2:=p2.rp;rw[eds]at rp2;simp only[Rps]at rp2;obtain⟨v1,ws,F1,F2,rfl,_,q1,v2,ws2,F3,F4,rfl,_,q2,rfl,_⟩:=rp2;rw[q1.str_inv,q2.int_inv];refine⟨z,y,k,rfl,rfl,h1,h2,by rw[Qbr];lia,λl hl'=>?_⟩;have:=QR.Qbh (ρ:=ρ) (F:=F) (p1.same.trans p2.same) hl' (Rps.ofStrs (K:=X.K) (Txt.splitMax z y k)) (by rw[Zt,Qbr];exact Zy h4 ∅) Src.nil QaX.nil;unfold Qbh at this;rw[if_pos (QkX _)]at this;exact q _ _ _ this
def Qcx(T:MeT)(i:Nat)(m:Str)(fs:DA):DS:=λρ=>(fs ρ).bind λr=>match ρ[i]? with
 | some (some (d,true))=>if(!r.M.contains i)=true then(QmH (ioM T m r.ds) d).map λq=> .nx (ρ.set i (some (q.2,true)))else none
 | _=>none
section
variable {X:Cx}{T:MeT}{m:Str}{o e:Expr}{es:List Expr}{fs:DA}{pos cpos apos p:Pos}{i:Nat}
def Qu3{pl:Sem Bool}(hM:Qta X T)(ho:PE X o (Qdz i))(ha:SA X (e::es) fs)
  (hst:starEach (e::es) X.env=(false,eval e X.env)::starEach es X.env) (hpl:(backTo cpos (starEach es X.env)).any (·.1)=false)
  (ht:eval (.Call (.Attribute o m apos) (e::es) [] cpos) X.env=(do
   let ov ← eval o X.env
   standAt apos.atName
   let (f,first) ← holding [ov] (getMethod ov m pl)
   callWith cpos f first (backTo cpos (starEach (e::es) X.env)) (backToKw cpos (keywordEach [] X.env)))):
  S1 X (.Expr (.Call (.Attribute o m apos) (e::es) [] cpos) pos) (Qcx T i m fs):=by
 intro H0 A0 pins s U H E I Z;obtain⟨ρ,hs,F,out,rel,e,q⟩:=Z;refine Qf e λr e1 e=>?_;split at e
 .rename_i d hρ;split at e
  .rename_i hc;simp only[ZF]at hc;have hi:i∉r.M:=λz=>by rw[ZN.mpr z]at hc;cases hc
   obtain⟨qq,e2,rfl⟩:=Zb.mp e;obtain⟨e0,z,hg,hd⟩:=QvH e2;obtain⟨v,hv,rp⟩:=rel.val i d true hρ;obtain⟨o1,o2,o3,o4,o5⟩:=rel.own i d hρ;have r0:Rp X.K H e0 v (F i)/\e0.nl=d.nl:=by
    rcases hd with⟨a,rfl,_⟩ | ⟨rfl,_⟩
    .exact⟨rp.QfE.2,(Qe0 _ _).symm⟩
    .exact⟨rp,rfl⟩
   have un:qq.2.nl=z.nl:=by
    rcases hd with⟨a,rfl,h2⟩ | ⟨rfl,h2⟩
    .rw[h2,Qe0]
    .rw[h2]
   have up:∀{H'':Hp}{L:LAd},Rp X.K H'' z v L->Rp X.K H'' qq.2 v L:=λ{H'' L} h=>by
    rcases hd with⟨a,rfl,h2⟩ | ⟨rfl,h2⟩
    .obtain⟨ea,_⟩:=rp.QfE;rw[h2];subst ea;exact Rp.Qpa h
    .rw[h2];exact h
   unfold ioM at hg;split at hg
   .rename_i cn ns ds0;refine Qf hg λms h1 hg=>?_;refine Qf hg λio h2 hg=>?_;split at hg
    .rename_i hn;simp only[Zh,decide_eq_true_eq,ZF]at hn;obtain⟨hn1,hn2⟩:=hn;obtain⟨a,C,dx,vs0,G0,ev,eG,k3,k4,k5,rs⟩:=r0.1.QgY;obtain⟨k,f,fd,ps,c1,c2,c3,c4,c5⟩:=hM cn ms m io h1 h2 C k3;subst ev;refine(QgW (Qqr ho c1 c2 c3 c4 c5 .nil QjK (ha H0 A0) hst hpl ht) rfl) pins s U H E I ⟨_,hv,a,dx,_,rfl,k4,QcW λz=>?_,ρ,hs,F,r,rel,e1,λvs H1 G p1=>?_⟩
     .rw[ZN.mpr z]at hn1;cases hn1
     .obtain⟨Fs,f1,f2⟩:=QoX p1.rp;have hlen:=p1.rp.length;have ap:∀b∈F i,b∉G:=λb hb hbG=>by
       rcases p1.src b hbG with w | ⟨j,d',b',ej,mj,hj⟩
       .obtain⟨u,hu⟩:=rp.mem b hb;rw[w]at hu;cases hu
       .by_cases hji:j=i
        .subst hji;rw[hρ]at ej;cases ej;exact hi (hj rfl)
        .exact o4 j d' b' hji ej b hb mj
      refine⟨.obj (.ins cn ns) ds0::r.ds,λj=>match j with | 0=>F i | j+1=>Fs j,a,qq.1,z,by rw[Zs,hn2],by rw[ZG,Zs,← hlen,hn2],λj dj ej=>?_,⋯,rfl,o2,?_,λj hj hj0 b hb=>?_,hg,λv2 H2 G2 Gp ip=>?_⟩
      .cases j with
       | zero=>simp at ej;subst ej;exact⟨_,rfl,r0.1.same p1.same⟩
       | succ j=>
        obtain⟨u,g1,g2⟩:=f2 j dj (by simpa using ej);exact⟨u,by simpa using g1,g2⟩
      .show(F i).length=_;rw[o1,← r0.2];rfl
      .cases j with
       | zero=>exact absurd rfl hj0
       | succ j=>exact λw=>ap b hb (f1 j b w)
      .obtain⟨n1,n2,n3⟩:=ZP.mp ip.nd;have rl:=rel.ext p1.same;exact q _ _ _ (rl.io hρ hv ip.same (up ip.rpp) n2 (by rw[un];exact ip.lenp) λb hb=>rl.Qrj hρ (ip.fr b (Ze _ hb)))
    .cases hg
   .cases hg
  .cases e
 .cases e
end
noncomputable def QCn{α:Type}:List α->Option (α×α)
 | []=>none
 | a::r=>match r with
  | []=>none
  | b::r=>if r.isEmpty=true then some (a,b)else none
def QvU{α:Type}{l:List α}{a b:α}(h:QCn l=some (a,b)):l=[a,b]:=by
 rcases l with _ | ⟨x,_ | ⟨y,_ | ⟨z,r⟩⟩⟩
 .cases h
 .cases h
 .cases h;rfl
 .exact nomatch (show(none:Option (α×α))=some _ from h)
section
variable {P:Program}{w:World}{K:Fgg}{mg:Str->Option Value}{base:Heap}
def QoK(P:Program)(w:World)(K:Fgg)(mg:Str->Option Value)(base:Heap)(k:Nat)(x:Str):List (Str×(Nat×(List D->Option Str)))->Prop
 | []=>True
 | (m,r)::t=>Qjj P w K mg base k x m r/\QoK P w K mg base k x t
def Qps(P:Program)(w:World)(K:Fgg)(mg:Str->Option Value)(base:Heap)(k:Nat):MxT->Prop
 | []=>True
 | (x,ms)::t=>QoK P w K mg base k x ms/\Qps P w K mg base k t
def QmS{k:Nat}{x:Str}:∀{ms:List (Str×(Nat×(List D->Option Str)))},QoK P w K mg base k x ms->∀m r,look m ms=some r->Qjj P w K mg base k x m r
 | [],_,m,r,e=>by cases e
 | (m',r')::t,h,m,r,e=>by
  unfold look at e;split at e
  .rename_i z;cases e;subst z;exact h.1
  .exact QmS h.2 m r e
def Qo6{k:Nat}:∀{T:MxT},Qps P w K mg base k T->Qw3 P w K mg base k T
 | [],_,x,ms,m,r,e,_=>by cases e
 | (x',ms')::t,h,x,ms,m,r,e,e2=>by
  unfold look at e;split at e
  .rename_i z;cases e;subst z;exact QmS h.1 m r e2
  .exact Qo6 h.2 x ms m r e e2
end
def QwR(K:Fgg)(t:Addr):Prop:=∃od n sl,K.lookup t=some ⟨.type "tuple",od,.seq #[.none] n,sl⟩
def QfV(x:Str)(st:Stmt)(ps:List Str)(m:Nat)(fill:List Value):Prop:=∀(K:Fgg) (t:Addr) (od:Option Addr) (n:Nat) (sl:Array (Option Value)),K.lookup t=some ⟨.type "tuple",od,.seq #[.none] n,sl⟩->∀(kV doc pm:Value) (an:Option Addr) (cdv ct:Value) (S:Setting) (us:List Value),us.length=m→
 PySem.W.peek K S (bindArgs (PySem.W.fnOf x x (QaQ st) (Qx st) (Qd st) (.ref t) kV doc pm an cdv ct) ⟨us,[]⟩)=some (ps.zip (us++fill))
structure Qlr (K:Fgg) (x:Str) (st:Stmt) (ps:List Str):Prop where
 ex:∃(f t:Addr) (oc:Value) (od:Option Addr) (kV doc pm:Value) (an:Option Addr) (cdv ct:Value) (osl:Array (Option Value)),
  K.lookup f=some ⟨oc,od,.func (PySem.W.fnOf x x (QaQ st) (Qx st) (Qd st) (.ref t) kV doc pm an cdv ct),osl⟩/\PySem.W.codeIn K cdv x=true/\PySem.W.keepIn K (.ref f)=true/\PySem.W.nsIn K mainGlobals x=some (some (.ref f))/\QwR K t
def QuF{K:Fgg}{x:Str}{st:Stmt}{ps:List Str}{f t:Addr}{oc:Value}{od an od':Option Addr}{osl sl:Array (Option Value)}{n:Nat}{kV doc pm cdv ct:Value}(a:PySem.W.nsIn K mainGlobals x=some (some (.ref f)))(l:K.lookup f=some ⟨oc,od,.func (PySem.W.fnOf x x (QaQ st) (Qx st) (Qd st) (.ref t) kV doc pm an cdv ct),osl⟩)
  (c:PySem.W.codeIn K cdv x=true) (k:PySem.W.keepIn K (.ref f)=true) (h:K.lookup t=some ⟨.type "tuple",od',.seq #[.none] n,sl⟩):Qlr K x st ps:=⟨f,t,oc,od,kV,doc,pm,an,cdv,ct,osl,l,c,k,a,od',n,sl,h⟩
def Qlz{K:Fgg}{x:Str}{st:Stmt}{ps:List Str}{m:Nat}{fill:List Value}(B:QfV x st ps m fill)(hm:m+fill.length=ps.length){t:Addr}(h:QwR K t){kV doc pm cdv ct:Value}{an:Option Addr}:Binds K (PySem.W.fnOf x x (QaQ st) (Qx st) (Qd st) (.ref t) kV doc pm an cdv ct) ps fill:=λs us hK hl=>by
 obtain⟨od,n,sl,h⟩:=h;exact PySem.W.kp_binds hK λS=>B K t od n sl h kV doc pm an cdv ct S us (by rw[Zl]at hl;lia)
section
variable {P:Program}{w:World}{K:Fgg}{mg:Str->Option Value}{base:Heap}
def QyC{h:Heap}{x:Str}{st:Stmt}{ps:List Str}{k n m:Nat}{Γ:List (Str×FnR)}{cs:List (Str×Cn)}{g:DS}(X:K.In h)(G:h.Ns mainGlobals mg)(F:Qlr K x st ps)(S:QZ (namesOf (Qd st)) ps (Qd st))(B0:QfV x st ps (m+1) [])(B1:QfV x st ps m [.none])(hm:ps.length=m+1)(M:QaV mg cs)(tab:Qaj P w K mg base k Γ)
  (hc:Q8 n (QaO st Γ cs) (Qx st)=some g):Known P w K mg base (k+1) x ⟨ps.length,[.non],Qm (namesOf (Qd st)).length g⟩:=by
 obtain⟨f,t,oc,od,kV,doc,pm,an,cdv,ct,osl,lk,hcd,kp,a,hT⟩:=F.ex;refine⟨f,PySem.W.fnOf x x (QaQ st) (Qx st) (Qd st) (.ref t) kV doc pm an cdv ct,ps,?_,ZM X G a,kp,λj hj=>?_⟩
 .refine QlK lk hcd S (QgX rfl) λA outer s H vs Q E hr h=>?_;obtain⟨ds,L,d,fr,rps,hl,hd,q⟩:=h;have ok:=QoF (P:=P) (w:=w) (K:=K) (base:=base) (qual:=x) (f:=f) (cdv:=cdv) (outer:=outer) (H:=H) (E:=E) S M tab hr;refine⟨_,((Qfy n).Ss _ _ _ g ok hc H L).nox,?_⟩;obtain⟨F0,rel⟩:=Qck (N:=namesOf (Qd st)) rps;unfold Qm at hd;refine Qf hd λo ho hd=>?_;refine⟨_,[],F0,o,rel,ho,?_⟩;cases o with
  | nx ρ=>
   cases hd;exact λU H' F' rel'=>q .non H' [] ⟨rel'.same,.Qdd,λa ha=>by simp at ha,λ_=>⟨ZT,rfl,λa ha=>by simp at ha⟩⟩
  | bk ρ=>cases hd
  | ct ρ=>cases hd
  | rt d' fr'=>
   cases hd;exact λv H' G r=>q v H' G r
 .have hj:j<=1:=hj;rcases Nat.le_one_iff_eq_zero_or_eq_one.mp hj with rfl | rfl
  .exact⟨[],[],Qlz B0 (by simp[hm]) hT,.nil,λH=>by simp[Rps]⟩
  .refine⟨[.none],[.non],Qlz B1 (by simp[hm]) hT,.cons rfl .nil,λH=>?_⟩;show Rps K H [.non] [.non] [];rw[Rps];exact⟨.non,[],[],[],rfl,rfl,.Qdd,by rw[Rps];exact⟨rfl,rfl⟩⟩
def Qw4{x:Str}{st:Stmt}{ps:List Str}{k n:Nat}{Γ:List (Str×FnR)}{Γx:List (Str×(Nat×(List D->Option Str)))}{cls:List Str}{cs:List (Str×Cn)}{g:DX}{f t:Addr}{oc:Value}{od:Option Addr}{kV doc pm:Value}{an:Option Addr}{cdv ct:Value}{osl:Array (Option Value)}(lk:K.lookup f=some ⟨oc,od,.func (PySem.W.fnOf x x (QaQ st) (Qx st) (Qd st) (.ref t) kV doc pm an cdv ct),osl⟩)(hcd:PySem.W.codeIn K cdv x=true)(S:QZ (namesOf (Qd st)) ps (Qd st))(M:QaV mg cs)(tab:Qaj P w K mg base k Γ)(tabx:QcO P w K mg base k Γx)
  (hcl:∀x∈cls,Qel K x) (hc:QcX n (QaO st Γ cs) ⟨Γx,cls⟩ (Qx st)=some g):Qag P w K mg base (CXR P w) (k+1) f (PySem.W.fnOf x x (QaQ st) (Qx st) (Qd st) (.ref t) kV doc pm an cdv ct) ps (spX K ps.length (QF (namesOf (Qd st)).length g)):=by
 refine QlK lk hcd S (Qmk rfl) λA outer s H vs Q E hr hsp=>?_;obtain⟨ds,L,y,rps,hl,hd,hE⟩:=hsp;have ok:Qr (Qbv (CXR P w) P w K mg base (namesOf (Qd st)) x (Qd st) f cdv A outer s H E) (QaO st Γ cs):=QjJ (CX:=CXR P w) (E:=E) S M tab hr PassesOwn.leaving;have xk:XOk (Qbv (CXR P w) P w K mg base (namesOf (Qd st)) x (Qd st) f cdv A outer s H E) ⟨Γx,cls⟩:=⟨rfl,rfl,rfl,λz r e=>by
  obtain⟨f',fd',ps',h1,h2,h3,h4,h5⟩:=tabx z r e;exact⟨k,f',fd',ps',h1,hr,h2,h3,h4,h5⟩,hcl⟩
 refine⟨_,(Qk8 n).Xs _ _ _ _ g ok xk hc H L,?_⟩;obtain⟨F0,rel⟩:=Qck (N:=namesOf (Qd st)) rps;obtain⟨⟨y',ρ'⟩,e1,e2⟩:=Zb.mp hd;cases e2;exact⟨_,[],F0,y',ρ',rel,e1,λC ea s' hC T=>Qf9 rfl rfl rfl rfl rfl rfl rfl T λH' sm=>hE C H' hC sm⟩
def Qwl{h:Heap}{x:Str}{st:Stmt}{ps:List Str}{k n m:Nat}{Γ:List (Str×FnR)}{Γx:List (Str×(Nat×(List D->Option Str)))}{cls:List Str}{cs:List (Str×Cn)}{g:DX}(X:K.In h)(G:h.Ns mainGlobals mg)(F:Qlr K x st ps)(S:QZ (namesOf (Qd st)) ps (Qd st))(B0:QfV x st ps (m+1) [])(hm:ps.length=m+1)(M:QaV mg cs)(tab:Qaj P w K mg base k Γ)(tabx:QcO P w K mg base k Γx)
  (hcl:∀x∈cls,Qel K x) (hc:QcX n (QaO st Γ cs) ⟨Γx,cls⟩ (Qx st)=some g):Qe6 P w K mg base (k+1) x (ps.length,QF (namesOf (Qd st)).length g):=by
 obtain⟨f,t,oc,od,kV,doc,pm,an,cdv,ct,osl,lk,hcd,kp,a,hT⟩:=F.ex;exact⟨f,PySem.W.fnOf x x (QaQ st) (Qx st) (Qd st) (.ref t) kV doc pm an cdv ct,ps,Qw4 lk hcd S M tab tabx hcl hc,ZM X G a,kp,Qlz B0 (by simp[hm]) hT,rfl⟩
def Qh3(P:Program)(w:World)(K:Fgg)(mg:Str->Option Value)(base:Heap)(k:Nat)(x:Str)(r:Nat×List D×(List D->Option Str)):Prop:=∃f fd ps ds dvs,Qag P w K mg base (CXR P w) k f fd ps (spX K r.1 r.2.2)/\mg x=some (.ref f)/\PySem.W.keepIn K (.ref f)=true/\Binds K fd ps ds/\Qt dvs ds/\(∀H,Rps K H r.2.1 dvs [])/\ps.length=r.1
def Qh3.mono{j k:Nat}{x:Str}{r:Nat×List D×(List D->Option Str)}(h:Qh3 P w K mg base j x r)(hk:j<=k):Qh3 P w K mg base k x r:=by
 obtain⟨f,fd,ps,ds,dvs,h1,h2⟩:=h;exact⟨f,fd,ps,ds,dvs,h1.mono hk,h2⟩
def QEa{h:Heap}{x:Str}{st:Stmt}{ps:List Str}{k n m:Nat}{Γ:List (Str×FnR)}{Γx:List (Str×(Nat×(List D->Option Str)))}{cls:List Str}{cs:List (Str×Cn)}{g:DX}(X:K.In h)(G:h.Ns mainGlobals mg)(F:Qlr K x st ps)(S:QZ (namesOf (Qd st)) ps (Qd st))(B1:QfV x st ps m [.none])(hm:ps.length=m+1)(M:QaV mg cs)(tab:Qaj P w K mg base k Γ)(tabx:QcO P w K mg base k Γx)
  (hcl:∀x∈cls,Qel K x) (hc:QcX n (QaO st Γ cs) ⟨Γx,cls⟩ (Qx st)=some g):Qh3 P w K mg base (k+1) x (ps.length,[.non],QF (namesOf (Qd st)).length g):=by
 obtain⟨f,t,oc,od,kV,doc,pm,an,cdv,ct,osl,lk,hcd,kp,a,hT⟩:=F.ex;refine⟨f,PySem.W.fnOf x x (QaQ st) (Qx st) (Qd st) (.ref t) kV doc pm an cdv ct,ps,[.none],[.non],Qw4 lk hcd S M tab tabx hcl hc,ZM X G a,kp,Qlz B1 (by simp[hm]) hT,.cons rfl .nil,λH=>?_,rfl⟩;show Rps K H [.non] [.non] [];rw[Rps];exact⟨.non,[],[],[],rfl,rfl,.Qdd,by rw[Rps];exact⟨rfl,rfl⟩⟩
end
def QfO(n:Nat)(dfl:List D)(xd:List D->Option Str)(fs:DA):DX:=λρ=>(fs ρ).bind λr=>if r.ds.length+dfl.length=n then(xd (r.ds++dfl)).map λc=>(c,ρ)else none
def QyY{X:Cx}{e:Expr}{es:List Expr}{fs:DA}{p pos:Pos}{x:Str}{r:Nat×List D×(List D->Option Str)}{k:Nat}(hD:Qh3 X.prog X.w X.K X.mg X.base k x r)(hr:Q3 k X.A)(hg:Gl X x)
  (ha:SA X (e::es) fs) (hdb:(x == ("__debug__" :Str))=false) (he:starEach (e::es) X.env=(false,eval e X.env)::starEach es X.env) (hpl:(backTo pos (starEach es X.env)).any (·.1)=false):
  RzC X (.Call (.Name x p) (e::es) [] pos) (QfO r.1 r.2.1 r.2.2 fs):=λH0 A0 pins s U H ρ hs F c ρ' Er I rel ex hxe q=>by
 obtain⟨fa,fd,ps,ds,dvs,Fk,hm,hk,hb,hd,hdf,hn⟩:=hD;refine Qf ex λra e1 ex=>?_;split at ex
 .rename_i hl;obtain⟨c',e2,e3⟩:=Zb.mp ex;cases e3;refine wpAny_Call_Name_kw (QcF I hg hm ?_ hdb);refine Zam (h₀:=X.base) I.ok.mod.kin hk (wpAny_mono (ha H0 A0 pos pins s U H (λvs H1=>∃G,Qk0 X.K ρ F H H1 ra vs G) I ⟨ρ,hs,F,ra,rel,e1,λvs H1 G p1=>⟨G,p1⟩⟩) (λus s1 ⟨vs,H1,I1,rv,G,p1⟩=>⟨I1.kIn,?_⟩) hxe) he hpl;have hdl:=(hdf H1).length;have hlen:(us++ds).length=ps.length:=by rw[Zl,← rv.length,← p1.rp.length,← hd.length,← hdl,hl,hn]
  refine wpAny_call (codeAny_mono (Fk.run X.A X.stack s1 H1 ⟨us,[]⟩ (us++ds) (vs++dvs) (λ_ _=>False) (λc' _ H'=>∃C,c'= .ref C/\ClsAt X.K c C/\Qs H1 H') hr I1.Qmx (hb s1 us I1.kIn hlen) (rv.append hd) ⟨ra.ds++r.2.1,G++[],c,p1.rp.append (hdf H1),by rw[Zl];exact hl,e2,λC H' hC sm=>⟨C,rfl,hC,sm⟩⟩) λr s' hq=>?_);cases r with
  | error ev=>
   obtain⟨ea,C',H',B,a0,rfl,os,bare,un,hok,fl,cov,old,C,rfl,hC,sm⟩:=hq;exact q C ea s' H' s1 H1 B a0 hC I1 (p1.same.trans sm) (I1.Qlt os un hok bare (λb z=>absurd z ⋯)) fl cov old rfl
  | ok fl=>
   cases fl with
   | ret u=>obtain⟨v,H',_,_,_,_,_,z⟩:=hq;exact z.elim
   | next=>exact False.elim hq
   | brk=>exact False.elim hq
   | cont=>exact False.elim hq
 .cases ex
def QmY{α:Type}{K:Fgg}{S:Setting}{a:Addr}{o:Obj}{r:α}(h:K.lookup a=some o){q}{k:Obj->Sem α}(e:PySem.W.peek K S (k o)=some r):PySem.W.peek K S (.load a q k)=some r:=by
 rw[PySem.W.peek,h];exact e
end HS
namespace L2
open PySem PySem.Spec
section
variable {prog:Program}{w:World}{A:Around}{E:Value->Shared->Prop}{s:Shared}
def nextT{it t:Addr}{i:Nat}{items:Array Value}{Q:Value->Shared->Prop}(hit:s.heap.IsTupleIter it t i)(ht:s.heap.IsTuple t items)(hx:items[i]? =some x)
  (hQ:∀h',h'.IsTupleIter it t (i+1)->Heap.SameBut it s.heap h'->Q x {s with heap:=h'}):wpAny (model prog w) A (Builtin.SmallTypes.nextOf (.ref it)) Q E s:=by
 obtain⟨o,ho,hc,hd⟩:=id hit;obtain⟨ol,hol,_,nl,hdl⟩:=ht;unfold Builtin.SmallTypes.nextOf;refine wpAny_bind (wpAny_callSpecial?_slot hit.typeIs F.slot_tuple_iterator_next (wpAny_call_entry F.slot_tuple_iterator_next hit.typeIs F.entry_tuple_iterator_next ?_ (F.args_tuple_iterator_next_1 _)));show wpAny _ _ (field (.ref it) 0 >>= _) _ _ s;refine wpAny_bind (wpAny_field ho hd (x:= .ref t) rfl ?_);show wpAny _ _ (if(Value.ref t == Value.none)=true then _ else _) _ _ s;rw[if_neg (show ¬((Value.ref t == Value.none)=true)from ZJ)];show wpAny _ _ (field (.ref it) 1 >>= _) _ _ s;refine wpAny_bind (wpAny_field ho hd (x:= .int i 0) rfl ?_);show wpAny _ _ (seqItems? (.ref t) >>= _) _ _ s;refine wpAny_bind (wpAny_seqItems hol hdl ?_);simp only[Zaa,hx];refine wpAny_bind (wpAny_setField ho hd ⋯ (wpAny_pure ⟨x,rfl,wpAny_pure (hQ _ ?_ (Heap.SameBut.update ..))⟩));exact⟨_,ZaG _ ho (Obj.isFreed_of_fields (Obj.data_mapFields hd _)),(Obj.cls_mapFields ..).trans hc,by
  rw[Obj.data_mapFields hd];simp[rawInt]⟩
def Qt2{it t:Addr}{i:Nat}{items:Array Value}{Q:Value->Shared->Prop}(hh:A.handled=none)(hit:s.heap.IsTupleIter it t i)(ht:s.heap.IsTuple t items)(hx:items[i]? =none)
  (hE:∀h' e,Heap.ExtBut it s.heap h'->(∃o,h'.get? e=some o/\o.cls= .type "StopIteration")->E (.ref e) {s with heap:=h'}):wpAny (model prog w) A (Builtin.SmallTypes.nextOf (.ref it)) Q E s:=by
 obtain⟨o,ho,hc,hd⟩:=id hit;obtain⟨ol,hol,_,nl,hdl⟩:=ht;unfold Builtin.SmallTypes.nextOf;refine wpAny_bind (wpAny_callSpecial?_slot hit.typeIs F.slot_tuple_iterator_next (wpAny_call_entry F.slot_tuple_iterator_next hit.typeIs F.entry_tuple_iterator_next ?_ (F.args_tuple_iterator_next_1 _)));show wpAny _ _ (field (.ref it) 0 >>= _) _ _ s;refine wpAny_bind (wpAny_field ho hd (x:= .ref t) rfl ?_);show wpAny _ _ (if(Value.ref t == Value.none)=true then _ else _) _ _ s;rw[if_neg (show ¬((Value.ref t == Value.none)=true)from ZJ)];show wpAny _ _ (field (.ref it) 1 >>= _) _ _ s;refine wpAny_bind (wpAny_field ho hd (x:= .int i 0) rfl ?_);show wpAny _ _ (seqItems? (.ref t) >>= _) _ _ s;refine wpAny_bind (wpAny_seqItems hol hdl ?_);simp only[Zaa,hx];refine wpAny_bind (wpAny_rule (wpAny_bind (wpAny_setField ho hd ⋯ ?_)));show wpAny _ _ (newExc (.type "StopIteration") [] >>= _) _ _ _;refine wpAny_bind ?_;simp only[newExc,newTuple];refine wpAny_bind (wpAny_newObj_type ?_ (by size_fits));refine wpAny_bind (m:=firstArgMember _ _) (wpAny_of_eq (a:=Value.none) (by first | rfl | (simp only[firstArgMember];rfl)) ?_);refine wpAny_newObj_type ?_ (by size_fits);simp only[raiseNew];refine wpAny_bind (wpAny_handled ?_)
 first | rw[show A.in1.handled=none from hh] | rw[hh]
 refine wpAny_bind (wpAny_pure (wpAny_throw ?_));exact hE _ _ (((Heap.SameBut.update ..).extBut.push _).push _) ⟨_,Zq _ rfl,rfl⟩
def Quf{z TI TO i1 i2 l1 l2:Addr}{k:Nat}{xs ys:Array Value}{x y a b:Value}{Q:Value->Shared->Prop}(D:ZipApart z TI TO i1 i2 l1 l2)
  (hz:IsZip s.heap z TI TO .none) (hTI:IsPair s.heap TI (.ref i1) (.ref i2)) (hTO:IsPair s.heap TO a b)
  (h1:s.heap.IsTupleIter i1 l1 k) (h2:s.heap.IsListIter i2 l2 k) (hl1:s.heap.IsTuple l1 xs) (hl2:s.heap.IsList l2 ys) (hx:xs[k]? =some x) (hy:ys[k]? =some y)
  (hQ:∀h',IsZip h' z TI TO (rawInt s.heap.objs.size)->IsPair h' TO x y->h'.IsTupleIter i1 l1 (k+1)->h'.IsListIter i2 l2 (k+1)->IsPair h' s.heap.objs.size x y→
   (∀c o,c≠z->c≠TO->c≠i1->c≠i2->s.heap.get? c=some o->h'.get? c=some o)->Q (.ref s.heap.objs.size) {s with heap:=h'}):
  wpAny (model prog w) A (Builtin.«zip.__next__» ⟨[.ref z],[]⟩) (λfin s'=>∃v,fin= .done (.ret v)/\Q v s') E s:=by
 show wpAny _ _ (field (.ref z) 2 >>= _) _ _ _;refine wpAny_bind (wpAny_field hz rfl rfl ?_);show wpAny _ _ (field (.ref z) 3 >>= _) _ _ _;refine wpAny_bind (wpAny_field hz rfl rfl ?_);refine wpAny_bind (wpAny_seqItems hTI rfl ?_);show wpAny _ _ (Builtin.SmallTypes.ownedTupleIsFree (.ref z) >>= _) _ _ _;refine wpAny_bind ?_;unfold Builtin.SmallTypes.ownedTupleIsFree;refine wpAny_bind (wpAny_field hz rfl rfl (wpAny_pure ?_));simp only[if_true];refine wpAny_bind (wpAny_rule ?_);refine wpAny_bind (wpAny_field hz rfl rfl ?_);refine wpAny_bind (wpAny_setField_rec hz ⋯ λg1 hz1 s1=>?_)
 replace hz1:IsZip g1 z TI TO .ellipsis:=hz1
 refine wpAny_bind ?_;simp only[List.zipIdx_cons,List.zipIdx_nil,Zbn,List.forIn_nil];refine wpAny_bind (wpAny_bind (wpAny_onRaise ?_));show wpAny _ _ (Builtin.SmallTypes.nextOf (.ref i1) >>= _) _ _ _;have k1:∀e o,e≠z->s.heap.get? e=some o->g1.get? e=some o:=λe o a1 q=>s1.extBut _ _ a1 q;refine wpAny_bind (nextT (h1.extBut s1.extBut D.i1z) (hl1.extBut s1.extBut D.l1z) hx λg2 m1 s2=>wpAny_pure ?_);have k2:∀e o,e≠z->e≠i1->s.heap.get? e=some o->g2.get? e=some o:=λe o a1 a3 q=>s2.extBut _ _ a3 (k1 e o a1 q);have t2:IsPair g2 TO a b:=k2 _ _ D.TOz D.TOi1 hTO;refine wpAny_bind (wpAny_seqItems t2 rfl ?_);refine wpAny_bind (wpAny_updateSeq_pair t2 λg3 t3 s3=>?_)
 replace t3:IsPair g3 TO x b:=t3
 have k3:∀e o,e≠z->e≠TO->e≠i1->s.heap.get? e=some o->g3.get? e=some o:=λe o a1 a2 a3 q=>s3.extBut _ _ a2 (k2 e o a1 a3 q);refine wpAny_bind (wpAny_letGo (wpAny_pure ?_));refine wpAny_bind (wpAny_bind (wpAny_onRaise ?_));show wpAny _ _ (Builtin.SmallTypes.nextOf (.ref i2) >>= _) _ _ _;refine wpAny_bind (wpAny_nextOf_list_item (h2.at λo e=>k3 _ o D.i2z D.TOi2.symm D.i12.symm e) (hl2.at λo e=>k3 _ o D.l2z D.l2TO D.l2i1 e) hy λg4 m2 s4=>wpAny_pure ?_);have k4:∀e o,e≠z->e≠TO->e≠i1->e≠i2->s.heap.get? e=some o->g4.get? e=some o:=λe o a1 a2 a3 a4 q=>s4.extBut _ _ a4 (k3 e o a1 a2 a3 q);have t4:IsPair g4 TO x b:=s4.extBut _ _ D.TOi2 t3;refine wpAny_bind (wpAny_seqItems t4 rfl ?_);refine wpAny_bind (wpAny_updateSeq_pair t4 λg7 t7 s7=>?_)
 replace t7:IsPair g7 TO x y:=t7
 refine wpAny_bind (wpAny_letGo (wpAny_pure (wpAny_pure ?_)));refine wpAny_bind (wpAny_seqItems t7 rfl ?_);refine wpAny_bind (wpAny_newTuple ?_);have hsz:g7.objs.size=s.heap.objs.size:=by rw[s7.1,s4.1,s3.1,s2.1,s1.1]
 have hz7:IsZip g7 z TI TO .ellipsis:=s7.extBut _ _ D.TOz.symm (s4.extBut _ _ D.i2z.symm (s3.extBut _ _ D.TOz.symm (s2.extBut _ _ D.i1z.symm hz1)));have n1:g7.IsTupleIter i1 l1 (k+1):=((m1.extBut s3.extBut D.TOi1.symm).extBut s4.extBut D.i12).extBut s7.extBut D.TOi1.symm;have n2:g7.IsListIter i2 l2 (k+1):=m2.extBut s7.extBut D.TOi2.symm;have hzlt:z<g7.objs.size:=Zp hz7;show wpAny _ _ (Builtin.SmallTypes.ownedTupleHandOut (.ref z) (.ref g7.objs.size) >>= _) _ _ _;refine wpAny_bind ?_;unfold Builtin.SmallTypes.ownedTupleHandOut;have hz8:IsZip (g7.push {cls:= .type "tuple",data:= .seq #[x,y]}) z TI TO .ellipsis:=Zd _ hz7;refine wpAny_bind (wpAny_setField_rec hz8 ⋯ λg9 hz9 s9=>?_)
 replace hz9:IsZip g9 z TI TO (rawInt g7.objs.size):=hz9
 refine wpAny_setField_rec hz9 ⋯ λg10 hz10 s10=>?_
 replace hz10:IsZip g10 z TI TO (rawInt g7.objs.size):=hz10
 have up:∀c o,c≠z->g7.get? c=some o->g10.get? c=some o:=λc o c1 e=>s10.extBut _ _ c1 (s9.extBut _ _ c1 (Zd _ e));have hT:IsPair g10 g7.objs.size x y:=s10.extBut _ _ (ZaD hzlt) (s9.extBut _ _ (ZaD hzlt) (Zq _ rfl));rw[hsz]at hz10 hT;refine wpAny_pure ⟨_,rfl,?_⟩;show Q (.ref g7.objs.size) _;rw[hsz];exact hQ g10 hz10 (up _ _ D.TOz t7) (n1.at λo e=>up _ o D.i1z e) (n2.at λo e=>up _ o D.i2z e) hT λc o c1 c2 c3 c4 e=>up c o c1 (s7.extBut _ _ c2 (k4 c o c1 c2 c3 c4 e))
def Qvv{z TI TO i1 i2 l1:Addr}{k:Nat}{xs:Array Value}{Q:Fin->Shared->Prop}(hh:A.handled=none)(D1:i1≠z)(O1:l1≠z)
  (hz:IsZip s.heap z TI TO .none) (hTI:IsPair s.heap TI (.ref i1) (.ref i2)) (h1:s.heap.IsTupleIter i1 l1 k) (hl1:s.heap.IsTuple l1 xs) (hx:xs[k]? =none)
  (hE:∀h' e,(∀c o,c≠z->c≠i1->s.heap.get? c=some o->h'.get? c=some o)->(∃o,h'.get? e=some o/\o.cls= .type "StopIteration")->E (.ref e) {s with heap:=h'}):
  wpAny (model prog w) A (Builtin.«zip.__next__» ⟨[.ref z],[]⟩) Q E s:=by
 show wpAny _ _ (field (.ref z) 2 >>= _) _ _ _;refine wpAny_bind (wpAny_field hz rfl rfl ?_);show wpAny _ _ (field (.ref z) 3 >>= _) _ _ _;refine wpAny_bind (wpAny_field hz rfl rfl ?_);refine wpAny_bind (wpAny_seqItems hTI rfl ?_);show wpAny _ _ (Builtin.SmallTypes.ownedTupleIsFree (.ref z) >>= _) _ _ _;refine wpAny_bind ?_;unfold Builtin.SmallTypes.ownedTupleIsFree;refine wpAny_bind (wpAny_field hz rfl rfl (wpAny_pure ?_));simp only[if_true];refine wpAny_bind (wpAny_rule ?_);refine wpAny_bind (wpAny_field hz rfl rfl ?_);refine wpAny_bind (wpAny_setField_rec hz ⋯ λg1 hz1 s1=>?_)
 replace hz1:IsZip g1 z TI TO .ellipsis:=hz1
 refine wpAny_bind ?_;simp only[List.zipIdx_cons,List.zipIdx_nil,Zbn,List.forIn_nil];refine wpAny_bind (wpAny_bind (wpAny_onRaise ?_));show wpAny _ _ (Builtin.SmallTypes.nextOf (.ref i1) >>= _) _ _ _;refine wpAny_bind (Qt2 hh (h1.extBut s1.extBut D1) (hl1.extBut s1.extBut O1) hx λg2 e s2 he=>?_);obtain⟨oe,hoe,hce⟩:=he;have hz2:IsZip g2 z TI TO .ellipsis:=s2 _ _ D1.symm hz1;have hez:e≠z:=λx=>by subst x;rw[hz2]at hoe;cases hoe;simp at hce
 refine wpAny_setField_rec hz2 ⋯ λg3 _ s3=>hE g3 e (λc o c1 c3 x=>s3.extBut _ _ c1 (s2 _ _ c3 (s1.extBut _ _ c1 x))) ⟨oe,s3.extBut _ _ hez hoe,hce⟩
end
noncomputable abbrev yA(h:Heap)(l1:Addr):Heap:=h.push {cls:= .type "tuple_iterator",data:= .fields #[.ref l1,.int 0 0]}
abbrev yB(h:Heap)(l1 l2:Addr):Heap:=(yA h l1).push {cls:= .type "list_iterator",data:= .fields #[.ref l2,.int 0 0]}
abbrev yC(h:Heap)(l1 l2:Addr):Heap:=(yB h l1 l2).push {cls:= .type "tuple",data:= .seq #[.ref h.objs.size,.ref (yA h l1).objs.size]}
abbrev yD(h:Heap)(l1 l2:Addr):Heap:=(yC h l1 l2).push {cls:= .type "tuple",data:= .seq #[.none,.none]}
abbrev yE(h:Heap)(l1 l2:Addr):Heap:=(yD h l1 l2).push {cls:= .type "zip",data:= .fields #[.none,.bool false,.bool false,.ref (yB h l1 l2).objs.size,.ref (yC h l1 l2).objs.size]}
def Qsw(l1 l2:Addr)(xs ys:Array Value):Meets (Builtin.«zip.__new__» ⟨[.type "zip",.ref l1,.ref l2],[]⟩) (λ_ R s=>s.heap.IsTuple l1 xs/\s.heap.IsList l2 ys/\R (.ok (.ret (.ref (yD s.heap l1 l2).objs.size))) {s with heap:=yE s.heap l1 l2}):=
 .of_wp λprog w A R s h=>by
  obtain⟨hp,g,d,tk,os⟩:=s;obtain⟨hl1,hl2,h⟩:=h;have hsub:=sub_zip;have hL1:Heap.IsTuple (Shared.heap ⟨hp,g,d,tk,os⟩) l1 xs:=hl1;have hL2:Heap.IsList (Shared.heap ⟨hp.push {cls:= .type "tuple_iterator",data:= .fields #[.ref l1,.int 0 0]},g,d,tk,os⟩) l2 ys:=Heap.IsList.push hl2 _
  wp_walk using wpAny_pyIter_tuple hL1,wpAny_pyIter_list hL2
  exact⟨_,rfl,h⟩
section
variable {prog:Program}{w:World}{A:Around}{E:Value->Shared->Prop}{s:Shared}
def QsM(hl1:s.heap.IsTuple l1 xs)(hl2:s.heap.IsList l2 ys)
  (h:∀h',IsZip h' (s.heap.objs.size+4) (s.heap.objs.size+2) (s.heap.objs.size+3) .none->IsPair h' (s.heap.objs.size+2) (.ref s.heap.objs.size) (.ref (s.heap.objs.size+1))→
   IsPair h' (s.heap.objs.size+3) .none .none->h'.IsTupleIter s.heap.objs.size l1 0->h'.IsListIter (s.heap.objs.size+1) l2 0→
   (∀c o,s.heap.get? c=some o->h'.get? c=some o)->Q (.ref (s.heap.objs.size+4)) {s with heap:=h'}):
  wpAny (model prog w) A (call (.type "zip") [.ref l1,.ref l2]) Q E s:=by
 refine callType_new F.called_zip ∅ (F.typeCall_zip_2 _ _) (F.newCall_zip_2 _ _) (λobj=>F.args_object_init_3 obj _ _) F.entry_zip_new (Qsw l1 l2 xs ys) ⟨hl1,hl2,?_⟩;have z1:(yA s.heap l1).objs.size=s.heap.objs.size+1:=ZX ..;have z2:(yB s.heap l1 l2).objs.size=s.heap.objs.size+2:=by rw[ZX,z1]
 have z3:(yC s.heap l1 l2).objs.size=s.heap.objs.size+3:=by rw[ZX,z2]
 have z4:(yD s.heap l1 l2).objs.size=s.heap.objs.size+4:=by rw[ZX,z3]
 have g5:(yE s.heap l1 l2).get? (yD s.heap l1 l2).objs.size=some _:=Zq _ rfl;have g4:(yE s.heap l1 l2).get? (yC s.heap l1 l2).objs.size=some _:=Zd _ (Zq _ rfl);have g3:(yE s.heap l1 l2).get? (yB s.heap l1 l2).objs.size=some _:=Zd _ (Zd _ (Zq _ rfl));have g2:(yE s.heap l1 l2).get? (yA s.heap l1).objs.size=some _:=Zd _ (Zd _ (Zd _ (Zq _ rfl)));have g1:(yE s.heap l1 l2).get? s.heap.objs.size=some _:=Zd _ (Zd _ (Zd _ (Zd _ (Zq _ rfl))));show _/\_;rw[z2,z3,z4]at g5;rw[z1,z2]at g3;rw[z3]at g4;rw[z1]at g2;rw[z4];exact⟨⟨_,g5,rfl⟩,h _ g5 g3 g4 ⟨_,g1,rfl,rfl⟩ ⟨_,g2,rfl,rfl⟩ λc o x=>
  Zd _ (Zd _ (Zd _ (Zd _ (Zd _ x))))⟩
end
open PyProof.Rows
def Itq(K:Fgg)(a b:Addr):It:=
 ⟨λi H=>∃xs ys x y,SqT K H a xs/\SqL K H b ys/\xs[i]? =some x/\ys[i]? =some y,λi H v H'=>∃p x y,v= .ref p/\H p=none/\H'=upd H p (.tup [x,y])/\(∀xs,SqT K H a xs->xs[i]? =some x)/\∀ys,SqL K H b ys->ys[i]? =some y,
  λi H=>∃xs,SqT K H a xs/\xs.length<=i⟩
def NL.itT{h:Heap}(q:h.IsTupleIter b l k):NL h b:=by
 obtain⟨o,ho,hc,hd⟩:=q;exact⟨o,ho,by rw[hc];simp,λv z=>by rw[hd]at z;cases z⟩
def Qmw{h:Heap}(hz:IsZip h z T1 T2 x)(hA:IsPair h T1 a b)(hB:IsPair h T2 c d)(h1:h.IsTupleIter i1 l1 k)(h2:h.IsListIter i2 l2 k):∀b∈[z,T1,T2,i1,i2],NL h b:=
 fa1 (.zip hz) (fa1 (.tup hA) (fa1 (.tup hB) (fa1 (.itT h1) (fa1 (.it h2) λ_ h=>nomatch h))))
def Inv.Qs0{X:Cx}{pins:List (Addr×Obj)}{U:St}{H:Hp}{s:Shared}{b l:Addr}{ys:List V}(I:Inv X pins U H s)(hf:Qcn X pins H b)(hq:SqT X.K H l ys):l≠b:=λe=>by
 subst e;rcases hq with(hq | ⟨_,hq⟩) | ⟨o',its,k,hk,_⟩
 .rw[hf.1]at hq;cases hq
 .rw[hf.1]at hq;cases hq
 .have hb:=I.ok.mod.kin l o' hk;rcases hf.2.2.2.1 with z | z
  .exact I.ok.noex l o' hb z
  .exact absurd (Zr (Zp (I.ok.bs l o' hb).1) z) (ZE _)
def QsE{P:Program}{w:World}{K:Fgg}{es:List Expr}{tk:Nat}{tpos:Pos}(l1 l2 z TI TO i1 i2:Addr)(D:Qmp z TI TO i1 i2):
  Turn P w K (.Tuple es tk tpos) (Itq K l1 l2) [z,TI,TO,i1,i2] z (λi h=>IsZip h z TI TO .none/\IsPair h TI (.ref i1) (.ref i2)/\(∃a b,IsPair h TO a b)/\h.IsTupleIter i1 l1 i/\h.IsListIter i2 l2 i) where
 mem:=mm0
 obj:=λi h st b hb=>by
  obtain⟨hz,hTI,⟨p,q,hTO⟩,h1,h2⟩:=st;exact(Qmw hz hTI hTO h1 h2 b hb).obj
 keep:=λi h h' st k=>by
  obtain⟨hz,hTI,⟨p,q,hTO⟩,h1,h2⟩:=st;exact⟨k z mm0 _ hz,k TI mm1 _ hTI,⟨p,q,k TO mm2 _ hTO⟩,h1.at (k i1 mm3),h2.at (k i2 mm4)⟩
 item:=by
  intro X hP hw hK hc i pins s U H E I hf st hg;subst hP hw hK;obtain⟨hz,hTI,⟨a0,b0,hTO⟩,h1,h2⟩:=st;obtain⟨xs,ys,x,y,hq1,hq2,hx,hy⟩:=hg;obtain⟨its,rv,p,hzz⟩:=I.tuple hq1;obtain⟨its2,rv2,p2,hzz2⟩:=I.list hq2;obtain⟨u,hu,ru⟩:=rv.get hx;obtain⟨u2,hu2,ru2⟩:=rv2.get hy;have O:=Qmw hz hTI hTO h1 h2;have A1:=λb hb=>I.Qs0 (hf b hb) hq1;have A2:=λb hb=>(O b hb).apart I (hf b hb).1 hq2;have hT:s.TypeIs (.ref z) "zip" :=⟨_,hz,rfl⟩;unfold pyNext
  refine wpAny_bind (wpAny_attempt (wpAny_callSpecial?_slot hT ZaS (wpAny_call_entry ZaS hT F.entry_zip_next
   (Quf ⟨D.a,D.b,D.c,D.d,D.e,D.f,D.g,D.h,D.i,D.j,A1 z mm0,A1 TO mm2,A1 i1 mm3,A1 i2 mm4,A2 z mm0,A2 TO mm2,A2 i1 mm3,A2 i2 mm4⟩ hz hTI hTO h1 h2 p p2.isList (x:=u) (y:=u2) (by simpa using hu) (by simpa using hu2) λh3 z3 TO3 a3 b3 T3 k3=>wpAny_pure ?_) (F.args_zip_next_1 _))))
  refine⟨.ref s.heap.objs.size,rfl,wpAny_letOwnedTupleGo_zip z3 λh4 z4 hs4=>?_⟩
  replace hs4:Heap.SameBut z h3 h4:=hs4
  have kk:∀b o,b∉[z,TI,TO,i1,i2]->s.heap.get? b=some o->h4.get? b=some o:=λb o hb q=>
   hs4.extBut b o (nmm hb mm0) (k3 b o (nmm hb mm0) (nmm hb mm2) (nmm hb mm3) (nmm hb mm4) q)
  have TI4:IsPair h4 TI (.ref i1) (.ref i2):=hs4.extBut _ _ D.a (k3 _ _ D.a D.e D.f D.g hTI);have TO4:IsPair h4 TO u u2:=hs4.extBut _ _ D.b TO3;have a4:h4.IsTupleIter i1 l1 (i+1):=a3.extBut hs4.extBut D.c;have b4:h4.IsListIter i2 l2 (i+1):=b3.extBut hs4.extBut D.d
  exact⟨.ref s.heap.objs.size,upd H s.heap.objs.size (.tup [x,y]),I.QrX (t':=s.toks) hf kk (λb hb=>(Qmw z4 TI4 TO4 a4 b4 b hb).ex) (Zi _) ⟨by show 2<=sizeLine;decide,_,.cons ru (.cons ru2 .nil),_,(hs4.2 _ (ZaD (O z mm0).lt)).trans T3,rfl,_,rfl⟩,rfl,
   ⟨_,x,y,rfl,I.hok.fresh (Zi _),rfl,λzs hy'=>by rw[I.Qnb hy' hq1];exact hx,λzs hy'=>by rw[I.Qf4 hy' hq2];exact hy⟩,⟨z4,TI4,⟨_,_,TO4⟩,a4,b4⟩,λb hb=>by rw[Qy (ZC (O b hb).lt)];exact(hf b hb).1⟩
 done:=by
  intro X hP hw hK hc i pins s U H E I hf st hg;subst hP hw hK;obtain⟨hz,hTI,⟨a0,b0,hTO⟩,h1,h2⟩:=st;obtain⟨xs,hq1,hx⟩:=hg;obtain⟨its,rv,p,hzz⟩:=I.tuple hq1;have hl:=rv.length;have hT:s.TypeIs (.ref z) "zip" :=⟨_,hz,rfl⟩;unfold pyNext
  refine wpAny_bind (wpAny_attempt (wpAny_callSpecial?_slot hT ZaS (wpAny_call_entry ZaS hT F.entry_zip_next
   (Qvv (I.ok.hd hc) D.c (I.Qs0 (hf z mm0) hq1) hz hTI h1 p (by simp;lia) λg3 e k3 ⟨o,ho,hcs⟩=>?_) (F.args_zip_next_1 _))))
  refine wpAny_bind (wpAny_isInstance ⟨o,ho,hcs⟩ isSubtype_stop ?_);exact wpAny_pure ⟨rfl,I.turns (t':=s.toks) hf λb o hb q=>k3 b o (nmm hb mm0) (nmm hb mm3) q⟩
 self:=λ_ _ _ _ _ st h=>wpAny_pyIter_zip st.1 h
def QDL(K:Fgg)(ta:TA):TI:=λU H R=>ta U H λvs H1=>∃a b,vs=[.ref a,.ref b]/\(∃xs,SqT K H1 a xs)/\(∃ys,SqL K H1 b ys)/\R (Itq K a b) H1
def Qxp{X:Cx}{a b:Expr}{ta:TA}{p pos:Pos}{es:List Expr}{tk:Nat}{tpos:Pos}(hg:Gl X "zip")(hm:X.mg "zip" =none)(ha:PA X [a,b] ta)(hs:starEach [a,b] X.env=[(false,eval a X.env),(false,eval b X.env)])(hs2:starEach [b] X.env=[(false,eval b X.env)]):
  PI X (.Tuple es tk tpos) (.Call (.Name "zip" p) [a,b] [] pos) (QDL X.K ta):=by
 intro pins s U H R I h;refine Call_ (Qc4 I hg hm PyProof.Rows.boot_zip (ZL (thn (ha pos pins s U H _ I h) λus s1 ⟨vs,H1,I1,r1,q1⟩=>?_) (by rw[hs,hs2]) (by rw[hs2];rfl)));obtain⟨l,l2,e,⟨xs,hq⟩,⟨ys,hq2⟩,q⟩:=q1;subst e;obtain⟨u,u2,rfl,ru,ru2⟩:=vals2 r1;cases ru;cases ru2;obtain⟨its,rv,pl,hz⟩:=I1.tuple hq;obtain⟨its2,rv2,pl2,hz2⟩:=I1.list hq2;refine QsM pl pl2.isList λh2 hz hTI hTO h1 h2' hk2=>?_;have I2:Inv X pins U H1 {s1 with heap:=h2}:=I1.kept (t':=s1.toks) hk2;refine wpAny_pyIter_zip hz ⟨_,[s1.heap.objs.size+4,s1.heap.objs.size+2,s1.heap.objs.size+3,s1.heap.objs.size,s1.heap.objs.size+1],_,_,H1,rfl,I2,QsE l l2 _ _ _ _ _ ⟨?_,?_,?_,?_,?_,?_,?_,?_,?_,?_⟩,⟨hz,hTI,⟨_,_,hTO⟩,h1,h2'⟩,λb hb=>?_,q⟩
 iterate 10 (exact(by intro e;first | (have e':(s1.heap.objs.size:Nat)+_=_:=e;lia) | (have e':(s1.heap.objs.size:Nat)=_:=e;lia)))
 have hle:s1.heap.objs.size<=b:=by
  simp only[Zn,Zbe,or_false]at hb;rcases hb with rfl | rfl | rfl | rfl | rfl<;>first | exact Zi _ | exact Nat.le_add_right _ _
 exact I1.QkI hle (I1.hok.fresh hle)
end L2
namespace HS
open PySem PySem.Spec L2
def Quk{K:Fgg}{c c':Addr}{xs ys:List D}{G G':LAd}(hn:xs.length=ys.length):Walk K (Itq K c c') [(.ref c,.tup xs,G),(.ref c',.lst ys,G')] (QeC xs ys) where
 stop:=λH h=>by
  obtain⟨l,vs,e,hl,rl⟩:=(h _ (Zf)).Qax;cases e;exact⟨vs,hl,by rw[Qer,← rl.length];lia⟩
 go:=λi H hi h=>by
  obtain⟨l,vs,e,hl,rl⟩:=(h _ (Zf)).Qax;obtain⟨l',vs',L',e',hl',rl',zl',el'⟩:=(h _ (Zc _ Zf)).lst_inv;cases e;cases e';rw[Qer]at hi;have h1:i<vs.length:=by rw[← rl.length];lia
  have h2:i<vs'.length:=by rw[← rl'.length];lia
  exact⟨vs,vs',vs[i],vs'[i],hl,QU hl',by simp[h1],by simp[h2]⟩
 yld:=λi d H x H' e h y=>by
  obtain⟨l,vs,e1,hl,rl⟩:=(h _ (Zf)).Qax;obtain⟨l',vs',L',e1',hl',rl',zl',el'⟩:=(h _ (Zc _ Zf)).lst_inv;cases e1;cases e1';obtain⟨d1,d2,ea,eb,rfl⟩:=Qod e;obtain⟨pp,u,u',rfl,hp,rfl,y,y'⟩:=y;obtain⟨v,G1,h1,h2,h3⟩:=rl.nth ea;obtain⟨v',G2,h1',h2',h3'⟩:=rl'.nth eb;have:=y vs hl;rw[h1]at this;cases this;have:=y' vs' (QU hl');rw[h1']at this;cases this;have s:=Qa0 (o:= .tup [u,u']) hp;refine⟨s,G1++G2,Rp.QiV Q4 ?_,λz hz=>?_⟩
  .simp only[Rps];exact⟨u,[u'],G1,G2,rfl,rfl,h2.same s,u',[],G2,[],rfl,⋯,h2'.same s,rfl,rfl⟩
  .rcases Zx.mp hz with hz | hz
   .exact⟨_,Zf,h3 z hz⟩
   .refine⟨_,Zc _ Zf,?_⟩;have:=h3' z hz;rcases el' with rfl | rfl
    .exact Zc _ this
    .exact this
def Qli(fa fb:DE):DI:=λρ=>(fa ρ).bind λr=>(fb ρ).bind λr'=>match r.d,r'.d with
 | .tup xs,.lst ys=>if xs.length=ys.length then some ⟨QeC xs ys,r.M++r'.M⟩else none
 | _,_=>none
def QxA{X:Cx}{a b:Expr}{fa fb:DE}{es:List Expr}{tk:Nat}{tpos p pos:Pos}(hg:Gl X "zip")(hm:X.mg "zip" =none)(ha:SE X a fa)(hb:SE X b fb)(hs:starEach [a,b] X.env=[(false,eval a X.env),(false,eval b X.env)])(hs2:starEach [b] X.env=[(false,eval b X.env)]):
  SI X (.Tuple es tk tpos) (.Call (.Name "zip" p) [a,b] [] pos) (Qli fa fb):=λH0 A0=>
 (Qxp hg hm (Qa9 (ha H0 A0) (Qa9 (hb H0 A0) Qc0 hs2) (by rw[hs,hs2])) hs hs2).mono λU H Rr=>exK λρ hs F ir rel e q=>by
  refine Qf e λr e1 e=>?_;refine Qf e λr' e2 e=>?_;refine⟨ρ,hs,F,r,rel,e1,λv H1 G pp=>⟨ρ,hs,F,r',rel.ext pp.same,e2,λv' H2 G' pp'=>?_⟩⟩;have rp:=pp.rp.same pp'.same;have rp':=pp'.rp;cases hr:r.d with
  | tup xs=>
   cases hr':r'.d with
   | lst ys=>
    rw[hr,hr']at e;rw[hr]at rp;rw[hr']at rp';dsimp only at e;split at e
    case isFalse=>cases e
    rename_i hn;cases e;obtain⟨c,vs,rfl,hl,rl⟩:=rp.Qax;obtain⟨c',vs',L',rfl,hl',rl',zl',el'⟩:=rp'.lst_inv;refine⟨c,c',rfl,⟨vs,hl⟩,⟨vs',QU hl'⟩,q _ H2 [(.ref c,.tup xs,G),(.ref c',.lst ys,G')] (pp.same.trans pp'.same) (Quk hn) (λt ht=>?_) (pp.own.append pp'.own) (by rw[Qer];lia)⟩;have sa:=pp.src.append pp'.src pp.same;rcases Zn.mp ht with rfl | ht
    .exact⟨rp,λz hz=>sa z (Zk _ hz)⟩
    .rw[Zj.mp ht];exact⟨rp',λz hz=>sa z (Ze _ hz)⟩
   | _=>rw[hr,hr']at e;cases e
  | _=>rw[hr]at e;cases e
end HS
namespace HS
open PySem PySem.Spec L2 PyProof.Rows
structure DkT where
 dc:List (Str×CdT)
 mv:MvT
 mx:MxT
 xd:List (Str×(Nat×List D×(List D->Option Str)))
structure Qi3 (X:Cx) (E:DkT):Prop where
 dc:∀x kvs,look x E.dc=some kvs->DcX X x kvs
 mv:QpH X E.mv
 mx:Qri X E.mx
 xd:∀x r,look x E.xd=some r->∃k,Qh3 X.prog X.w X.K X.mg X.base k x r/\Q3 k X.A
noncomputable def Qr7:Expr->Option (Expr×Str×Pos)
 | .Attribute o m p=>some (o,m,p)
 | _=>none
def Qud{e o:Expr}{m:Str}{p:Pos}(h:Qr7 e=some (o,m,p)):e= .Attribute o m p:=by
 cases e with
 | Attribute o' m' p'=>cases h;rfl
 | _=>exact nomatch (show(none:Option (Expr×Str×Pos))=some _ from h)
def teD(n:Nat)(Θ:Th)(T:ObT)(E:DkT)(e:Expr):Option DE:=match te2 n Θ T e with
 | some f=>some f
 | none=>match e with
  | .Dict ks vs _=>if(ks.isEmpty && vs.isEmpty)=true then some dDs else none
  | .Subscript a b _=>(Q6 a).bind λx=>if Θ.gl x=true then(look x E.dc).bind λkvs=>(Qp n Θ b).map λfb=>QhR kvs fb else none
  | .Call fn args kw cp=>match kw with
   | _::_=>none
   | []=>match args with
    | []=>(Q6 fn).bind λx=>if Θ.gl x=true then(look x T.ma).map λr=>QjL x r Qb else none
    | a::as=>(Qr7 fn).bind λq=>(QCn (a::as)).bind λbc=>if(decide (q.2.1= "split") && Qhe q.1 && (q.2.2.endLine == cp.line))=true then(Qp n Θ q.1).bind λfo=>(QaM n Θ [bc.1,bc.2]).map λfs=>QlR fo fs else none
  | _=>none
noncomputable def Qms{α:Type}:List α->Option α
 | []=>none
 | a::r=>if r.isEmpty=true then some a else none
def QkG{α:Type}{l:List α}{a:α}(h:Qms l=some a):l=[a]:=by
 rcases l with _ | ⟨x,_ | ⟨y,r⟩⟩
 .cases h
 .cases h;rfl
 .exact nn h
def ttD(n:Nat)(Θ:Th)(E:DkT)(e:Expr):Option DT:=match e with
 | .Compare a ops bs _=>(Qms ops).bind λop=>match op with
  | .NotIn=>(Qms bs).bind λb=>(Q6 b).bind λx=>if Θ.gl x=true then(look x E.dc).bind λkvs=>(Qp n Θ a).map λfa=>Qpd kvs true fa else none
  | _=>none
 | _=>none
def Qv1{o:Expr}{m:Str}{env:Env}(h:Qhe o=true):attributeBase o m env (eval o env)=eval o env:=by
 cases o<;>first | rfl | (cases h)
section
variable {X:Cx}{Θ:Th}{T:ObT}{E:DkT}{n:Nat}
def Qtr(ok:Qr X Θ)(ob:QiM X T)(dk:Qi3 X E):∀e f,teD n Θ T E e=some f->SE X e f:=by
 intro e f h;unfold teD at h;split at h
 .rename_i g hg;cases h;exact QAK ok ob e _ hg
 .cases e with
  | Dict ks vs p=>
   change(if(ks.isEmpty && vs.isEmpty)=true then some dDs else none)=some f at h;split at h
   .rename_i hc;simp only[Zh,List.isEmpty_iff]at hc;obtain⟨rfl,rfl⟩:=hc;cases h;exact QC9
   .cases h
  | Subscript a b p=>
   refine Qf (show(Q6 a).bind _=some f from h) λx hx h'=>?_;clear h;split at h'
   case isFalse=>cases h'
   rename_i hg;refine Qf h' λkvs hk h=>?_;refine mapR h λfb hb=>?_;obtain⟨np,rfl⟩:=Qby hx;obtain⟨g1,g2,g3⟩:=Qb1 ok.toCtxB hg;exact Qxu (dk.dc x kvs hk) g1 g2 ((Q5 n).E X Θ b fb ok hb) (QlX hb)
  | Call fn args kw cp=>
   cases kw with
   | cons _ _=>exact nn h
   | nil=>
    cases args with
    | nil=>
     refine Qf (show(Q6 fn).bind _=some f from h) λx hx h'=>?_;clear h;split at h'
     case isFalse=>cases h'
     rename_i hg;refine mapR h' λr hr=>?_;obtain⟨np,rfl⟩:=Qby hx;obtain⟨g1,g2,g3⟩:=Qb1 ok.toCtxB hg;exact Qwf (ob.ma x r hr) g1 g2
    | cons a as=>
     refine Qf (show(Qr7 fn).bind _=some f from h) λq hq h'=>?_;clear h;refine Qf h' λbc hbc h=>?_;split at h
     case isFalse=>cases h
     rename_i hc;simp only[Zh,decide_eq_true_eq]at hc;refine Qf h λfo ho h=>?_;refine mapR h λfs hfs=>?_;obtain⟨o,m,ap⟩:=q;obtain⟨b,c⟩:=bc;cases Qud hq;obtain⟨rfl,rfl⟩:a=b/\as=[c]:=by
      have:=QvU hbc;cases this;exact⟨rfl,rfl⟩
     obtain⟨⟨h1,h2⟩,h3⟩:=hc;dsimp only at h1 h2 h3 ho hfs;subst h1;obtain⟨s1,s2⟩:=callArgs (X:=X) hfs rfl cp;exact Qyb ((Q5 n).E X Θ o fo ok ho) ((Q5 n).A X Θ _ fs ok hfs) (Qv1 h2) h3 s1 s2 (QjI hfs cp X.env)
  | _=>exact nn h
def Qtk(ok:Qr X Θ)(dk:Qi3 X E):∀e f,ttD n Θ E e=some f->ST X e f:=by
 intro e f h;cases e with
 | Compare a ops bs p=>
  refine Qf (show(Qms ops).bind _=some f from h) λop hop h'=>?_;clear h;cases QkG hop;cases op with
  | NotIn=>
   refine Qf (show(Qms bs).bind _=some f from h') λb hb h=>?_;clear h';cases QkG hb;refine Qf h λx hx h=>?_;split at h
   case isFalse=>cases h
   rename_i hg;refine Qf h λkvs hk h=>?_;refine mapR h λfa ha=>?_;obtain⟨np,rfl⟩:=Qby hx;obtain⟨g1,g2,g3⟩:=Qb1 ok.toCtxB hg;exact Qy6 (dk.dc x kvs hk) g1 g2 ((Q5 n).E X Θ a fa ok ha)
  | _=>exact nomatch (show(none:Option DT)=some _ from h')
 | _=>exact nn h
structure CmQ where
 x:Nat
 fi:DI
 t:Tg
 cap:List (Option Nat)
 ft:DT
 q:Nat×Str×DA
def Qrx(gs:List Comprehension):Option Comprehension:=(Qms gs).bind λg=>if g.is_async=0 then some g else none
def Qs1{gs:List Comprehension}{g:Comprehension}(h:Qrx gs=some g):gs=[⟨g.target,g.iter,g.ifs,0⟩]:=by
 refine Qf h λg' hg h'=>?_;split at h'
 .rename_i h0;cases h';rw[QkG hg,← h0];cases g;rfl
 .cases h'
def QrQ(n:Nat)(Θ:Th)(tg it:Expr):Option DI:=match it with
 | .Call fn args kw _=>match kw with
  | _::_=>none
  | []=>match args with
   | [a,b]=>(Q6 fn).bind λx=>if(x == "zip" && Θ.gl x && isTup tg)=true then(Qp n Θ a).bind λfa=>(Qp n Θ b).map λfb=>Qli fa fb else none
   | _=>none
 | _=>none
def QvM{tg it:Expr}{fi:DI}(ok:Qr X Θ)(h:QrQ n Θ tg it=some fi):SI X tg it fi/\∀x,foldedSetIterable it X.env x=pure x:=by
 unfold QrQ at h;split at h
 case h_2=>cases h
 rename_i fn args kw cp;split at h
 .cases h
 split at h
 case h_2=>cases h
 rename_i a b;refine Qf h λx hx h'=>?_;clear h;split at h'
 case isFalse=>cases h'
 rename_i hc;simp only[Zh,beq_iff_eq]at hc;obtain⟨⟨rfl,hg⟩,ht⟩:=hc;obtain⟨np,rfl⟩:=Qby hx;obtain⟨g1,g2,g3⟩:=Qb1 ok.toCtxB hg;obtain⟨fa,fb,h1,h2,rfl⟩:=QbY h';cases tg with
 | Tuple es k tp=>exact⟨QxA g1 (ok.mg _ nofun) ((Q5 n).E X Θ a fa ok h1) ((Q5 n).E X Θ b fb ok h2) (by rw[QaT h1 [b] X.env,QaT h2 [] X.env];rfl) (QaT h2 [] X.env),λ_=>rfl⟩
 | _=>exact nomatch (show false=true from ht)
def cmQ(n:Nat)(Θ:Th)(ts:List Expr)(e:Expr):Option CmQ:=(QpM ts).bind λnm=>(Θ.QbW nm).bind λx=>match e with
 | .ListComp elt gens scope _=>(Qrx gens).bind λg=>(QhA (inner Θ scope) g.target).bind λt=>if(Qg6 Θ scope t && Qru g.ifs)=true then(QrQ n Θ g.target g.iter).bind λfi=>(QeZ n (inner Θ scope) g.ifs).bind λft=>(QgQ n (inner Θ scope) elt).map λq=>⟨x,fi,t,Qgl Θ scope,ft,q⟩else none
 | _=>none
def Qv3{ts:List Expr}{x:Str}(h:QpM ts=some x):∃p,ts=[.Name x p]:=by
 rcases ts with _ | ⟨t,_ | ⟨t2,ts⟩⟩
 .cases h
 .obtain⟨p,rfl⟩:=Qby (show Q6 t=some x from h);exact⟨p,rfl⟩
 .cases h
def Qus{ts:List Expr}{e:Expr}{c:CmQ}(ok:Qr X Θ)(h:cmQ n Θ ts e=some c):∃nm p elt tg iter ifs scope pos,ts=[.Name nm p]/\e= .ListComp elt [⟨tg,iter,ifs,0⟩] scope pos/\X.N[c.x]? =some nm/\Loc X.env.scope nm/\(X.fn nm=true∨X.env.scope.names.lookup nm=some .local)∧
  Qcw X (inner Θ scope).N scope/\SI X tg iter c.fi/\Qgr X (inner Θ scope).N scope c.cap c.t.slots/\(∀x,foldedSetIterable iter X.env x=pure x)/\∀cl C fp s3 H3,SG (cxc X (inner Θ scope).N scope cl C fp s3 H3) tg c.t/\QhF (cxc X (inner Θ scope).N scope cl C fp s3 H3) ifs c.ft/\Qr (cxc X (inner Θ scope).N scope cl C fp s3 H3) (inner Θ scope)/\QgQ n (inner Θ scope) elt=some c.q:=by
 refine Qf h λnm hnm h=>?_;refine Qf h λx hx h=>?_;cases e with
 | ListComp elt gens scope pos=>
  refine Qf (show(Qrx gens).bind _=some c from h) λg hg h'=>?_;clear h;refine Qf h' λt ht h=>?_;split at h
  case isFalse=>cases h
  rename_i hc;simp only[Zh]at hc;refine Qf h λfi hfi h=>?_;refine Qf h λft hft h=>?_;obtain⟨q,hq,h⟩:=Zb.mp h;cases h;obtain⟨p,rfl⟩:=Qv3 hnm;obtain⟨g1,g2,g3⟩:=Qco ok.toCtxB hx;obtain⟨S,cap,inn⟩:=QhJ ok hc.1;obtain⟨i1,i2⟩:=QvM ok hfi;exact⟨nm,p,elt,g.target,g.iter,g.ifs,scope,pos,rfl,by rw[Qs1 hg],g1,g2,g3,S,i1,cap,i2,λcl C fp s3 H3=>⟨Qjn (inn cl C fp s3 H3) ht,(Q5 n).Ts _ _ g.ifs ft (inn cl C fp s3 H3) hft,inn cl C fp s3 H3,hq⟩⟩
 | _=>exact nn h
def QDT{MV:MvT}{ts:List Expr}{e:Expr}{c:CmQ}{spos:Pos}(ok:Qr X Θ)(h:cmQ n Θ ts e=some c)(hM:QpH X MV):S1 X (.Assign ts e spos) (Qq c.x (Qw c.fi c.t c.cap c.ft (QgR MV c.q.1 c.q.2.1 c.q.2.2))):=by
 have hN:X.N.Nodup:=by rw[ok.N];exact ok.nd
 obtain⟨nm,p,elt,tg,iter,ifs,scope,pos,rfl,rfl,g1,g2,g3,S,i1,cap,i2,inn⟩:=Qus ok h;exact Qq7 hN g1 g2 g3 ok.calm S i1 cap (λcl C fp s3 H3=>⟨(inn cl C fp s3 H3).1,(inn cl C fp s3 H3).2.1,Qq6 (inn cl C fp s3 H3).2.2.1 (inn cl C fp s3 H3).2.2.2 hM⟩) i2
def QDR{MV:MvT}{MX:MxT}{ΘX:ThX}{ts:List Expr}{e:Expr}{c:CmQ}{spos:Pos}(ok:Qr X Θ)(xk:XOk X ΘX)(h:cmQ n Θ ts e=some c)(hM:QpH X MV)(hX:Qri X MX):Rz X (.Assign ts e spos) (QeY c.fi c.t c.cap c.ft (QgR MV c.q.1 c.q.2.1 c.q.2.2) (xMe MX c.q.1 c.q.2.1 c.q.2.2)):=by
 have hN:X.N.Nodup:=by rw[ok.N];exact ok.nd
 obtain⟨nm,p,elt,tg,iter,ifs,scope,pos,rfl,rfl,g1,g2,g3,S,i1,cap,i2,inn⟩:=Qus ok h;exact QuJ hN g1 g2 g3 ok.calm xk.ex xk.stk xk.fr S i1 cap (λcl C fp s3 H3=>⟨(inn cl C fp s3 H3).1,(inn cl C fp s3 H3).2.1,Qq6 (inn cl C fp s3 H3).2.2.1 (inn cl C fp s3 H3).2.2.2 hM⟩) (λcl C fp s3 H3=>Qqz (inn cl C fp s3 H3).2.2.1 (inn cl C fp s3 H3).2.2.2 hX) i2
def trD(n:Nat)(Θ:Th)(T:ObT)(E:DkT)(p:Option Nat)(st:Stmt):Option DS:=match QAw n Θ T p st with
 | some f=>some f
 | none=>match st with
  | .Assign ts e _=>(cmQ n Θ ts e).map λc=>Qq c.x (Qw c.fi c.t c.cap c.ft (QgR E.mv c.q.1 c.q.2.1 c.q.2.2))
  | .Expr e _=>(QgQ n Θ e).bind λq=>if QEV T.me q.2.1=true then some (Qcx T.me q.1 q.2.1 q.2.2)else none
  | _=>none
noncomputable def QK:DS:=λ_=>none
def Qte{st:Stmt}:S1 X st QK:=λH0 A0 pins s U H Ed I ⟨ρ,hs,F,o,rel,e,q⟩=>by cases e
noncomputable def QAT:Stmt->Bool
 | .Return _ _=>true
 | .Expr _ _=>true
 | .Assign _ _ _=>true
 | .AugAssign _ _ _ _=>true
 | _=>false
noncomputable def QB8:Stmt->Bool
 | .For _ _ _ _ _=>true
 | .While _ _ _ _=>true
 | _=>false
def trV(n:Nat)(Θ:Th)(T:ObT)(E:DkT)(p:Option Nat)(st:Stmt):Option DS:=match trD n Θ T E p st with
 | some f=>some f
 | none=>if(QAT st && (QhK n Θ st).isNone)=true then some QK else none
def trU(n:Nat)(Θ:Th)(T:ObT)(E:DkT)(p:Option Nat)(st:Stmt):Option DS:=match trV n Θ T E p st with
 | some f=>some f
 | none=>if(QB8 st && (QhK n {Θ with tr:=trV n Θ T E p} st).isNone)=true then some QK else none
def QAa(ok:Qr X Θ)(ob:QiM X T)(dk:Qi3 X E)(p:Option Nat):∀st f,trD n Θ T E p st=some f->S1 X st f:=by
 intro st f h;unfold trD at h;split at h
 .rename_i g hg;cases h;exact QxQ ok ob p st _ hg
 .cases st with
  | Assign ts e pos=>exact mapR (M:=λf=>S1 X (.Assign ts e pos) f) (show(cmQ n Θ ts e).map _=some f from h) λc hc=>QDT ok hc dk.mv
  | Expr e pos=>
   refine Qf (show(QgQ n Θ e).bind _=some f from h) λq hq h'=>?_;clear h;split at h'
   .cases h';obtain⟨o,a,as,ap,cp,pl,rfl,h1,h2,h3,h4,h5⟩:=Qjs ok hq;exact Qu3 ob.me h1 h2 h3 h4 h5
   .cases h'
  | _=>exact nn h
def QCw(ok:Qr X Θ)(ob:QiM X T)(dk:Qi3 X E)(p:Option Nat):∀st f,trU n Θ T E p st=some f->S1 X st f:=by
 intro st f h;unfold trU at h;split at h
 .rename_i g hg;cases h;unfold trV at hg;split at hg
  .rename_i g' hg';cases hg;exact QAa ok ob dk p st _ hg'
  .split at hg
   .cases hg;exact Qte
   .cases hg
 .split at h
  .cases h;exact Qte
  .cases h
def Qr.Qug{f:Expr->Option DT}(ok:Qr X Θ)(h:∀e g,f e=some g->ST X e g):Qr X {Θ with tt:=f}:=
 ⟨⟨ok.N,ok.nd,ok.lc,ok.ce,ok.fe,ok.gl,ok.units,ok.mg,ok.cs⟩,ok.calm,ok.pass,ok.fns,ok.tr,ok.te,h⟩
def thD(n:Nat)(Θ:Th)(T:ObT)(E:DkT)(p:Option Nat):Th:={Θ with te:=teD n Θ T E,tt:=ttD n Θ E,tr:=trU n {Θ with te:=teD n Θ T E,tt:=ttD n Θ E} T E p}
def QBs(ok:Qr X Θ)(ob:QiM X T)(dk:Qi3 X E)(p:Option Nat):Qr X (thD n Θ T E p):=
 ((ok.Qux (Qtr ok ob dk)).Qug (Qtk ok dk)).QBt (QCw ((ok.Qux (Qtr ok ob dk)).Qug (Qtk ok dk)) ob dk p)
def txD(n:Nat)(Θ:Th)(E:DkT)(st:Stmt):Option DX:=match st with
 | .Assign ts e _=>(cmQ n Θ ts e).map λc=>QeY c.fi c.t c.cap c.ft (QgR E.mv c.q.1 c.q.2.1 c.q.2.2) (xMe E.mx c.q.1 c.q.2.1 c.q.2.2)
 | .Expr e _=>match QgQ n Θ e with
  | some q=>some (xMe E.mx q.1 q.2.1 q.2.2)
  | none=>match e with
   | .Call fn args kw _=>match kw with
    | _::_=>none
    | []=>match args with
     | []=>none
     | a::as=>(Q6 fn).bind λx=>if Θ.gl x=true then(look x E.xd).bind λr=>if(as.length+1)+r.2.1.length=r.1 then(QaM n Θ (a::as)).map λfs=>QfO r.1 r.2.1 r.2.2 fs else none else none
   | _=>none
 | _=>none
def Qe7(Θ:Th)(ΘX:ThX)(E:DkT):Nat->List Stmt->Option DX
 | 0,_=>none
 | _+1,[]=>some xNo
 | n+1,st::r=>(Qhp n Θ st).bind λf=>(match txD n Θ E st with
   | some fx=>some fx
   | none=>match st with
    | .If c a b _=>(Qa3 n Θ c).bind λg=>(Qe7 Θ ΘX E n a).bind λfa=>(Qe7 Θ ΘX E n b).map λfb=>xIf g fa fb
    | st=>some ((QlH n Θ ΘX st).getD xNo)).bind λfx=>(Qe7 Θ ΘX E n r).map λfr=>Qh f fx fr
def QAt{ΘX:ThX}(ok:Qr X Θ)(xk:XOk X ΘX)(dk:Qi3 X E):∀st f,txD n Θ E st=some f->Rz X st f:=by
 intro st f h;cases st with
 | Assign ts e pos=>exact mapR (M:=λf=>Rz X (.Assign ts e pos) f) (show(cmQ n Θ ts e).map _=some f from h) λc hc=>QDR ok xk hc dk.mv dk.mx
 | Expr e pos=>
  change(match QgQ n Θ e with | some q=>some (xMe E.mx q.1 q.2.1 q.2.2) | none=>_)=some f at h;split at h
  .rename_i q hq;cases h;have hr:=Qqz ok hq dk.mx;obtain⟨o,a,as,ap,cp,pl,rfl,h1,h2,h3,h4,h5⟩:=Qjs ok hq;exact Ql8 (QrZ xk.ex hr) rfl
  .cases e with
   | Call fn args kw cp=>
    cases kw with
    | cons _ _=>exact nn h
    | nil=>
     cases args with
     | nil=>exact nn h
     | cons a as=>
      refine Qf (show(Q6 fn).bind _=some f from h) λx hx h'=>?_;clear h;split at h'
      case isFalse=>cases h'
      rename_i hg;refine Qf h' λr hr h=>?_;split at h
      case isFalse=>cases h
      refine mapR h λfs hfs=>?_;obtain⟨np,rfl⟩:=Qby hx;obtain⟨g1,g2,g3⟩:=Qb1 ok.toCtxB hg;obtain⟨s1,s2⟩:=callArgs (X:=X) hfs rfl cp;obtain⟨k,hD,hroom⟩:=dk.xd x r hr;exact Ql8 (QrZ xk.ex (QyY hD hroom g1 ((Q5 n).A X Θ _ fs ok hfs) g2 s1 s2)) rfl
   | _=>exact nn h
 | _=>exact nn h
def Qgj{ΘX:ThX}(ok:Qr X Θ)(xk:XOk X ΘX)(dk:Qi3 X E):∀n sts g,Qe7 Θ ΘX E n sts=some g->RzS X sts g
 | 0,_,_,h=>by cases h
 | n+1,[],_,h=>by cases h;exact QqI
 | n+1,st::r,g,h=>by
  refine Qf (show(Qhp n Θ st).bind _=some g from h) λf hf h'=>?_;clear h;refine Qf h' λfx hx h=>?_;refine mapR h λfr hr=>QpG (Qm6 ok hf) ?_ (Qgj ok xk dk n r fr hr);split at hx
  .rename_i z hz;cases hx;exact QAt ok xk dk st _ hz
  .split at hx
   .rename_i c a b p hno;refine Qf hx λg' hg hx=>?_;exact bindR hx λfa fb h2 h3=>QwO ((Q5 n).T X Θ c g' ok hg) (Qgj ok xk dk n a fa h2) (Qgj ok xk dk n b fb h3)
   .cases hx;cases hc:QlH n Θ ΘX st with
    | none=>exact Qfx
    | some f'=>exact(Qk8 n).X X Θ ΘX st f' ok xk hc
end
section
variable (P:Program) (w:World) (K:Fgg) (mg:Str->Option Value) (base:Heap)
structure Qcg (k:Nat) (E:DkT):Prop where
 dc:∀x kvs,look x E.dc=some kvs->Qmm w K x kvs/\∀a,PySem.W.nsIn K mainGlobals x=some (some (.ref a))->mg x=some (.ref a)
 mv:∀x ms m r,look x E.mv=some ms->look m ms=some r->Qia P w K mg base k x m r
 mx:Qw3 P w K mg base k E.mx
 xd:∀x r,look x E.xd=some r->Qh3 P w K mg base k x r
end
section
variable {P:Program}{w:World}{K:Fgg}{mg:Str->Option Value}{base:Heap}
def Qia.mono{j k:Nat}{x m:Str}{r:Nat×Den}(h:Qia P w K mg base j x m r)(hk:j<=k):Qia P w K mg base k x m r:=by
 obtain⟨C,f,fd,ps,h1,h2,h3,h4,h5⟩:=h;exact⟨C,f,fd,ps,h1,h2,h3,h4.mono hk,h5⟩
def Qcg.mono{j k:Nat}{E:DkT}(t:Qcg P w K mg base j E)(h:j<=k):Qcg P w K mg base k E where
 dc:=t.dc
 mv:=λx ms m r h1 h2=>(t.mv x ms m r h1 h2).mono h
 mx:=λx ms m r h1 h2=>(t.mx x ms m r h1 h2).mono h
 xd:=λx r h1=>(t.xd x r h1).mono h
def Qcg.ok{k:Nat}{E:DkT}{X:Cx}(t:Qcg X.prog X.w X.K X.mg X.base k E)(hr:Q3 (k+1) X.A):Qi3 X E where
 dc:=t.dc
 mv:=λx ms m r h1 h2=>⟨k,t.mv x ms m r h1 h2,hr.mono (Zae k)⟩
 mx:=λx ms m r h1 h2=>⟨k,t.mx x ms m r h1 h2,hr.mono (Zae k)⟩
 xd:=λx r h1=>⟨k,t.xd x r h1,hr.mono (Zae k)⟩
def QuP{CX:CXT}{xe:Value->Shared->Prop}{st:Stmt}{ps:List Str}{qual:Str}{f:Addr}{cdv:Value}{A:Around}{outer:List Env}{s:Shared}{H:Hp}{Ek:XK}{k n':Nat}{Γ:List (Str×FnR)}{cs:List (Str×Cn)}{T:ObT}{E:DkT}(p:Option Nat)(S:QZ (namesOf (Qd st)) ps (Qd st))(M:QaV mg cs)(tab:Qaj P w K mg base (k+1) Γ)(tabo:QcT P w K mg base k T)(tabd:Qcg P w K mg base k E)
  (hr:Q3 (k+1) (A.deeper (envOfC qual (Qd st) s.heap.objs.size f cdv))) (hp:PassesOwn (model P w) (A.deeper (envOfC qual (Qd st) s.heap.objs.size f cdv)) (envOfC qual (Qd st) s.heap.objs.size f cdv) xe):
  Qr ((Qbv CX P w K mg base (namesOf (Qd st)) qual (Qd st) f cdv A outer s H Ek).Qd7 xe) (thD n' (QaO st Γ cs) T E p):=
 QBs (QjJ S M tab hr hp) (QcT.ob (X:=(Qbv CX P w K mg base (namesOf (Qd st)) qual (Qd st) f cdv A outer s H Ek).Qd7 xe) tabo hr) (Qcg.ok (X:=(Qbv CX P w K mg base (namesOf (Qd st)) qual (Qd st) f cdv A outer s H Ek).Qd7 xe) tabd hr) p
def QzZ{x qual:Str}{st:Stmt}{f:Addr}{fd:FuncData}{ps:List Str}{k n n':Nat}{Γ:List (Str×FnR)}{cs:List (Str×Cn)}{T:ObT}{E:DkT}{g:DS}(F:Fun K x qual st f fd)(S:QZ (namesOf (Qd st)) ps (Qd st))(M:QaV mg cs)(tab:Qaj P w K mg base (k+1) Γ)(tabo:QcT P w K mg base k T)(tabd:Qcg P w K mg base k E)
  (hc:Q8 n (thD n' (QaO st Γ cs) T E none) (Qx st)=some g):Qag P w K mg base CX0 (k+2) f fd ps (spV K ps.length (Qm (namesOf (Qd st)).length g)):=by
 refine F.ok S (QgX rfl) λcdv A outer s H vs Q Ek hr h=>?_;obtain⟨ds,L,d,fr,rps,hl,hd,q⟩:=h;refine⟨_,(Qfy n).Ss _ _ _ g (QuP (P:=P) (w:=w) (K:=K) (base:=base) (CX:=CX0) (qual:=qual) (f:=f) (cdv:=cdv) (outer:=outer) (s:=s) (H:=H) (Ek:=Ek) none S M tab tabo tabd hr ZaR) hc H L,?_⟩;obtain⟨F0,rel⟩:=Qck (N:=namesOf (Qd st)) rps;unfold Qm at hd;refine Qf hd λo ho hd=>?_;refine⟨_,[],F0,o,rel,ho,?_⟩;cases o with
 | nx ρ=>
  cases hd;exact λU H' F' rel'=>q .non H' [] ⟨rel'.same,.Qdd,λa ha=>by simp at ha,λ_=>⟨ZT,rfl,λa ha=>by simp at ha⟩⟩
 | bk ρ=>cases hd
 | ct ρ=>cases hd
 | rt d' fr'=>
  cases hd;exact λv H' G r=>q v H' G r
def Qqy{h:Heap}{x:Str}{st:Stmt}{ps:List Str}{k n n':Nat}{Γ:List (Str×FnR)}{cs:List (Str×Cn)}{T:ObT}{E:DkT}{g:DS}(X:K.In h)(G:h.Ns mainGlobals mg)(F:Fact K x st)(S:QZ (namesOf (Qd st)) ps (Qd st))(B:QA x st ps)(M:QaV mg cs)(tab:Qaj P w K mg base (k+1) Γ)(tabo:QcT P w K mg base k T)(tabd:Qcg P w K mg base k E)
  (hc:Q8 n (thD n' (QaO st Γ cs) T E none) (Qx st)=some g):Known P w K mg base (k+2) x ⟨ps.length,[],Qm (namesOf (Qd st)).length g⟩:=by
 obtain⟨f,fd,Fn,a⟩:=F.ex;exact⟨f,fd,ps,QzZ Fn S M tab tabo tabd hc,ZM X G a,Fn.kp,λm hm=>⟨[],[],Fn.binds (B ·),.nil,λH=>by simp[Rps]⟩⟩
def QDb{c m qual:Str}{st:Stmt}{ps:List Str}{k n n':Nat}{Γ:List (Str×FnR)}{cs:List (Str×Cn)}{T:ObT}{E:DkT}{g:DS}(F:QhP K c m qual st)(S:QZ (namesOf (Qd st)) ps (Qd st))(B:Qhn m qual st ps)(M:QaV mg cs)(tab:Qaj P w K mg base (k+1) Γ)(tabo:QcT P w K mg base k T)(tabd:Qcg P w K mg base k E)
  (hc:Q8 n (thD n' (QaO st Γ cs) T E none) (Qx st)=some g):Qia P w K mg base (k+2) c m (ps.length,Qm (namesOf (Qd st)).length g):=by
 obtain⟨C,f,fd,c1,c2,c3,Fn⟩:=F.ex;exact⟨C,f,fd,ps,c1,c2,c3,QzZ Fn S M tab tabo tabd hc,Fn.binds (B ·),rfl⟩
def QBv{c m qual:Str}{st:Stmt}{ps:List Str}{k n n':Nat}{Γ:List (Str×FnR)}{cs:List (Str×Cn)}{T:ObT}{E:DkT}{g:DS}{den:Qh9}(F:QhP K c m qual st)(S:QZ (namesOf (Qd st)) ps (Qd st))(B:Qhn m qual st ps)(M:QaV mg cs)(tab:Qaj P w K mg base (k+1) Γ)(tabo:QcT P w K mg base k T)(tabd:Qcg P w K mg base k E)
  (hc:Q8 n (thD n' (QaO st Γ cs) T E (some 0)) (Qx st)=some g) (hU:UIO (namesOf (Qd st)).length 0 g den):QhZ P w K mg base (k+2) c m ⟨ps.length,0,den⟩:=by
 obtain⟨C,f,fd,c1,c2,c3,Fn⟩:=F.ex;exact⟨C,f,fd,ps,c1,c2,c3,QD8 Fn S (λcdv A outer s H Ek hr=>QuP (CX:=CX0) (some 0) S M tab tabo tabd hr ZaR) hc hU,Fn.binds (B ·)⟩
def QwS{x qual:Str}{st:Stmt}{f:Addr}{fd:FuncData}{ps:List Str}{k n n':Nat}{Γ:List (Str×FnR)}{Γx:List (Str×(Nat×(List D->Option Str)))}{cls:List Str}{cs:List (Str×Cn)}{T:ObT}{E:DkT}{g:DX}(F:Fun K x qual st f fd)(S:QZ (namesOf (Qd st)) ps (Qd st))(M:QaV mg cs)(tab:Qaj P w K mg base (k+1) Γ)(tabo:QcT P w K mg base k T)(tabd:Qcg P w K mg base k E)(tabx:QcO P w K mg base (k+1) Γx)
  (hcl:∀x∈cls,Qel K x) (hc:Qe7 (thD n' (QaO st Γ cs) T E none) ⟨Γx,cls⟩ E n (Qx st)=some g):Qag P w K mg base (CXR P w) (k+2) f fd ps (spX K ps.length (QF (namesOf (Qd st)).length g)):=by
 obtain⟨oc,od,kV,doc,pm,an,cdv,ct,osl,rfl,lk,hcd⟩:=F.ex;refine QlK lk hcd S (Qmk rfl) λA outer s H vs Q Ek hr hsp=>?_;obtain⟨ds,L,y,rps,hl,hd,hE⟩:=hsp;have ok:Qr (Qbv (CXR P w) P w K mg base (namesOf (Qd st)) qual (Qd st) f cdv A outer s H Ek) (thD n' (QaO st Γ cs) T E none):=QuP (CX:=CXR P w) (Ek:=Ek) none S M tab tabo tabd hr PassesOwn.leaving;have xk:XOk (Qbv (CXR P w) P w K mg base (namesOf (Qd st)) qual (Qd st) f cdv A outer s H Ek) ⟨Γx,cls⟩:=⟨rfl,rfl,rfl,λz r e=>by
  obtain⟨f',fd',ps',h1,h2,h3,h4,h5⟩:=tabx z r e;exact⟨k+1,f',fd',ps',h1,hr,h2,h3,h4,h5⟩,hcl⟩
 refine⟨_,Qgj ok xk (Qcg.ok (X:=Qbv (CXR P w) P w K mg base (namesOf (Qd st)) qual (Qd st) f cdv A outer s H Ek) tabd hr) n _ g hc H L,?_⟩;obtain⟨F0,rel⟩:=Qck (N:=namesOf (Qd st)) rps;obtain⟨⟨y',ρ'⟩,e1,e2⟩:=Zb.mp hd;cases e2;exact⟨_,[],F0,y',ρ',rel,e1,λC ea s' hC T=>Qf9 rfl rfl rfl rfl rfl rfl rfl T λH' sm=>hE C H' hC sm⟩
def Qcs{h:Heap}{x:Str}{st:Stmt}{ps:List Str}{k n n':Nat}{Γ:List (Str×FnR)}{Γx:List (Str×(Nat×(List D->Option Str)))}{cls:List Str}{cs:List (Str×Cn)}{T:ObT}{E:DkT}{g:DX}(X:K.In h)(G:h.Ns mainGlobals mg)(F:Fact K x st)(S:QZ (namesOf (Qd st)) ps (Qd st))(B:QA x st ps)(M:QaV mg cs)(tab:Qaj P w K mg base (k+1) Γ)(tabo:QcT P w K mg base k T)(tabd:Qcg P w K mg base k E)(tabx:QcO P w K mg base (k+1) Γx)
  (hcl:∀x∈cls,Qel K x) (hc:Qe7 (thD n' (QaO st Γ cs) T E none) ⟨Γx,cls⟩ E n (Qx st)=some g):Qe6 P w K mg base (k+2) x (ps.length,QF (namesOf (Qd st)).length g):=by
 obtain⟨f,fd,Fn,a⟩:=F.ex;exact⟨f,fd,ps,QwS Fn S M tab tabo tabd tabx hcl hc,ZM X G a,Fn.kp,Fn.binds (B ·),rfl⟩
def QCD{c m qual:Str}{st:Stmt}{ps:List Str}{k n n':Nat}{Γ:List (Str×FnR)}{Γx:List (Str×(Nat×(List D->Option Str)))}{cls:List Str}{cs:List (Str×Cn)}{T:ObT}{E:DkT}{g:DX}(F:QhP K c m qual st)(S:QZ (namesOf (Qd st)) ps (Qd st))(B:Qhn m qual st ps)(M:QaV mg cs)(tab:Qaj P w K mg base (k+1) Γ)(tabo:QcT P w K mg base k T)(tabd:Qcg P w K mg base k E)(tabx:QcO P w K mg base (k+1) Γx)
  (hcl:∀x∈cls,Qel K x) (hc:Qe7 (thD n' (QaO st Γ cs) T E none) ⟨Γx,cls⟩ E n (Qx st)=some g):Qjj P w K mg base (k+2) c m (ps.length,QF (namesOf (Qd st)).length g):=by
 obtain⟨C,f,fd,c1,c2,c3,Fn⟩:=F.ex;exact⟨C,f,fd,ps,c1,c2,c3,QwS Fn S M tab tabo tabd tabx hcl hc,Fn.binds (B ·),rfl⟩
def Qsf(w:World)(K:Fgg):List (Str×CdT)->Prop
 | []=>True
 | (x,kvs)::r=>Qmm w K x kvs/\Qsf w K r
def Qu4{T:List (Str×CdT)}:Qsf w K T->∀x kvs,look x T=some kvs->Qmm w K x kvs:=by
 induction T with
 | nil=>intro _ x kvs e;cases e
 | cons p r ih=>
  obtain⟨y,l⟩:=p;intro h x kvs e;unfold look at e;split at e
  .rename_i z;cases e;subst z;exact h.1
  .exact ih h.2 x kvs e
def Qo9(P:Program)(w:World)(K:Fgg)(mg:Str->Option Value)(base:Heap)(k:Nat)(x:Str):List (Str×(Nat×Den))->Prop
 | []=>True
 | (m,r)::t=>Qia P w K mg base k x m r/\Qo9 P w K mg base k x t
def Qoj(P:Program)(w:World)(K:Fgg)(mg:Str->Option Value)(base:Heap)(k:Nat):MvT->Prop
 | []=>True
 | (x,ms)::t=>Qo9 P w K mg base k x ms/\Qoj P w K mg base k t
def Qnj{k:Nat}{x:Str}:∀{ms:List (Str×(Nat×Den))},Qo9 P w K mg base k x ms->∀m r,look m ms=some r->Qia P w K mg base k x m r
 | [],_,m,r,e=>by cases e
 | (m',r')::t,h,m,r,e=>by
  unfold look at e;split at e
  .rename_i z;cases e;subst z;exact h.1
  .exact Qnj h.2 m r e
def Qn8{k:Nat}:∀{T:MvT},Qoj P w K mg base k T->∀x ms m r,look x T=some ms->look m ms=some r->Qia P w K mg base k x m r
 | [],_,x,ms,m,r,e,_=>by cases e
 | (x',ms')::t,h,x,ms,m,r,e,e2=>by
  unfold look at e;split at e
  .rename_i z;cases e;subst z;exact Qnj h.1 m r e2
  .exact Qn8 h.2 x ms m r e e2
def Qr5(P:Program)(w:World)(K:Fgg)(mg:Str->Option Value)(base:Heap)(k:Nat):List (Str×(Nat×List D×(List D->Option Str)))->Prop
 | []=>True
 | (x,r)::t=>Qh3 P w K mg base k x r/\Qr5 P w K mg base k t
def QoP{k:Nat}:∀{T:List (Str×(Nat×List D×(List D->Option Str)))},Qr5 P w K mg base k T->∀x r,look x T=some r->Qh3 P w K mg base k x r
 | [],_,m,r,e=>by cases e
 | (m',r')::t,h,m,r,e=>by
  unfold look at e;split at e
  .rename_i z;cases e;subst z;exact h.1
  .exact QoP h.2 m r e
def Qjt{h:Heap}{k:Nat}{E:DkT}(X:K.In h)(G:h.Ns mainGlobals mg)(h1:Qsf w K E.dc)(h2:Qoj P w K mg base k E.mv)(h3:Qps P w K mg base k E.mx)(h4:Qr5 P w K mg base k E.xd):Qcg P w K mg base k E where
 dc:=λx kvs e=>⟨Qu4 h1 x kvs e,λa ha=>ZM X G ha⟩
 mv:=Qn8 h2
 mx:=Qo6 h3
 xd:=QoP h4
end
end HS
namespace HS
open PySem L2
noncomputable def pairD(p:Int×Int):D:= .tup [.int p.1,.int p.2]
noncomputable def QvX(p:Int×Int×Bool):D:= .tup [.int p.1,.int p.2.1,.bl p.2.2]
noncomputable def QaD(ns:List Int):D:= .lst (ns.map .int)
def QL(ps:Lpp):D:= .lst (ps.map pairD)
def Qo(m:Int)(R L:Lpp):D:= .tup [.int m,QL R,QL L]
def Qda{α:Type}{f:α->D}(h:∀a,(f a).flat=true):∀l:List α,QY (l.map f)=true
 | []=>rfl
 | a::l=>by simp[QY,h a,Qda h l]
@[simp] theorem QEr(i:Int):(D.int i).flat=true:=rfl
@[simp] theorem QFc(i:Bool):(D.bl i).flat=true:=rfl
@[simp] theorem QEX:D.non.flat=true:=rfl
@[simp] theorem QEz(x:Str):(D.str x).flat=true:=rfl
@[simp] theorem QEN(xs:List D):(D.lst xs).flat=false:=rfl
@[simp] theorem QEm(xs:List D):(D.tup xs).flat=QY xs:=rfl
@[simp] theorem QEe:QY []=true:=rfl
@[simp] theorem QDr(d:D)(ds:List D):QY (d::ds)=(d.flat && QY ds):=rfl
@[simp] theorem QEg(p:Int×Int):(pairD p).flat=true:=rfl
@[simp] theorem QEs(p:Int×Int×Bool):(QvX p).flat=true:=rfl
@[simp] theorem QEf(ns:List Int):(QaD ns).flat=false:=rfl
@[simp] theorem QC7(ns:Lpp):(QL ns).flat=false:=rfl
@[simp] theorem QCI(ps:Lpp):QY (ps.map pairD)=true:=Qda (λ_=>rfl) _
@[simp] theorem QD2(ps:List (Int×Int×Bool)):QY (ps.map QvX)=true:=Qda (λ_=>rfl) _
@[simp] theorem QrS(ns:List Int):QY (ns.map .int)=true:=Qda (λ_=>rfl) _
@[simp] theorem QEc(xs ys:List D):QY (xs++ys)=(QY xs && QY ys):=QfW xs ys
def Run(f:DS)(ρ:En)(Q:Out->Prop):Prop:=∃o,f ρ=some o/\Q o
def Nx(Q:En->Prop):Out->Prop
 | .nx ρ=>Q ρ
 | _=>False
def Rt(Q:D->Bool->Prop):Out->Prop
 | .rt d fr=>Q d fr
 | _=>False
def Run.mono(h:Run f ρ Q)(m:∀o,Q o->Q' o):Run f ρ Q':=let ⟨o,h1,h2⟩:=h;⟨o,h1,m o h2⟩
def QB(h:Q (.nx ρ)):Run Qe ρ Q:=⟨_,rfl,h⟩
def run_seq(h:Run f ρ (Nx λρ'=>Run g ρ' Q)):Run (Qc f g) ρ Q:=by
 obtain⟨o,h1,h2⟩:=h;cases o with
 | nx ρ'=>
  obtain⟨o',h3,h4⟩:=h2;exact⟨o',by simp[Qc,h1,h3],h4⟩
 | _=>exact False.elim h2
def QdT(h:Run f ρ λo=>match o with | .nx ρ'=>Run g ρ' Q | o=>Q o):Run (Qc f g) ρ Q:=by
 obtain⟨o,h1,h2⟩:=h;cases o with
 | nx ρ'=>
  obtain⟨o',h3,h4⟩:=h2;exact⟨o',by simp[Qc,h1,h3],h4⟩
 | bk ρ'=>exact⟨_,by simp[Qc,h1],h2⟩
 | ct ρ'=>exact⟨_,by simp[Qc,h1],h2⟩
 | rt d fr=>exact⟨_,by simp[Qc,h1],h2⟩
def Qar(h:fa ρ=some r)(q:Q (.nx (asg i r ρ))):Run (Qq i fa) ρ Q:=⟨_,by simp[Qq,h],q⟩
def QqR(h:fa ρ=some r)(q:Q (.rt r.d (r.norm.fr && decide r.norm.M.Nodup))):Run (QJ fa) ρ Q:=⟨_,by simp[QJ,h],q⟩
def QaH(h:g ρ=some b)(q1:b=true->Run f1 ρ Q)(q2:b=false->Run f2 ρ Q):Run (sIf g f1 f2) ρ Q:=by
 cases b with
 | true=>obtain⟨o,h1,h2⟩:=q1 rfl;exact⟨o,by simp[sIf,h,h1],h2⟩
 | false=>obtain⟨o,h1,h2⟩:=q2 rfl;exact⟨o,by simp[sIf,h,h1],h2⟩
def QbU(h:Run f (QaF k ds) (Rt λd' fr'=>d'=d/\fr'=fr)):Qm k f ds=some (d,fr):=by
 obtain⟨o,h1,h2⟩:=h;unfold Qm;cases o with
 | rt d' fr'=>obtain⟨rfl,rfl⟩:=h2;rw[h1];rfl
 | _=>exact False.elim h2
def Qoh{α:Type}{t:Tg}{fb:DS}{toD:α->D}{Q:Out->Prop}(I:Nat->En->Prop):∀(xs ys:List α) (ρ:En),I ys.length ρ→
  (∀i x ρ,(ys++xs)[i]? =some x->ys.length<=i->I i ρ->∃ρ1,Qbe t (toD x) ρ=some ρ1/\Run fb ρ1 λo=>match o with | .nx ρ2=>I (i+1) ρ2 | .ct ρ2=>I (i+1) ρ2 | .bk ρ2=>Q (.nx ρ2) | .rt d fr=>Q (.rt d fr))→
  (∀ρ,I (ys++xs).length ρ->Q (.nx ρ))->Run (Qdi t fb (xs.map toD)) ρ Q
 | [],ys,ρ,h0,_,fin=>⟨_,rfl,fin ρ (by simpa using h0)⟩
 | x::xs,ys,ρ,h0,turn,fin=>by
  obtain⟨ρ1,h1,o,h2,h3⟩:=turn ys.length x ρ ⋯ (Zi _) h0;have next:∀ρ2,I (ys.length+1) ρ2->Run (Qdi t fb (xs.map toD)) ρ2 Q:=λρ2 hi=>
   Qoh I xs (ys++[x]) ρ2 (by simpa using hi) (λi y ρ' e hl=>turn i y ρ' (by simpa using e) (by simp at hl;lia)) (λρ' h=>fin ρ' (by simpa using h))
  cases o with
  | nx ρ2=>obtain⟨o',e1,e2⟩:=next ρ2 h3;exact⟨o',by simp[Qdi,h1,h2,e1],e2⟩
  | ct ρ2=>obtain⟨o',e1,e2⟩:=next ρ2 h3;exact⟨o',by simp[Qdi,h1,h2,e1],e2⟩
  | bk ρ2=>exact⟨_,by simp[Qdi,h1,h2],h3⟩
  | rt d fr=>exact⟨_,by simp[Qdi,h1,h2],h3⟩
def Qdt{α:Type}{fi:DI}{t:Tg}{fb:DS}{toD:α->D}{ρ:En}{ir:IR}{Q:Out->Prop}(xs:List α)(I:Nat->En->Prop)(h:fi ρ=some ir)(hx:ir.items=xs.map toD)(h0:I 0 (Qce ir.M ρ))
  (turn:∀i x ρ,xs[i]? =some x->I i ρ->∃ρ1,Qbe t (toD x) ρ=some ρ1/\Run fb ρ1 λo=>match o with | .nx ρ2=>I (i+1) ρ2 | .ct ρ2=>I (i+1) ρ2 | .bk ρ2=>Q (.nx ρ2) | .rt d fr=>Q (.rt d fr))
  (fin:∀ρ,I xs.length ρ->Q (.nx ρ)):Run (Qay fi t fb) ρ Q:=by
 obtain⟨o,h1,h2⟩:=Qoh (t:=t) (fb:=fb) (toD:=toD) (Q:=Q) I xs [] (Qce ir.M ρ) h0 (λi x ρ e _=>turn i x ρ (by simpa using e)) (λρ h=>fin ρ (by simpa using h));exact⟨o,by simp[Qay,h,hx,h1],h2⟩
def Qm7{α:Type}{t:Tg}{ft:DT}{fe:DE}{ρc:En}{toD:α->D}{keep:α->Bool}{out:α->D}:∀(xs:List α) (acc:List D),
  (∀x∈xs,∃ρ1,Qbe t (toD x) ρc=some ρ1/\ft ρ1=some (keep x)/\(keep x=true->∃r,fe ρ1=some r/\r.d=out x/\r.norm.fr=true))→
  (xs.map toD).foldlM (Qft t ft fe ρc) (acc,true)=some (acc++(xs.filter keep).map out,true)
 | [],acc,_=>by simp
 | x::xs,acc,h=>by
  obtain⟨ρ1,h1,h2,h3⟩:=h x Zf;have ih:=λacc=>Qm7 xs acc (λy hy=>h y (Zc _ hy));cases hk:keep x with
  | false=>
   have e:Qft t ft fe ρc (acc,true) (toD x)=some (acc,true):=by simp[Qft,h1,h2,hk]
   simp[Zbf,e,ih,hk]
  | true=>
   obtain⟨r,h4,h5,h6⟩:=h3 hk;have e:Qft t ft fe ρc (acc,true) (toD x)=some (acc++[out x],true):=by simp[Qft,h1,h2,hk,h4,h5,h6]
   simp[Zbf,e,ih,hk]
def QjE{α:Type}{fi:DI}{t:Tg}{cap:List (Option Nat)}{ft:DT}{fe:DE}{ρ:En}{ir:IR}{toD:α->D}{keep:α->Bool}{out:α->D}(xs:List α)(h:fi ρ=some ir)(hx:ir.items=xs.map toD)
  (turn:∀x∈xs,∃ρ1,Qbe t (toD x) (Qbx cap ρ)=some ρ1/\ft ρ1=some (keep x)/\(keep x=true->∃r,fe ρ1=some r/\r.d=out x/\r.norm.fr=true)):
  Qw fi t cap ft fe ρ=some ⟨.lst ((xs.filter keep).map out),true,[]⟩:=by
 unfold Qw;rw[h,Za,hx,Qm7 xs [] turn];simp
def Qb5{α:Type}{fi:DI}{t:Tg}{cap:List (Option Nat)}{fe:DE}{ρ:En}{ir:IR}{toD:α->D}{out:α->D}(xs:List α)(h:fi ρ=some ir)(hx:ir.items=xs.map toD)
  (turn:∀x∈xs,∃ρ1,Qbe t (toD x) (Qbx cap ρ)=some ρ1/\∃r,fe ρ1=some r/\r.d=out x/\r.norm.fr=true):
  Qw fi t cap QO fe ρ=some ⟨.lst (xs.map out),true,[]⟩:=by
 have:=QjE (keep:=λ_=>true) (ft:=QO) xs h hx (cap:=cap) (t:=t) (fe:=fe) (out:=out) λx hx=>by
  obtain⟨ρ1,h1,h2⟩:=turn x hx;exact⟨ρ1,h1,rfl,λ_=>h2⟩
 rw[this,List.filter_eq_self.mpr λ_ _=>rfl]
@[simp] theorem QFa(d:D):R.norm ⟨d,true,[]⟩=⟨d,true,[]⟩:=by unfold R.norm;split<;>rfl
@[simp] theorem QcD(i:Nat)(d:D)(ρ:En):asg i ⟨d,true,[]⟩ ρ=ρ.set i (some (d,true)):=by unfold asg;simp[kill]
def rsa{i:Nat}{fa:DE}{g:DS}{ρ:En}{d:D}{Q:Out->Prop}(h:fa ρ=some ⟨d,true,[]⟩)(q:Run g (ρ.set i (some (d,true))) Q):Run (Qc (Qq i fa) g) ρ Q:=run_seq (Qar h (by rw[QcD];exact q))
def Qwh{n k k1:Nat}(h:(List.range n)[k]? =some k1):k<n/\k=k1:=by
 obtain⟨h1,h2⟩:=Zm.mp h;simp at h1 h2;exact⟨h1,h2⟩
def QuM{i:Nat}{d:D}{fr:Bool}{M:List Nat}{ρ:En}(h:d.flat=true):asg i ⟨d,fr,M⟩ ρ=ρ.set i (some (d,true)):=by
 unfold asg R.norm;simp[h,kill]
def QcZ{i:Nat}{ρ:En}{d:D}{b:Bool}(h:ρ[i]? =some (some (d,b))):Qn i ρ=some (if d.flat then⟨d,true,[]⟩else if b then⟨d,true,[i]⟩else⟨d,false,[]⟩):=by
 unfold Qn;rw[h];dsimp only;split
 .simp_all
 .split<;>simp_all
@[simp] theorem QvJ(d:D)(ρ:En):dC d ρ=some ⟨d,true,[]⟩:=rfl
def Qai{g:D->D->Option D}{fa fb:DE}{ρ:En}{ra rb:R}{d:D}(ha:fa ρ=some ra)(hb:fb ρ=some rb)(h:g ra.d rb.d=some d):dOp g fa fb ρ=some ⟨d,true,[]⟩:=by simp[dOp,ha,hb,h]
def QD{fa:DE}{fs:DA}{ρ:En}{r:R}{rs:RA}(ha:fa ρ=some r)(hs:fs ρ=some rs):Qa fa fs ρ=some ⟨r.d::rs.ds,r.fr && rs.fr,r.M++rs.M⟩:=by simp[Qa,ha,hs]
@[simp] theorem Qat(ρ:En):Qb ρ=some ⟨[],true,[]⟩:=rfl
def vf(d:D)(b:Bool)(i:Nat):R:=if d.flat then⟨d,true,[]⟩else if b then⟨d,true,[i]⟩else⟨d,false,[]⟩
@[simp] theorem QFf(d:D)(b:Bool)(i:Nat):(vf d b i).d=d:=by unfold vf;split;rfl;split<;>rfl
@[simp] theorem Qvx(i j:Int)(h:0<=j):Qi7 i j=i % j:=by unfold Qi7;rw[if_pos h]
@[simp] theorem QEY(i j:Int)(h:0<=j):Qkq i j=i / j:=by unfold Qkq;rw[if_pos h]
def Qme{i j:Int}(h:j.natAbs<2^64):QhG i j=true:=by unfold QhG;simp[h]
def QnX:(sizeLine:Nat)=16777216:=sizeLine_eq
noncomputable def Qu(m:Nat)(f:Mt1):D:= .lst ((List.range m).map λi=> .int (f i))
def QbL(m n:Nat)(f:Mt2):D:= .lst ((List.range m).map λi=>Qu n (f i))
@[simp] theorem QEH(m:Nat)(f:Mt1):(Qu m f).flat=false:=rfl
@[simp] theorem QEj(m n:Nat)(f:Mt2):(QbL m n f).flat=false:=rfl
@[simp] theorem QEh(m:Nat)(f:Mt1):QY ((List.range m).map λi=>D.int (f i))=true:=Qda (f:=λi=>D.int (f i)) (λ_=>rfl) _
noncomputable def up(f:Mt1)(i:Nat)(v:Int):Nat->Int:=λj=>if j=i then v else f j
def up2(f:Mt2)(i j:Nat)(v:Int):Nat->Nat->Int:=λk=>if k=i then up (f k) j v else f k
def Qjo{n:Nat}{i:Int}(h0:0<=i)(h:i<n):ixN n i=some i.toNat:=by
 unfold ixN;rw[if_pos ⋯,if_pos ⋯]
def Ql6{α:Type}{xs:List α}{i:Int}(h0:0<=i)(h:i<xs.length):atI xs i=xs[i.toNat]? :=by
 unfold atI;rw[Qjo h0 h];rfl
def Qfa{α:Type}{m:Nat}{f:Nat->α}{i:Nat}{v:α}:((List.range m).map f).set i v=(List.range m).map λj=>if j=i then v else f j:=by
 apply List.ext_getElem?;intro k;rw[List.getElem?_set];simp only[Zt,Zas,Zw];by_cases hk:k<m
 .rw[Zak hk];by_cases e:i=k
  .subst e;simp[hk]
  .simp[e,Ne.symm e]
 .rw[ZA (by simp;lia)];by_cases e:i=k
  .subst e;simp[hk]
  .simp[e]
def QxZ{m:Nat}{f:Mt1}{i:Nat}{v:Int}:((List.range m).map λj=>D.int (f j)).set i (.int v)=(List.range m).map λj=>D.int (up f i v j):=by
 rw[Qfa];congr 1;funext j;unfold up;split<;>rfl
def QqM{m:Nat}{f:Mt1}{i:Int}(h0:0<=i)(h:i<m):atI ((List.range m).map λj=>D.int (f j)) i=some (.int (f i.toNat)):=by
 rw[Ql6 h0 (by simpa using h),Zw,Zak ⋯];rfl
def Qq2{m n:Nat}{f:Mt2}{i:Int}(h0:0<=i)(h:i<m):atI ((List.range m).map λj=>Qu n (f j)) i=some (Qu n (f i.toNat)):=by
 rw[Ql6 h0 (by simpa using h),Zw,Zak ⋯];rfl
def Qpj{g:D->D->Option D}{x m n:Nat}{f:Mt2}{fp fi fa:DE}{ρ:En}{i j w:Int}{rp ri ra:R}{Q:Out->Prop}(hx:ρ[x]? =some (slT (QbL m n f)))(hp:fp ρ=some rp)(ep:rp.d= .int i)(hi:fi ρ=some ri)(ei:ri.d= .int j)(ha:fa ρ=some ra)
  (h0:0<=i) (h:i<m) (k0:0<=j) (k:j<n) (hg:g (.int (f i.toNat j.toNat)) ra.d=some (.int w)) (q:Q (.nx (ρ.set x (slT (QbL m n (up2 f i.toNat j.toNat w)))))):Run (Qgf g x (QjP Qau fp) fi fa) ρ Q:=by
 refine⟨_,?_,q⟩;have hj:((List.range n).map λk=>D.int (f i.toNat k))[j.toNat]? =some (.int (f i.toNat j.toNat)):=by rw[Zw,Zak ⋯];rfl
 have hd:Qds (QbL m n f) [i]=some (Qu n (f i.toNat)):=by
  simp only[Qds,QbL,D.items,Za,Qq2 h0 h]
 have hu:QbK [i] (QbL m n f) (.lst (((List.range n).map λk=>D.int (f i.toNat k)).set j.toNat (.int w)))=QbL m n (up2 f i.toNat j.toNat w):=by
  simp only[QbK,QbL,Zt,Zas,Qjo h0 h,QxZ];rw[Qfa];congr 2;funext k;unfold up2;split
  .rename_i e;subst e;rfl
  .rfl
 unfold Qgf;rw[hx];simp only[QjP,Qau,Za,hp,ep,ZaP,hi,ei,hd,Qu,Zt,Zas,Qjo k0 k,hj,ha,hg,ZD];rw[hu]
def Qh0{n:Nat}(h:fa ρ=some r)(e:r.d= .int n)(hn:n<=16777216):Qas fa ρ=some ⟨(List.range n).map λ(k:Nat)=> .int (k:Int),[]⟩:=by
 unfold Qas;rw[h,Za,e];dsimp only;rw[if_pos ⟨⋯,⋯⟩];simp[Qjh]
def Qmv{α:Type}(x:α):∀n:Nat,(List.replicate n [x]).flatten=(List.range n).map λ_=>x
 | 0=>rfl
 | n+1=>by
  rw[ZW,Zab,Qmv x n,List.range_succ_eq_map,Zz,ZZ];rfl
def QCh{n:Nat}(h:fb ρ=some r)(e:r.d= .int n)(hn:n<=16777216):Qbq (QI (Qa (dC (.int z)) Qb)) fb ρ=some (reT (Qu n (λ_=>z))):=by
 have h1:QI (Qa (dC (.int z)) Qb) ρ=some (reT (.lst [.int z])):=rfl;unfold Qbq;rw[h1,Za,h,Za,e];dsimp only;rw[if_pos ⟨by simp[QnX];lia,⋯,⋯,rfl⟩];simp only[Zaa,Qmv];rfl
def QgV:DS:=(Qc (Qq 2 (Qw (QH vv0) (.tp [1,2]) [none,none,none] QO (Q7 (Qa vv1 (Qa vv2 Qb))))) (Qc (Qq 3 (Qw (QH vv0) (.tp [1,2]) [none,none,none] QO (Q7 (Qa vv2 (Qa vv1 Qb))))) (Qc (QJ (QC (QC vv2 vv3) (dList (Qa vv1 Qb)))) Qe)))
def Qmz(ha:fa ρ=some ra)(ea:ra.d=QL A)(hb:fb ρ=some rb)(eb:rb.d=QL B)(hl:A.length+B.length<=16777216):QC fa fb ρ=some (reT (QL (A++B))):=by
 unfold QC;rw[ha,Za,hb,Za,ea,eb];simp only[QL,Zt,QnX,if_pos hl,Qbh];simp
def QwH(h:fs ρ=some rs)(e:rs.ds=[QL A])(_:True=True):dList fs ρ=some (reT (QL A)):=by
 unfold dList;rw[h,Za,e];simp[QL,Qbh]
def QaN(h:fa ρ=some r)(q:Q r.d (r.norm.fr && decide r.norm.M.Nodup)):Run (Qc (QJ fa) g) ρ (Rt Q):=QdT (QqR h q)
def QsR{R L:Lpp}(hl:R.length+R.length+L.length<=16777216):Qm 4 QgV [QL R,QL L]=slT (QL (R++R.map Prod.swap++L)):=by
 refine QbU ?_;refine run_seq (Qar (Qb5 R rfl rfl λx _=>⟨[none,slI x.1,slI x.2],rfl,⟨pairD x,true,[]⟩,rfl,rfl,rfl⟩) ?_);refine run_seq (Qar (Qb5 R rfl rfl λx _=>⟨[none,slI x.1,slI x.2],rfl,⟨pairD x.swap,true,[]⟩,rfl,rfl,rfl⟩) ?_);have e1:(R.map λx=>pairD x.swap)=(R.map Prod.swap).map pairD:=by simp[ZZ,Function.comp_def]
 rw[e1];exact QaN (Qmz (Qmz rfl rfl rfl rfl (by simpa using(by lia:R.length+R.length<=16777216))) rfl (QwH rfl rfl rfl) rfl (by simpa using hl)) ⟨rfl,rfl⟩
def Q0(h:fs ρ=some r)(hd:den (r.ds++dfl)=some (d,true))(hl:r.ds.length+dfl.length=n):Ql n den dfl fs ρ=some ⟨d,true,[]⟩:=by
 unfold Ql;rw[h,Za,if_pos hl,hd];simp
def QbQ(h:fa ρ=some r)(e:r.d= .lst xs):QH fa ρ=some ⟨xs,r.M⟩:=by
 unfold QH;rw[h,Za,e]
def stepT(m:Nat)(f:Mt2)(s:Int×Int):Nat->Nat->Int:=
 let f1:=if s.1<m then up2 f s.1.toNat s.1.toNat (f s.1.toNat s.1.toNat-1)else f
 if s.1<m/\s.2<m then up2 f1 s.1.toNat s.2.toNat (f1 s.1.toNat s.2.toNat+1)else f1
def QaE(m:Nat)(S:Lpp):Nat->Nat->Int:=S.foldl (stepT m) λ_ _=>0
def Qd5(Qcj:Den):DS:=(Qc (Qq 1 (Qbg (Qj vv0 kk0))) (Qc (Qq 2 (Qw (Qas vv1) (.nm 1) [none,none,some 1] QO (Qbq (QI (Qa kk0 Qb)) vv2))) (Qc (Qay (QH (Ql 2 Qcj [] (Qa (Qj vv0 kk1) (Qa (Qj vv0 kk2) Qb)))) (.tp [3,4]) (Qc (sIf (Qg (dOp gLt vv3 vv1)) (Qc (Qgf QdB 2 (QjP Qau vv3) vv3 kk1) Qe) Qe) (Qc (sIf (Qdf (Qg (dOp gLt vv3 vv1)) (Qg (dOp gLt vv4 vv1))) (Qc (Qgf (gI λi j=>some (.int (i+j))) 2 (QjP Qau vv3) vv4 kk1) Qe) Qe) Qe))) (Qc (QJ vv2) Qe))))
def Qwg{Qcj:Den}{m:Nat}{R L S:Lpp}(hm:m<=16777216)(hs:Qcj [QL R,QL L]=slT (QL S))(hS:∀s∈S,0<=s.1/\0<=s.2):Qm 5 (Qd5 Qcj) [Qo m R L]=slT (QbL m m (QaE m S)):=by
 refine QbU ?_;refine run_seq (Qar rfl ?_);refine run_seq (Qar (Qb5 (List.range m) (Qh0 rfl rfl hm) rfl λx _=>⟨[none,slI x,slI m],rfl,_,QCh rfl rfl hm,rfl,rfl⟩) ?_);refine run_seq (Qdt S (λi ρ=>∃j1 j2,ρ=[slF (Qo m R L),slI m,slT (QbL m m (QaE m (S.take i))),j1,j2]) (ir:=⟨S.map pairD,[]⟩) ?_ rfl ⟨none,none,rfl⟩ ?_ ?_)
 .exact QbQ (Q0 (r:=⟨[QL R,QL L],false,[]⟩) rfl hs rfl) rfl
 .rintro i s ρ hi ⟨j1,j2,rfl⟩;refine⟨_,rfl,?_⟩;obtain⟨s1,s2⟩:=hS s (Zah hi);refine run_seq (Run.mono (Q:=Nx λρ=>ρ=[slF (Qo m R L),slI m,slT (QbL m m (if s.1<m then up2 (QaE m (S.take i)) s.1.toNat s.1.toNat (QaE m (S.take i) s.1.toNat s.1.toNat-1)else QaE m (S.take i))),slI s.1,slI s.2]) ?_ ?_)
  .refine QaH rfl (λh=>?_) (λh=>?_)
   .have h:=of_decide_eq_true h;rw[if_pos h];exact run_seq (Qpj rfl rfl rfl rfl rfl rfl s1 h s1 h rfl (QB rfl))
   .have h:=of_decide_eq_false h;rw[if_neg h];exact QB rfl
  .intro o ho;cases o with
   | nx ρ=>
    subst ho;have fin:QaE m (S.take (i+1))=stepT m (QaE m (S.take i)) s:=by
     unfold QaE;rw[List.take_add_one,hi,List.foldl_append];rfl
    refine run_seq (Run.mono (Q:=Nx λρ=>ρ=[slF (Qo m R L),slI m,slT (QbL m m (stepT m (QaE m (S.take i)) s)),slI s.1,slI s.2]) ?_ ?_)
    .refine QaH (b:=decide (s.1<m/\s.2<m)) ?_ (λh=>?_) (λh=>?_)
     .by_cases h:s.1<(m:Int)
      .simp[Qdf,Qg,dOp,Qn,gLt,gI,D.tru,h]
      .simp[Qdf,Qg,dOp,Qn,gLt,gI,D.tru,h]
     .have h:=of_decide_eq_true h;refine run_seq (Qpj rfl rfl rfl rfl rfl rfl s1 h.1 s2 h.2 rfl (QB ?_));unfold stepT;rw[if_pos h];rfl
     .have h:=of_decide_eq_false h;refine QB ?_;unfold stepT;rw[if_neg h];rfl
    .intro o ho;cases o with
     | nx ρ=>
      subst ho;exact QB ⟨_,_,by rw[fin]⟩
     | _=>exact False.elim ho
   | _=>exact False.elim ho
 .rintro ρ ⟨j1,j2,rfl⟩;rw[Zbi];exact QaN rfl ⟨rfl,rfl⟩
noncomputable def hit(i j:Nat)(s:Int×Int):Int:=(if s.1=i/\s.2=j then 1 else 0)-(if s.1=i/\i=j then 1 else 0)
def QqH:up2 f a b v i j=if i=a/\j=b then v else f i j:=by
 unfold up2 up;by_cases h1:i=a
 .by_cases h2:j=b
  .simp[h1,h2]
  .simp[h1,h2]
 .simp[h1]
def QtT(hi:i<m)(hj:j<m)(h1:0<=s.1)(h2:0<=s.2):stepT m f s i j=f i j+hit i j s:=by
 unfold stepT hit;have e1:(s.1=(i:Int))↔(i=s.1.toNat):= ⋯
 have e2:(s.2=(j:Int))↔(j=s.2.toNat):= ⋯
 simp only[e1,e2];by_cases c1:s.1<(m:Int)
 .by_cases c2:s.2<(m:Int)
  .simp only[c1,c2,and_self,if_true,QqH];generalize s.1.toNat=a;generalize s.2.toNat=b;by_cases d1:i=a
   .subst d1;by_cases d2:j=b
    .subst d2;by_cases d3:i=j
     .subst d3;simp
     .have d4:¬j=i:=λz=>d3 z.symm;simp[d3,d4]
    .by_cases d3:i=j
     .subst d3;simp[d2];lia
     .have d4:¬j=i:=λz=>d3 z.symm;simp[d2,d3,d4]
   .simp[d1]
  .have d2:¬(j=s.2.toNat):= ⋯
   simp only[c1,c2,and_false,if_false,if_true,QqH,d2];generalize s.1.toNat=a;by_cases d1:i=a
   .subst d1;by_cases d3:i=j
    .subst d3;simp;lia
    .have d4:¬j=i:=λz=>d3 z.symm;simp[d3,d4]
   .simp[d1]
 .have d1:¬(i=s.1.toNat):= ⋯
  simp[c1,d1]
def Qnh(hi:i<m)(hj:j<m):∀(S:Lpp) (f:Mt2),(∀s∈S,0<=s.1/\0<=s.2)->S.foldl (stepT m) f i j=f i j+(S.map (hit i j)).sum
 | [],f,_=>by simp
 | s::S,f,h=>by
  obtain⟨h1,h2⟩:=h s Zf;rw[List.foldl_cons,Qnh hi hj S _ (λt ht=>h t (Zc _ ht)),QtT hi hj h1 h2,Zz,ZaC];lia
def QuK(hi:i<m)(hj:j<m)(h:∀s∈S,0<=s.1/\0<=s.2):QaE m S i j=(S.map (hit i j)).sum:=by
 unfold QaE;rw[Qnh hi hj S _ h];simp
noncomputable def isI(i:Nat)(a:Int):Int:=if a=i then 1 else 0
def QbZ(R L:Lpp)(i:Nat):Int:=(R.map λr=>isI i r.1+isI i r.2).sum+(L.map λl=>isI i l.1).sum
def sum_neg(S:Lpp)(i:Nat)(h:∀s∈S,s.1≠s.2):(S.map (hit i i)).sum= -(S.map λs=>isI i s.1).sum:=by
 induction S with
 | nil=>rfl
 | cons s S ih=>
  rw[Zz,ZaC,ih λt ht=>h t (Zc _ ht),Zz,ZaC];have hn:=h s Zf;unfold hit isI;by_cases e:s.1=(i:Int)
  .have:¬(s.2=(i:Int)):=λz=>hn (e.trans z.symm);simp[e,this];lia
  .simp[e]
noncomputable def Qa2(R L:Lpp):List (Int×Int):=R++R.map Prod.swap++L
def QsT(R L:Lpp)(i:Nat):((Qa2 R L).map λs=>isI i s.1).sum=QbZ R L i:=by
 unfold Qa2 QbZ;rw[Zai,Zai,List.sum_append_int,List.sum_append_int];have:(R.map λr=>isI i r.1+isI i r.2).sum=(R.map λs=>isI i s.1).sum+((R.map Prod.swap).map λs=>isI i s.1).sum:=by
  induction R with
  | nil=>rfl
  | cons r R ih=>simp only[Zz,ZaC,ih,Prod.fst_swap];lia
 lia
def Good(m:Nat)(s:Int×Int):Prop:=0<=s.1/\0<=s.2/\s.1<=m/\s.2<=m/\s.1≠s.2
def Qk1{m:Nat}{R L:Lpp}(hR:∀s∈R,Good m s)(hL:∀s∈L,Good m s):∀s∈Qa2 R L,Good m s:=λs hs=>by
 unfold Qa2 at hs;rcases Zx.mp hs with hs | hs
 .rcases Zx.mp hs with hs | hs
  .exact hR s hs
  .obtain⟨t,ht,rfl⟩:=Zag.mp hs;obtain⟨h1,h2,h3,h4,h5⟩:=hR t ht;exact⟨h2,h1,h4,h3,λz=>h5 z.symm⟩
 .exact hL s hs
def Qi5(d:Den):Prop:=∀(m:Nat) (R L:Lpp),m<=1000->R.length+R.length+L.length<=1000000->(∀s∈R,Good m s)->(∀s∈L,Good m s)->d [Qo m R L]=some (QbL m m (QaE m (Qa2 R L)),true)
def QxR:Qi5 (Qm 5 (Qd5 (Qm 4 QgV))):=λm R L hm hl hR hL=>by
 refine Qwg ⋯ (QsR ⋯) λs hs=>?_;obtain⟨h1,h2,_⟩:=Qk1 hR hL s hs;exact⟨h1,h2⟩
def QeK(QN:Den):DS:=(Qc (QJ (Qw (Qdh (Ql 1 QN [] (Qa vv0 Qb))) (.tp [1,2]) [none,none,none] QO (dOp QdB kk0 (Qj vv2 vv1)))) Qe)
def QrO{α:Type}(m:Nat)(f:Nat->D):Qfo ((List.range m).map f)=(List.range m).map λi=> .tup [.int i,f i]:=by
 apply List.ext_getElem?;intro k;unfold Qfo;simp only[Zw,List.getElem?_zipIdx,Nat.zero_add];by_cases hk:k<m
 .rw[Zak hk];rfl
 .rw[ZA (by simp;lia)];rfl
def Qwq{d:Den}(hd:Qi5 d){m:Nat}{R L:Lpp}(hm:m<=1000)(hl:R.length+R.length+L.length<=1000000)(hR:∀s∈R,Good m s)(hL:∀s∈L,Good m s):Qm 1 (QeK d) [Qo m R L]=slT (Qu m (QbZ R L)):=by
 refine QbU ?_;refine QaN (Qb5 (toD:=λ(i:Nat)=> .tup [.int i,Qu m (QaE m (Qa2 R L) i)]) (out:=λ(i:Nat)=> .int (QbZ R L i)) (ir:=⟨Qfo ((List.range m).map λi=>Qu m (QaE m (Qa2 R L) i)),[]⟩) (List.range m) ?_ ?_ λi hi=>?_) ⟨rfl,rfl⟩
 .unfold Qdh;rw[Q0 (n:=1) (fs:=Qa (Qn 0) Qb) (ρ:=QaF 1 [Qo m R L]) (dfl:=[]) (r:=⟨[Qo m R L],false,[]⟩) rfl (hd m R L hm hl hR hL) rfl];rfl
 .exact QrO (α:=Nat) m _
 .have hi:=Zal.mp hi;refine⟨[none,slI i,slF (Qu m (QaE m (Qa2 R L) i))],rfl,reI (0-QaE m (Qa2 R L) i i),?_,?_,rfl⟩
  .have e:Qj (Qn 2) (Qn 1) [none,slI (i:Int),slF (Qu m (QaE m (Qa2 R L) i))]=some (reI (QaE m (Qa2 R L) i i)):=by
    show((D.items (Qu m (QaE m (Qa2 R L) i))).bind λxs=>(atI xs (i:Int)).map λd=>(HS.R.norm ⟨d,false,[]⟩))=_;unfold Qu;rw[show D.items (.lst ((List.range m).map λj=>D.int (QaE m (Qa2 R L) i j)))=some ((List.range m).map λj=>D.int (QaE m (Qa2 R L) i j))from rfl,Za,QqM ⋯ ⋯];rfl
   exact Qai (rfl) e rfl
  .have g:=Qk1 hR hL;rw[QuK hi hi λs hs=>⟨(g s hs).1,(g s hs).2.1⟩,sum_neg _ i λs hs=>(g s hs).2.2.2.2,QsT];show D.int (0- -(QbZ R L i))=_;rw[show(0:Int)- -(QbZ R L i)=QbZ R L i by lia]
def Qma(a b:Int):deq (.int a) (.int b)=decide (a=b):=by
 show PyData.eqv (.int a) (.int b)=_;unfold PyData.eqv;exact Bool.beq_eq_decide_eq a b
def Qhc(ha:fa ρ=some ra)(ea:ra.d= .int a)(hb:fb ρ=some rb)(eb:rb.d= .int b):dOp gEq fa fb ρ=some (reT (.bl (decide (a=b)))):=by
 refine Qai ha hb ?_;rw[ea,eb];show some (D.bl (deq (.int a) (.int b)))=_;rw[Qma]
def QiF(ha:fa ρ=some ra)(ea:ra.d= .int a)(hb:fb ρ=some rb)(eb:rb.d= .int b):dOp gNe fa fb ρ=some (reT (.bl (!decide (a=b)))):=by
 refine Qai ha hb ?_;rw[ea,eb];show some (D.bl (!deq (.int a) (.int b)))=_;rw[Qma]
def QCB(ha:fa ρ=some (reT (.bl a)))(hb:fb ρ=some (reT (.bl b))):Ql5 fa fb ρ=some (reT (.bl (a && b))):=by
 unfold Ql5;rw[ha];cases a<;>simp[D.tru,hb]
def QM(ha:fa ρ=some r)(e:r.d= .bl b):Qg fa ρ=some b:=by
 unfold Qg;rw[ha,Za,e];rfl
def Qi0(h:g ρ=some b):QdN g ρ=some (!b):=by unfold QdN;rw[h];rfl
def QiH(ha:g1 ρ=some a)(hb:g2 ρ=some b):bOr g1 g2 ρ=some (a || b):=by
 unfold bOr;rw[ha];cases a<;>simp[hb]
def QqJ(ha:g1 ρ=some a)(hb:g2 ρ=some b):Qdf g1 g2 ρ=some (a && b):=by
 unfold Qdf;rw[ha];cases a<;>simp[hb]
def QoG(ha:fa ρ=some ra)(ea:ra.d= .int a)(hb:fb ρ=some rb)(eb:rb.d= .int b)(h:QhG a b=true):Qbq fa fb ρ=some (reI (a*b)):=by
 unfold Qbq;rw[ha,Za,hb,Za,ea,eb];simp[h]
def Qun(ha:fa ρ=some ra)(ea:ra.d= .int a)(hb:fb ρ=some rb)(eb:rb.d= .int b):QC fa fb ρ=some (reI (a+b)):=by
 unfold QC;rw[ha,Za,hb,Za,ea,eb]
def Qd9(ha:fa ρ=some ra)(ea:ra.d= .int a)(hb:fb ρ=some rb)(eb:rb.d= .int b)(h:0<b):dOp Qc8 fa fb ρ=some (reI (a % b)):=by
 refine Qai ha hb ?_;rw[ea,eb];show(if b≠0 then some (D.int (Qi7 a b))else none)=_;rw[if_pos ⋯,Qvx _ _ ⋯]
def Qx4{fa fb:DE}{ρ:En}{ra rb:R}{m:Nat}{f:Mt1}{i:Int}(ha:fa ρ=some ra)(ea:ra.d=Qu m f)(hb:fb ρ=some rb)(eb:rb.d= .int i)(h0:0<=i)(h:i<m):Qj fa fb ρ=some (reI (f i.toNat)):=by
 unfold Qj;rw[ha,Za,hb,Za,ea,eb];simp only[Qu,D.items,Za,QqM h0 h,ZD];rfl
def QqC{fa fb:DE}{ρ:En}{ra rb:R}{ns:List Int}{i:Int}{v:Int}(ha:fa ρ=some ra)(ea:ra.d= .lst (ns.map .int))(hb:fb ρ=some rb)(eb:rb.d= .int i)(h0:0<=i)(h:ns[i.toNat]? =some v):Qj fa fb ρ=some (reI v):=by
 have hl:i<ns.length:=by have:=(Zm.mp h).1;lia
 unfold Qj;rw[ha,Za,hb,Za,ea,eb];simp only[D.items,Za];rw[Ql6 h0 (by simpa using hl),Zw,h];rfl
def QuE(h:fs ρ=some r)(hd:den (r.ds++dfl)=some (d,fr))(hl:r.ds.length+dfl.length=n):Ql n den dfl fs ρ=some (if fr=true then⟨d,true,[]⟩else HS.R.norm ⟨d,false,r.M⟩):=by
 unfold Ql;rw[h,Za,if_pos hl,hd];rfl
def Qg5:DS:=(Qc (sIf (Qg (dOp gLt vv1 (dBf QX (Qa vv0 Qb)))) (Qc (QJ (Qj vv0 vv1)) Qe) Qe) (Qc (QJ kk0) Qe))
def Qk3(d:Den):Prop:=∀(ns:List Int) (k:Nat),d [.lst (ns.map .int),.int k]=some (.int (ns.getD k 0),true)
def QxK:Qk3 (Qm 2 Qg5):=λns k=>by
 refine QbU ?_;refine QdT (QaH (b:=decide ((k:Int)<ns.length)) ?_ (λh=>?_) (λh=>?_))
 .refine QM (Qai (rb:=reI ns.length) rfl ?_ rfl) rfl;show some (HS.R.mk (.int ((ns.map D.int).length:Int)) true [])=_;rw[Zt]
 .have h:=of_decide_eq_true h;have hk:k<ns.length:= ⋯
  have e:ns[k]? =some (ns.getD k 0):=by rw[ZR,ZV hk];rfl
  exact QdT (QqR (QqC rfl rfl rfl rfl ⋯ (by simpa using e)) ⟨rfl,rfl⟩)
 .have h:=of_decide_eq_false h;have e:ns.getD k 0=0:=by rw[ZR,ZA ⋯];rfl
  rw[e];exact QB (QaN rfl ⟨rfl,rfl⟩)
def QCQ(W:List (Int×Int×Bool)):D:= .lst (W.map QvX)
@[simp] theorem QDe(W:List (Int×Int×Bool)):(QCQ W).flat=false:=rfl
def Qyl(hx:ρ[x]? =some (slT (.lst xs)))(ha:fa ρ=some r)(hf:r.d.flat=true)(hl:xs.length<16777216)(q:Q (.nx (ρ.set x (slT (.lst (xs++[r.d])))))):Run (QdA x Qau fa) ρ Q:=by
 refine⟨_,?_,q⟩;have hn:r.norm=⟨r.d,true,[]⟩:=by unfold HS.R.norm;rw[if_pos hf]
 unfold QdA;rw[hx];simp only[Qau,Za,ha,Qds,QnW,hn,QbK,kill,QnX];simp[hl]
def Run.nx(h:Run f ρ (Nx Q))(m:∀ρ,Q ρ->Q' ρ):Run f ρ (Nx Q'):=h.mono λo ho=>by
 cases o with
 | nx ρ=>exact m ρ ho
 | _=>exact ho.elim
def QfM(h:Run f ρ (Nx P))(k:∀ρ',P ρ'->Run g ρ' Q):Run (Qc f g) ρ Q:=run_seq (h.nx k)
def QcK{fa:DE}{ρ:En}{r:R}{m:Int}{R L:Lpp}(h:fa ρ=some r)(e:r.d=Qo m R L):
  Qj fa (dC (.int 0)) ρ=some (reI m)/\Qj fa (dC (.int 1)) ρ=some ⟨QL R,r.fr,r.M⟩/\Qj fa (dC (.int 2)) ρ=some ⟨QL L,r.fr,r.M⟩:=by
 unfold Qj;rw[h];simp only[Za,e,QvJ];exact⟨rfl,rfl,rfl⟩
def Qha(h:fa ρ=some r)(e:r.d= .lst xs):dBf QX (Qa fa Qb) ρ=some (reI xs.length):=by
 unfold dBf;rw[QD h (Qat _),Za];simp[e,QX]
def Qpu(d:Den):Prop:=∀(m:Nat) (R L:Lpp),m<=1000->R.length+R.length+L.length<=1000000->(∀s∈R,Good m s)->(∀s∈L,Good m s)->d [Qo m R L]=some (Qu m (QbZ R L),true)
def Qx6(h:Qi5 d):Qpu (Qm 1 (QeK d)):=λm R L h1 h2 h3 h4=>Qwq h h1 h2 h3 h4
noncomputable def Qmn(m:Nat)(g:Mt1):Int:=((List.range m).map g).sum
def QdF:DS:=(Qc (Qay (QH vv1) (.nm 2) (Qc (sIf (Qg (dOp gNe (dBf QX (Qa vv2 Qb)) (Qj vv0 kk0))) (Qc Qi Qe) Qe) Qe)) Qe)
def QiC(d:Den):Prop:=∀(m:Nat) (R L:Lpp) (fs:List (Nat->Int)),d [Qo m R L,.lst (fs.map λf=>Qu m f)]=some (.non,true)
def QxC:QiC (Qm 3 QdF):=λm R L fs=>by
 have key:Run QdF (QaF 3 [Qo m R L,.lst (fs.map λf=>Qu m f)]) (Nx λ_=>True):=by
  refine run_seq (Qdt fs (λ_ ρ=>∃j2,ρ=[slF (Qo m R L),slF (.lst (fs.map λf=>Qu m f)),j2]) rfl rfl ⟨none,rfl⟩ ?_ ?_)
  .rintro i f ρ _ ⟨j2,rfl⟩;refine⟨_,rfl,?_⟩;refine run_seq (QaH (b:=false) (QM (QiF (Qha rfl rfl) rfl (QcK rfl rfl).1 rfl) ⋯) (λh=>by cases h) (λ_=>QB (QB ⟨_,rfl⟩)))
  .rintro ρ ⟨j2,rfl⟩;exact QB trivial
 obtain⟨o,h1,h2⟩:=key;unfold Qm;rw[h1];cases o with
 | nx ρ=>rfl
 | _=>exact h2.elim
def Qcv(h:fa ρ=some r)(q:Q (.nx ρ)):Run (QW fa) ρ Q:=⟨_,by simp[QW,h],q⟩
def Qsd(f g:Nat->D):QeC ((List.range m).map f) ((List.range m).map g)=(List.range m).map λi=> .tup [f i,g i]:=by
 generalize List.range m=l
 induction l with
 | nil=>rfl
 | cons n ns ih=>unfold QeC at ih ⊢;simp only[Zz,Zax,ih]
def Qzu(ha:fa ρ=some ra)(ea:ra.d= .lst ((List.range m).map f))(hb:fb ρ=some rb)(eb:rb.d= .lst ((List.range m).map g)):Qca fa fb ρ=some ⟨(List.range m).map λi=> .tup [f i,g i],ra.M++rb.M⟩:=by
 unfold Qca;rw[ha,Za,hb,Za,ea,eb];simp only[Qsd]
end HS
namespace HS
open PySem PySem.Spec L2
def Ap(f:DS)(fx:DX):Prop:=∀ρ,fx ρ≠none->f ρ=none
def ApF(d:Den)(xd:List D->Option Str):Prop:=∀ds,xd ds≠none->d ds=none
def Qac{f:DS}:Ap f xNo:=λρ h=>absurd rfl h
def Qz{x:Str}{fs:DA}:Ap Qi (Q9 x fs):=λρ h=>rfl
def Q2{f g:DS}{fx gx:DX}(a:Ap f fx)(b:Ap g gx):Ap (Qc f g) (Qh f fx gx):=λρ h=>by
 unfold Qh at h;unfold Qc;split at h
 .rename_i ρ' e;rw[e];exact b ρ' h
 .exact absurd rfl h
 .rename_i e;rw[e];rfl
def QaL{c:DT}{f g:DS}{fx gx:DX}(a:Ap f fx)(b:Ap g gx):Ap (sIf c f g) (xIf c fx gx):=λρ h=>by
 unfold xIf at h;unfold sIf;cases e:c ρ with
 | none=>rfl
 | some v=>
  rw[e,Za]at h;rw[Za];cases v with
  | true=>rw[if_pos rfl]at h ⊢;exact a ρ h
  | false=>rw[if_neg ZJ]at h ⊢;exact b ρ h
def Qap{fi:DI}{t:Tg}{fb:DS}{fx:DX}(a:Ap fb fx):Ap (Qay fi t fb) (QdO fi t fb fx):=λρ h=>by
 unfold QdO at h;unfold Qay;cases e:fi ρ with
 | none=>rfl
 | some ir=>
  rw[e,Za]at h;rw[Za];clear e;revert h;generalize ir.items=ds;generalize Qce ir.M ρ=ρ0
  induction ds generalizing ρ0 with
  | nil=>exact λh=>absurd rfl h
  | cons d ds ih=>
   intro h;unfold QeW at h;unfold Qdi;cases e1:Qbe t d ρ0 with
   | none=>rfl
   | some ρ1=>
    rw[e1,Za]at h;rw[Za];split at h
    .rename_i ρ2 e2;rw[e2,Za];exact ih ρ2 h
    .rename_i ρ2 e2;rw[e2,Za];exact ih ρ2 h
    .exact absurd rfl h
    .rename_i e2;rw[e2];rfl
def Qq8{n:Nat}{d:Den}{xd:List D->Option Str}{fs:DA}(a:ApF d xd){ρ:En}(h:QT n xd fs ρ≠none):Ql n d [] fs ρ=none:=by
 unfold QT at h;unfold Ql;cases e:fs ρ with
 | none=>rfl
 | some r=>
  rw[e,Za]at h;rw[Za];split at h
  .rename_i hl;rw[if_pos (by simpa using hl),ZG,a r.ds (λz=>h (by rw[z];rfl))];rfl
  .exact absurd rfl h
def QP{n:Nat}{d:Den}{xd:List D->Option Str}{fs:DA}(a:ApF d xd):Ap (QW (Ql n d [] fs)) (QT n xd fs):=λρ h=>by unfold QW;rw[Qq8 a h];rfl
def QaA{n i:Nat}{d:Den}{xd:List D->Option Str}{fs:DA}(a:ApF d xd):Ap (Qq i (Ql n d [] fs)) (QT n xd fs):=λρ h=>by unfold Qq;rw[Qq8 a h];rfl
def Qh4{k:Nat}{f:DS}{fx:DX}(a:Ap f fx):ApF (Qm k f) (QF k fx):=λds h=>by
 unfold QF at h;unfold Qm;rw[a _ λz=>h (by rw[z];rfl)];rfl
def QaU(f:DX)(ρ:En)(x:Str):Prop:=∃ρ',f ρ=some (x,ρ')
def QbF{x:Str}{fs:DA}{ρ:En}{r:RA}(h:fs ρ=some r)(hl:r.ds.length<=1):QaU (Q9 x fs) ρ x:=⟨ρ,by unfold Q9;rw[h,Za,if_pos hl]⟩
def Qba{n:Nat}{xd:List D->Option Str}{fs:DA}{ρ:En}{r:RA}{x:Str}(h:fs ρ=some r)(hl:r.ds.length=n)(hx:xd r.ds=some x):QaU (QT n xd fs) ρ x:=⟨ρ,by unfold QT;rw[h,Za,if_pos hl,hx];rfl⟩
def QdL{g:DT}{fa fb:DX}{b:Bool}{ρ:En}{x:Str}(h:g ρ=some b)(q1:b=true->QaU fa ρ x)(q2:b=false->QaU fb ρ x):QaU (xIf g fa fb) ρ x:=by
 cases b with
 | true=>obtain⟨o,h1⟩:=q1 rfl;exact⟨o,by simp[xIf,h,h1]⟩
 | false=>obtain⟨o,h1⟩:=q2 rfl;exact⟨o,by simp[xIf,h,h1]⟩
def QE{f:DS}{fx fr:DX}{ρ:En}{x:Str}(a:Ap f fx)(q:QaU fx ρ x):QaU (Qh f fx fr) ρ x:=by
 obtain⟨o,h⟩:=q;exact⟨o,by unfold Qh;rw[a ρ (by rw[h];exact λz=>by cases z)];exact h⟩
def Qal{f:DS}{fx fr:DX}{ρ:En}{x:Str}(h:Run f ρ (Nx λρ'=>QaU fr ρ' x)):QaU (Qh f fx fr) ρ x:=by
 obtain⟨o,h1,h2⟩:=h;cases o with
 | nx ρ'=>obtain⟨o,h3⟩:=h2;exact⟨o,by unfold Qh;rw[h1];exact h3⟩
 | _=>exact h2.elim
def QlD{α:Type}{fi:DI}{t:Tg}{fb:DS}{fx:DX}{toD:α->D}{ρ:En}{ir:IR}{c:Str}(a:Ap fb fx)(xs:List α)(I:Nat->En->Prop)(k:Nat)(hk:k<xs.length)(h:fi ρ=some ir)(hx:ir.items=xs.map toD)(h0:I 0 (Qce ir.M ρ))
  (turn:∀i x ρ,i<k->xs[i]? =some x->I i ρ->∃ρ1,Qbe t (toD x) ρ=some ρ1/\Run fb ρ1 (Nx λρ2=>I (i+1) ρ2))
  (here:∀x ρ,xs[k]? =some x->I k ρ->∃ρ1,Qbe t (toD x) ρ=some ρ1/\QaU fx ρ1 c):QaU (QdO fi t fb fx) ρ c:=by
 unfold QaU QdO;rw[h,Za,hx];clear h hx;have gen:∀(n:Nat) (i:Nat) (ρ:En),k-i=n->i<=k->I i ρ->∃ρ',QeW t fb fx ((xs.drop i).map toD) ρ=some (c,ρ'):=by
  intro n
  induction n with
  | zero=>
   intro i ρ e hi hI;obtain rfl:i=k:= ⋯
   rw[ZH hk,Zz];unfold QeW;obtain⟨ρ1,e1,ρ2,e2⟩:=here xs[i] ρ (by simp[hk]) hI;refine⟨ρ2,?_⟩;rw[e1,Za,a ρ1 (by rw[e2];exact λz=>by cases z)];exact e2
  | succ n ih=>
   intro i ρ e hi hI;have hlt:i<xs.length:= ⋯
   rw[ZH hlt,Zz];unfold QeW;obtain⟨ρ1,e1,o,e2,e3⟩:=turn i xs[i] ρ ⋯ (by simp[hlt]) hI;cases o with
   | nx ρ2=>
    obtain⟨ρ',e4⟩:=ih (i+1) ρ2 ⋯ ⋯ e3;exact⟨ρ',by rw[e1,Za,e2];exact e4⟩
   | _=>exact e3.elim
 have:=gen (k-0) 0 _ rfl (ZK _) h0;simpa using this
def Qbs{k:Nat}{f:DX}{ds:List D}{x:Str}(h:QaU f (QaF k ds) x):QF k f ds=some x:=by
 obtain⟨ρ,e⟩:=h;unfold QF;rw[e];rfl
def QvF{f:DS}{fx:DX}{sub:Str->Str->Option Bool}{y:Str}{i:Nat}{h:DS}{r:List Hd}{x:Str}{ρ ρ':En}{Q:Out->Prop}(a:Ap f fx)(e:fx ρ=some (x,ρ'))(hs:sub x y=some true)(q:Run h (ρ'.set i (some (.exc x,true))) λo=>Q (QBV i o)):Run (QmM f fx sub ((y,some i,h)::r)) ρ Q:=by
 obtain⟨o,h1,h2⟩:=q;refine⟨_,?_,h2⟩;unfold QmM;rw[a ρ (by rw[e];exact λz=>by cases z)];dsimp only;rw[e,Za];unfold Qrh;rw[hs,Za,if_pos rfl];dsimp only;rw[h1];rfl
def QeT:DX:=(Qh (Qay (QH vv1) (.nm 2) (Qc (sIf (Qg (dOp gNe (dBf QX (Qa vv2 Qb)) (Qj vv0 kk0))) (Qc Qi Qe) Qe) Qe)) (QdO (QH vv1) (.nm 2) (Qc (sIf (Qg (dOp gNe (dBf QX (Qa vv2 Qb)) (Qj vv0 kk0))) (Qc Qi Qe) Qe) Qe) (Qh (sIf (Qg (dOp gNe (dBf QX (Qa vv2 Qb)) (Qj vv0 kk0))) (Qc Qi Qe) Qe) (xIf (Qg (dOp gNe (dBf QX (Qa vv2 Qb)) (Qj vv0 kk0))) (Qh Qi (Q9 "NoRow" (Qa (dC (.str "a row has one number for each place of the net, a full row one more")) Qb)) xNo) xNo) xNo)) xNo)
local macro_rules | `(tactic|ac_rfl)=> `(tactic|repeat (first | exact Qac | exact Qz | assumption | apply Q2 | apply QaL | apply Qap | apply QP | apply QaA | apply ap_ret))
def Qyg:ApF (Qm 3 QdF) (QF 3 QeT):=Qh4 (by unfold QdF QeT;ac_rfl)
def QnF(xd:List D->Option Str):Prop:=∀(m:Int) (R L:Lpp) (xs:List (List D)) (k:Nat),k<xs.length->(∀i x,i<k->xs[i]? =some x->(x.length:Int)=m)->(∀x,xs[k]? =some x->(x.length:Int)≠m)->xd [Qo m R L,.lst (xs.map .lst)]=some "NoRow"
def Qwr:QnF (QF 3 QeT):=λm R L xs k hk h1 h2=>by
 refine Qbs (QE (Qap (by ac_rfl)) (QlD (by ac_rfl) (toD:=λx=> .lst x) xs (λ_ ρ=>∃j2,ρ=[slF (Qo m R L),slF (.lst (xs.map .lst)),j2]) k hk (ir:=⟨xs.map .lst,[]⟩) rfl rfl ⟨none,rfl⟩ ?_ ?_))
 .rintro i x ρ hi hx ⟨j2,rfl⟩;refine⟨_,rfl,?_⟩;refine run_seq (QaH (b:=false) (QM (QiF (Qha (xs:=x) (r:=reF (.lst x)) rfl rfl) rfl (QcK (m:=m) (R:=R) (L:=L) (r:=reF (Qo m R L)) rfl rfl).1 rfl) (by simp[h1 i x hi hx])) (λh=>by cases h) (λ_=>QB (QB ⟨_,rfl⟩)))
 .rintro x ρ hx ⟨j2,rfl⟩;refine⟨_,rfl,?_⟩;refine QE (by ac_rfl) (QdL (b:=true) (QM (QiF (Qha (xs:=x) (r:=reF (.lst x)) rfl rfl) rfl (QcK (m:=m) (R:=R) (L:=L) (r:=reF (Qo m R L)) rfl rfl).1 rfl) (by simp[h2 x hx])) (λ_=>?_) (λh=>by cases h));exact QE Qz (QbF rfl (Zi _))
def QqQ(QN:Den)(Q1:Den)(x_need_rows:List D->Option Str):DX:=(Qh (QW (Ql 2 Q1 [] (Qa vv0 (Qa (QI (Qa vv1 (Qa vv2 Qb))) Qb)))) (QT 2 x_need_rows (Qa vv0 (Qa (QI (Qa vv1 (Qa vv2 Qb))) Qb))) (Qh (Qq 3 (dList (Qa vv1 Qb))) xNo (Qh (Qay (Qca (Ql 1 QN [] (Qa vv0 Qb)) vv2) (.tp [4,5]) (Qc (Qq 3 (Qw (Qca vv3 vv4) (.tp [1,2]) [none,none,none,some 5] QO (QC vv1 (Qbq vv3 vv2)))) Qe)) (QdO (Qca (Ql 1 QN [] (Qa vv0 Qb)) vv2) (.tp [4,5]) (Qc (Qq 3 (Qw (Qca vv3 vv4) (.tp [1,2]) [none,none,none,some 5] QO (QC vv1 (Qbq vv3 vv2)))) Qe) (Qh (Qq 3 (Qw (Qca vv3 vv4) (.tp [1,2]) [none,none,none,some 5] QO (QC vv1 (Qbq vv3 vv2)))) xNo xNo)) (Qh (QJ vv3) xNo xNo))))
def QtX(xd:List D->Option Str):Prop:=∀(m:Int) (R L:Lpp) (a b:List D),(a.length:Int)≠m∨(b.length:Int)≠m->xd [Qo m R L,.lst a,.lst b]=some "NoRow"
def QsJ{dn dt:Den}{xn:List D->Option Str}(h:ApF dn xn)(hx:QnF xn):QtX (QF 6 (QqQ dt dn xn)):=λm R L a b hab=>by
 refine Qbs (QE (QP h) (Qba (r:=⟨[Qo m R L,.lst [.lst a,.lst b]],_,_⟩) rfl rfl ?_));by_cases ha:(a.length:Int)=m
 .have hb:(b.length:Int)≠m:=by rcases hab with z | z<;>first | exact absurd ha z | exact z
  exact hx m R L [a,b] 1 ⋯ (λi x hi e=>by
   obtain rfl:i=0:= ⋯
   cases e;exact ha) (λx e=>by cases e;exact hb)
 .exact hx m R L [a,b] 0 ⋯ (λi x hi e=> ⋯) (λx e=>by cases e;exact ha)
end HS
namespace HS
open PySem L2
def QyO{a b:Nat}(ha:fa ρ=some ra)(ea:ra.d=QaD cs)(hl:fl ρ=some rl)(el:rl.d= .int a)(hh:fh ρ=some rh)(eh:rh.d= .int b):Qa5 fa (Qab fl) (Qab fh) ρ=some (reT (QaD ((cs.drop (min a cs.length)).take (min b cs.length-min a cs.length)))):=by
 unfold Qa5 Qab;simp only[ha,hl,hh,Za,ea,el,eh,QaD,cutD,Zt,HT.QqK,← List.map_drop,← List.map_take,Qbh,QrS,if_true]
def Qkv(hx:ρ[x]? =some (slT (QL A)))(ha:fa ρ=some r)(hf:r.d=pairD p)(hl:A.length<16777216)(q:Q (.nx (ρ.set x (slT (QL (A++[p])))))):Run (QdA x Qau fa) ρ Q:=by
 refine Qyl (xs:=A.map pairD) hx ha (by rw[hf];rfl) (by simpa using hl) ?_;rw[hf];unfold QL at q;rw[Zai]at q;exact q
def QxG(h:fa ρ=some r)(e:r.d=Qu m f):dBf QeL (Qa fa Qb) ρ=some (reI (Qmn m f)):=by
 unfold dBf;rw[QD h (Qat _),Za];have:Qu m f= .lst (((List.range m).map f).map .int):=by unfold Qu;rw[ZZ];rfl
 simp only[e,this,QeL,QhE,ZD];rfl
def Qpl{i:Nat}(ha:fa ρ=some ra)(ea:ra.d=Qu m f)(hb:fb ρ=some rb)(eb:rb.d= .int i)(h:i<m):Qj fa fb ρ=some (reI (f i)):=by
 have:=Qx4 ha ea hb eb ⋯ ⋯;rw[Zaa]at this;exact this
def Qt1(m:Nat)(f:Mt1):Qu m f= .lst (((List.range m).map f).map D.int):=by
 unfold Qu;rw[ZZ];rfl
def QqO:∀{ns:List Int},ns≠[]->∃m,QkF ns=some m
 | [],h=>absurd rfl h
 | [n],_=>⟨n,rfl⟩
 | n::k::r,_=>by
  obtain⟨m,hm⟩:=QqO (ns:=k::r) ⋯;exact⟨if m<n then m else n,by simp only[QkF,hm,ZD]⟩
def QB3(h:0<m)(f:Mt1):(List.range m).map f≠[]:=by
 intro z;have:=congrArg List.length z;simp at this;lia
def Qqx(m0:0<m)(f:Mt1):∃v,(∃i,i<m/\v=f i)/\(∀i,i<m->v<=f i)/\∀{fa:DE}{ρ:En}{r:R},fa ρ=some r->r.d=Qu m f->dBf QeX (Qa fa Qb) ρ=some (reI v):=by
 obtain⟨v,hv⟩:=QqO (QB3 m0 f);obtain⟨h1,h2⟩:=QjB hv;refine⟨v,?_,λi hi=>h2 _ (Zag.mpr ⟨i,Zal.mpr hi,rfl⟩),λ{fa ρ r} h e=>?_⟩
 .obtain⟨i,hi,e⟩:=Zag.mp h1;exact⟨i,Zal.mp hi,e.symm⟩
 .unfold dBf;rw[QD h (Qat _),Za];simp only[e,Qt1,QeX,QhE,Za,hv,ZD]
def Qdb(Q1:Den):DS:=(Qc (QW (Ql 2 Q1 [] (Qa vv0 (Qa vv1 Qb)))) (Qc (Qay (QH vv1) (.nm 2) (Qc (sIf (Qg (dOp gLt (dBf QeX (Qa vv2 Qb)) kk0)) (Qc Qi Qe) Qe) Qe)) Qe))
def Qmu(d:Den):Prop:=∀(m:Nat) (R L:Lpp) (fs:List (Nat->Int)),0<m->(∀f∈fs,∀j,j<m->0<=f j)->d [Qo m R L,.lst (fs.map λf=>Qu m f)]=some (.non,true)
def QwF(hn:QiC dn):Qmu (Qm 3 (Qdb dn)):=λm R L fs m0 hf=>by
 have key:Run (Qdb dn) (QaF 3 [Qo m R L,.lst (fs.map λf=>Qu m f)]) (Nx λ_=>True):=by
  refine run_seq (Qcv (Q0 rfl (hn m R L fs) rfl) ?_);refine run_seq (Qdt fs (λ_ ρ=>∃j2,ρ=[slF (Qo m R L),slF (.lst (fs.map λf=>Qu m f)),j2]) rfl rfl ⟨none,rfl⟩ ?_ ?_)
  .rintro i f ρ hi ⟨j2,rfl⟩;refine⟨_,rfl,?_⟩;obtain⟨v,⟨q,hq,e⟩,_,hv⟩:=Qqx m0 f;have h0:=hf f (Zah hi) q hq;refine run_seq (QaH (b:=false) (QM (Qai (hv rfl rfl) rfl rfl) ?_) (λh=>by cases h) (λ_=>QB (QB ⟨_,rfl⟩)));show D.bl _=_;rw[decide_eq_false ⋯]
  .rintro ρ ⟨j2,rfl⟩;exact QB trivial
 obtain⟨o,h1,h2⟩:=key;unfold Qm;rw[h1];cases o with
 | nx ρ=>rfl
 | _=>exact h2.elim
def Qlh(h:fs ρ=some rs)(hl:rs.ds.length<=64):QI fs ρ=some ⟨.lst rs.ds,rs.fr,rs.M⟩:=by
 unfold QI;rw[h,Za,if_pos hl]
def Qz4{n:Nat}{d:Den}{xd:List D->Option Str}{fs:DA}{ρ:En}{r:RA}{x:Str}(a:ApF d xd)(h:fs ρ=some r)(hl:r.ds.length=n)(hx:xd r.ds=some x):Qh (QW (Ql n d [] fs)) (QT n xd fs) xNo ρ=some (x,ρ):=by
 have e:QT n xd fs ρ=some (x,ρ):=by unfold QT;rw[h,Za,if_pos hl,hx];rfl
 unfold Qh;rw[QP a ρ (by rw[e];exact λz=>by cases z)];exact e
def Qs3{sub:Str->Str->Option Bool}{ys:List Str}{fa:DE}{ρ:En}{x:Str}{b:Bool}(h:fa ρ=some ⟨.exc x,true,[]⟩)(hs:anyS sub x ys=some b):Qcm sub ys fa ρ=some (reT (.bl b)):=by
 unfold Qcm;rw[h,Za];dsimp only;rw[hs];rfl
def any_cons{sub:Str->Str->Option Bool}{x y:Str}{ys:List Str}{b c:Bool}(h:sub x y=some b)(t:anyS sub x ys=some c):anyS sub x (y::ys)=some (b || c):=by
 unfold anyS;rw[h,Za,t];rfl
def QAh{fa fb:DE}{ρ:En}{ra rb:R}{xs ys:List D}(ha:fa ρ=some ra)(ea:ra.d= .lst xs)(hb:fb ρ=some rb)(eb:rb.d= .lst ys)(hf:QY (xs++ys)=true)(hl:xs.length+ys.length<=16777216):QC fa fb ρ=some (reT (.lst (xs++ys))):=by
 unfold QC;rw[ha,Za,hb,Za,ea,eb];dsimp only;rw[if_pos (by exact hl)];unfold Qbh;rw[if_pos hf]
noncomputable def Qa1(l:List Nat):D:= .lst (l.map λ(p:Nat)=> .int (p:Int))
noncomputable def Qlx(T:Mt2)(p:Nat)(l:List Nat):Int:=((l.filter λo=>decide (o≠p)).map (T p)).sum
def Qa6(T:Mt2)(a:Mt1)(l:List Nat):List Nat:=l.filter λp=>decide (Qlx T p l<=a p)
def Qlm(T:Mt2)(a:Mt1)(l:List Nat):List Nat:=l.filter λp=> !(Qa6 T a l).contains p
def Qzr{fa fb:DE}{ρ:En}{ra rb:R}{m n:Nat}{f:Mt2}{i:Int}(ha:fa ρ=some ra)(ea:ra.d=QbL m n f)(hb:fb ρ=some rb)(eb:rb.d= .int i)(h0:0<=i)(h:i<m):Qj fa fb ρ=some ⟨Qu n (f i.toNat),ra.fr,ra.M⟩:=by
 unfold Qj;rw[ha,Za,hb,Za,ea,eb];simp only[QbL,D.items,Za,Qq2 h0 h,ZD];rfl
def QhS:DS:=(Qc (QJ (dOp gEq (dBf QX (Qa (Qj vv0 kk2) Qb)) kk0)) Qe)
def QjG(d:Den):Prop:=∀(m:Int) (R L:Lpp),d [Qo m R L]=some (.bl (decide ((L.length:Int)=0)),true)
def Qvg:QjG (Qm 1 QhS):=λm R L=>by
 refine QbU ?_;refine QaN (Qhc (Qha (QcK (r:=reF (Qo m R L)) rfl rfl).2.2 rfl) rfl rfl rfl) ⟨?_,rfl⟩;simp
def QzI{fa:DE}{ρ:En}{r:R}{ns:List Int}(h:fa ρ=some r)(e:r.d= .lst (ns.map D.int)):dBf QeL (Qa fa Qb) ρ=some (reI ns.sum):=by
 unfold dBf;rw[QD h (Qat _),Za];simp only[e,QeL,QhE,ZD]
def Qiu:DS:=(Qc (QJ (dBf QeL (Qa (Qw (QH vv2) (.nm 1) [none,none,some 1,some 0] (Qg (dOp gNe vv1 vv2)) (Qj vv3 vv1)) Qb))) Qe)
def QlS(d:Den):Prop:=∀(m:Nat) (t:Mt1) (p:Nat) (l:List Nat),(∀o∈l,o<m)->d [Qu m t,.int p,Qa1 l]=some (.int (((l.filter λo=>decide (o≠p)).map t).sum),true)
def Qvy:QlS (Qm 3 Qiu):=λm t p l hl=>by
 refine QbU ?_
 have e:=QjE (fi:=QH (Qn 2)) (t:= .nm 1) (cap:=[none,none,some 1,some 0]) (ft:=Qg (dOp gNe (Qn 1) (Qn 2))) (fe:=Qj (Qn 3) (Qn 1)) (ρ:=[slF (Qu m t),slI p,slF (Qa1 l)])
  (toD:=λ(o:Nat)=> .int (o:Int)) (keep:=λo=>decide (o≠p)) (out:=λ(o:Nat)=> .int (t o)) l (QbQ (r:=reF (Qa1 l)) rfl rfl) rfl λo ho=>by
   refine⟨[none,slI o,slI p,slF (Qu m t)],rfl,?_,λ_=>⟨_,Qpl (m:=m) (f:=t) (i:=o) (ra:=reF (Qu m t)) rfl rfl rfl rfl (hl o ho),rfl,rfl⟩⟩;refine(QM (QiF (a:=o) (b:=p) rfl rfl rfl rfl) rfl).trans ?_;congr 1;by_cases h:o=p
   .subst h;simp
   .simp[h];lia
 refine QaN (QzI (ns:=(l.filter λo=>decide (o≠p)).map t) e ?_) ⟨rfl,rfl⟩;show D.lst _=D.lst _;rw[ZZ];rfl
def Qc1(Qav:Den):DS:=(Qc (sIf (QdN (Qg (Ql 1 Qav [] (Qa vv0 Qb)))) (Qc Qi Qe) Qe) Qe)
def Qes(d:Den):Prop:=∀(m:Nat) (R:Lpp),d [Qo m R []]=some (.non,true)
def Qu0(hp:QjG dp):Qes (Qm 1 (Qc1 dp)):=λm R=>by
 have key:Run (Qc1 dp) (QaF 1 [Qo m R []]) (Nx λ_=>True):=by
  refine run_seq (QaH (b:=false) (Qi0 (b:=true) (QM (b:=true) (Q0 (r:=⟨[Qo m R []],false,[]⟩) rfl (hp m R []) rfl) rfl)) (λh=>by cases h) (λ_=>QB (QB trivial)))
 obtain⟨o,h1,h2⟩:=key;unfold Qm;rw[h1];cases o with
 | nx ρ=>rfl
 | _=>exact h2.elim
def QyQ{o:Nat}{l:List Nat}:(l.map λ(p:Nat)=>D.int (p:Int)).any (λy=>deq y (.int o))=l.contains o:=by
 induction l with
 | nil=>rfl
 | cons a l ih=>
  rw[Zz,List.any_cons,ih,Qma,List.contains_cons];congr 1;by_cases h:a=o
  .subst h;simp
  .rw[decide_eq_false ⋯];exact(beq_eq_false_iff_ne.mpr (λz=>h z.symm)).symm
def QuT(n:Nat)(l:List Nat):(Qa1 l).sim (n+1)=true:=by
 unfold Qa1;simp only[D.sim,List.all_map,ZU];intro p _;cases n<;>rfl
def QBH{o:Nat}(ha:fa ρ=some ra)(ea:ra.d= .int o)(hb:fb ρ=some rb)(eb:rb.d=Qa1 l):dOp (gIn neg) fa fb ρ=some (reT (.bl (if neg then !l.contains o else l.contains o))):=by
 refine Qai ha hb ?_;rw[ea,eb];have:(D.int (o:Int)).sim 8=true:=rfl;show(if(D.int (o:Int)).sim 8 && (Qa1 l).sim 8 then some (D.bl (if neg then !((l.map λ(p:Nat)=>D.int (p:Int)).any λy=>deq y (.int o))else(l.map λ(p:Nat)=>D.int (p:Int)).any λy=>deq y (.int o)))else none)=_;rw[this,QuT 7 l,QyQ];rfl
noncomputable def QfH:Option Int->D
 | none=> .non
 | some i=> .int i
@[simp] theorem Qww(o:Option Int):(QfH o).flat=true:=by cases o<;>rfl
def Qb4(m:Nat)(F:Nat->Option Int):D:= .lst ((List.range m).map λi=>QfH (F i))
@[simp] theorem QEp(m:Nat)(F:Nat->Option Int):(Qb4 m F).flat=false:=rfl
@[simp] theorem QEd(m:Nat)(F:Nat->Option Int):QY ((List.range m).map λi=>QfH (F i))=true:=Qda (f:=λi=>QfH (F i)) (λ_=>Qww _) _
noncomputable def upO(F:Nat->Option Int)(i:Nat)(v:Option Int):Nat->Option Int:=λj=>if j=i then v else F j
def Qwo{x m:Nat}{F:Nat->Option Int}{fi fa:DE}{ρ:En}{i v:Int}{ri ra:R}{Q:Out->Prop}(hx:ρ[x]? =some (slT (Qb4 m F)))(hi:fi ρ=some ri)(ei:ri.d= .int i)(ha:fa ρ=some ra)(ea:ra.d= .int v)(h0:0<=i)(h:i<m)
  (q:Q (.nx (ρ.set x (slT (Qb4 m (upO F i.toNat (some v))))))):Run (QdR x Qau fi fa) ρ Q:=by
 refine⟨_,?_,q⟩;have hn:ra.norm=(reI v):=by unfold HS.R.norm;rw[ea];rfl
 have hs:((List.range m).map λj=>QfH (F j)).set i.toNat (.int v)=(List.range m).map λj=>QfH (upO F i.toNat (some v) j):=by
  rw[Qfa];congr 1;funext j;unfold upO;split<;>rfl
 unfold QdR;rw[ha,Za,hx];simp only[Qau,Za,hi,ei,Qds,Qb4,Zt,Zas,Qjo h0 h,hn,ea,QbK,hs];simp[kill]
def Qxq{n:Nat}(h:fb ρ=some r)(e:r.d= .int n)(hn:n<=16777216):Qbq (QI (Qa (dC .non) Qb)) fb ρ=some (reT (Qb4 n (λ_=>none))):=by
 have h1:QI (Qa (dC .non) Qb) ρ=some (reT (.lst [.non])):=rfl;unfold Qbq;rw[h1,Za,h,Za,e];dsimp only;rw[if_pos ⟨by simp[QnX];lia,⋯,⋯,rfl⟩];simp only[Zaa,Qmv];rfl
def QqG(Qcj:Den):DS:=(Qc (Qq 3 (QC (Qbq (QI (Qa (dC .non) Qb)) vv0) (QI (Qa kk0 Qb)))) (Qc (Qq 4 (Ql 2 Qcj [] (Qa vv1 (Qa vv2 Qb)))) (Qc (Qay (Qas vv0) (.nm 5) (Qc (Qay (QH vv4) (.tp [6,7]) (Qc (sIf (Qdf (Qg (dOp (Qfe false) (Qj vv3 vv6) (dC .non))) (Qg (dOp gEq (Qj vv3 vv7) vv5))) (Qc (QdR 3 Qau vv6 (QC vv5 kk1)) Qe) Qe) Qe)) Qe)) (Qc (QJ (Qa5 vv3 QaR (Qab vv0))) Qe))))
def Qgw(T:Mt2)(h:Mt1)(m:Nat):Nat->List Nat
 | 0=>List.range m
 | k+1=>Qlm T h (Qgw T h m k)
def Qcr(T:Mt2)(h:Mt1)(m:Nat):Nat->Nat->Option Int
 | 0,_=>none
 | k+1,p=>if p∈Qa6 T h (Qgw T h m k)then some ((k:Int)+1)else Qcr T h m k p
def Qvb:p∈Qlm T h l↔p∈l/\p∉Qa6 T h l:=by
 unfold Qlm;rw[ZaN];simp
def QtO:p∈Qa6 T h l↔p∈l/\Qlx T p l<=h p:=by
 unfold Qa6;rw[ZaN];simp
def QuW(hkj:k<=j)(hp:p∈Qgw T h m j):p∈Qgw T h m k:=by
 induction j with
 | zero=>rw[show k=0 by lia];exact hp
 | succ j ih=>
  by_cases e:k=j+1
  .rw[e];exact hp
  .exact ih ⋯ (Qvb.mp hp).1
def Qzv(hp:p∈Qgw T h m k):p<m:=Zal.mp (QuW (ZK k) hp)
def Qls(QS:Den)(Qv:Den)(QN:Den)(Qah:Den):DS:=(Qc (QW (Ql 1 QS [] (Qa vv0 Qb))) (Qc (QW (Ql 2 Qv [] (Qa vv0 (Qa (QI (Qa vv1 Qb)) Qb)))) (Qc (Qq 2 (Ql 1 QN [] (Qa vv0 Qb))) (Qc (Qq 3 (Qbq (QI (Qa (dC .non) Qb)) (Qj vv0 kk0))) (Qc (Qq 4 (QhN (Qj vv0 kk0))) (Qc (Qay (QdW kk1 (QC (Qj vv0 kk0) kk1)) (.nm 5) (Qc (Qq 7 (Qw (QH vv4) (.nm 1) [none,none,some 4,some 1,some 2] (Qg (dOp gGe (Qj vv3 vv1) (Ql 3 Qah [] (Qa (Qj vv4 vv1) (Qa vv1 (Qa vv2 Qb)))))) vv1)) (Qc (Qay (QH vv7) (.nm 6) (Qc (QdR 3 Qau vv6 vv5) Qe)) (Qc (Qq 4 (Qw (QH vv4) (.nm 1) [none,none,some 7] (Qg (dOp (gIn true) vv1 vv2)) vv1)) Qe)))) (Qc (QJ vv3) Qe)))))))
def QsZ{fa fb:DE}{ρ:En}{ra rb:R}{i j:Int}{n:Nat}(ha:fa ρ=some ra)(ea:ra.d= .int i)(hb:fb ρ=some rb)(eb:rb.d= .int j)(hn:(n:Int)=j-i)(hl:n<=16777216)(h1: -(2^62)<=i)(h2:i<2^61):QdW fa fb ρ=some ⟨(List.range n).map λ(k:Nat)=> .int (i+k),[]⟩:=by
 unfold QdW;rw[ha,Za,hb,Za,ea,eb];show(if j-i<=16777216/\_ then _ else _)=_;rw[if_pos ⟨⋯,⋯,⋯,⋯,⋯⟩,show(j-i).toNat=n by lia];rfl
def Qlg(d:Den):Prop:=∀(m:Nat) (R:Lpp) (h:Mt1),0<m->m<=1000->R.length<=1000->(∀s∈R,Good m s)->(∀j,j<m->0<=h j)->d [Qo m R [],Qu m h]=some (Qb4 m (Qcr (QaE m (Qa2 R [])) h m m),true)
def QxU{n:Nat}(h:fa ρ=some r)(e:r.d= .int n)(hn:n<=1000000):QhN fa ρ=some (reT (Qa1 (List.range n))):=by
 unfold QhN;rw[h,Za,e];show(if 0<=(n:Int)/\(n:Int)<=1000000 then some (HS.R.mk (.lst ((List.range (n:Int).toNat).map λ(k:Nat)=> .int (k:Int))) true [])else none)=_;rw[if_pos ⟨⋯,⋯⟩,Zaa];rfl
def Qyr(h:∀i,i<m->F i=G i):Qb4 m F=Qb4 m G:=by
 unfold Qb4;congr 1;exact List.map_congr_left λi hi=>by rw[h i (Zal.mp hi)]
def Qze(hp:Qes dp)(hh:Qmu dh)(ht:Qi5 dt)(ha:QlS da):Qlg (Qm 8 (Qls dp dh dt da)):=λm R h m0 hm hRl hR hpos=>by
 have htoll:=ht m R [] hm (by simp;lia) hR (λs hs=>absurd hs ⋯);have hneed:=hh m R [] [h] m0 (λg hg' j hj=>by rw[Zj.mp hg'];exact hpos j hj);generalize QaE m (Qa2 R [])=T at *;refine QbU ?_;refine run_seq (Qcv (Q0 (r:=⟨[Qo m R []],false,[]⟩) rfl (hp m R) rfl) ?_);refine run_seq (Qcv (Q0 (r:=⟨[Qo m R [],.lst [Qu m h]],false,[]⟩) rfl hneed rfl) ?_);refine rsa (Q0 (r:=⟨[Qo m R []],false,[]⟩) rfl htoll rfl) ?_;refine rsa (Qxq (n:=m) (r:=reI m) rfl rfl ⋯) ?_;refine rsa (QxU (n:=m) (r:=reI m) rfl rfl ⋯) ?_;refine QfM (P:=λρ=>∃j4 j5 j6 j7,ρ=[slF (Qo m R []),slF (Qu m h),slT (QbL m m T),slT (Qb4 m (Qcr T h m m)),j4,j5,j6,j7]) ?_ ?_
 .refine Qdt (toD:=λ(k:Nat)=> .int (1+(k:Int))) (List.range m) (λk ρ=>∃j5 j6 j7,ρ=[slF (Qo m R []),slF (Qu m h),slT (QbL m m T),slT (Qb4 m (Qcr T h m k)),slT (Qa1 (Qgw T h m k)),j5,j6,j7]) (QsZ (n:=m) (i:=1) (j:=(m:Int)+1) rfl rfl (Qun (a:=m) (b:=1) rfl rfl rfl rfl) rfl ⋯ ⋯ ∅ ∅) rfl ⟨none,none,none,rfl⟩ ?_ ?_
  .rintro k k' ρ hk ⟨j5,j6,j7,rfl⟩;obtain⟨hkm,rfl⟩:=Qwh hk;refine⟨_,rfl,?_⟩;generalize el:Qgw T h m k=l;have hl:∀p∈l,p<m:=λp hp=>by rw[← el]at hp;exact Qzv hp
   have enext:Qgw T h m (k+1)=Qlm T h l:=by rw[← el];rfl
   have efire:∀p,Qcr T h m (k+1) p=if p∈Qa6 T h l then some ((k:Int)+1)else Qcr T h m k p:=λp=>by rw[← el];rfl
   rw[enext];refine run_seq (Qar (r:=reT (Qa1 (Qa6 T h l))) ?_ ?_)
   .refine QjE (fi:=QH (Qn 4)) (t:= .nm 1) (cap:=[none,none,some 4,some 1,some 2]) (ft:=Qg (dOp gGe (Qj (Qn 3) (Qn 1)) (Ql 3 da [] (Qa (Qj (Qn 4) (Qn 1)) (Qa (Qn 1) (Qa (Qn 2) Qb)))))) (fe:=Qn 1) (ρ:=[slF (Qo m R []),slF (Qu m h),slT (QbL m m T),slT (Qb4 m (Qcr T h m k)),slT (Qa1 l),slI (1+(k:Int)),j6,j7])
     (toD:=λ(p:Nat)=> .int (p:Int)) (keep:=λp=>decide (Qlx T p l<=h p)) (out:=λ(p:Nat)=> .int (p:Int)) l (QbQ (r:=⟨Qa1 l,true,[4]⟩) rfl rfl) rfl λp hp=>⟨[none,slI p,slF (Qa1 l),slF (Qu m h),slF (QbL m m T)],rfl,?_,λ_=>⟨_,rfl,rfl,rfl⟩⟩
    have hpm:=hl p hp;refine QM (Qai (d:= .bl (decide (Qlx T p l<=h p))) (Qpl (m:=m) (f:=h) (i:=p) (ra:=reF (Qu m h)) rfl rfl rfl rfl hpm) (Q0 (QD (Qzr (m:=m) (n:=m) (f:=T) (i:=p) (ra:=reF (QbL m m T)) rfl rfl rfl rfl ⋯ ⋯) (rs:=⟨[.int p,Qa1 l],false,[]⟩) rfl) (ha m (T (p:Int).toNat) p l λo ho=>hl o ho) rfl) ?_) rfl;show some (D.bl (decide (((l.filter λo=>decide (o≠p)).map (T (p:Int).toNat)).sum<=h p)))=_;rw[Zaa];rfl
   rw[QcD];refine QfM (P:=λρ=>∃j6 b7,ρ=[slF (Qo m R []),slF (Qu m h),slT (QbL m m T),slT (Qb4 m (Qcr T h m (k+1))),slT (Qa1 l),slI (1+(k:Int)),j6,some (Qa1 (Qa6 T h l),b7)]) ?_ ?_
   .refine Qdt (toD:=λ(p:Nat)=> .int (p:Int)) (Qa6 T h l) (λi ρ=>∃F j6,(∀p,F p=if p∈(Qa6 T h l).take i then some ((k:Int)+1)else Qcr T h m k p)/\ρ=[slF (Qo m R []),slF (Qu m h),slT (QbL m m T),slT (Qb4 m F),slT (Qa1 l),slI (1+(k:Int)),j6,slF (Qa1 (Qa6 T h l))]) (QbQ (r:=⟨Qa1 (Qa6 T h l),true,[7]⟩) rfl rfl) rfl ⟨Qcr T h m k,j6,λp=>⋯,rfl⟩ ?_ ?_
    .rintro i p ρ hi ⟨F,j6,hF,rfl⟩;have hpm:=hl p (QtO.mp (Zah hi)).1;refine⟨_,rfl,run_seq (Qwo (m:=m) (F:=F) (i:=p) (v:=1+(k:Int)) rfl rfl rfl rfl rfl ⋯ ⋯ (QB ⟨_,_,λq=>?_,rfl⟩))⟩;have etake:(Qa6 T h l).take (i+1)=(Qa6 T h l).take i++[p]:=by
      rw[List.take_succ,hi];rfl
     rw[etake];unfold upO;rw[Zaa];by_cases hq:q=p
     .subst hq;rw[if_pos rfl,if_pos ⋯];congr 1;lia
     .rw[if_neg hq,hF q];by_cases h2:q∈(Qa6 T h l).take i
      .rw[if_pos h2,if_pos (Zk _ h2)]
      .rw[if_neg h2,if_neg (λz=>by
        rcases Zx.mp z with z | z
        .exact h2 z
        .exact hq (Zj.mp z))]
    .rintro ρ ⟨F,j6,hF,rfl⟩;rw[Zbi]at hF;refine⟨j6,false,?_⟩;rw[Qyr (F:=F) (G:=Qcr T h m (k+1)) λp _=>by rw[hF p,efire p]]
   rintro ρ ⟨j6,b7,rfl⟩;refine run_seq (Qar (r:=reT (Qa1 (Qlm T h l))) ?_ (QB ?_))
   .refine QjE (fi:=QH (Qn 4)) (t:= .nm 1) (cap:=[none,none,some 7]) (ft:=Qg (dOp (gIn true) (Qn 1) (Qn 2))) (fe:=Qn 1)
     (toD:=λ(p:Nat)=> .int (p:Int)) (keep:=λp=> !(Qa6 T h l).contains p) (out:=λ(p:Nat)=> .int (p:Int)) l (QbQ (r:=⟨Qa1 l,true,[4]⟩) rfl rfl) rfl λp hp=>⟨[none,slI p,slF (Qa1 (Qa6 T h l))],by cases b7<;>rfl,QM (QBH (neg:=true) (o:=p) (l:=Qa6 T h l) rfl rfl (rb:=reF (Qa1 (Qa6 T h l))) rfl rfl) rfl,λ_=>⟨_,rfl,rfl,rfl⟩⟩
   rw[QcD];exact⟨_,_,_,rfl⟩
  .rintro ρ ⟨j5,j6,j7,rfl⟩;rw[Zas];exact⟨_,_,_,_,rfl⟩
 rintro ρ ⟨j4,j5,j6,j7,rfl⟩;exact QaN (r:=⟨Qb4 m (Qcr T h m m),true,[3]⟩) rfl ⟨rfl,rfl⟩
noncomputable def Qyd(p:Nat)(l:List Nat)(s:Int×Int):Int:=if(s.1=p/\s.2.toNat∈l)∨(s.2=p/\s.1.toNat∈l)then 1 else 0
def QyI(ha:fa ρ=some ra)(ea:ra.d= .int a)(hb:fb ρ=some rb)(eb:rb.d= .int b):dBf Qb8 (Qa fa (Qa fb Qb)) ρ=some (reI (if b<a then b else a)):=by
 unfold dBf;rw[QD ha (QD hb (Qat _)),Za];simp only[ea,eb,Qb8,ZD]
def QvB{fa fb:DE}{ρ:En}{ra rb:R}{a b:Int}(ha:fa ρ=some ra)(ea:ra.d= .int a)(hb:fb ρ=some rb)(eb:rb.d= .int b):dBf Qcc (Qa fa (Qa fb Qb)) ρ=some (reI (if b>a then b else a)):=by
 unfold dBf;rw[QD ha (QD hb (Qat _)),Za];simp only[ea,eb,Qcc,ZD]
def QlU:∀bs:List Bool,QhY (bs.map D.bl)=some bs
 | []=>rfl
 | b::bs=>by
  show Option.bind (some b) (λi=>(QhY (bs.map D.bl)).map λr=>i::r)=_;rw[QlU bs];rfl
def Qzq{fa:DE}{ρ:En}{r:R}{m:Nat}{g:Nat->Bool}(h:fa ρ=some r)(e:r.d= .lst ((List.range m).map λi=> .bl (g i))):dBf Qjq (Qa fa Qb) ρ=some (reT (.bl ((List.range m).all g))):=by
 unfold dBf;rw[QD h (Qat _),Za];have:((List.range m).map λi=>D.bl (g i))=(((List.range m).map g).map D.bl):=by rw[ZZ];rfl
 simp only[e,Qjq,this,QlU,ZD];rw[List.all_map];rfl
def QyA(n m:Nat)(F:Nat->Option Int):(Qb4 m F).sim (n+1)=true:=by
 unfold Qb4;simp only[D.sim,List.all_map,ZU];intro p _;show(QfH (F p)).sim n=true;cases F p<;>cases n<;>rfl
def Qy1{m:Nat}{F:Nat->Option Int}:((List.range m).map λi=>QfH (F i)).any (λy=>deq y .non)=(List.range m).any λi=>(F i).isNone:=by
 rw[Zbk];congr 1;funext i;show deq (QfH (F i)) .non=(F i).isNone;cases F i<;>rfl
def Qs7{neg:Bool}{fb:DE}{ρ:En}{rb:R}{m:Nat}{F:Nat->Option Int}(hb:fb ρ=some rb)(eb:rb.d=Qb4 m F):dOp (gIn neg) (dC .non) fb ρ=some (reT (.bl (if neg then !((List.range m).any λi=>(F i).isNone)else(List.range m).any λi=>(F i).isNone))):=by
 refine Qai (ra:=⟨.non,true,[]⟩) rfl hb ?_;rw[eb];show(if D.non.sim 8 && (Qb4 m F).sim 8 then some (D.bl (if neg then !(((List.range m).map λi=>QfH (F i)).any λy=>deq y .non)else((List.range m).map λi=>QfH (F i)).any λy=>deq y .non))else none)=_;rw[QyA 7 m F,Qy1];rfl
def Qis(QbE:Den)(Qbl:Den):DS:=(Qc (Qq 2 (Ql 2 QbE [] (Qa vv0 (Qa vv1 Qb)))) (Qc (Qq 3 (dBf Qjq (Qa (Qw (Qca vv1 (Ql 1 Qbl [] (Qa vv0 Qb))) (.tp [1,2]) [none,none,none] QO (dOp gLt vv1 vv2)) Qb))) (Qc (QJ (Ql5 vv3 (dOp (gIn true) (dC .non) vv2))) Qe)))
def QpD(R:Lpp)(m:Nat)(h:Mt1)(F:Nat->Option Int):Bool:=(List.range m).all (λj=>decide (h j<QbZ R [] j)) && !((List.range m).any λi=>(F i).isNone)
def QmG(d:Den):Prop:=∀(m:Nat) (R:Lpp) (h:Mt1),0<m->m<=1000->R.length<=1000->(∀s∈R,Good m s)->(∀j,j<m->0<=h j)->d [Qo m R [],Qu m h]=some (.bl (QpD R m h (Qcr (QaE m (Qa2 R [])) h m m)),true)
def QvP{df ds:Den}(hf:Qlg df)(hs:Qpu ds):QmG (Qm 4 (Qis df ds)):=λm R h m0 hm hRl hR hpos=>by
 have ef:=hf m R h m0 hm hRl hR hpos;have es:=hs m R [] hm (by simp;lia) hR (λs hs=>absurd hs ⋯);generalize Qcr (QaE m (Qa2 R [])) h m m=F at *;refine QbU ?_;refine rsa (Q0 (r:=⟨[Qo m R [],Qu m h],false,[]⟩) rfl ef rfl) ?_
 have ec:=Qb5 (fi:=Qca (Qn 1) (Ql 1 ds [] (Qa (Qn 0) Qb))) (t:= .tp [1,2]) (cap:=[none,none,none]) (fe:=dOp gLt (Qn 1) (Qn 2)) (ρ:=[slF (Qo m R []),slF (Qu m h),slT (Qb4 m F),none])
  (toD:=λ(i:Nat)=> .tup [.int (h i),.int (QbZ R [] i)]) (out:=λ(i:Nat)=> .bl (decide (h i<QbZ R [] i))) (List.range m) (Qzu (ra:=reF (Qu m h)) rfl rfl (Q0 (r:=⟨[Qo m R []],false,[]⟩) rfl es rfl) rfl) rfl λi _=>⟨[none,slI (h i),slI (QbZ R [] i)],rfl,reT (.bl (decide (h i<QbZ R [] i))),rfl,rfl,rfl⟩
 refine rsa (Qzq (m:=m) (g:=λi=>decide (h i<QbZ R [] i)) ec rfl) ?_;exact QaN (QCB (a:=(List.range m).all λj=>decide (h j<QbZ R [] j)) (b:= !((List.range m).any λi=>(F i).isNone)) rfl (Qs7 (neg:=true) (m:=m) (F:=F) (rb:=⟨Qb4 m F,true,[2]⟩) rfl rfl)) ⟨rfl,rfl⟩
noncomputable def QgA(m:Int)(s:Int×Int):Bool:=decide (0<=s.1) && decide (0<=s.2) && decide (s.1<=m) && decide (s.2<=m) && !decide (s.1=s.2)
def QoS{m:Nat}{s:Int×Int}(h:QgA m s=true):Good m s:=by
 unfold QgA at h;simp only[Zh,decide_eq_true_eq,ZF,decide_eq_false_iff_not]at h;exact⟨h.1.1.1.1,h.1.1.1.2,h.1.1.2,h.1.2,h.2⟩
def Qja{α:Type}{p:α->Bool}:∀{xs:List α},¬(∀x∈xs,p x=true)->∃k,k<xs.length/\(∀i x,i<k->xs[i]? =some x->p x=true)/\∀x,xs[k]? =some x->p x=false
 | [],h=>absurd (λx hx=>by simp at hx) h
 | a::xs,h=>by
  by_cases ha:p a=true
  .obtain⟨k,h1,h2,h3⟩:=Qja (xs:=xs) λhx=>h λx hm=>by
    rcases Zn.mp hm with rfl | hm
    .exact ha
    .exact hx x hm
   refine⟨k+1,by simpa using h1,λi x hi e=>?_,λx e=>h3 x (by simpa using e)⟩;cases i with
   | zero=>simp at e;subst e;exact ha
   | succ i=>exact h2 i x ⋯ (by simpa using e)
  .exact⟨0,⋯,λi x hi=> ⋯,λx e=>by simp at e;subst e;simpa using ha⟩
def Qdu:DS:=(Qc (Qq 1 (Qbg (Qj vv0 kk0))) (Qc (sIf (bOr (Qg (dOp gLt vv1 kk1)) (Qg (dOp gGt vv1 kk8))) (Qc Qi Qe) Qe) (Qc (Qay (QH (QC (Qj vv0 kk1) (Qj vv0 kk2))) (.tp [2,3]) (Qc (sIf (bOr (Qg (dOp gLt (dBf Qb8 (Qa vv2 (Qa vv3 Qb))) kk0)) (Qg (dOp gGt (dBf Qcc (Qa vv2 (Qa vv3 Qb))) vv1))) (Qc Qi Qe) Qe) (Qc (sIf (Qg (dOp gEq vv2 vv3)) (Qc Qi Qe) Qe) Qe))) (Qc (Qay (QH (Qj vv0 kk2)) (.tp [2,3]) (Qc (sIf (Qg (dOp gEq vv2 vv1)) (Qc Qi Qe) Qe) Qe)) Qe))))
def Qdy:DX:=(Qh (Qq 1 (Qbg (Qj vv0 kk0))) xNo (Qh (sIf (bOr (Qg (dOp gLt vv1 kk1)) (Qg (dOp gGt vv1 kk8))) (Qc Qi Qe) Qe) (xIf (bOr (Qg (dOp gLt vv1 kk1)) (Qg (dOp gGt vv1 kk8))) (Qh Qi (Q9 "NoNet" (Qa (dC (.str "a net has from 1 to 8 places")) Qb)) xNo) xNo) (Qh (Qay (QH (QC (Qj vv0 kk1) (Qj vv0 kk2))) (.tp [2,3]) (Qc (sIf (bOr (Qg (dOp gLt (dBf Qb8 (Qa vv2 (Qa vv3 Qb))) kk0)) (Qg (dOp gGt (dBf Qcc (Qa vv2 (Qa vv3 Qb))) vv1))) (Qc Qi Qe) Qe) (Qc (sIf (Qg (dOp gEq vv2 vv3)) (Qc Qi Qe) Qe) Qe))) (QdO (QH (QC (Qj vv0 kk1) (Qj vv0 kk2))) (.tp [2,3]) (Qc (sIf (bOr (Qg (dOp gLt (dBf Qb8 (Qa vv2 (Qa vv3 Qb))) kk0)) (Qg (dOp gGt (dBf Qcc (Qa vv2 (Qa vv3 Qb))) vv1))) (Qc Qi Qe) Qe) (Qc (sIf (Qg (dOp gEq vv2 vv3)) (Qc Qi Qe) Qe) Qe)) (Qh (sIf (bOr (Qg (dOp gLt (dBf Qb8 (Qa vv2 (Qa vv3 Qb))) kk0)) (Qg (dOp gGt (dBf Qcc (Qa vv2 (Qa vv3 Qb))) vv1))) (Qc Qi Qe) Qe) (xIf (bOr (Qg (dOp gLt (dBf Qb8 (Qa vv2 (Qa vv3 Qb))) kk0)) (Qg (dOp gGt (dBf Qcc (Qa vv2 (Qa vv3 Qb))) vv1))) (Qh Qi (Q9 "NoNet" (Qa (dC (.str "a road or lane has a number that is neither a place nor the pit")) Qb)) xNo) xNo) (Qh (sIf (Qg (dOp gEq vv2 vv3)) (Qc Qi Qe) Qe) (xIf (Qg (dOp gEq vv2 vv3)) (Qh Qi (Q9 "NoNet" (Qa (dC (.str "a road or lane has one number twice")) Qb)) xNo) xNo) xNo))) (Qh (Qay (QH (Qj vv0 kk2)) (.tp [2,3]) (Qc (sIf (Qg (dOp gEq vv2 vv1)) (Qc Qi Qe) Qe) Qe)) (QdO (QH (Qj vv0 kk2)) (.tp [2,3]) (Qc (sIf (Qg (dOp gEq vv2 vv1)) (Qc Qi Qe) Qe) Qe) (Qh (sIf (Qg (dOp gEq vv2 vv1)) (Qc Qi Qe) Qe) (xIf (Qg (dOp gEq vv2 vv1)) (Qh Qi (Q9 "NoNet" (Qa (dC (.str "a lane leads from the pit")) Qb)) xNo) xNo) xNo)) xNo))))
local macro_rules | `(tactic|ac_rfl)=> `(tactic|repeat (first | exact Qac | exact Qz | assumption | apply Q2 | apply QaL | apply Qap | apply QP | apply QaA | apply ap_ret))
def QD5:ApF (Qm 4 Qdu) (QF 4 Qdy):=Qh4 (by unfold Qdu Qdy;ac_rfl)
def QoY{ρ:En}{m a b:Int}(h1:ρ[1]? =some (slI m))(h2:ρ[2]? =some (slI a))(h3:ρ[3]? =some (slI b)):bOr (Qg (dOp gLt (dBf Qb8 (Qa (Qn 2) (Qa (Qn 3) Qb))) (dC (.int 0)))) (Qg (dOp gGt (dBf Qcc (Qa (Qn 2) (Qa (Qn 3) Qb))) (Qn 1))) ρ=some (!(decide (0<=a) && decide (0<=b) && decide (a<=m) && decide (b<=m))):=by
 have v1:Qn 1 ρ=some (reI m):=(QcZ h1).trans rfl;have v2:Qn 2 ρ=some (reI a):=(QcZ h2).trans rfl;have v3:Qn 3 ρ=some (reI b):=(QcZ h3).trans rfl;refine(QiH (QM (Qai (d:= .bl (decide ((if b<a then b else a)<0))) (rb:=reI 0) (QyI (a:=a) (b:=b) v2 rfl v3 rfl) rfl rfl) rfl) (QM (Qai (d:= .bl (decide (m<(if b>a then b else a)))) (QvB (a:=a) (b:=b) v2 rfl v3 rfl) v1 rfl) rfl)).trans ?_;congr 1;by_cases c1:0<=a<;>by_cases c2:0<=b<;>by_cases c3:a<=m<;>by_cases c4:b<=m<;>simp only[c1,c2,c3,c4,decide_true,decide_false,Bool.and_true,Zbr,Bool.not_true,Bool.not_false,ZaW,Zbs]<;>simp only[Zbo,ZaM,decide_eq_true_eq,decide_eq_false_iff_not]<;>(split<;>split<;>lia)
structure Qoo (m:Int) (R L:Lpp):Prop where
 lo:1<=m
 hi:m<=8
 ways:∀s∈R++L,QgA m s=true
 pit:∀s∈L,s.1≠m
def Qkp(xd:List D->Option Str):Prop:=∀(m:Int) (R L:Lpp),R.length+L.length<=1000->¬Qoo m R L->xd [Qo m R L]=some "NoNet"
def QqB{ρ:En}{m:Int}{R L:Lpp}(h:ρ[0]? =some (slF (Qo m R L)))(hl:R.length+L.length<=1000):QH (QC (Qj (Qn 0) (dC (.int 1))) (Qj (Qn 0) (dC (.int 2)))) ρ=some ⟨(R++L).map pairD,[]⟩:=by
 obtain⟨_,e1,e2⟩:=QcK (m:=m) (R:=R) (L:=L) ((QcZ h).trans rfl) rfl;refine(QbQ (QAh (xs:=R.map pairD) (ys:=L.map pairD) e1 rfl e2 rfl (by rw[← Zai];exact Qda (λ_=>rfl) _) (by simp;lia)) rfl).trans ?_;rw[Zai]
def Qxc{m:Int}{R L:Lpp}{s:Int×Int}{j2 j3:Option (D×Bool)}(hg:QgA m s=true){Q:Out->Prop}(q:Q (.nx [slF (Qo m R L),slI m,slI s.1,slI s.2])):
  Run (Qc (sIf (bOr (Qg (dOp gLt (dBf Qb8 (Qa (Qn 2) (Qa (Qn 3) Qb))) (dC (.int 0)))) (Qg (dOp gGt (dBf Qcc (Qa (Qn 2) (Qa (Qn 3) Qb))) (Qn 1)))) (Qc Qi Qe) Qe) (Qc (sIf (Qg (dOp gEq (Qn 2) (Qn 3))) (Qc Qi Qe) Qe) Qe)) [slF (Qo m R L),slI m,slI s.1,slI s.2] Q:=by
 unfold QgA at hg;rw[Zh]at hg;refine run_seq (QaH (b:=false) ((QoY (m:=m) (a:=s.1) (b:=s.2) rfl rfl rfl).trans (by rw[hg.1];rfl)) (λh=>by cases h) (λ_=>QB ?_));refine run_seq (QaH (b:=false) (QM (Qhc (a:=s.1) (b:=s.2) (ra:=reI s.1) rfl rfl (rb:=reI s.2) rfl rfl) ?_) (λh=>by cases h) (λ_=>QB (QB q)));show D.bl _=_;have:=hg.2;simp only[ZF,decide_eq_false_iff_not]at this;rw[decide_eq_false this]
def QDv{m:Int}{R L:Lpp}(hl:R.length+L.length<=1000)(hg:∀s∈R++L,QgA m s=true){Q:Out->Prop}(q:∀j2 j3,Q (.nx [slF (Qo m R L),slI m,j2,j3])):
  Run (Qay (QH (QC (Qj (Qn 0) (dC (.int 1))) (Qj (Qn 0) (dC (.int 2))))) (.tp [2,3]) (Qc (sIf (bOr (Qg (dOp gLt (dBf Qb8 (Qa (Qn 2) (Qa (Qn 3) Qb))) (dC (.int 0)))) (Qg (dOp gGt (dBf Qcc (Qa (Qn 2) (Qa (Qn 3) Qb))) (Qn 1)))) (Qc Qi Qe) Qe) (Qc (sIf (Qg (dOp gEq (Qn 2) (Qn 3))) (Qc Qi Qe) Qe) Qe))) [slF (Qo m R L),slI m,none,none] Q:=by
 refine Qdt (toD:=pairD) (R++L) (λ_ ρ=>∃j2 j3,ρ=[slF (Qo m R L),slI m,j2,j3]) (QqB rfl hl) rfl ⟨none,none,rfl⟩ ?_ ?_
 .rintro i s ρ hi ⟨j2,j3,rfl⟩;exact⟨_,rfl,Qxc (j2:=j2) (j3:=j3) (hg s (Zah hi)) ⟨_,_,rfl⟩⟩
 .rintro ρ ⟨j2,j3,rfl⟩;exact q _ _
def Qpp:Qkp (QF 4 Qdy):=λm R L hl hN=>by
 refine Qbs (Qal (Qar (r:=reF (.int m)) rfl ?_));rw[QuM rfl];have eb:bOr (Qg (dOp gLt (Qn 1) (dC (.int 1)))) (Qg (dOp gGt (Qn 1) (dC (.int 8)))) [slF (Qo m R L),slI m,none,none]=some (decide (m<1) || decide (8<m)):=QiH (QM (Qai (d:= .bl (decide (m<1))) (ra:=reI m) (rb:=reI 1) rfl rfl rfl) rfl) (QM (Qai (d:= .bl (decide (8<m))) (ra:=reI m) (rb:=reI 8) rfl rfl rfl) rfl);by_cases c1:m<1∨8<m
 .exact QE (by ac_rfl) (QdL (b:=true) (eb.trans (by rcases c1 with c | c<;>simp[c])) (λ_=>QE Qz (QbF rfl (Zi _))) (λh=>by cases h))
 refine Qal (QaH (b:=false) (eb.trans (by simp;lia)) (λh=>by cases h) (λ_=>QB ?_));by_cases c2:∀s∈R++L,QgA m s=true
 .refine Qal (QDv hl c2 λj2 j3=>?_);have c3:¬ ∀s∈L,(!decide (s.1=m))=true:=λh=>hN ⟨⋯,⋯,c2,λs hs=>by simpa using h s hs⟩;obtain⟨k,k1,k2,k3⟩:=Qja c3;refine QE (Qap (by ac_rfl)) (QlD (by ac_rfl) (toD:=pairD) L (λ_ ρ=>∃j2 j3,ρ=[slF (Qo m R L),slI m,j2,j3]) k k1 (QbQ (QcK (m:=m) (R:=R) (L:=L) (r:=reF (Qo m R L)) rfl rfl).2.2 rfl) rfl ⟨j2,j3,rfl⟩ ?_ ?_)
  .rintro i s ρ hi hx ⟨j2,j3,rfl⟩;refine⟨_,rfl,?_⟩;refine run_seq (QaH (b:=false) (QM (Qhc (a:=s.1) (b:=m) (ra:=reI s.1) rfl rfl (rb:=reI m) rfl rfl) ?_) (λh=>by cases h) (λ_=>QB (QB ⟨_,_,rfl⟩)));have:=k2 i s hi hx;simp only[ZF,decide_eq_false_iff_not]at this;show D.bl _=_;rw[decide_eq_false this]
  .rintro s ρ hx ⟨j2,j3,rfl⟩;refine⟨_,rfl,?_⟩;refine QE (by ac_rfl) (QdL (b:=true) (QM (Qhc (a:=s.1) (b:=m) (ra:=reI s.1) rfl rfl (rb:=reI m) rfl rfl) ?_) (λ_=>QE Qz (QbF rfl (Zi _))) (λh=>by cases h));have:=k3 s hx;simp only[Bool.not_eq_false',decide_eq_true_eq]at this;show D.bl _=_;rw[decide_eq_true this]
 .obtain⟨k,k1,k2,k3⟩:=Qja c2;refine QE (Qap (by ac_rfl)) (QlD (by ac_rfl) (toD:=pairD) (R++L) (λ_ ρ=>∃j2 j3,ρ=[slF (Qo m R L),slI m,j2,j3]) k k1 (QqB rfl hl) rfl ⟨none,none,rfl⟩ ?_ ?_)
  .rintro i s ρ hi hx ⟨j2,j3,rfl⟩;exact⟨_,rfl,Qxc (j2:=j2) (j3:=j3) (k2 i s hi hx) ⟨_,_,rfl⟩⟩
  .rintro s ρ hx ⟨j2,j3,rfl⟩;refine⟨_,rfl,?_⟩;have hb:=k3 s hx;unfold QgA at hb;by_cases c:(decide (0<=s.1) && decide (0<=s.2) && decide (s.1<=m) && decide (s.2<=m))=true
   .rw[c,Zbs]at hb;simp only[Bool.not_eq_false',decide_eq_true_eq]at hb;refine Qal (QaH (b:=false) ((QoY (m:=m) (a:=s.1) (b:=s.2) rfl rfl rfl).trans (by rw[c];rfl)) (λh=>by cases h) (λ_=>QB ?_));refine QE (by ac_rfl) (QdL (b:=true) (QM (Qhc (a:=s.1) (b:=s.2) (ra:=reI s.1) rfl rfl (rb:=reI s.2) rfl rfl) ?_) (λ_=>QE Qz (QbF rfl (Zi _))) (λh=>by cases h));show D.bl _=_;rw[decide_eq_true hb]
   .have c':=Bool.eq_false_iff.mpr c;exact QE (by ac_rfl) (QdL (b:=true) ((QoY (m:=m) (a:=s.1) (b:=s.2) rfl rfl rfl).trans (by rw[c'];rfl)) (λ_=>QE Qz (QbF rfl (Zi _))) (λh=>by cases h))
def Qj7(QgZ:Den):DS:=(Qc (sIf (Qg (dOp gGt (QC (dBf QX (Qa (Qj vv0 kk1) Qb)) (dBf QX (Qa (Qj vv0 kk2) Qb))) QE1)) (Qc Qi Qe) Qe) (Qc (sIf (Qg (dOp (gIn false) (dC .non) (Ql 3 QgZ [] (Qa (Qj vv0 kk0) (Qa (Qj vv0 kk1) (Qa (Qj vv0 kk2) Qb)))))) (Qc Qi Qe) Qe) Qe))
def Qe8(Qav:Den)(Qbl:Den):DS:=(Qc (sIf (Qg (Ql 1 Qav [] (Qa vv0 Qb))) (Qc QnY Qe) Qe) (Qc (Qq 1 kk1) (Qc (Qay (QH (Ql 1 Qbl [] (Qa vv0 Qb))) (.nm 2) (Qc (Qq 1 (Qbq vv1 vv2)) Qe)) (Qc (sIf (Qg (dOp gGt vv1 QDY)) (Qc Qi Qe) Qe) Qe))))
noncomputable def nrm(p:Int×Int):Int×Int:=(if p.2<p.1 then p.2 else p.1,if p.2>p.1 then p.2 else p.1)
def Qfr(Qaz:Den)(QbC:Den)(Qad:Den):DS:=(Qc (Qq 3 (Qw (QH vv1) (.tp [1,2]) [none,none,none] QO (Q7 (Qa (dBf Qb8 (Qa vv1 (Qa vv2 Qb))) (Qa (dBf Qcc (Qa vv1 (Qa vv2 Qb))) Qb))))) (Qc (Qq 4 (Qw (QH (dOr vv2 (QI Qb))) (.tp [1,2]) [none,none,none] QO (Q7 (Qa vv1 (Qa vv2 Qb))))) (Qc (Qq 5 (Q7 (Qa vv0 (Qa vv3 (Qa vv4 Qb))))) (Qc (QW (Ql 1 Qaz [] (Qa vv5 Qb))) (Qc (QW (Ql 1 QbC [] (Qa vv5 Qb))) (Qc (QW (Ql 1 Qad [] (Qa vv5 Qb))) (Qc (QJ vv5) Qe)))))))
def QEx(L:Lpp)(d:D):Prop:=d=QL L∨(L=[]/\d= .non)
def QCy{ρ:En}{R:Lpp}(h:ρ[1]? =some (slF (QL R))):Qw (QH (Qn 1)) (.tp [1,2]) [none,none,none] QO (Q7 (Qa (dBf Qb8 (Qa (Qn 1) (Qa (Qn 2) Qb))) (Qa (dBf Qcc (Qa (Qn 1) (Qa (Qn 2) Qb))) Qb))) ρ=some (reT (QL (R.map nrm))):=by
 refine(Qb5 (toD:=pairD) (out:=λs=>pairD (nrm s)) R (QbQ ((QcZ h).trans rfl) rfl) rfl λs _=>⟨[none,slI s.1,slI s.2],rfl,⟨pairD (nrm s),true,[]⟩,rfl,rfl,rfl⟩).trans ?_;unfold QL;rw[ZZ];rfl
def Qyc{ρ:En}{L:Lpp}{l:D}(hl:QEx L l){b:Bool}(h:ρ[2]? =some (some (l,b)))(hb:b=l.flat):Qw (QH (dOr (Qn 2) (QI Qb))) (.tp [1,2]) [none,none,none] QO (Q7 (Qa (Qn 1) (Qa (Qn 2) Qb))) ρ=some (reT (QL L)):=by
 have e:∃M,QH (dOr (Qn 2) (QI Qb)) ρ=some ⟨L.map pairD,M⟩:=by
  rcases hl with rfl | ⟨rfl,rfl⟩
  .subst hb;cases L with
   | nil=>
    refine⟨_,QbQ (r:=reT (.lst [])) ?_ rfl⟩;unfold dOr;rw[show Qn 2 ρ=some (reF (.lst []))from(QcZ h).trans rfl];rfl
   | cons a l=>
    refine⟨_,QbQ (r:=reF (QL (a::l))) ?_ rfl⟩;unfold dOr;rw[show Qn 2 ρ=some (reF (QL (a::l)))from(QcZ h).trans rfl];rfl
  .refine⟨_,QbQ (r:=reT (.lst [])) ?_ rfl⟩;unfold dOr;rw[show Qn 2 ρ=some ⟨.non,true,[]⟩from(QcZ h).trans rfl];rfl
 obtain⟨M,e⟩:=e;exact Qb5 (toD:=pairD) (out:=pairD) L e rfl λs _=>⟨[none,slI s.1,slI s.2],rfl,⟨pairD s,true,[]⟩,rfl,rfl,rfl⟩
def Qoo.nat{m:Int}{R L:Lpp}(h:Qoo m R L):∃k:Nat,m=k/\0<k/\k<=8/\(∀s∈R,Good k s)/\∀s∈L,Good k s:=by
 have h1:=h.lo;have h2:=h.hi;obtain⟨k,rfl⟩:∃k:Nat,m=k:=⟨m.toNat,⋯⟩;exact⟨k,rfl,⋯,⋯,λs hs=>QoS (h.ways s (Zk _ hs)),λs hs=>QoS (h.ways s (Ze _ hs))⟩
end HS
namespace HS
open PySem PySem.Spec L2 PyProof.Rows PySem.NumText
noncomputable def cp(x:Str):List Nat:=x.cps.toList
noncomputable def tx(l:List Nat):Str:=⟨l.toArray⟩
def Qdv(l:List Nat):cp (tx l)=l:=rfl
def Qxd(x:Str):tx (cp x)=x:=by cases x;rfl
def QlG{x y:Str}(h:cp x=cp y):x=y:=by rw[← Qxd x,← Qxd y,h]
def Qec(x:Str):x.length=(cp x).length:=by unfold cp Str.length;exact ZO.symm
def QdE(x y:Str):cp (x++y)=cp x++cp y:=cps_toList_append x y
def dig(n:Nat):List Nat:=(Nat.toDigits 10 n).map Char.toNat
def Qra:∀d:Nat,d<10->(Nat.digitChar d).toNat=48+d:= ∅
def Qlw{n:Nat}(h:n<10):dig n=[48+n]:=by
 unfold dig;rw[Nat.toDigits_of_lt_base h,Zz,Qra n h];rfl
def Qjz{n:Nat}(h:10<=n):dig n=dig (n / 10)++[48+n % 10]:=by
 have e:n=10*(n / 10)+n % 10:= ⋯
 have:=Nat.toDigits_append_toDigits (b:=10) (n:=n / 10) (d:=n % 10) ∅ ⋯ ⋯;rw[← e]at this;unfold dig;rw[← this,Zai,Nat.toDigits_of_lt_base (show n % 10<10 by lia),Zz,Qra _ ⋯];rfl
def Qjv{P:Nat->Prop}(h1:∀n,n<10->P n)(h2:∀n,10<=n->P (n / 10)->P n)(n:Nat):P n:=by
 induction n using Nat.strongRecOn with
 | ind n ih=>
  by_cases h:n<10
  .exact h1 n h
  .exact h2 n ⋯ (ih _ ⋯)
def Qey(n:Nat):AllDigits (dig n):=by
 refine Qjv (P:=λn=>AllDigits (dig n)) (λn h=>?_) (λn h ih=>?_) n
 .rw[Qlw h];intro c hc;rw[Zj]at hc;lia
 .rw[Qjz h];intro c hc;rcases Zx.mp hc with hc | hc
  .exact ih c hc
  .rw[Zj]at hc;lia
def QqF(n:Nat):digitsVal (dig n)=n:=by
 refine Qjv (P:=λn=>digitsVal (dig n)=n) (λn h=>?_) (λn h ih=>?_) n
 .rw[Qlw h];show 0*10+(48+n-48)=n;lia
 .rw[Qjz h,digitsVal_snoc,ih];lia
def QvN{n:Nat}(h0:0<n):∃c r,dig n=c::r/\49<=c:=by
 revert h0;refine Qjv (P:=λn=>0<n->∃c r,dig n=c::r/\49<=c) (λn h h0=>?_) (λn h ih h0=>?_) n
 .exact⟨_,[],Qlw h,⋯⟩
 .obtain⟨c,r,e,hc⟩:=ih ⋯;exact⟨c,r++[48+n % 10],by rw[Qjz h,e];rfl,hc⟩
def Qhy(n:Nat):dig n≠[]:=by
 refine Qjv (P:=λn=>dig n≠[]) (λn h=>?_) (λn h ih=>?_) n
 .rw[Qlw h];simp
 .rw[Qjz h];simp
def QqL{n k:Nat}(hk:0<k)(h:n<10^k):(dig n).length<=k:=by
 unfold dig;rw[Zt,← Nat.toList_repr,String.length_toList];exact(Nat.length_repr_le_iff hk).mpr h
noncomputable def QG(i:Int):Str:=Str.ofString (toString i)
def QfC(i:Int):cp (QG i)=if i<0 then 45::dig i.natAbs else dig i.natAbs:=by
 show(Str.ofString (toString i)).cps.toList=_;rw[signs_ofString];cases i with
 | ofNat m=>
  rw[if_neg ⋯];show(Nat.repr m).toList.map Char.toNat=_;rw[Nat.toList_repr];rfl
 | negSucc m=>
  rw[if_pos (Int.negSucc_lt_zero m)];show("-" ++Nat.repr (m+1)).toList.map Char.toNat=_;rw[String.toList_append,Zai,Nat.toList_repr];rfl
def Qm2(i:Int):32∉cp (QG i):=by
 rw[QfC];intro h;split at h
 .rcases Zn.mp h with h | h
  .lia
  .have:=Qey _ _ h;lia
 .have:=Qey _ _ h;lia
def Qyz(i:Int):cp (QG i)≠[]:=by
 rw[QfC];split
 .simp
 .exact Qhy _
def Qf0{i:Int}{k:Nat}(hk:0<k)(h:i.natAbs<10^k):(QG i).length<=k+1:=by
 rw[Qec,QfC];have:=QqL hk h;split<;>simp<;>lia
def Qkm{i:Int}{k:Nat}(hk:0<k)(h:i.natAbs<10^k)(hk':k<=4000):intText? (QG i)=some i:=by
 have hl:=Qf0 hk h;have hc:=QfC i;by_cases hi:i<0
 .rw[if_pos hi]at hc;rw[intText_neg (x:=QG i) (cs:=dig i.natAbs) hc (Qey _) (Qhy _) ⋯,QqF];congr 1;lia
 .rw[if_neg hi]at hc;have hc':(QG i).cps.toList=dig i.natAbs:=hc;rw[intText_digits (x:=QG i) (by rw[hc'];exact Qey _) (by rw[hc'];exact Qhy _) ⋯,hc',QqF];congr 1;lia
noncomputable def jn(c:Nat):List (List Nat)->List Nat
 | []=>[]
 | [x]=>x
 | x::y::r=>x++c::jn c (y::r)
def QjM(c:Nat):∀ts:List Str,cp (Str.join (tx [c]) ts)=jn c (ts.map cp)
 | []=>rfl
 | [x]=>rfl
 | x::y::r=>by
  rw[join_cons_cons,QdE,QdE,QjM c (y::r)];show(cp x++[c])++_=cp x++c::_;rw[ZaA];rfl
def Qoz{c:Nat}:∀{a b r s:List Nat},c∉a->c∉b->a++c::r=b++c::s->a=b/\r=s
 | [],[],r,s,_,_,h=>⟨rfl,by simpa using h⟩
 | [],y::b,r,s,_,hb,h=>by simp at h;exact absurd (by simp[h.1]) hb
 | x::a,[],r,s,ha,_,h=>by simp at h;exact absurd (by simp[h.1]) ha
 | x::a,y::b,r,s,ha,hb,h=>by
  simp only[ZaI,List.cons.injEq]at h;obtain⟨e1,e2⟩:=Qoz (λm=>ha (Zc _ m)) (λm=>hb (Zc _ m)) h.2;exact⟨by rw[h.1,e1],e2⟩
def QtD{c:Nat}:∀{a b:List (List Nat)},a≠[]->b≠[]->(∀x∈a,c∉x)->(∀x∈b,c∉x)->jn c a=jn c b->a=b
 | [],_,h,_,_,_,_=>absurd rfl h
 | _,[],_,h,_,_,_=>absurd rfl h
 | [x],[y],_,_,_,_,h=>by rw[show x=y from h]
 | [x],y::z::r,_,_,hx,_,h=>absurd (show c∈x from by rw[show x=y++c::jn c (z::r)from h];simp) (hx x ⋯)
 | y::z::r,[x],_,_,_,hx,h=>absurd (show c∈x from by rw[show x=y++c::jn c (z::r)from h.symm];simp) (hx x ⋯)
 | x::z::r,y::w::s,_,_,ha,hb,h=>by
  obtain⟨e1,e2⟩:=Qoz (ha x ⋯) (hb y ⋯) (show x++c::jn c (z::r)=y++c::jn c (w::s)from h);rw[e1,QtD ⋯ ⋯ (λu hu=>ha u (Zc _ hu)) (λu hu=>hb u (Zc _ hu)) e2]
def Qwd(x y:Str)(hy:y≠x->True):Txt.split x y=[]->x=Str.empty:=λh=>by
 have:=StrLaws.join_split x y;rw[h]at this;exact this.symm
def Qlf:∀{a b:List Str},a.map cp=b.map cp->a=b
 | [],[],_=>rfl
 | [],_::_,h=>by simp at h
 | _::_,[],h=>by simp at h
 | x::a,y::b,h=>by
  simp only[Zz,List.cons.injEq]at h;rw[QlG h.1,Qlf h.2]
def Qr0{c:Nat}{ts:List Str}(h0:∀t∈ts,c∉cp t)(h1:ts≠[])(h2:Txt.split (Str.join (tx [c]) ts) (tx [c])≠[]):Txt.split (Str.join (tx [c]) ts) (tx [c])=ts:=by
 refine Qlf (QtD (c:=c) ?_ ?_ ?_ ?_ ?_)
 .simpa using h2
 .simpa using h1
 .intro x hx;obtain⟨t,ht,rfl⟩:=Zag.mp hx;exact StrLaws.split_free _ c t ht
 .intro x hx;obtain⟨t,ht,rfl⟩:=Zag.mp hx;exact h0 t ht
 .rw[← QjM,← QjM,StrLaws.join_split]
def QBw:Str.ofString "-" =tx [45]:= ∅
def Qq3:Str.ofString " " =tx [32]:= ∅
def QDs:Str.ofString "" =tx []:= ∅
def QAN:Str.ofString "0123456789" =tx [48,49,50,51,52,53,54,55,56,57]:= ∅
def QsD:Str.ofString "0" =tx [48]:= ∅
section
variable {fa fb:DE}{ρ:En}{ra rb r:R}
def QrP{g:D->D->Option D}{d:D}(ha:fa ρ=some ra)(hb:fb ρ=some rb)(h:g ra.d rb.d=some d):dM1 g fa (Qa fb Qb) ρ=some ⟨d,true,[]⟩:=by
 unfold dM1;rw[ha,Za,QD hb (Qat _),Za];show(g ra.d rb.d).map _=_;rw[h];rfl
def Qlc{g:List D->Option D}{d:D}(h:fa ρ=some r)(e:g [r.d]=some d):dBf g (Qa fa Qb) ρ=some ⟨d,true,[]⟩:=by
 unfold dBf;rw[QD h (Qat _),Za];show(g [r.d]).map _=_;rw[e];rfl
def Qzi{x:Str}(h:fa ρ=some r)(e:r.d= .str x)(hl:x.length<=16000000):QH fa ρ=some ⟨(cp x).map λc=> .str (tx [c]),[]⟩:=by
 unfold QH;rw[h,Za,e];exact if_pos (by rw[Qbr];exact Zy hl ∅)
def QmU{x:Str}(h:fa ρ=some r)(e:r.d= .str x)(hl:x.length<=16000000):dBf QX (Qa fa Qb) ρ=some (reI x.length):=
 Qlc h (by rw[e];exact if_pos (by rw[Qbr];exact Zy hl ∅))
def QqU{x y:Str}(ha:fa ρ=some ra)(ea:ra.d= .str x)(hb:fb ρ=some rb)(eb:rb.d= .str y)(hl:x.length+y.length<=16000000):QC fa fb ρ=some (reT (.str (x++y))):=by
 unfold QC;rw[ha,Za,hb,Za,ea,eb];exact if_pos (by rw[Qbr];exact Zy hl ∅)
def QiR{x:Str}{n:Nat}(h:∀c∈cp x,c<200):(D.str x).sim n=true:=by
 have:(D.str x).sim n=x.cps.all (· <0x110000):=by cases n<;>rfl
 rw[this,← Array.all_toList,ZU];intro c hc;have:=h c hc;exact decide_eq_true ⋯
def QsH(x y:Str):deq (.str x) (.str y)=(x == y):=rfl
def QBF{x y:Str}(ha:fa ρ=some ra)(ea:ra.d= .str x)(hb:fb ρ=some rb)(eb:rb.d= .str y)(hx:∀c∈cp x,c<200)(hy:∀c∈cp y,c<200):dOp gEq fa fb ρ=some (reT (.bl (x == y))):=
 Qai ha hb (by rw[ea,eb];unfold gEq;rw[QiR hx,QiR hy,QsH];rfl)
def QBR{x y:Str}(ha:fa ρ=some ra)(ea:ra.d= .str x)(hb:fb ρ=some rb)(eb:rb.d= .str y)(hx:∀c∈cp x,c<200)(hy:∀c∈cp y,c<200):dOp gNe fa fb ρ=some (reT (.bl (!(x == y)))):=
 Qai ha hb (by rw[ea,eb];unfold gNe;rw[QiR hx,QiR hy,QsH];rfl)
def Qt4{α:Type}:∀ks:List α,QhY (ks.map λ_=>D.bl false)=some (ks.map λ_=>false)
 | []=>rfl
 | k::ks=>by
  show(QhY (ks.map λ_=>D.bl false)).map _=_;rw[Qt4 ks];rfl
def QzH{α:Type}{ks:List α}(h:fa ρ=some r)(e:r.d= .lst (ks.map λ_=> .bl false)):dBf QcU (Qa fa Qb) ρ=some (reT (.bl false)):=by
 refine Qlc h ?_;rw[e];simp only[QcU,Qt4,ZD];congr 2;rw[Zbk];simp
end
def Qq4{w:Str}{c:Nat}{r:List Nat}(h:cp w=c::r):Txt.startswith w "-" =(c == 45):=by
 have e:w=tx (c::r):=QlG h;subst e;show Txt.startswith (tx (c::r)) (Str.ofString "-")=_;rw[QBw];simp[Txt.startswith,Builtin.Str.subAt,tx,Str.length,List.extract_toArray]
def QB9{w:Str}{c:Nat}{r:List Nat}(h:cp w=c::r):Txt.slice w (some 1) none=tx r:=by
 have hl:w.length=r.length+1:=by rw[Qec,h];rfl
 have e:Txt.slice w (some 1) none=StrLaws.sliceText w (some ((1:Nat):Int)) (some (w.length:Int)):=by
  show StrLaws.sliceText w (some 1) none=_;unfold StrLaws.sliceText;rw[StrLaws.sliceIdx_none_hi];rfl
 rw[e,StrLaws.sliceText_nat w ⋯ (Zi _)];show tx (((cp w).drop 1).take (w.length-1))=_;rw[h,hl];show tx (r.take (r.length+1-1))=_;rw[Nat.add_sub_cancel,Zbi]
def QmB{n c:Nat}(h:c∈dig n):c<200:=by have:=Qey n c h;lia
def Qn5{i:Int}{c:Nat}(h:c∈cp (QG i)):c<200:=by
 rw[QfC]at h;split at h
 .rcases Zn.mp h with h | h
  .lia
  .exact QmB h
 .exact QmB h
def Qyq{n c:Nat}(h:c∈dig n):gIn true (.str (tx [c])) (.str "0123456789")=some (.bl false):=by
 have f:=StrLaws.found_one (Str.ofString "0123456789") c;have hc:=Qey n c h;show some (D.bl (!(!(Builtin.Str.occurrences (Str.ofString "0123456789") ⟨#[c]⟩ 0 (Str.ofString "0123456789").length 1).isEmpty)))=_;rw[f,QAN];have:c∈(tx [48,49,50,51,52,53,54,55,56,57]).cps.toList:=by
  show c∈[48,49,50,51,52,53,54,55,56,57];simp only[Zn,Zbe,or_false];lia
 rw[decide_eq_true this];rfl
def Qbd:DS:=(Qc (Qq 1 (dIf (Qg (dM1 gSw vv0 (Qa (dC (.str "-")) Qb))) (Qa5 vv0 (Qab kk1) QaR) vv0)) (Qc (sIf (Qg (dBf QcU (Qa (Qw (QH vv1) (.nm 1) [none,none] QO (dOp (gIn true) vv1 (dC (.str "0123456789")))) Qb))) (Qc Qi Qe) Qe) (Qc (sIf (bOr (Qg (dOp gLt (dBf QX (Qa vv1 Qb)) kk1)) (Qg (dOp gGt (dBf QX (Qa vv1 Qb)) QuR))) (Qc Qi Qe) Qe) (Qc (sIf (Qdf (Qg (dOp gEq (Qj vv1 kk0) (dC (.str "0")))) (Qg (dOp gNe vv0 (dC (.str "0"))))) (Qc Qi Qe) Qe) (Qc (QJ (dBf Qpo (Qa vv0 Qb))) Qe)))))
def QCO(d:Den):Prop:=∀i:Int,i.natAbs<10^18->d [.str (QG i)]=some (.int i,true)
def QAL:QCO (Qm 2 Qbd):=λi h=>by
 have hl:=Qf0 ∅ h;have hf:=QqL ∅ h;have hc:=QfC i;refine QbU ?_;have hs:Txt.startswith (QG i) "-" =decide (i<0):=by
  by_cases hi:i<0
  .rw[if_pos hi]at hc;rw[Qq4 hc,decide_eq_true hi];rfl
  .rw[if_neg hi]at hc;cases hd:dig i.natAbs with
   | nil=>exact absurd hd (Qhy _)
   | cons c r=>
    rw[hd]at hc;have:=Qey i.natAbs c (by rw[hd];simp);rw[Qq4 hc,decide_eq_false hi];exact beq_eq_false_iff_ne.mpr ⋯
 have e1:dIf (Qg (dM1 gSw (Qn 0) (Qa (dC (.str "-")) Qb))) (Qa5 (Qn 0) (Qab (dC (.int 1))) QaR) (Qn 0) (QaF 2 [.str (QG i)])=some (reT (.str (tx (dig i.natAbs)))):=by
  have h0:Qg (dM1 gSw (Qn 0) (Qa (dC (.str "-")) Qb)) (QaF 2 [.str (QG i)])=some (decide (i<0)):=
   QM (r:=reT (.bl (Txt.startswith (QG i) "-"))) (QrP (ra:=reT (.str (QG i))) (rb:=reT (.str "-")) rfl rfl rfl) (by rw[hs])
  unfold dIf;rw[h0,Za];by_cases hi:i<0
  .rw[if_pos (decide_eq_true hi)];rw[if_pos hi]at hc;show(if(QG i).length<=sizeLine then some (HS.R.mk (.str (Txt.slice (QG i) (some 1) none)) true [])else none)=_;rw[if_pos (by rw[Qbr];lia),QB9 hc]
  .rw[if_neg (by rw[decide_eq_false hi];decide)];rw[if_neg hi]at hc;show some (HS.R.mk (.str (QG i)) true [])=_;rw[show QG i=tx (dig i.natAbs)from QlG hc]
 refine run_seq (Qar e1 ?_);change Nx _ (.nx [slT (.str (QG i)),slT (.str (tx (dig i.natAbs)))]);have hfl:(tx (dig i.natAbs)).length<=18:=by rw[Qec];exact hf
 refine QdT (QaH (b:=false) (QM (r:=reT (.bl false)) (QzH (ks:=dig i.natAbs) (Qb5 (toD:=λc=> .str (tx [c])) (out:=λ_=> .bl false) (dig i.natAbs) (Qzi (x:=tx (dig i.natAbs)) rfl rfl ⋯) rfl (λc hc=>⟨[none,slT (.str (tx [c]))],rfl,reT (.bl false),Qai (ra:=reT (.str (tx [c]))) (rb:=reT (.str "0123456789")) rfl rfl (Qyq hc),rfl,rfl⟩)) rfl) rfl) (λh=>by cases h) (λ_=>QB ?_));have hg:1<=(tx (dig i.natAbs)).length:=by
  rw[Qec];exact List.length_pos_iff.mpr (Qhy _)
 refine QdT (QaH (b:=false) ?_ (λh=>by cases h) (λ_=>QB ?_))
 .have:=QiH (a:=decide (((tx (dig i.natAbs)).length:Int)<1)) (b:=decide ((18:Int)<(tx (dig i.natAbs)).length)) (g1:=Qg (dOp gLt (dBf QX (Qa (Qn 1) Qb)) (dC (.int 1)))) (g2:=Qg (dOp gGt (dBf QX (Qa (Qn 1) Qb)) (dC (.int 18)))) (ρ:=[slT (.str (QG i)),slT (.str (tx (dig i.natAbs)))])
   (QM (Qai (ra:=reT (.int (tx (dig i.natAbs)).length)) (rb:=reI 1) (QmU rfl rfl ⋯) rfl rfl) rfl) (QM (Qai (ra:=reT (.int (tx (dig i.natAbs)).length)) (rb:=reI 18) (QmU rfl rfl ⋯) rfl rfl) rfl)
  rw[this,decide_eq_false ⋯,decide_eq_false ⋯];rfl
 have hw:(QG i == tx [48])=decide (i=0):=by
  by_cases h0:i=0
  .subst h0;decide
  .rw[decide_eq_false h0];refine beq_eq_false_iff_ne.mpr λe=>h0 ?_;have e2:=Qkm (i:=i) ∅ h ∅;rw[e,show tx [48]=QG 0 by decide,Qkm (i:=0) (k:=1) ∅ ∅ ∅]at e2;exact(Option.some.inj e2).symm
 refine QdT (QaH (b:=false) ?_ (λh=>by cases h) (λ_=>QB ?_))
 .cases hd:dig i.natAbs with
  | nil=>exact absurd hd (Qhy _)
  | cons c r=>
   have ei:Qj (Qn 1) (dC (.int 0)) [slT (.str (QG i)),slT (.str (tx (c::r)))]=some (reT (.str (tx [c]))):=by
    show(if 0<=(0:Int)/\(0:Int)<2^63/\(0:Int)<(tx (c::r)).length then((tx (c::r)).cps[(0:Int).toNat]?).map λc=>HS.R.mk (.str ⟨#[c]⟩) true []else none)=_;rw[if_pos ⟨∅,∅,by rw[Qec,Qdv];simp⟩];rfl
   have hcl:c<200:=QmB (n:=i.natAbs) (by rw[hd];simp)
   have:=QqJ (a:=tx [c] == tx [48]) (b:= !(QG i == tx [48])) (g1:=Qg (dOp gEq (Qj (Qn 1) (dC (.int 0))) (dC (.str "0")))) (g2:=Qg (dOp gNe (Qn 0) (dC (.str "0")))) (ρ:=[slT (.str (QG i)),slT (.str (tx (c::r)))])
    (QM (QBF (rb:=reT (.str "0")) ei rfl rfl (congrArg D.str QsD) (λc' h'=>by rw[Qdv,Zj]at h';lia) (λc' h'=>by rw[Qdv,Zj]at h';lia)) rfl)
    (QM (QBR (ra:=reT (.str (QG i))) (rb:=reT (.str "0")) rfl rfl rfl (congrArg D.str QsD) (λc' h'=>Qn5 h') (λc' h'=>by rw[Qdv,Zj]at h';lia)) rfl)
   rw[this,hw];by_cases h0:i=0
   .rw[decide_eq_true h0,Bool.not_true,Zbr]
   .obtain⟨c',r',e',hc'⟩:=QvN (n:=i.natAbs) ⋯;rw[hd]at e';obtain⟨rfl,rfl⟩:=List.cons.inj e';rw[beq_eq_false_iff_ne.mpr (λe=>by have:=congrArg cp e;rw[Qdv,Qdv]at this;simp at this;lia),ZaW]
 refine QaN (Qlc (r:=reT (.str (QG i))) (d:= .int i) rfl ?_) ⟨rfl,rfl⟩;show(if(QG i).length<=640 then(intText? (QG i)).map D.int else none)=_;rw[if_pos ⋯,Qkm ∅ h ∅];rfl
def QtJ{n:Int}(h:n.natAbs<10^60):QgJ [.int n]=some (.str (QG n)):=by
 show(if n.natAbs.log2<1920 then some (D.str (QG n))else none)=_;refine if_pos ?_;by_cases h0:n.natAbs=0
 .rw[h0];decide
 .exact(Zbq h0).mpr (Zr h (Zy (by decide:10^60<=2^200) (Nat.pow_le_pow_right ∅ ∅)))
def QfZ:DS:=(Qc (sIf (QdN (Qg (Qkj "str" vv0))) (Qc Qi Qe) Qe) (Qc (QJ (dM1 QmI vv0 (Qa (dC (.str " ")) Qb))) Qe))
def Qqs(d:Den):Prop:=∀x:Str,x.length<=16000000->(Txt.split x (tx [32])).length<=16000000->d [.str x]=some (.lst ((Txt.split x (tx [32])).map .str),true)
def QvV:Qqs (Qm 1 QfZ):=λx h1 h2=>by
 refine QbU (QdT (QaH (b:=false) (Qi0 (b:=true) (QM (b:=true) rfl rfl)) (λh=>by cases h) (λ_=>QB ?_)));refine QaN (QrP (ra:=reT (.str x)) (rb:=reT (.str " ")) rfl rfl ?_) ⟨rfl,rfl⟩;show(if(((Str.ofString " ").length == 0)=false/\x.length<=16000000)/\(Txt.split x (Str.ofString " ")).length<=16000000 then some (D.lst ((Txt.split x (Str.ofString " ")).map .str))else none)=_;rw[Qq3,if_pos ⟨⟨rfl,h1⟩,h2⟩]
def Qpb{ts:List Str}(h:∀t∈ts,∀c∈cp t,c<200):(D.lst (ts.map .str)).sim 8=true:=by
 show(ts.map D.str).all (D.sim 7)=true;rw[ZU];intro d hd;obtain⟨t,ht,rfl⟩:=Zag.mp hd;exact QiR (h t ht)
end HS
namespace HS
open PySem L2
def Qd2(Q1:Den)(x_need_rows:List D->Option Str):DX:=(Qh (QW (Ql 2 Q1 [] (Qa vv0 (Qa vv1 Qb)))) (QT 2 x_need_rows (Qa vv0 (Qa vv1 Qb))) (Qh (Qay (QH vv1) (.nm 2) (Qc (sIf (Qg (dOp gLt (dBf QeX (Qa vv2 Qb)) kk0)) (Qc Qi Qe) Qe) Qe)) (QdO (QH vv1) (.nm 2) (Qc (sIf (Qg (dOp gLt (dBf QeX (Qa vv2 Qb)) kk0)) (Qc Qi Qe) Qe) Qe) (Qh (sIf (Qg (dOp gLt (dBf QeX (Qa vv2 Qb)) kk0)) (Qc Qi Qe) Qe) (xIf (Qg (dOp gLt (dBf QeX (Qa vv2 Qb)) kk0)) (Qh Qi (Q9 "NoHeap" (Qa (dC (.str "a heap has no number below 0")) Qb)) xNo) xNo) xNo)) xNo))
local macro_rules | `(tactic|ac_rfl)=> `(tactic|repeat (first | exact Qac | exact Qz | assumption | apply Q2 | apply QaL | apply Qap | apply QP | apply QaA | apply ap_ret))
def QuS{dn:Den}{xn:List D->Option Str}(h:ApF dn xn):ApF (Qm 3 (Qdb dn)) (QF 3 (Qd2 dn xn)):=Qh4 (by unfold Qdb Qd2;ac_rfl)
structure Qk7 (xd:List D->Option Str):Prop where
 row:∀(m:Int) (R L:Lpp) (xs:List D),(xs.length:Int)≠m->xd [Qo m R L,.lst [.lst xs]]=some "NoRow"
 heap:∀(m:Nat) (R L:Lpp) (f:Mt1) (j:Nat),j<m->f j<0->xd [Qo m R L,.lst [Qu m f]]=some "NoHeap"
def QtP{dn:Den}{xn:List D->Option Str}(h:ApF dn xn)(hn:QiC dn)(hx:QnF xn):Qk7 (QF 3 (Qd2 dn xn)) where
 row:=λm R L xs hm=>by
  refine Qbs (QE (QP h) (Qba (r:=⟨[Qo m R L,.lst [.lst xs]],_,_⟩) rfl rfl ?_));exact hx m R L [xs] 0 ⋯ (λi x hi e=> ⋯) (λx e=>by cases e;exact hm)
 heap:=λm R L f j hj hf=>by
  obtain⟨v,_,hle,hv⟩:=Qqx (by lia:0<m) f;have h0:=hle j hj;refine Qbs (Qal (Qcv (Q0 (r:=⟨[Qo m R L,.lst [Qu m f]],false,[]⟩) rfl (hn m R L [f]) rfl) ?_));refine QE (Qap (by ac_rfl)) (QlD (by ac_rfl) (toD:=λf=>Qu m f) [f] (λ_ ρ=>ρ=[slF (Qo m R L),slF (.lst [Qu m f]),none]) 0 ⋯ (ir:=⟨[Qu m f],[]⟩) rfl rfl rfl (λi x ρ hi=>absurd hi ⋯) ?_);rintro x ρ hx rfl;cases hx;refine⟨_,rfl,?_⟩;refine QE (by ac_rfl) (QdL (b:=true) (QM (Qai (rb:=reI 0) (d:= .bl (decide (v<0))) (hv (r:=reF (Qu m f)) rfl rfl) rfl rfl) ?_) (λ_=>QE Qz (QbF rfl (Zi _))) (λh=>by cases h));show D.bl _=_;rw[decide_eq_true ⋯]
def Qd8(Qav:Den):DX:=(Qh (sIf (QdN (Qg (Ql 1 Qav [] (Qa vv0 Qb)))) (Qc Qi Qe) Qe) (xIf (QdN (Qg (Ql 1 Qav [] (Qa vv0 Qb)))) (Qh Qi (Q9 "NotPlain" (Qa (dC (.str "this is told of nets without lanes alone")) Qb)) xNo) xNo) xNo)
def Qv4{dp:Den}:ApF (Qm 1 (Qc1 dp)) (QF 1 (Qd8 dp)):=Qh4 (by unfold Qc1 Qd8;ac_rfl)
def QoQ(xd:List D->Option Str):Prop:=∀(m:Int) (R L:Lpp),L≠[]->xd [Qo m R L]=some "NotPlain"
def Qt6{dp:Den}(hp:QjG dp):QoQ (QF 1 (Qd8 dp)):=λm R L hL=>by
 have:decide ((L.length:Int)=0)=false:=decide_eq_false (by cases L with | nil=>exact absurd rfl hL | cons a l=>simp;lia);refine Qbs (QE (by ac_rfl) (QdL (b:=true) (Qi0 (b:=false) (QM (b:=false) (Q0 (r:=⟨[Qo m R L],false,[]⟩) rfl (hp m R L) rfl) ?_)) (λ_=>QE Qz (QbF rfl (Zi _))) (λh=>by cases h)));show D.bl _=_;rw[this]
def QlM(Qah:Den)(QN:Den)(Qv:Den)(QS:Den)(x_need_heaps:List D->Option Str)(x_need_plain:List D->Option Str):DX:=(Qh (QW (Ql 1 QS [] (Qa vv0 Qb))) (QT 1 x_need_plain (Qa vv0 Qb)) (Qh (QW (Ql 2 Qv [] (Qa vv0 (Qa (QI (Qa vv1 Qb)) Qb)))) (QT 2 x_need_heaps (Qa vv0 (Qa (QI (Qa vv1 Qb)) Qb))) (Qh (Qq 2 (Ql 1 QN [] (Qa vv0 Qb))) xNo (Qh (Qq 3 (Qbq (QI (Qa (dC .non) Qb)) (Qj vv0 kk0))) xNo (Qh (Qq 4 (QhN (Qj vv0 kk0))) xNo (Qh (Qay (QdW kk1 (QC (Qj vv0 kk0) kk1)) (.nm 5) (Qc (Qq 7 (Qw (QH vv4) (.nm 1) [none,none,some 4,some 1,some 2] (Qg (dOp gGe (Qj vv3 vv1) (Ql 3 Qah [] (Qa (Qj vv4 vv1) (Qa vv1 (Qa vv2 Qb)))))) vv1)) (Qc (Qay (QH vv7) (.nm 6) (Qc (QdR 3 Qau vv6 vv5) Qe)) (Qc (Qq 4 (Qw (QH vv4) (.nm 1) [none,none,some 7] (Qg (dOp (gIn true) vv1 vv2)) vv1)) Qe)))) (QdO (QdW kk1 (QC (Qj vv0 kk0) kk1)) (.nm 5) (Qc (Qq 7 (Qw (QH vv4) (.nm 1) [none,none,some 4,some 1,some 2] (Qg (dOp gGe (Qj vv3 vv1) (Ql 3 Qah [] (Qa (Qj vv4 vv1) (Qa vv1 (Qa vv2 Qb)))))) vv1)) (Qc (Qay (QH vv7) (.nm 6) (Qc (QdR 3 Qau vv6 vv5) Qe)) (Qc (Qq 4 (Qw (QH vv4) (.nm 1) [none,none,some 7] (Qg (dOp (gIn true) vv1 vv2)) vv1)) Qe))) (Qh (Qq 7 (Qw (QH vv4) (.nm 1) [none,none,some 4,some 1,some 2] (Qg (dOp gGe (Qj vv3 vv1) (Ql 3 Qah [] (Qa (Qj vv4 vv1) (Qa vv1 (Qa vv2 Qb)))))) vv1)) xNo (Qh (Qay (QH vv7) (.nm 6) (Qc (QdR 3 Qau vv6 vv5) Qe)) (QdO (QH vv7) (.nm 6) (Qc (QdR 3 Qau vv6 vv5) Qe) (Qh (QdR 3 Qau vv6 vv5) xNo xNo)) (Qh (Qq 4 (Qw (QH vv4) (.nm 1) [none,none,some 7] (Qg (dOp (gIn true) vv1 vv2)) vv1)) xNo xNo)))) (Qh (QJ vv3) xNo xNo)))))))
def Qyt{dp dh dt da:Den}{xh xp:List D->Option Str}(h1:ApF dh xh)(h2:ApF dp xp):ApF (Qm 8 (Qls dp dh dt da)) (QF 8 (QlM da dt dh dp xh xp)):=Qh4 (by unfold Qls QlM;ac_rfl)
structure Qxe (xd:List D->Option Str):Prop where
 plain:∀(m:Int) (R L:Lpp) (xs:List D),L≠[]->xd [Qo m R L,.lst xs]=some "NotPlain"
 row:∀(m:Nat) (R:Lpp) (xs:List D),xs.length≠m->xd [Qo m R [],.lst xs]=some "NoRow"
 heap:∀(m:Nat) (R:Lpp) (f:Mt1) (j:Nat),j<m->f j<0->xd [Qo m R [],Qu m f]=some "NoHeap"
def Qvc{dp dh dt da:Den}{xh xp:List D->Option Str}(h1:ApF dh xh)(h2:ApF dp xp)(hp:Qes dp)(hx:Qk7 xh)(px:QoQ xp):Qxe (QF 8 (QlM da dt dh dp xh xp)) where
 plain:=λm R L xs hL=>Qbs (QE (QP h2) (Qba (r:=⟨[Qo m R L],_,_⟩) rfl rfl (px m R L hL)))
 row:=λm R xs hl=>by
  refine Qbs (Qal (Qcv (Q0 (r:=⟨[Qo m R []],false,[]⟩) rfl (hp m R) rfl) ?_));exact QE (QP h1) (Qba (r:=⟨[Qo m R [],.lst [.lst xs]],_,_⟩) rfl rfl (hx.row m R [] xs ⋯))
 heap:=λm R f j hj hf=>by
  refine Qbs (Qal (Qcv (Q0 (r:=⟨[Qo m R []],false,[]⟩) rfl (hp m R) rfl) ?_));exact QE (QP h1) (Qba (r:=⟨[Qo m R [],.lst [Qu m f]],_,_⟩) rfl rfl (hx.heap m R [] f j hj hf))
end HS
namespace HS
open PySem PySem.Spec L2 PyProof.Rows
noncomputable def QbI:ClT:=[("Desk",["net","heaps"])]
noncomputable def wCd:CdT:=[("net",["net"]),("heap",["name","row"]),("add",["name","heap","heap"]),("again",["name","heap"]),("drop",["heap"]),("names",[]),("show",["heap"]),("still",["heap"]),("counts",["heap"]),("fire",["heap"]),("comes",["heap"]),("alike",["heap","heap"]),("tree",["heap"]),("place",["heap"]),("rings",[]),("many",[]),("nought",[])]
def Qhv:DS:=(Qc (QJ (Qw (Qas vv0) (.nm 1) [none,none,some 1] QO (dIf (Qg (dOp gEq vv1 vv2)) kk1 kk0))) Qe)
def QfL(d_opposite:Den):DS:=(Qc (Qq 2 (Qw (QdW vv1 (dBf QX (Qa vv0 Qb))) (.nm 1) [none,none,some 1,some 0] (Qg (dOp gNe (Qj (Qj vv3 vv1) vv2) kk0)) vv1)) (Qc (sIf (bOr (QdN (Qg vv2)) (Qg (dOp gEq (Qj vv2 kk0) vv1))) (Qc (QJ vv0) Qe) Qe) (Qc (Qq 3 (dList (Qa vv0 Qb))) (Qc (QdR 3 Qau vv1 (Qj vv0 (Qj vv2 kk0))) (Qc (QdR 3 Qau (Qj vv2 kk0) (Ql 1 d_opposite [] (Qa (Qj vv0 vv1) Qb))) (Qc (QJ vv3) Qe))))))
def Qii(Qde:Den):DS:=(Qc (Qq 1 (Qbg vv0)) (Qc (Qq 2 kk1) (Qc (Qay (Qas (dBf QX (Qa vv0 Qb))) (.nm 3) (Qc (Qq 1 (Ql 2 Qde [] (Qa vv1 (Qa vv3 Qb)))) (Qc (Qq 4 (Qbg (Qj vv1 vv3))) (Qc (sIf (Qg (dOp gEq (Qj vv4 vv3) kk0)) (Qc (QJ (Q7 (Qa vv1 (Qa kk0 Qb)))) Qe) Qe) (Qc QK (Qc (QdR 1 Qau vv3 vv4) (Qc (Qq 2 (Qbg (Qj vv4 vv3))) Qe))))))) (Qc (QJ (Q7 (Qa vv1 (Qa vv2 Qb)))) Qe))))
def Qeq(Qcl:Den):DS:=(Qc (Qq 1 (Ql 1 Qcl [] (Qa vv0 Qb))) (Qc (sIf (Qg (dOp gEq (Qj vv1 kk1) kk0)) (Qc Qi Qe) Qe) (Qc (QJ vv1) Qe)))
def Qeo(Qcl:Den):DX:=(Qh (Qq 1 (Ql 1 Qcl [] (Qa vv0 Qb))) xNo (Qh (sIf (Qg (dOp gEq (Qj vv1 kk1) kk0)) (Qc Qi Qe) Qe) (xIf (Qg (dOp gEq (Qj vv1 kk1) kk0)) (Qh Qi (Q9 "NoRings" (Qa (dC (.str "the table has measure 0")) Qb)) xNo) xNo) (Qh (QJ vv1) xNo xNo)))
def Qfk(Qdm:Den)(Qb2:Den)(x_cleared_whole:List D->Option Str):DX:=(Qh (Qq 1 (dBf QX (Qa vv0 Qb))) xNo (Qh (Qq 2 (Ql 1 Qb2 [] (Qa (Qw (Qdh vv0) (.tp [1,2]) [none,none,none,some 1] QO (QC vv2 (Ql 2 Qdm [] (Qa vv3 (Qa vv1 Qb))))) Qb))) (QT 1 x_cleared_whole (Qa (Qw (Qdh vv0) (.tp [1,2]) [none,none,none,some 1] QO (QC vv2 (Ql 2 Qdm [] (Qa vv3 (Qa vv1 Qb))))) Qb)) (Qh (QJ (Q7 (Qa (Qw (QH (Qj vv2 kk0)) (.nm 1) [none,none,some 1] QO (Qa5 vv1 (Qab vv2) QaR)) (Qa (Qj vv2 kk1) Qb)))) xNo xNo)))
def Qdx(Qad:Den)(QbC:Den)(Qaz:Den)(x_need_numbers:List D->Option Str):DX:=(Qh (Qq 3 (Qw (QH vv1) (.tp [1,2]) [none,none,none] QO (Q7 (Qa (dBf Qb8 (Qa vv1 (Qa vv2 Qb))) (Qa (dBf Qcc (Qa vv1 (Qa vv2 Qb))) Qb))))) xNo (Qh (Qq 4 (Qw (QH (dOr vv2 (QI Qb))) (.tp [1,2]) [none,none,none] QO (Q7 (Qa vv1 (Qa vv2 Qb))))) xNo (Qh (Qq 5 (Q7 (Qa vv0 (Qa vv3 (Qa vv4 Qb))))) xNo (Qh (QW (Ql 1 Qaz [] (Qa vv5 Qb))) (QT 1 x_need_numbers (Qa vv5 Qb)) (Qh (QW (Ql 1 QbC [] (Qa vv5 Qb))) xNo (Qh (QW (Ql 1 Qad [] (Qa vv5 Qb))) xNo (Qh (QJ vv5) xNo xNo)))))))
def QjT(QN:Den)(Qv:Den)(x_need_heaps:List D->Option Str):DX:=(Qh (QW (Ql 2 Qv [] (Qa vv0 (Qa (QI (Qa vv1 Qb)) Qb)))) (QT 2 x_need_heaps (Qa vv0 (Qa (QI (Qa vv1 Qb)) Qb))) (Qh (Qq 2 (Ql 1 QN [] (Qa vv0 Qb))) xNo (Qh (Qq 3 (Qbq (QI (Qa kk0 Qb)) (Qj vv0 kk0))) xNo (Qh (Qq 4 (Qbq (QI (Qa kk0 Qb)) (Qj vv0 kk0))) xNo (Qh (Qq 5 (Q7 (Qa vv3 (Qa vv4 Qb)))) xNo (Qh QK xNo (Qh QK xNo (Qh (QJ vv5) xNo xNo))))))))
def Qfg(x_turned_back:List D->Option Str):DX:=(Qh QK (QT 1 x_turned_back (Qa vv0 Qb)) (Qh QK xNo (Qh (Qq 3 (Qbg (Qj vv2 kk0))) xNo (Qh (Qq 4 (Qbg (Qj vv2 kk1))) xNo (Qh (Qq 5 (Qbg (Qj vv2 kk2))) xNo (Qh QK xNo (Qh QK xNo (Qh QK xNo (Qh (QJ (Q7 (Qa vv7 (Qa vv6 (Qa vv3 (Qa vv8 (Qa vv4 Qb))))))) xNo xNo)))))))))
def Qb9:DX:=(Qh (Qq 1 (dIf (Qg (dM1 gSw vv0 (Qa (dC (.str "-")) Qb))) (Qa5 vv0 (Qab kk1) QaR) vv0)) xNo (Qh (sIf (Qg (dBf QcU (Qa (Qw (QH vv1) (.nm 1) [none,none] QO (dOp (gIn true) vv1 (dC (.str "0123456789")))) Qb))) (Qc Qi Qe) Qe) (xIf (Qg (dBf QcU (Qa (Qw (QH vv1) (.nm 1) [none,none] QO (dOp (gIn true) vv1 (dC (.str "0123456789")))) Qb))) (Qh Qi (Q9 "NoText" (Qa (dC (.str "a number has figures from 0 to 9 alone, or - ahead of them")) Qb)) xNo) xNo) (Qh (sIf (bOr (Qg (dOp gLt (dBf QX (Qa vv1 Qb)) kk1)) (Qg (dOp gGt (dBf QX (Qa vv1 Qb)) QuR))) (Qc Qi Qe) Qe) (xIf (bOr (Qg (dOp gLt (dBf QX (Qa vv1 Qb)) kk1)) (Qg (dOp gGt (dBf QX (Qa vv1 Qb)) QuR))) (Qh Qi (Q9 "NoText" (Qa (dC (.str "a number has from one to eighteen figures")) Qb)) xNo) xNo) (Qh (sIf (Qdf (Qg (dOp gEq (Qj vv1 kk0) (dC (.str "0")))) (Qg (dOp gNe vv0 (dC (.str "0"))))) (Qc Qi Qe) Qe) (xIf (Qdf (Qg (dOp gEq (Qj vv1 kk0) (dC (.str "0")))) (Qg (dOp gNe vv0 (dC (.str "0"))))) (Qh Qi (Q9 "NoText" (Qa (dC (.str "a number has no nought ahead, and 0 no -")) Qb)) xNo) xNo) (Qh (QJ (dBf Qpo (Qa vv0 Qb))) xNo xNo)))))
def Qhh(QaK:Den)(Qbo:Den)(x_read_number:List D->Option Str):DX:=(Qh (Qq 1 (Ql 1 Qbo [] (Qa vv0 Qb))) xNo (Qh (sIf (Qg (dOp gEq vv1 (QI (Qa (dC (.str "")) Qb)))) (Qc (QJ (QI Qb)) Qe) Qe) (xIf (Qg (dOp gEq vv1 (QI (Qa (dC (.str "")) Qb)))) (Qh (QJ (QI Qb)) xNo xNo) xNo) (Qh (QJ (Qw (QH vv1) (.nm 1) [none,none] QO (Ql 1 QaK [] (Qa vv1 Qb)))) (QeY (QH vv1) (.nm 1) [none,none] QO (Ql 1 QaK [] (Qa vv1 Qb)) (QT 1 x_read_number (Qa vv1 Qb))) xNo)))
def Qil(Qbt:Den)(QbE:Den)(x_fire:List D->Option Str):DX:=(Qh (Qq 2 (Ql 2 QbE [] (Qa vv0 (Qa vv1 Qb)))) (QT 2 x_fire (Qa vv0 (Qa vv1 Qb))) (Qh (sIf (QdN (Qg (Ql 2 Qbt [] (Qa vv0 (Qa vv1 Qb))))) (Qc Qi Qe) Qe) (xIf (QdN (Qg (Ql 2 Qbt [] (Qa vv0 (Qa vv1 Qb))))) (Qh Qi (Q9 "NotAgain" (Qa (dC (.str "the heap does not come again")) Qb)) xNo) xNo) (Qh (Qq 3 (QI Qb)) xNo (Qh (Qay (Qdh vv1) (.tp [4,5]) (Qc QK (Qc (QdA 3 Qau (Qj (Qj vv6 kk0) (dOp QdB (Qj vv6 kk1) vv5))) Qe))) (QdO (Qdh vv1) (.tp [4,5]) (Qc QK (Qc (QdA 3 Qau (Qj (Qj vv6 kk0) (dOp QdB (Qj vv6 kk1) vv5))) Qe)) (Qh QK xNo (Qh (QdA 3 Qau (Qj (Qj vv6 kk0) (dOp QdB (Qj vv6 kk1) vv5))) xNo xNo))) (Qh QK xNo xNo)))))
def Qgm(d_tree_depths:Den):DX:=(Qh (sIf (Qg (dOp gNe (dBf QX (Qa vv1 Qb)) (Qj vv0 kk0))) (Qc Qi Qe) Qe) (xIf (Qg (dOp gNe (dBf QX (Qa vv1 Qb)) (Qj vv0 kk0))) (Qh Qi (Q9 "NoTree" (Qa (dC (.str "a tree has as many roads as the net has places")) Qb)) xNo) xNo) (Qh (sIf (Qg (dBf QcU (Qa (Qw (Qca vv1 (Qa5 vv1 (Qab kk1) QaR)) (.tp [1,2]) [none,none,none] QO (dOp gGe vv1 vv2)) Qb))) (Qc Qi Qe) Qe) (xIf (Qg (dBf QcU (Qa (Qw (Qca vv1 (Qa5 vv1 (Qab kk1) QaR)) (.tp [1,2]) [none,none,none] QO (dOp gGe vv1 vv2)) Qb))) (Qh Qi (Q9 "NoTree" (Qa (dC (.str "a tree's road numbers rise")) Qb)) xNo) xNo) (Qh (sIf (bOr (Qg (dOp gLt (Qj vv1 kk0) kk0)) (Qg (dOp gGe (Qj vv1 (Qi4 kk1)) (dBf QX (Qa (Qj vv0 kk1) Qb))))) (Qc Qi Qe) Qe) (xIf (bOr (Qg (dOp gLt (Qj vv1 kk0) kk0)) (Qg (dOp gGe (Qj vv1 (Qi4 kk1)) (dBf QX (Qa (Qj vv0 kk1) Qb))))) (Qh Qi (Q9 "NoTree" (Qa (dC (.str "a tree has a number that is no road's")) Qb)) xNo) xNo) (Qh (sIf (Qg (dOp (gIn false) (dC .non) (Ql 2 d_tree_depths [] (Qa vv0 (Qa vv1 Qb))))) (Qc Qi Qe) Qe) (xIf (Qg (dOp (gIn false) (dC .non) (Ql 2 d_tree_depths [] (Qa vv0 (Qa vv1 Qb))))) (Qh Qi (Q9 "NoTree" (Qa (dC (.str "a place has no way to the pit along the tree's roads")) Qb)) xNo) xNo) xNo))))
def Qfd(d_tree_depths:Den)(QS:Den)(x_need_tree:List D->Option Str)(x_need_plain:List D->Option Str):DX:=(Qh (QW (Ql 1 QS [] (Qa vv0 Qb))) (QT 1 x_need_plain (Qa vv0 Qb)) (Qh QK (QT 2 x_need_tree (Qa vv0 (Qa vv1 Qb))) (Qh (Qq 2 (QC (Ql 2 d_tree_depths [] (Qa vv0 (Qa vv1 Qb))) (QI (Qa kk0 Qb)))) xNo (Qh (Qq 3 (QI Qb)) xNo (Qh (Qay (Qas (Qj vv0 kk0)) (.nm 4) (Qc QK (Qc (Qq 6 (Qw (Qdh (Qj vv5 kk0)) (.tp [1,2]) [none,none,none,some 1] (Qg (dOp (gIn false) vv2 vv3)) vv1)) (Qc (QdA 3 Qau (dOp QdB (Qj vv5 kk1) (Qj vv6 kk0))) Qe)))) (QdO (Qas (Qj vv0 kk0)) (.nm 4) (Qc QK (Qc (Qq 6 (Qw (Qdh (Qj vv5 kk0)) (.tp [1,2]) [none,none,none,some 1] (Qg (dOp (gIn false) vv2 vv3)) vv1)) (Qc (QdA 3 Qau (dOp QdB (Qj vv5 kk1) (Qj vv6 kk0))) Qe))) (Qh QK xNo (Qh (Qq 6 (Qw (Qdh (Qj vv5 kk0)) (.tp [1,2]) [none,none,none,some 1] (Qg (dOp (gIn false) vv2 vv3)) vv1)) xNo (Qh (QdA 3 Qau (dOp QdB (Qj vv5 kk1) (Qj vv6 kk0))) xNo xNo)))) (Qh (QJ vv3) xNo xNo))))))
def Qg0(QS:Den):DS:=(Qc (QW (Ql 1 QS [] (Qa vv0 Qb))) (Qc (QJ (Q7 (Qa (QC (Qj vv0 kk0) kk1) (Qa (Qj vv0 kk1) (Qa (Qj vv0 kk2) Qb))))) Qe))
def Qgo(Qcq:Den)(Q1:Den)(x_need_rows:List D->Option Str):DX:=(Qh (QW (Ql 2 Q1 [] (Qa (Ql 1 Qcq [] (Qa vv0 Qb)) (Qa (QI (Qa vv1 Qb)) Qb)))) (QT 2 x_need_rows (Qa (Ql 1 Qcq [] (Qa vv0 Qb)) (Qa (QI (Qa vv1 Qb)) Qb))) (Qh (sIf (bOr (Qg (dOp gGt (Qj vv0 kk0) kk4)) (Qg (dOp gGt (dBf QeL (Qa vv1 Qb)) kk6))) (Qc Qi Qe) Qe) (xIf (bOr (Qg (dOp gGt (Qj vv0 kk0) kk4)) (Qg (dOp gGt (dBf QeL (Qa vv1 Qb)) kk6))) (Qh Qi (Q9 "TooMany" (Qa (dC (.str "worth is told of nets of at most 4 places and full rows of at most 6 grains")) Qb)) xNo) xNo) (Qh (Qq 2 (Qi4 kk1)) xNo (Qh QK xNo (Qh QK xNo (Qh (QJ vv2) xNo xNo))))))
def Qfi(QaK:Den):DS:=(Qc (sIf (Qg (dOp gNe (dBf QX (Qa vv0 Qb)) kk1)) (Qc Qi Qe) Qe) (Qc (QJ (Ql 1 QaK [] (Qa vv0 Qb))) Qe))
def Qgu(d_read_alike:Den)(QaI:Den):DS:=(Qc (Qq 1 (dM1 QnV vv0 (Qa (dC (.str "*")) Qb))) (Qc (Qq 2 (Qbg (Qj vv1 kk0))) (Qc (sIf (bOr (Qg (dOp gNe (dBf QX (Qa vv2 Qb)) kk3)) (Qg (dOp (gIn true) (Qj vv2 kk1) (Q7 (Qa (dC (.str "-")) (Qa (dC (.str ">")) Qb)))))) (Qc Qi Qe) Qe) (Qc (Qq 3 (dIf (Qg (Qj vv1 kk1)) (Ql 1 d_read_alike [] (Qa (Qj vv1 kk2) Qb)) kk1)) (Qc (QJ (Qbq (QI (Qa (Q7 (Qa (Ql 1 QaI [] (Qa (Qj vv2 kk0) Qb)) (Qa (Ql 1 QaI [] (Qa (Qj vv2 kk2) Qb)) Qb))) Qb)) vv3)) Qe)))))
def Qht(Qbo:Den)(QaI:Den)(QdG:Den)(Qbn:Den):DS:=(Qc (Qq 1 (Ql 1 Qbo [] (Qa vv0 Qb))) (Qc (Qq 2 (Ql 1 QaI [] (Qa (Qj vv1 kk0) Qb))) (Qc (Qq 3 (QI Qb)) (Qc (Qq 4 (QI Qb)) (Qc (Qay (QH (Qa5 vv1 (Qab kk1) QaR)) (.nm 5) (Qc (Qro 6 4 3 (Qg (dOp gEq (Qa5 vv5 (Qab kk1) (Qab kk2)) (dC (.str ">")))) (Ql 1 QdG [] (Qa vv5 Qb))) Qe)) (Qc (QJ (Ql 3 Qbn [] (Qa vv2 (Qa vv3 (Qa vv4 Qb))))) Qe))))))
def QcP:DS:=(Qc (sIf (QdN (Qg (Qkj "str" vv0))) (Qc Qi Qe) Qe) (Qc (Qq 1 (dM1 QmI vv0 (Qa (dC (.str " ")) Qb))) (Qc (sIf (Qpd wCd true (Qj vv1 kk0)) (Qc Qi Qe) Qe) (Qc (Qq 2 (Qbg (QhR wCd (Qj vv1 kk0)))) (Qc (sIf (bOr (Qg (dOp (gIn false) (dC (.str "net")) vv2)) (Qg (dOp (gIn false) (dC (.str "row")) vv2))) (Qc (Qq 1 (QlR vv0 (Qa (dC (.str " ")) (Qa (dBf QX (Qa vv2 Qb)) Qb)))) Qe) Qe) (Qc (sIf (Qg (dOp gNe (dBf QX (Qa vv1 Qb)) (QC (dBf QX (Qa vv2 Qb)) kk1))) (Qc Qi Qe) Qe) (Qc (QJ vv1) Qe)))))))
def QcS:DX:=(Qh (sIf (QdN (Qg (Qkj "str" vv0))) (Qc Qi Qe) Qe) (xIf (QdN (Qg (Qkj "str" vv0))) (Qh Qi (Q9 "NoDeed" (Qa (dC (.str "a command is a text")) Qb)) xNo) xNo) (Qh (Qq 1 (dM1 QmI vv0 (Qa (dC (.str " ")) Qb))) xNo (Qh (sIf (Qpd wCd true (Qj vv1 kk0)) (Qc Qi Qe) Qe) (xIf (Qpd wCd true (Qj vv1 kk0)) (Qh Qi (Q9 "NoDeed" (Qa (dC (.str "there is no such command")) Qb)) xNo) xNo) (Qh (Qq 2 (Qbg (QhR wCd (Qj vv1 kk0)))) xNo (Qh (sIf (bOr (Qg (dOp (gIn false) (dC (.str "net")) vv2)) (Qg (dOp (gIn false) (dC (.str "row")) vv2))) (Qc (Qq 1 (QlR vv0 (Qa (dC (.str " ")) (Qa (dBf QX (Qa vv2 Qb)) Qb)))) Qe) Qe) (xIf (bOr (Qg (dOp (gIn false) (dC (.str "net")) vv2)) (Qg (dOp (gIn false) (dC (.str "row")) vv2))) (Qh (Qq 1 (QlR vv0 (Qa (dC (.str " ")) (Qa (dBf QX (Qa vv2 Qb)) Qb)))) xNo xNo) xNo) (Qh (sIf (Qg (dOp gNe (dBf QX (Qa vv1 Qb)) (QC (dBf QX (Qa vv2 Qb)) kk1))) (Qc Qi Qe) Qe) (xIf (Qg (dOp gNe (dBf QX (Qa vv1 Qb)) (QC (dBf QX (Qa vv2 Qb)) kk1))) (Qh Qi (Q9 "NoDeed" (Qa (dC (.str "the command has too few words or too many")) Qb)) xNo) xNo) (Qh (QJ vv1) xNo xNo)))))))
def Qeb:DS:=(Qc (sIf (bOr (Qg (dOp gLt (dBf QX (Qa vv0 Qb)) kk1)) (bOr (Qg (dOp gGt (dBf QX (Qa vv0 Qb)) kk8)) (Qg (dBf QcU (Qa (Qw (QH vv0) (.nm 1) [none,none] QO (dOp (gIn true) vv1 (dC (.str "abcdefghijklmnopqrstuvwxyz")))) Qb))))) (Qc Qi Qe) Qe) Qe)
def Qam:DS:=(Qc (QeU QbI 0 "net" (dC .non)) (Qc (QeU QbI 0 "heaps" dDs) Qe))
def Qei(Qbk:Den)(Qv:Den)(QbB:Den):DS:=(Qc (sIf (Qg (dOp gEq vv1 (dC (.str "net")))) (Qc (QJ (Ql 1 Qbk [] (Qa vv2 Qb))) Qe) Qe) (Qc (sIf (Qg (dOp gEq vv1 (dC (.str "row")))) (Qc QK (Qc (QW (Ql 2 Qv [] (Qa (Qej QbI "net" vv0) (Qa (QI (Qa vv3 Qb)) Qb)))) (Qc (QJ vv3) Qe))) Qe) (Qc (QW (Ql 1 QbB [] (Qa vv2 Qb))) (Qc (sIf (Qg (dOp gEq vv1 (dC (.str "name")))) (Qc (QJ vv2) Qe) Qe) (Qc (sIf (Qg (dOp (gIn true) vv2 (Qej QbI "heaps" vv0))) (Qc Qi Qe) Qe) (Qc (QJ (Qj (Qej QbI "heaps" vv0) vv2)) Qe))))))
def Qek(QbB:Den)(Qv:Den)(Qbk:Den)(x_need_heaps:List D->Option Str)(x_read_row:List D->Option Str):DX:=(Qh (sIf (Qg (dOp gEq vv1 (dC (.str "net")))) (Qc (QJ (Ql 1 Qbk [] (Qa vv2 Qb))) Qe) Qe) (xIf (Qg (dOp gEq vv1 (dC (.str "net")))) (Qh (QJ (Ql 1 Qbk [] (Qa vv2 Qb))) xNo xNo) xNo) (Qh (sIf (Qg (dOp gEq vv1 (dC (.str "row")))) (Qc QK (Qc (QW (Ql 2 Qv [] (Qa (Qej QbI "net" vv0) (Qa (QI (Qa vv3 Qb)) Qb)))) (Qc (QJ vv3) Qe))) Qe) (xIf (Qg (dOp gEq vv1 (dC (.str "row")))) (Qh QK (QT 1 x_read_row (Qa vv2 Qb)) (Qh (QW (Ql 2 Qv [] (Qa (Qej QbI "net" vv0) (Qa (QI (Qa vv3 Qb)) Qb)))) (QT 2 x_need_heaps (Qa (Qej QbI "net" vv0) (Qa (QI (Qa vv3 Qb)) Qb))) (Qh (QJ vv3) xNo xNo))) xNo) (Qh (QW (Ql 1 QbB [] (Qa vv2 Qb))) xNo (Qh (sIf (Qg (dOp gEq vv1 (dC (.str "name")))) (Qc (QJ vv2) Qe) Qe) (xIf (Qg (dOp gEq vv1 (dC (.str "name")))) (Qh (QJ vv2) xNo xNo) xNo) (Qh (sIf (Qg (dOp (gIn true) vv2 (Qej QbI "heaps" vv0))) (Qc Qi Qe) Qe) (xIf (Qg (dOp (gIn true) vv2 (Qej QbI "heaps" vv0))) (Qh Qi (Q9 "NoName" (Qa (dC (.str "no heap stands by this name")) Qb)) xNo) xNo) (Qh (QJ (Qj (Qej QbI "heaps" vv0) vv2)) xNo xNo))))))
def Qho(QaC:Den)(mv:MvT):DS:=(Qc (Qq 2 (Ql 1 QaC [] (Qa vv1 Qb))) (Qc (Qq 3 (Qbg (Qj vv2 kk0))) (Qc (sIf (Qdf (Qg (dOp (Qfe false) (Qej QbI "net" vv0) (dC .non))) (Qg (dOp gNe vv3 (dC (.str "net"))))) (Qc Qi Qe) Qe) (Qc (Qq 4 (Qw (Qli (QhR wCd vv3) (Qa5 vv2 (Qab kk1) QaR)) (.tp [1,2]) [none,none,none,some 0] QO (QgR mv 3 "read_part" (Qa vv1 (Qa vv2 Qb))))) (Qc (sIf (Qg (dOp gEq vv3 (dC (.str "net")))) (Qc (QeU QbI 0 "net" (Qj vv4 kk0)) (Qc (QeU QbI 0 "heaps" dDs) Qe)) (Qc (sIf (Qg (dOp gEq vv3 (dC (.str "drop")))) (Qc QK Qe) (Qc (sIf (Qg (dOp (gIn false) vv3 (Q7 (Qa (dC (.str "heap")) (Qa (dC (.str "add")) (Qa (dC (.str "again")) Qb)))))) (Qc QK Qe) (Qc (sIf (Qg (dOp gEq vv3 (dC (.str "names")))) (Qc QK Qe) (Qc QK Qe)) Qe)) Qe)) Qe)) (Qc (QrW 0 (dC (.str "ok"))) Qe))))))
def Qhm(QaC:Den)(mv:MvT)(x_command_words:List D->Option Str)(mx:MxT):DX:=(Qh (Qq 2 (Ql 1 QaC [] (Qa vv1 Qb))) (QT 1 x_command_words (Qa vv1 Qb)) (Qh (Qq 3 (Qbg (Qj vv2 kk0))) xNo (Qh (sIf (Qdf (Qg (dOp (Qfe false) (Qej QbI "net" vv0) (dC .non))) (Qg (dOp gNe vv3 (dC (.str "net"))))) (Qc Qi Qe) Qe) (xIf (Qdf (Qg (dOp (Qfe false) (Qej QbI "net" vv0) (dC .non))) (Qg (dOp gNe vv3 (dC (.str "net"))))) (Qh Qi (Q9 "NoNet" (Qa (dC (.str "no net has been told")) Qb)) xNo) xNo) (Qh (Qq 4 (Qw (Qli (QhR wCd vv3) (Qa5 vv2 (Qab kk1) QaR)) (.tp [1,2]) [none,none,none,some 0] QO (QgR mv 3 "read_part" (Qa vv1 (Qa vv2 Qb))))) (QeY (Qli (QhR wCd vv3) (Qa5 vv2 (Qab kk1) QaR)) (.tp [1,2]) [none,none,none,some 0] QO (QgR mv 3 "read_part" (Qa vv1 (Qa vv2 Qb))) (xMe mx 3 "read_part" (Qa vv1 (Qa vv2 Qb)))) (Qh (sIf (Qg (dOp gEq vv3 (dC (.str "net")))) (Qc (QeU QbI 0 "net" (Qj vv4 kk0)) (Qc (QeU QbI 0 "heaps" dDs) Qe)) (Qc (sIf (Qg (dOp gEq vv3 (dC (.str "drop")))) (Qc QK Qe) (Qc (sIf (Qg (dOp (gIn false) vv3 (Q7 (Qa (dC (.str "heap")) (Qa (dC (.str "add")) (Qa (dC (.str "again")) Qb)))))) (Qc QK Qe) (Qc (sIf (Qg (dOp gEq vv3 (dC (.str "names")))) (Qc QK Qe) (Qc QK Qe)) Qe)) Qe)) Qe)) (xIf (Qg (dOp gEq vv3 (dC (.str "net")))) (Qh (QeU QbI 0 "net" (Qj vv4 kk0)) xNo (Qh (QeU QbI 0 "heaps" dDs) xNo xNo)) (Qh (sIf (Qg (dOp gEq vv3 (dC (.str "drop")))) (Qc QK Qe) (Qc (sIf (Qg (dOp (gIn false) vv3 (Q7 (Qa (dC (.str "heap")) (Qa (dC (.str "add")) (Qa (dC (.str "again")) Qb)))))) (Qc QK Qe) (Qc (sIf (Qg (dOp gEq vv3 (dC (.str "names")))) (Qc QK Qe) (Qc QK Qe)) Qe)) Qe)) (xIf (Qg (dOp gEq vv3 (dC (.str "drop")))) (Qh QK xNo xNo) (Qh (sIf (Qg (dOp (gIn false) vv3 (Q7 (Qa (dC (.str "heap")) (Qa (dC (.str "add")) (Qa (dC (.str "again")) Qb)))))) (Qc QK Qe) (Qc (sIf (Qg (dOp gEq vv3 (dC (.str "names")))) (Qc QK Qe) (Qc QK Qe)) Qe)) (xIf (Qg (dOp (gIn false) vv3 (Q7 (Qa (dC (.str "heap")) (Qa (dC (.str "add")) (Qa (dC (.str "again")) Qb)))))) (Qh QK xNo xNo) (Qh (sIf (Qg (dOp gEq vv3 (dC (.str "names")))) (Qc QK Qe) (Qc QK Qe)) (xIf (Qg (dOp gEq vv3 (dC (.str "names")))) (Qh QK xNo xNo) (Qh QK xNo xNo)) xNo)) xNo)) xNo)) (Qh (QJ (dC (.str "ok"))) xNo xNo))))))
def Qez(Qaa:Den):DS:=(Qc (Qq 1 (QC kk1 (dOp Qc8 (Ql 2 Qaa [] (Qa vv0 (Qa kk0 Qb))) kk4))) (Qc (Qq 2 (dOp Qc8 (Ql 2 Qaa [] (Qa vv0 (Qa kk1 Qb))) QE7)) (Qc (Qq 3 (QI Qb)) (Qc (Qay (Qas vv1) (.nm 4) (Qc (sIf (Qdf (Qg (dOp gGt vv4 kk0)) (Qg (dOp gEq (dOp Qpc (dOp QoL vv2 vv4) kk1) kk1))) (Qc (QdA 3 Qau (Q7 (Qa (dOp QdB vv4 kk1) (Qa vv4 Qb)))) Qe) (Qc (QdA 3 Qau (Q7 (Qa vv4 (Qa vv1 Qb)))) Qe)) Qe)) (Qc (Qay (QH (Qa5 vv0 (Qab kk6) (Qab QEw))) (.nm 5) (Qc (QdA 3 Qau (Q7 (Qa (dOp Qc8 (dOp Qc8 (Qbq vv5 QqD) QiX) vv1) (Qa vv1 Qb)))) Qe)) (Qc (QJ (Q7 (Qa vv1 (Qa vv3 (Qa (QI Qb) Qb))))) Qe))))))
def Qfh(QbE:Den)(Qbn:Den)(x_heap_of:List D->Option Str)(x_tree_of:List D->Option Str)(x_ring_tables:List D->Option Str)(x_fire:List D->Option Str)(x_row_worth:List D->Option Str)(x_still:List D->Option Str)(x_after:List D->Option Str)(x_made_net:List D->Option Str):DX:=(Qh (Qq 4 (dOp Qc8 vv3 (Qj vv1 kk0))) xNo (Qh (sIf (Qg (dOp gEq vv0 kk0)) (Qc (QW (Ql 3 Qbn [.non] (Qa (Qj vv1 kk0) (Qa (QC (Qj vv1 kk1) (QI (Qa (Q7 (Qa vv4 (Qa vv4 Qb))) Qb))) Qb)))) Qe) Qe) (xIf (Qg (dOp gEq vv0 kk0)) (Qh (QW (Ql 3 Qbn [.non] (Qa (Qj vv1 kk0) (Qa (QC (Qj vv1 kk1) (QI (Qa (Q7 (Qa vv4 (Qa vv4 Qb))) Qb))) Qb)))) (QfO 3 [.non] x_made_net (Qa (Qj vv1 kk0) (Qa (QC (Qj vv1 kk1) (QI (Qa (Q7 (Qa vv4 (Qa vv4 Qb))) Qb))) Qb))) xNo) xNo) (Qh (sIf (Qg (dOp gEq vv0 kk1)) (Qc QK Qe) Qe) (xIf (Qg (dOp gEq vv0 kk1)) (Qh QK (QT 3 x_after (Qa vv1 (Qa (QC vv2 (QI (Qa vv3 Qb))) (Qa vv2 Qb)))) xNo) xNo) (Qh (sIf (Qg (dOp gEq vv0 kk2)) (Qc QK Qe) Qe) (xIf (Qg (dOp gEq vv0 kk2)) (Qh QK (QT 2 x_still (Qa vv1 (Qa (QC (QC (Qa5 vv2 QaR (Qab vv4)) (QI (Qa (dOp QdB (Qi4 kk1) vv3) Qb))) (Qa5 vv2 (Qab (QC vv4 kk1)) QaR)) Qb))) xNo) xNo) (Qh (sIf (Qg (dOp gEq vv0 kk3)) (Qc QK Qe) Qe) (xIf (Qg (dOp gEq vv0 kk3)) (Qh QK (QT 2 x_row_worth (Qa vv1 (Qa (QC (Qbq (QI (Qa kk0 Qb)) (Qj vv1 kk0)) (QI (Qa (QC kk7 vv3) Qb))) Qb))) xNo) xNo) (Qh (sIf (Qg (dOp gEq vv0 kk4)) (Qc (QW (Ql 2 QbE [] (Qa (Q7 (Qa (Qj vv1 kk0) (Qa (Qw (Qas (Qj vv1 kk0)) (.nm 1) [none,none,some 1] QO (Q7 (Qa vv1 (Qa (Qj vv2 kk0) Qb)))) (Qa (QI (Qa (Q7 (Qa vv4 (Qa (Qj vv1 kk0) Qb))) Qb)) Qb)))) (Qa vv2 Qb)))) Qe) Qe) (xIf (Qg (dOp gEq vv0 kk4)) (Qh (QW (Ql 2 QbE [] (Qa (Q7 (Qa (Qj vv1 kk0) (Qa (Qw (Qas (Qj vv1 kk0)) (.nm 1) [none,none,some 1] QO (Q7 (Qa vv1 (Qa (Qj vv2 kk0) Qb)))) (Qa (QI (Qa (Q7 (Qa vv4 (Qa (Qj vv1 kk0) Qb))) Qb)) Qb)))) (Qa vv2 Qb)))) (QT 2 x_fire (Qa (Q7 (Qa (Qj vv1 kk0) (Qa (Qw (Qas (Qj vv1 kk0)) (.nm 1) [none,none,some 1] QO (Q7 (Qa vv1 (Qa (Qj vv2 kk0) Qb)))) (Qa (QI (Qa (Q7 (Qa vv4 (Qa (Qj vv1 kk0) Qb))) Qb)) Qb)))) (Qa vv2 Qb))) xNo) xNo) (Qh (sIf (Qg (dOp gEq vv0 kk5)) (Qc QK Qe) Qe) (xIf (Qg (dOp gEq vv0 kk5)) (Qh QK (QT 1 x_ring_tables (Qa (Qw (Qas (QC kk1 vv4)) (.nm 1) [none,none,some 4] QO (Qbq (QI (Qa kk0 Qb)) (QC kk1 vv2))) Qb)) xNo) xNo) (Qh (sIf (Qg (dOp gEq vv0 kk6)) (Qc QK Qe) Qe) (xIf (Qg (dOp gEq vv0 kk6)) (Qh QK (QT 2 x_tree_of (Qa vv1 (Qa (Qbq (QI (Qa (QC QBB vv3) Qb)) (Qj vv1 kk0)) Qb))) xNo) xNo) (Qh (sIf (Qg (dOp gEq vv0 kk7)) (Qc QK Qe) Qe) (xIf (Qg (dOp gEq vv0 kk7)) (Qh QK (QT 2 x_heap_of (Qa vv1 (Qa (Qw (Qas (Qj vv1 kk0)) (.nm 1) [none,none,some 3] QO (QC (QC QBB vv2) vv1)) Qb))) xNo) xNo) xNo)))))))))
def Qcp(QaY:Qh9)(me:MeT)(x_read_row:List D->Option Str)(x__law_stages:List D->Option Str)(mx:MxT):DX:=(Qh (Qq 4 (QjL "Desk" ⟨1,0,QaY⟩ Qb)) xNo (Qh (sIf (Qg (dOp gLt vv0 kk8)) (Qc QK Qe) Qe) (xIf (Qg (dOp gLt vv0 kk8)) (Qh QK (QT 4 x__law_stages (Qa vv0 (Qa vv1 (Qa vv2 (Qa vv3 Qb))))) xNo) xNo) (Qh (sIf (Qg (dOp gEq vv0 kk8)) (Qc QK Qe) Qe) (xIf (Qg (dOp gEq vv0 kk8)) (Qh QK (QT 1 x_read_row (Qa (QC (dBf QgJ (Qa vv3 Qb)) (dC (.str " x"))) Qb)) xNo) xNo) (Qh (sIf (Qg (dOp gEq vv0 kk9)) (Qc (Qcx me 4 "say" (Qa (dC (.str "net 1 0-1")) Qb)) (Qc (Qcx me 4 "say" (Qa (QC (dC (.str "show ")) (Qa5 (dC (.str "abcdefgh")) (Qab (dOp Qc8 vv3 kk8)) QaR)) Qb)) Qe)) Qe) (xIf (Qg (dOp gEq vv0 kk9)) (Qh (Qcx me 4 "say" (Qa (dC (.str "net 1 0-1")) Qb)) (xMe mx 4 "say" (Qa (dC (.str "net 1 0-1")) Qb)) (Qh (Qcx me 4 "say" (Qa (QC (dC (.str "show ")) (Qa5 (dC (.str "abcdefgh")) (Qab (dOp Qc8 vv3 kk8)) QaR)) Qb)) (xMe mx 4 "say" (Qa (QC (dC (.str "show ")) (Qa5 (dC (.str "abcdefgh")) (Qab (dOp Qc8 vv3 kk8)) QaR)) Qb)) xNo)) xNo) (Qh (sIf (Qg (dOp gEq vv0 QuO)) (Qc (Qcx me 4 "say" (Qa (QC (dC (.str "heaps ")) (dBf QgJ (Qa vv3 Qb))) Qb)) Qe) Qe) (xIf (Qg (dOp gEq vv0 QuO)) (Qh (Qcx me 4 "say" (Qa (QC (dC (.str "heaps ")) (dBf QgJ (Qa vv3 Qb))) Qb)) (xMe mx 4 "say" (Qa (QC (dC (.str "heaps ")) (dBf QgJ (Qa vv3 Qb))) Qb)) xNo) xNo) xNo)))))
def QfK(sub:Str->Str->Option Bool):DS:=(Qc (Qq 1 (QI (Qa (Qcm sub ["NoNet"] vv0) (Qa (Qcm sub ["NoRow"] vv0) (Qa (Qcm sub ["NoHeap"] vv0) (Qa (Qcm sub ["TooMany"] vv0) Qb)))))) (Qc (Qq 1 (QC vv1 (QI (Qa (Qcm sub ["NotPlain"] vv0) (Qa (Qcm sub ["NoRings"] vv0) (Qa (Qcm sub ["NotAgain"] vv0) (Qa (Qcm sub ["NoTree"] vv0) Qb))))))) (Qc (Qq 1 (QC vv1 (QI (Qa (Qcm sub ["NoText"] vv0) (Qa (Qcm sub ["NoName"] vv0) (Qa (Qcm sub ["NoDeed"] vv0) Qb)))))) (Qc (QJ (QC vv1 (QI (Qa (Qcm sub ["ValueError"] vv0) Qb)))) Qe))))
def Qgv(d__law_asked:Den)(Qdc:Den)(x__law_asked:List D->Option Str)(sub:Str->Str->Option Bool):DS:=(Qc (Qq 4 (QI Qb)) (Qc (QmM (Qc (QW (Ql 4 d__law_asked [] (Qa vv0 (Qa vv1 (Qa vv2 (Qa vv3 Qb)))))) Qe) (Qh (QW (Ql 4 d__law_asked [] (Qa vv0 (Qa vv1 (Qa vv2 (Qa vv3 Qb)))))) (QT 4 x__law_asked (Qa vv0 (Qa vv1 (Qa vv2 (Qa vv3 Qb))))) xNo) sub [("HeapError",some 5,(Qc (Qq 4 (Ql 1 Qdc [] (Qa vv5 Qb))) Qe))]) (Qc (QJ vv4) Qe)))
def QmT(Qdq:Den)(Qaa:Den)(QcL:Den):DS:=(Qc (Qq 1 (Ql 1 Qdq [] (Qa vv0 Qb))) (Qc (Qq 2 (dOp Qc8 (Qbq (Ql 2 Qaa [] (Qa vv0 (Qa kk2 Qb))) QzE) (QC (dOp QwA QuO kk9) kk1))) (Qc (Qq 3 (Qw (Qas (Qj vv1 kk0)) (.nm 1) [none,none,some 0] QO (dOp Qc8 (dOp Qc8 (Qbq (Ql 2 Qaa [] (Qa vv2 (Qa (QC kk3 vv1) Qb))) QqD) QiX) QEJ))) (Qc (Qay (Qas QBe) (.nm 4) (Qc (sIf (Qg (dOp gNe (Ql 4 QcL [] (Qa vv4 (Qa vv1 (Qa vv3 (Qa vv2 Qb))))) (QC (Qw (Qas QBe) (.nm 1) [none,none,some 4] QO (dOp gEq vv2 vv1)) (QI (Qa (dC (.bl true)) Qb))))) (Qc (QJ (dC (.bl false))) Qe) Qe) Qe)) (Qc (QJ (dC (.bl true))) Qe)))))
abbrev QBr:Den:=Qm 4 (QfL (λ_=>none))
abbrev Qs2:Den:=Qm 5 (Qii QBr)
abbrev QlJ:List D->Option Str:=QF 9 (Qfg (QF 3 (Qfk (Qm 2 Qhv) (Qm 2 (Qeq Qs2)) (QF 2 (Qeo Qs2)))))
def zT(n:Nat):D:= .lst (List.replicate n (.lst (List.replicate n (.int 0))))
def QC5:QlJ [zT 1]=some "NoRings" :=by kernel_rfl
def QDk:QlJ [zT 2]=some "NoRings" :=by kernel_rfl
def QCY:QlJ [zT 3]=some "NoRings" :=by kernel_rfl
def QDi:QlJ [zT 4]=some "NoRings" :=by kernel_rfl
abbrev QsC:Den:=Qm 1 (Qfi (Qm 2 Qbd))
abbrev QDm:Den:=Qm 1 QhS
abbrev QDl:Den:=Qm 5 (Qd5 (Qm 4 QgV))
abbrev QCW:Den:=Qm 6 (Qfr (Qm 4 Qdu) (Qm 1 (Qj7 (Qm 8 (QqG (Qm 4 QgV))))) (Qm 3 (Qe8 QDm (Qm 1 (QeK QDl)))))
abbrev QrY:Den:=Qm 7 (Qht (Qm 1 QfZ) QsC (Qm 4 (Qgu (λ_=>none) QsC)) QCW)
abbrev QwW(dh:Den):Den:=Qm 4 (Qei QrY dh (Qm 1 Qeb))
noncomputable def dsk(d:D):D:= .obj (.ins "Desk" ["net","heaps"]) [d,.obj (.dic []) []]
def Qvm{fs:DA}{ρ:En}{r:RA}(h:fs ρ=some r)(hl:r.ds.length<=64):Q7 fs ρ=some ⟨.tup r.ds,r.fr,r.M⟩:=by
 unfold Q7;rw[h,Za,if_pos hl]
structure Nt (m:Nat) (R:Lpp):Prop where
 m0:0<m
 m4:m<=4
 len:R.length<=24
 good:∀s∈R,Good m s
def QmP(d:Den):Prop:=∀ns:List Int,ns.length<=63->∃(m:Nat) (R:Lpp),Nt m R/\d [.lst (ns.map .int)]=some (Qo m R [],true)
def Qyo{ρ:En}{b k:Int}(h2:ρ[2]? =some (slI b))(h4:ρ[4]? =some (slI k))(hk:0<=k):∃v,Qdf (Qg (dOp gGt (Qn 4) (dC (.int 0)))) (Qg (dOp gEq (dOp Qpc (dOp QoL (Qn 2) (Qn 4)) (dC (.int 1))) (dC (.int 1)))) ρ=some v/\(v=true->0<k):=by
 have e4:Qn 4 ρ=some (reI k):=by unfold Qn;rw[h4];rfl
 have e2:Qn 2 ρ=some (reI b):=by unfold Qn;rw[h2];rfl
 have a:Qg (dOp gGt (Qn 4) (dC (.int 0))) ρ=some (decide (0<k)):=QM (Qai e4 rfl rfl) rfl;have c:Qg (dOp gEq (dOp Qpc (dOp QoL (Qn 2) (Qn 4)) (dC (.int 1))) (dC (.int 1))) ρ=some (decide (Builtin.bitAnd (b / 2^k.toNat) 1=1)):=QM (Qhc (Qai (d:= .int (Builtin.bitAnd (b / 2^k.toNat) 1)) (Qai (d:= .int (b / 2^k.toNat)) e2 e4 (if_pos hk)) rfl rfl) rfl rfl rfl) rfl;exact⟨_,QqJ a c,λh=>of_decide_eq_true (Bool.and_eq_true_iff.mp h).1⟩
def Qwe{dc:Den}(hc:Qk3 dc):QmP (Qm 6 (Qez dc)):=λns hl=>by
 have b1:=Zbp (ns.getD 0 0) (by decide:(4:Int)≠0);have b2:=Zba (ns.getD 0 0) (by decide:(0:Int)<4);obtain⟨m,em⟩:∃m:Nat,(m:Int)=1+ns.getD 0 0 % 4:=⟨(1+ns.getD 0 0 % 4).toNat,⋯⟩;have m0:0<m:= ⋯
 have m4:m<=4:= ⋯
 have key:Run (Qez dc) (QaF 6 [.lst (ns.map .int)]) (Rt λd fr=>∃R,d=Qo m R []/\fr=true/\Nt m R):=by
  have cell:∀(ρ:En) (k:Nat),ρ[0]? =some (slF (.lst (ns.map .int)))->Ql 2 dc [] (Qa (Qn 0) (Qa (dC (.int k)) Qb)) ρ=some (reI (ns.getD k 0)):=λρ k h0=>by
   refine Q0 (QD (QcZ h0) (QD (QvJ _ _) (Qat _))) ?_ rfl;exact hc ns k
  refine rsa (Qun (a:=1) rfl rfl (Qd9 (b:=4) (cell _ 0 rfl) rfl rfl rfl ∅) rfl) ?_;rw[← em];refine rsa (Qd9 (b:=16) (cell _ 1 rfl) rfl rfl rfl ∅) ?_;generalize ns.getD 1 0 % 16=b;refine rsa (d:=QL []) rfl ?_;have st:∀{i:Nat}{R:Lpp}{p:Int×Int},R.length=i/\(∀s∈R,Good m s)->Good m p->(R++[p]).length=i+1/\∀s∈R++[p],Good m s:=λ{i R p} h g=>⟨by rw[Zl,h.1];rfl,λs hs=>(Zx.mp hs).elim (h.2 s) λz=>by rw[Zj.mp z];exact g⟩;refine QfM (P:=λρ=>∃R j4,R.length=m/\(∀s∈R,Good m s)/\ρ=[slF (.lst (ns.map .int)),slI m,slI b,slT (QL R),j4,none]) ?_ ?_
  .refine Qdt (toD:=λ(k:Nat)=> .int (k:Int)) (List.range m) (λi ρ=>∃R j4,(R.length=i/\∀s∈R,Good m s)/\ρ=[slF (.lst (ns.map .int)),slI m,slI b,slT (QL R),j4,none]) (Qh0 (n:=m) (r:=reI m) rfl rfl ⋯) rfl ⟨[],none,⟨rfl,⋯⟩,rfl⟩ ?_ ?_
   .rintro i k ρ hi ⟨R,j4,hR,rfl⟩;have hk:i<m/\i=k:=by
     obtain⟨h1,h2⟩:=Zm.mp hi;simp at h1 h2;exact⟨h1,h2⟩
    obtain⟨hk,rfl⟩:=hk;refine⟨_,rfl,?_⟩;obtain⟨v,e,hv⟩:=Qyo (ρ:=[slF (.lst (ns.map .int)),slI m,slI b,slT (QL R),slI i,none]) (b:=b) (k:=i) rfl rfl ⋯;refine run_seq (QaH e (λh=>?_) (λh=>?_))
    .have:=hv h;refine run_seq (Qkv (p:=((i:Int)-1,(i:Int))) (r:=⟨pairD ((i:Int)-1,(i:Int)),true,[]⟩) rfl rfl rfl ⋯ (QB (QB ⟨_,_,st hR ?_,rfl⟩)));exact⟨by dsimp only;lia,by dsimp only;lia,by dsimp only;lia,by dsimp only;lia,by dsimp only;lia⟩
    .refine run_seq (Qkv (p:=((i:Int),(m:Int))) (r:=⟨pairD ((i:Int),(m:Int)),true,[]⟩) rfl rfl rfl ⋯ (QB (QB ⟨_,_,st hR ?_,rfl⟩)));exact⟨by dsimp only;lia,by dsimp only;lia,by dsimp only;lia,by dsimp only;lia,by dsimp only;lia⟩
   .rintro ρ ⟨R,j4,⟨h1,h2⟩,rfl⟩;rw[Zas]at h1;exact⟨R,j4,h1,h2,rfl⟩
  .rintro ρ ⟨R0,j4,hR0,hG0,rfl⟩;have hcs:((ns.drop (min 6 ns.length)).take (min 26 ns.length-min 6 ns.length)).length<=20:=by rw[ZaH,Zbd];lia
   generalize ecs:(ns.drop (min 6 ns.length)).take (min 26 ns.length-min 6 ns.length)=cs at hcs;refine QfM (P:=λρ=>∃R j4 j5,R.length<=24/\(∀s∈R,Good m s)/\ρ=[slF (.lst (ns.map .int)),slI m,slI b,slT (QL R),j4,j5]) ?_ ?_
   .refine Qdt (toD:=λ(x:Int)=> .int x) cs (λi ρ=>∃R j5,(R.length=m+i/\∀s∈R,Good m s)/\ρ=[slF (.lst (ns.map .int)),slI m,slI b,slT (QL R),j4,j5]) (QbQ (QyO (ra:=reF (QaD ns)) (rl:=reI 6) (rh:=reI 26) (a:=6) (b:=26) rfl rfl rfl rfl rfl rfl) rfl) (by rw[← ecs]) ⟨R0,none,⟨hR0,hG0⟩,rfl⟩ ?_ ?_
    .rintro i x ρ hi ⟨R,j5,hR,rfl⟩;have hi2:i<cs.length:=(Zm.mp hi).1;refine⟨_,rfl,?_⟩;have c1:=Zbp (x*48271 % 2147483647) (by lia:(m:Int)≠0);have c2:=Zba (x*48271 % 2147483647) (by lia:(0:Int)<m)
     have ev:dOp Qc8 (dOp Qc8 (Qbq (Qn 5) (dC (.int 48271))) (dC (.int 2147483647))) (Qn 1) [slF (.lst (ns.map .int)),slI m,slI b,slT (QL R),j4,slI x]=some (reI (x*48271 % 2147483647 % m)):=
      Qd9 (Qd9 (QoG (a:=x) (b:=48271) rfl rfl rfl rfl (Qme ∅)) rfl (QvJ (.int 2147483647) _) rfl ∅) rfl (b:=(m:Int)) rfl rfl ⋯
     generalize x*48271 % 2147483647 % m=y at c1 c2 ev;refine run_seq (Qkv (p:=(y,(m:Int))) (r:=⟨pairD (y,(m:Int)),true,[]⟩) rfl ?_ rfl ⋯ (QB ⟨_,_,st hR ⟨c1,by dsimp only;lia,by dsimp only;lia,by dsimp only;lia,by dsimp only;lia⟩,rfl⟩));exact Qvm (QD ev (QD (r:=reI m) rfl (Qat _))) (show 2<=64 by decide)
    .rintro ρ ⟨R,j5,⟨h1,h2⟩,rfl⟩;exact⟨R,j4,j5,⋯,h2,rfl⟩
   .rintro ρ ⟨R,j4,j5,h1,h2,rfl⟩;exact QaN (r:=⟨Qo m R [],true,[3]⟩) rfl ⟨R,rfl,rfl,m0,m4,h1,h2⟩
 obtain⟨o,h1,h2⟩:=key;cases o with
 | rt d fr=>
  obtain⟨R,rfl,rfl,h⟩:=h2;exact⟨m,R,h,by unfold Qm;rw[h1];rfl⟩
 | _=>exact h2.elim
end HS
namespace HS
open PySem L2
noncomputable def QDQ(F:Nat->Option Int)(t:Int)(o:Nat):Bool:=match F o with
 | none=>true
 | some u=>decide (t<=u)
def QCX(m:Nat)(F:Nat->Option Int)(t:Int):List Nat:=(List.range m).filter (QDQ F t)
def QFe(R:Lpp)(m:Nat)(F:Nat->Option Int)(p:Nat)(t:Int):Int:=(R.map (Qyd p (QCX m F t))).sum
def QzP{fa:DE}{ρ:En}{r:R}{bs:List Bool}(h:fa ρ=some r)(e:r.d= .lst (bs.map .bl)):dBf QcU (Qa fa Qb) ρ=some (reT (.bl (bs.any id))):=by
 unfold dBf;rw[QD h (Qat _),Za];simp only[e,QcU,QlU,ZD]
def QA9{α:Type}{xs:List α}(h:0<xs.length):atI xs (-1)=xs[xs.length-1]? :=by
 unfold atI ixN;rw[if_neg ∅,if_pos ⋯];show xs[((-1:Int)+xs.length).toNat]? =_;congr 1;lia
section
variable {R:Lpp}{m:Nat}{h mk:Mt1}
end
section
variable {R:Lpp}{m:Nat}{h a b:Mt1}
end
section
variable {m:Nat}{T:Mt2}
end
def QxL{fa fb:DE}{ρ:En}{ra rb:HS.R}{ns:List Int}{n:Nat}(ha:fa ρ=some ra)(ea:ra.d= .lst (ns.map .int))(hb:fb ρ=some rb)(eb:rb.d= .int n):Qa5 fa (Qab fb) QaR ρ=some (reT (.lst ((ns.drop n).map .int))):=by
 have cut:cutD (ns.map D.int) (some (n:Int)) none=(ns.drop n).map D.int:=by
  unfold cutD;simp only[Zt,HT.QvE,HT.QqK,Nat.sub_zero];rw[← List.map_drop,← List.map_take];congr 1;by_cases h:n<=ns.length
  .rw[Nat.min_eq_left h,ZaF ⋯]
  .rw[Nat.min_eq_right ⋯,Zbm ⋯,Zbm ⋯];simp
 unfold Qa5 QaR Qab;simp only[ha,hb,Za,ea,eb,cut,Qbh,Qo1,if_true]
def Qtw(ts:List Int):QeC (ts.map D.int) ((ts.drop 1).map D.int)=(ts.zip (ts.drop 1)).map λq=> .tup [.int q.1,.int q.2]:=by
 unfold QeC;rw[List.zip_map,ZZ];rfl
def Qu8{fa fb:DE}{ρ:En}{ra rb:HS.R}{ts:List Int}{n:Nat}(ha:fa ρ=some ra)(ea:ra.d=QaD ts)(hb:fb ρ=some rb)(eb:rb.d= .int n):Qa5 fa (Qab fb) QaR ρ=some (reT (QaD (ts.drop n))):=QxL ha ea hb eb
section
variable {m:Nat}{R:Lpp}{ts:List Int}
def QAo:Qg (dOp gNe (dBf QX (Qa (Qn 1) Qb)) (Qj (Qn 0) (dC (.int 0)))) [slF (Qo m R []),slF (QaD ts)]=some (decide (ts.length≠m)):=by
 have h1:dBf QX (Qa (Qn 1) Qb) [slF (Qo m R []),slF (QaD ts)]=some (reI ts.length):=by rw[Qha (xs:=ts.map D.int) (r:=reF (QaD ts)) rfl rfl,Zt]
 refine QM (QiF (a:=(ts.length:Int)) (b:=m) h1 rfl (rb:=reI m) rfl rfl) ?_;show D.bl _=D.bl _;congr 1;by_cases z:ts.length=m
 .simp[z]
 .have:¬(ts.length:Int)=m:= ⋯
  simp[z,this]
def Qxr:Qg (dBf QcU (Qa (Qw (Qca (Qn 1) (Qa5 (Qn 1) (Qab (dC (.int 1))) QaR)) (.tp [1,2]) [none,none,none] QO (dOp gGe (Qn 1) (Qn 2))) Qb)) [slF (Qo m R []),slF (QaD ts)]=some ((ts.zip (ts.drop 1)).any λq=>decide (q.2<=q.1)):=by
 have ec:=Qb5 (fi:=Qca (Qn 1) (Qa5 (Qn 1) (Qab (dC (.int 1))) QaR)) (t:= .tp [1,2]) (cap:=[none,none,none]) (fe:=dOp gGe (Qn 1) (Qn 2)) (ρ:=[slF (Qo m R []),slF (QaD ts)])
  (toD:=λ(q:Int×Int)=> .tup [.int q.1,.int q.2]) (out:=λ(q:Int×Int)=> .bl (decide (q.2<=q.1))) (ts.zip (ts.drop 1)) (ir:=⟨QeC (ts.map D.int) ((ts.drop 1).map D.int),[]⟩) (by
   unfold Qca;rw[Qu8 (ts:=ts) (n:=1) (ra:=reF (QaD ts)) (rb:=reI 1) rfl rfl rfl rfl];rfl) (Qtw ts) λq _=>⟨[none,slI q.1,slI q.2],rfl,reT (.bl (decide (q.2<=q.1))),rfl,rfl,rfl⟩
 refine(QM (QzP (bs:=(ts.zip (ts.drop 1)).map λq=>decide (q.2<=q.1)) ec (by rw[ZZ];rfl)) rfl).trans ?_;rw[Zbk];rfl
def QAR{a z:Int}(h0:ts[0]? =some a)(hz:ts[ts.length-1]? =some z):bOr (Qg (dOp gLt (Qj (Qn 1) (dC (.int 0))) (dC (.int 0)))) (Qg (dOp gGe (Qj (Qn 1) (Qi4 (dC (.int 1)))) (dBf QX (Qa (Qj (Qn 0) (dC (.int 1))) Qb)))) [slF (Qo m R []),slF (QaD ts)]=some (decide (a<0) || decide ((R.length:Int)<=z)):=by
 have hne:0<ts.length:=(Zm.mp h0).1;have e2:Qj (Qn 1) (Qi4 (dC (.int 1))) [slF (Qo m R []),slF (QaD ts)]=some (reI z):=by
  unfold Qj;show((D.items (QaD ts)).bind λxs=>(atI xs (-1)).map λd=>(HS.R.mk d false []).norm)=_;unfold QaD;simp only[D.items,Za];rw[QA9 (by rw[Zt];exact hne),Zt,Zw,hz];rfl
 have e3:dBf QX (Qa (Qj (Qn 0) (dC (.int 1))) Qb) [slF (Qo m R []),slF (QaD ts)]=some (reI R.length):=by
  rw[Qha (xs:=R.map pairD) (QcK (m:=m) (R:=R) (L:=[]) (QcZ (d:=Qo m R []) (b:=false) rfl) rfl).2.1 rfl,Zt]
 exact QiH (a:=decide (a<0)) (b:=decide ((R.length:Int)<=z)) (QM (Qai (d:= .bl (decide (a<0))) (rb:=reI 0) (QqC (ns:=ts) (i:=0) (v:=a) (ra:=reF (QaD ts)) (rb:=reI 0) rfl rfl rfl rfl ∅ h0) rfl rfl) rfl) (QM (Qai (d:= .bl (decide ((R.length:Int)<=z))) e2 e3 rfl) rfl)
end
end HS
namespace HS
open PySem PySem.Spec L2 PyProof.Rows
def Qoc{fx:DX}:Ap QK fx:=λ_ _=>rfl
def QCA{dn dw ds:Den}{xn:List D->Option Str}(a1:ApF dn xn)(hxn:Qkp xn)(m:Int)(R:Lpp)(a:Int)(hl:R.length<=500):QF 6 (Qdx ds dw dn xn) [.int m,QL (R++[(a,a)]),.non]=some "NoNet" :=by
 refine Qbs (Qal (Qar (QCy rfl) ?_));rw[QcD];refine Qal (Qar (Qyc (L:=[]) (.inr ⟨rfl,rfl⟩) rfl rfl) ?_);rw[QcD];refine Qal (Qar (r:=⟨Qo m ((R++[(a,a)]).map nrm) [],true,[3,4]⟩) rfl ?_);change QaU _ [slI m,slF (QL (R++[(a,a)])),some (.non,true),none,none,slT (Qo m ((R++[(a,a)]).map nrm) [])] _;refine QE (QP a1) (Qba (r:=⟨[Qo m ((R++[(a,a)]).map nrm) []],true,[5]⟩) rfl rfl (hxn m _ [] (by rw[Zt,Zl];simp;lia) λh=>?_));obtain⟨k,rfl,_,_,g,_⟩:=h.nat
 have z:=(g (nrm (a,a)) (Zag.mpr ⟨(a,a),⋯,rfl⟩)).2.2.2.2;unfold nrm at z;dsimp only at z;split at z<;>exact z rfl
def QxX{dt dh:Den}{xh:List D->Option Str}(h1:ApF dh xh)(hx:Qk7 xh)(m:Nat)(R:Lpp)(f:Mt1)(j:Nat)(hj:j<m)(hf:f j<0):QF 8 (QjT dt dh xh) [Qo m R [],Qu m f]=some "NoHeap" :=
 Qbs (QE (QP h1) (Qba (r:=⟨[Qo m R [],.lst [Qu m f]],false,[]⟩) rfl rfl (hx.heap m R [] f j hj hf)))
def QA4{da df:Den}{xf:List D->Option Str}(hf:Qlg df)(ha:QmG da){m:Nat}{R:Lpp}(N:Nt m R)(n:Nat):QF 7 (Qil da df xf) [Qo m R [],Qu m λ_=>41+n]=some "NotAgain" :=by
 have m0:=N.m0;have m4:=N.m4;have hl:=N.len;have hpos:∀j,j<m->0<=(λ_:Nat=>(41:Int)+n) j:=λj _=>by dsimp only;lia
 have sp:∀S:List (Int×Int),(∀s∈S,Good m s)->(S.map λr=>isI 0 r.1+isI 0 r.2).sum<=S.length:=λS=>by
  induction S with
  | nil=>intro _;simp
  | cons s S ih=>
   intro h;have h1:=ih λt ht=>h t (Zc _ ht);have h2:=(h s Zf).2.2.2.2;rw[Zz,ZaC,Zs];have h3:isI 0 s.1+isI 0 s.2<=1:=by unfold isI;split<;>split<;>lia
   lia
 have hc:QpD R m (λ_=>41+n) (Qcr (QaE m (Qa2 R [])) (λ_=>41+n) m m)=false:=by
  have h1:=sp R N.good;unfold QpD;rw[Bool.and_eq_false_iff];left;rw[List.all_eq_false];refine⟨0,Zal.mpr m0,?_⟩;have:QbZ R [] 0<=R.length:=by unfold QbZ;simpa using h1
  simp;lia
 have ec:=ha m R (λ_=>41+n) m0 ⋯ ⋯ N.good hpos;rw[hc]at ec;refine Qbs (Qal (Qar (Q0 (r:=⟨[Qo m R [],Qu m λ_=>41+n],false,[]⟩) rfl (hf m R _ m0 ⋯ ⋯ N.good hpos) rfl) ?_));rw[QcD];exact QE (by repeat (first | exact Qac | exact Qz | assumption | apply Q2 | apply QaL)) (QdL (b:=true) (Qi0 (b:=false) (QM (Q0 (r:=⟨[Qo m R [],Qu m λ_=>41+n],false,[]⟩) rfl ec rfl) rfl)) (λ_=>QE Qz (QbF rfl (Zi _))) (λh=>by cases h))
def QCU{dd:Den}{m:Nat}{R:Lpp}(N:Nt m R)(ts:List Int)(hl:ts.length=m)(hs:∀(i:Nat) a,ts[i]? =some a->a=41+(n:Int)+i)(hn:0<=n):QF 2 (Qgm dd) [Qo m R [],QaD ts]=some "NoTree" :=by
 have m0:=N.m0;have hR:=N.len;obtain⟨a,ha⟩:∃a,ts[0]? =some a:=⟨_,ZV ⋯⟩;obtain⟨z,hz⟩:∃z,ts[ts.length-1]? =some z:=⟨_,ZV ⋯⟩;have e1:=hs _ _ ha;have e2:=hs _ _ hz;refine Qbs (Qal (QaH (b:=false) (QAo.trans (by simp[hl])) (λh=>by cases h) (λ_=>QB ?_)));refine Qal (QaH (b:=false) (Qxr.trans ?_) (λh=>by cases h) (λ_=>QB ?_))
 .congr 1;rw[List.any_eq_false];intro q hq;obtain⟨i,hi⟩:=List.getElem?_of_mem hq;rw[Zbb,List.getElem?_drop]at hi;have h1:=hs _ _ hi.1;have h2:=hs _ _ hi.2;simp;lia
 .refine QE (by repeat (first | exact Qac | exact Qz | assumption | apply Q2 | apply QaL)) (QdL (QAR ha hz) (λ_=>QE Qz (QbF rfl (Zi _))) (λw=>?_));rw[ZaM,decide_eq_false_iff_not,decide_eq_false_iff_not]at w;lia
def QBh{dd dp:Den}{xn xp:List D->Option Str}(hp:Qes dp){m:Nat}{R:Lpp}{ts:List Int}(h:xn [Qo m R [],QaD ts]=some "NoTree"):QF 7 (Qfd dd dp xn xp) [Qo m R [],QaD ts]=some "NoTree" :=by
 refine Qbs (Qal (Qcv (Q0 (r:=⟨[Qo m R []],false,[]⟩) rfl (hp m R) rfl) ?_));exact QE Qoc (Qba (r:=⟨[Qo m R [],QaD ts],_,_⟩) rfl rfl h)
def Qys{dp:Den}(hp:Qes dp)(m:Nat)(R:Lpp):Qm 1 (Qg0 dp) [Qo m R []]=slF (Qo ((m+1:Nat):Int) R []):=by
 refine QbU ?_;refine run_seq (Qcv (Q0 (r:=⟨[Qo m R []],false,[]⟩) rfl (hp m R) rfl) ?_);exact QaN (r:=reF (Qo ((m+1:Nat):Int) R [])) rfl ⟨rfl,rfl⟩
def Qyp{dw dn:Den}{xn:List D->Option Str}{m:Nat}{R:Lpp}(hw:dw [Qo m R []]=slF (Qo ((m+1:Nat):Int) R []))(hn:QiC dn)(f:Mt1)(h:6<Qmn (m+1) f):QF 4 (Qgo dw dn xn) [Qo m R [],Qu (m+1) f]=some "TooMany" :=Qbs (Qal (Qcv (Q0 (QD (QuE (r:=⟨[Qo m R []],false,[]⟩) rfl hw rfl) (QD (r:=reF (.lst [Qu (m+1) f])) rfl (Qat _))) (hn (m+1) R [] [f]) rfl) (by
 refine QE (QaL (Q2 Qz Qac) Qac) (QdL (b:=decide (4<(m:Int)) || decide (6<Qmn (m+1) f)) (QiH (QM (Qai (d:= .bl (decide (4<(m:Int)))) (QcK (m:=m) (R:=R) (L:=[]) (r:=reF (Qo m R [])) rfl rfl).1 rfl rfl) rfl) (QM (Qai (d:= .bl (decide (6<Qmn (m+1) f))) (QxG (r:=reF (Qu (m+1) f)) rfl rfl) rfl rfl) rfl)) (λ_=>QE Qz (QbF (r:=⟨[.str "worth is told of nets of at most 4 places and full rows of at most 6 grains"],true,[]⟩) rfl ∅)) λz=>?_);rw[decide_eq_true h,Bool.or_true]at z;cases z)))
structure Stg (df dm:Den) (xh xt xr xf xw xs xa xm:List D->Option Str):Prop where
 af:ApF df xf
 am:ApF dm xm
 m0:∀(m:Nat) (R:Lpp) (a:Int),R.length<=24->xm [.int m,QL (R++[(a,a)]),.non]=some "NoNet"
 a1:QtX xa
 s2:∀(m:Nat) (R:Lpp) (f:Mt1) (j:Nat),j<m->f j<0->xs [Qo m R [],Qu m f]=some "NoHeap"
 w3:∀{m:Nat}{R:Lpp}(f:Mt1),6<Qmn (m+1) f->xw [Qo m R [],Qu (m+1) f]=some "TooMany"
 f4:∀(m:Int) (R L:Lpp) (ys:List D),L≠[]->xf [Qo m R L,.lst ys]=some "NotPlain"
 r5:∀k,k<4->xr [zT (k+1)]=some "NoRings"
 t6:∀{m:Nat}{R:Lpp}(N:Nt m R) (n:Nat),xt [Qo m R [],Qu m λ_=>41+n]=some "NotAgain"
 h7:∀{m:Nat}{R:Lpp}(N:Nt m R) (n:Nat),xh [Qo m R [],Qu m λi=>41+n+i]=some "NoTree"
def QQ{c:DT}{f:DS}{fx gx fr:DX}{ρ:En}{x:Str}(h:c ρ=some false)(q:QaU fr ρ x):QaU (Qh (sIf c f Qe) (xIf c fx gx) fr) ρ x:=Qal (QaH h (λh=>by cases h) (λ_=>QB q))
def QkO{c:DT}{f:DS}{fx fr:DX}{ρ:En}{x:Str}(a:Ap f fx)(h:c ρ=some true)(q:QaU fx ρ x):QaU (Qh (sIf c f Qe) (xIf c fx xNo) fr) ρ x:=QE (QaL a Qac) (QdL h (λ_=>q) (λh=>by cases h))
def Qgy{c:DT}{n:Nat}{xd:List D->Option Str}{fs:DA}{fr:DX}{ρ:En}{x:Str}{r:RA}(h:c ρ=some true)(e:fs ρ=some r)(hl:r.ds.length=n)(hx:xd r.ds=some x):QaU (Qh (sIf c (Qc QK Qe) Qe) (xIf c (Qh QK (QT n xd fs) xNo) xNo) fr) ρ x:=QkO (Q2 Qoc Qac) h (QE Qoc (Qba e hl hx))
def QtR{n:Nat}{d:Den}{dfl:List D}{xd:List D->Option Str}{fs:DA}(a:ApF d xd):Ap (QW (Ql n d dfl fs)) (QfO n dfl xd fs):=λρ h=>by
 unfold QfO at h;unfold QW Ql;cases e:fs ρ with
 | none=>rfl
 | some r=>
  rw[e,Za]at h;rw[Za];split at h
  .rename_i hl;rw[if_pos hl,a _ (λz=>h (by rw[z];rfl))];rfl
  .exact absurd rfl h
def QCk{n:Nat}{dfl:List D}{xd:List D->Option Str}{fs:DA}{ρ:En}{r:RA}{x:Str}(h:fs ρ=some r)(hl:r.ds.length+dfl.length=n)(hx:xd (r.ds++dfl)=some x):QaU (QfO n dfl xd fs) ρ x:=⟨ρ,by unfold QfO;rw[h,Za,if_pos hl,hx];rfl⟩
noncomputable def QbJ(w:Nat):Str:=["NoNet","NoRow","NoHeap","TooMany","NotPlain","NoRings","NotAgain","NoTree","NoText","NoName","NoDeed"].getD w ""
def QD6{df dm:Den}{xh xt xr xf xw xs xa xm:List D->Option Str}(S:Stg df dm xh xt xr xf xw xs xa xm){m:Nat}{R:Lpp}(N:Nt m R)(f:Mt1)(n w:Nat)(hw:w<8):QF 5 (Qfh df dm xh xt xr xf xw xs xa xm) [.int w,Qo m R [],Qu m f,.int n]=some (QbJ w):=by
 have m0:=N.m0;have m4:=N.m4;obtain⟨a,ea,ha⟩:∃a:Nat,(n:Int) % m=a/\a<m:=⟨n % m,⋯,Nat.mod_lt _ m0⟩;refine Qbs (Qal (Qar (Qd9 (a:=n) (b:=m) rfl rfl (QcK (m:=m) (R:=R) (L:=[]) (r:=reF (Qo m R [])) rfl rfl).1 rfl ⋯) ?_));rw[QcD,ea];have hm:m=1∨m=2∨m=3∨m=4:= ⋯
 by_cases h0:w=0
 .subst h0;refine QkO (Q2 (QtR S.am) Qac) rfl (QE (QtR S.am) (QCk (r:=⟨[.int m,QL (R++[((a:Int),(a:Int))])],_,_⟩) (QD (r:=reI m) rfl (QD (Qmz (B:=[((a:Int),(a:Int))]) (QcK (m:=m) (R:=R) (L:=[]) (r:=reF (Qo m R [])) rfl rfl).2.1 rfl rfl rfl (by have:=N.len;simp;lia)) (Qat _))) rfl (S.m0 m R a N.len)))
 by_cases h1:w=1
 .subst h1;refine QQ rfl ?_;rcases hm with rfl | rfl | rfl | rfl<;>exact Qgy (r:=⟨_,_,_⟩) rfl rfl rfl (S.a1 _ R [] _ _ (.inl ⋯))
 by_cases h2:w=2
 .subst h2;refine QQ rfl (QQ rfl ?_);have key:∀(g:Mt1),g a<0->xs [Qo m R [],Qu m g]=some "NoHeap" :=λg hg=>S.s2 m R g a ha hg;have key:=key (λi=>if i=a then-1-(n:Int)else f i) (by simp;lia);rcases hm with rfl | rfl | rfl | rfl<;>(have ha2:a=0∨a=1∨a=2∨a=3:= ⋯)<;>rcases ha2 with rfl | rfl | rfl | rfl<;>first | lia | exact Qgy (r:=⟨[Qo _ R [],_],_,_⟩) rfl rfl rfl key
 by_cases h3:w=3
 .subst h3;refine QQ rfl (QQ rfl (QQ rfl ?_));have key:=S.w3 (R:=R) (m:=m) (λi=>if i=m then 7+(n:Int)else 0) (by
   rcases hm with rfl | rfl | rfl | rfl<;>(simp[Qmn,List.range_succ];lia))
  rcases hm with rfl | rfl | rfl | rfl<;>exact Qgy (r:=⟨[Qo _ R [],_],_,_⟩) rfl rfl rfl key
 by_cases h4:w=4
 .subst h4;refine QQ rfl (QQ rfl (QQ rfl (QQ rfl ?_)));refine QkO (Q2 (QP S.af) Qac) rfl (QE (QP S.af) ?_);have key:=λA=>S.f4 (m:Int) A [((a:Int),(m:Int))] ((List.range m).map λi=> .int (f i)) ⋯;rcases hm with rfl | rfl | rfl | rfl
  .exact Qba (r:=⟨_,_,_⟩) rfl rfl (key [(0,1)])
  .exact Qba (r:=⟨_,_,_⟩) rfl rfl (key [(0,2),(1,2)])
  .exact Qba (r:=⟨_,_,_⟩) rfl rfl (key [(0,3),(1,3),(2,3)])
  .exact Qba (r:=⟨_,_,_⟩) rfl rfl (key [(0,4),(1,4),(2,4),(3,4)])
 by_cases h5:w=5
 .subst h5;refine QQ rfl (QQ rfl (QQ rfl (QQ rfl (QQ rfl ?_))));have key:=S.r5 a ⋯;have ha2:a=0∨a=1∨a=2∨a=3:= ⋯
  rcases ha2 with rfl | rfl | rfl | rfl<;>exact Qgy (r:=⟨_,_,_⟩) rfl rfl rfl key
 by_cases h6:w=6
 .subst h6;refine QQ rfl (QQ rfl (QQ rfl (QQ rfl (QQ rfl (QQ rfl ?_)))));have key:=S.t6 N n;rcases hm with rfl | rfl | rfl | rfl<;>exact Qgy (r:=⟨[Qo _ R [],_],_,_⟩) rfl rfl rfl key
 .obtain rfl:w=7:= ⋯
  refine QQ rfl (QQ rfl (QQ rfl (QQ rfl (QQ rfl (QQ rfl (QQ rfl ?_))))));have key:=S.h7 N n;rcases hm with rfl | rfl | rfl | rfl<;>exact Qgy (r:=⟨[Qo _ R [],_],_,_⟩) rfl rfl rfl key
end HS
namespace HS
open PySem PySem.Spec L2 PyProof.Rows PySem.NumText
def QnJ{f:DS}{fx fr:DX}{ρ:En}{x:Str}(h:f ρ=none)(q:QaU fx ρ x):QaU (Qh f fx fr) ρ x:=let ⟨o,e⟩:=q;⟨o,by unfold Qh;rw[h];exact e⟩
def Qvt{fi:DI}{t:Tg}{cap:List (Option Nat)}{fe:DE}{fx:DX}{ρ ρ1 ρ2:En}{d1 d2:D}{M:List Nat}{r:R}{x:Str}(h:fi ρ=some ⟨[d1,d2],M⟩)(b1:Qbe t d1 (Qbx cap ρ)=some ρ1)(b2:Qbe t d2 (Qbx cap ρ)=some ρ2)(e1:fe ρ1=some r)(e2:fe ρ2=none)(q:QaU fx ρ2 x):QJ (Qw fi t cap QO fe) ρ=none/\QaU (QeY fi t cap QO fe fx) ρ x:=by
 constructor
 .unfold QJ Qw;rw[h,Za];simp[List.foldlM,Qft,b1,b2,QO,e1,e2]
 .obtain⟨o,e⟩:=q;unfold QaU QeY;rw[h,Za];simp[QjF,b1,b2,QO,e1,e2,e]
def Qxf(a b:Str):a++tx [32]++b=Str.join (tx [32]) [a,b]:=QlG (by rw[QjM];rw[QdE,QdE];simp[jn,Qdv])
def Qxk{a b:Str}(ha:32∉cp a)(hb:32∉cp b):Txt.split (a++tx [32]++b) (tx [32])=[a,b]:=by
 rw[Qxf];refine Qr0 (λt ht=>?_) ⋯ λe=>?_
 .rcases Zn.mp ht with rfl | ht
  .exact ha
  .rw[Zj.mp ht];exact hb
 .have:=Qwd _ _ (λ_=>trivial) e;rw[← Qxf]at this;have h2:=congrArg cp this;rw[QdE,QdE,Qdv]at h2;exact absurd (congrArg List.length h2) (by simp[show cp Str.empty=[]from rfl])
def QC2:Qm 2 Qbd [.str (tx [120])]=none:=by kernel_rfl
def QDZ:QF 2 Qb9 [.str (tx [120])]=some "NoText" :=by kernel_rfl
def QCP{dw:Den}(hw:Qqs dw)(n:Nat)(h:n<10^18):QF 2 (Qhh (Qm 2 Qbd) dw (QF 2 Qb9)) [.str (QG n++tx [32]++tx [120])]=some "NoText" :=by
 have es:=Qxk (a:=QG n) (b:=tx [120]) (Qm2 n) ∅;have hl:=Qf0 (i:=(n:Int)) (k:=18) ∅ (by simpa using h);have hd:=hw (QG n++tx [32]++tx [120]) (by rw[Qec,QdE,QdE,Zl,Zl,← Qec];simp[Qdv];lia) (by rw[es];exact(by decide:(2:Nat)<=16000000));rw[es]at hd;refine Qbs (Qal (Qar (Q0 (r:=⟨[.str (QG n++tx [32]++tx [120])],true,[]⟩) rfl hd rfl) ?_));change QaU _ [slT (.str (QG n++tx [32]++tx [120])),slT (.lst [.str (QG n),.str (tx [120])])] _;refine QQ ?_ ?_
 .refine QM (Qai (ra:=⟨.lst [.str (QG n),.str (tx [120])],true,[1]⟩) (rb:=reT (.lst [.str (tx [])])) (d:= .bl false) rfl ?_ ?_) rfl
  .show some (HS.R.mk (.lst [.str (Str.ofString "")]) true [])=_;rw[QDs]
  .show(if(D.lst ([QG n,tx [120]].map .str)).sim 8 && (D.lst ([tx []].map .str)).sim 8 then some (D.bl (deq (.lst [.str (QG n),.str (tx [120])]) (.lst [.str (tx [])])))else none)=_;rw[Qpb (ts:=[QG n,tx [120]]) (λt ht c hc=>by
    rcases Zn.mp ht with rfl | ht
    .exact Qn5 hc
    .rw[Zj.mp ht,Qdv]at hc;simp at hc;lia),Qpb (ts:=[tx []]) (λt ht c hc=>by rw[Zj]at ht;rw[ht,Qdv]at hc;simp at hc)]
   show some (D.bl ((QG n == tx []) && _))=_;rw[beq_eq_false_iff_ne.mpr λe=>Qyz n (by rw[e,Qdv]),ZaW]
 .have e1:Ql 1 (Qm 2 Qbd) [] (Qa (Qn 1) Qb) [none,slT (.str (QG n))]=some (reI n):=Q0 (r:=⟨[.str (QG n)],true,[]⟩) rfl (QAL n (by simpa using h)) rfl;have e2:Ql 1 (Qm 2 Qbd) [] (Qa (Qn 1) Qb) [none,slT (.str (tx [120]))]=none:=by
   unfold Ql;rw[show Qa (Qn 1) Qb [none,slT (.str (tx [120]))]=some ⟨[.str (tx [120])],true,[]⟩from rfl,Za];show Option.map _ (Qm 2 Qbd [.str (tx [120])])=none;rw[QC2];rfl
  obtain⟨z1,z2⟩:=Qvt (fx:=QT 1 (QF 2 Qb9) (Qa (Qn 1) Qb)) (fi:=QH (Qn 1)) (t:= .nm 1) (cap:=[none,none]) (ρ:=[slT (.str (QG n++tx [32]++tx [120])),slT (.lst [.str (QG n),.str (tx [120])])]) rfl rfl rfl e1 e2 (Qba (r:=⟨[.str (tx [120])],true,[]⟩) rfl rfl QDZ);exact QnJ z1 z2
abbrev QnL:Den:=Qm 3 QcP
abbrev QnN:List D->Option Str:=QF 3 QcS
abbrev Qsp(dh:Den)(xh xr:List D->Option Str):List D->Option Str:=QF 4 (Qek (Qm 1 Qeb) dh QrY xh xr)
abbrev Qwu(dh:Den):MvT:=[("Desk",[("read_part",(3,QwW dh))])]
abbrev Qz7(dh:Den)(xh xr:List D->Option Str):MxT:=[("Desk",[("read_part",(3,Qsp dh xh xr))])]
abbrev Qhk(dh:Den):Qh9:=Qc6 5 0 (Qho QnL (Qwu dh))
abbrev QlA(dh:Den)(xh xr:List D->Option Str):List D->Option Str:=QF 5 (Qhm QnL (Qwu dh) QnN (Qz7 dh xh xr))
def QBN:Qc6 1 0 Qam [.obj (.ins "Desk" []) []]=some (.non,dsk .non):=Qqi λa=>⟨_,rfl,if_pos rfl⟩
def QCN(dh:Den):Qhk dh [dsk .non,.str "net 1 0-1"]=some (.str "ok",dsk (Qo 1 [(0,1)] [])):=Qqi λa=>⟨.rt (.obj .pair [.str "ok",.obj (.pin a) [dsk (Qo 1 [(0,1)] [])]]) true,by kernel_rfl,if_pos rfl⟩
def lt8{k:Nat}(h:k<8):k=0∨k=1∨k=2∨k=3∨k=4∨k=5∨k=6∨k=7:= ⋯
def QAQ(dh:Den)(xh xr:List D->Option Str)(k:Nat)(hk:k<8):QlA dh xh xr [dsk (Qo 1 [(0,1)] []),.str (Str.ofString "show " ++tx ((cp (Str.ofString "abcdefgh")).drop k))]=some ("NoName" :Str):=by
 rcases lt8 hk with rfl | rfl | rfl | rfl | rfl | rfl | rfl | rfl<;>kernel_rfl
def QtF(n:Nat)(h:n<10^18):QnN [.str (Str.ofString "heaps " ++QG n)]=some ("NoDeed" :Str):=by
 have e0:Str.ofString "heaps " ++QG n=tx [104,101,97,112,115]++tx [32]++QG n:=by
  rw[show Str.ofString "heaps " =tx [104,101,97,112,115]++tx [32]from by decide]
 have es:=Qxk (a:=tx [104,101,97,112,115]) (b:=QG n) ∅ (Qm2 n);have hl:=Qf0 (i:=(n:Int)) (k:=18) ∅ (by simpa using h);rw[e0];have hx:(tx [104,101,97,112,115]++tx [32]++QG n).length<=16000000:=by rw[Qec,QdE,QdE,Zl,Zl,← Qec (QG n)];simp[Qdv];lia
 generalize tx [104,101,97,112,115]++tx [32]++QG n=x at es hx;refine Qbs (QQ (Qi0 (b:=true) (QM (b:=true) rfl rfl)) ?_);refine Qal (Qar (QrP (d:= .lst [.str (tx [104,101,97,112,115]),.str (QG n)]) (ra:=reT (.str x)) (rb:=reT (.str " ")) rfl rfl ?_) ?_)
 .show(if(((Str.ofString " ").length == 0)=false/\x.length<=16000000)/\(Txt.split x (Str.ofString " ")).length<=16000000 then some (D.lst ((Txt.split x (Str.ofString " ")).map .str))else none)=_;rw[Qq3,es,if_pos ⟨⟨rfl,hx⟩,(by decide:(2:Nat)<=16000000)⟩];rfl
 rw[QcD];exact QkO (Q2 Qz Qac) rfl (QE Qz (QbF rfl (Zi _)))
def QqX:ApF QnL QnN:=Qh4 (by unfold QcP QcS;repeat (first | exact Qac | exact Qz | assumption | apply Q2 | apply QaL))
def QCG{ρ:En}:QjL "Desk" ⟨1,0,Qc6 1 0 Qam⟩ Qb ρ=some ⟨dsk .non,true,[]⟩:=by
 unfold QjL;rw[show Qb ρ=some ⟨[],true,[]⟩from rfl,Za];show(Qc6 1 0 Qam [.obj (.ins "Desk" []) []]).bind _=_;rw[QBN];rfl
def Qw6(k:Nat):Str:=Str.ofString "show " ++tx ((cp (Str.ofString "abcdefgh")).drop k)
def QuQ{fm:DE}{ρ:En}{k:Nat}(hk:k<8)(h:fm ρ=some (reI k)):QC (dC (.str "show ")) (Qa5 (dC (.str "abcdefgh")) (Qab fm) QaR) ρ=some (reT (.str (Qw6 k))):=by
 unfold QC Qa5 Qab;rw[h];rcases lt8 hk with rfl | rfl | rfl | rfl | rfl | rfl | rfl | rfl<;>kernel_rfl
abbrev QvK(dh:Den):MeT:=[("Desk",[("say",⟨2,0,Qhk dh⟩)])]
abbrev Qxg(dh:Den)(xh xr:List D->Option Str):MxT:=[("Desk",[("read_part",(3,Qsp dh xh xr)),("say",(2,QlA dh xh xr))])]
def Qw9{T:MxT}{i:Nat}{m:Str}{fs:DA}{ρ:En}{x:Str}{r:RA}{d:D}{xd:List D->Option Str}(hi:ρ[i]? =some (some (dsk d,true)))(hT:((look "Desk" T).bind λms=>look m ms)=some (r.ds.length+1,xd))(hm:(["net","heaps"]:List Str).contains m=false)(h:fs ρ=some r)(hx:xd (dsk d::r.ds)=some x):QaU (xMe T i m fs) ρ x:=⟨ρ,by
 obtain⟨ms,e1,e2⟩:=Option.bind_eq_some_iff.mp hT;unfold xMe;rw[hi];show((look "Desk" T).bind λms=>(look m ms).bind λr=>(fs ρ).bind λra=>if(!(["net","heaps"]:List Str).contains m && decide (r.1=ra.ds.length+1))=true then(r.2 (dsk d::ra.ds)).map λc=>(c,ρ)else none)=_;rw[e1,Za,e2,Za,h,Za,hm,if_pos ⋯];show(xd (dsk d::r.ds)).map _=_;rw[hx];rfl⟩
def Qm1{k p:Nat}{g:DS}{ds:List D}{a:Addr}(h:g (QcG k p a ds)=none):Qc6 k p g ds=none:=by
 unfold Qc6;rw[dif_neg];rintro⟨q,hq⟩;obtain⟨o,e,_⟩:=hq a;rw[h]at e;cases e
def QzF(dh:Den)(k:Nat)(hk:k<8):Qhk dh [dsk (Qo 1 [(0,1)] []),.str (Qw6 k)]=none:=by
 refine Qm1 (a:=0) ?_;rcases lt8 hk with rfl | rfl | rfl | rfl | rfl | rfl | rfl | rfl<;>kernel_rfl
def Qzz(dh:Den)(n:Nat)(h:n<10^18):Qhk dh [dsk .non,.str (Str.ofString "heaps " ++QG n)]=none:=by
 refine Qm1 (a:=0) ?_;show Option.bind (Qq 2 (Ql 1 QnL [] (Qa (Qn 1) Qb)) _) _=none;rw[QaA QqX _ (by
  obtain⟨o,e⟩:=Qba (n:=1) (xd:=QnN) (fs:=Qa (Qn 1) Qb) (ρ:=QcG 5 0 0 [dsk .non,.str (Str.ofString "heaps " ++QG n)]) (r:=⟨[.str (Str.ofString "heaps " ++QG n)],true,[]⟩) rfl rfl (QtF n h);rw[e];exact λz=>by cases z)];rfl
def QxB(dh:Den)(xh xr:List D->Option Str)(n:Nat)(h:n<10^18):QlA dh xh xr [dsk .non,.str (Str.ofString "heaps " ++QG n)]=some ("NoDeed" :Str):=
 Qbs (QE (QaA QqX) (Qba (r:=⟨[.str (Str.ofString "heaps " ++QG n)],true,[]⟩) rfl rfl (QtF n h)))
def QoD{dh:Den}{ρ:En}{fs:DA}{d:D}{y:Str}(hi:ρ[4]? =some (some (dsk d,true)))(h:fs ρ=some ⟨[.str y],true,[]⟩):Qcx (QvK dh) 4 "say" fs ρ=(Qhk dh [dsk d,.str y]).map λq=> .nx (ρ.set 4 (some (q.2,true))):=by
 unfold Qcx;rw[h,Za,hi];rfl
def Qql{c:DT}{f:DS}{fx fr:DX}{ρ:En}{x:Str}(h:c ρ=some true)(hf:f ρ=none)(q:QaU fx ρ x):QaU (Qh (sIf c f Qe) (xIf c fx xNo) fr) ρ x:=QnJ (by unfold sIf;rw[h];exact hf) (QdL h (λ_=>q) (λh=>by cases h))
def QyD{dh:Den}{xh xr xs:List D->Option Str}(hr:∀n:Nat,n<10^18->xr [.str (QG n++tx [32]++tx [120])]=some "NoText"){m:Nat}{R:Lpp}{f:Mt1}{n:Nat}(hn:n<10^18)(hs:∀w:Nat,w<8->xs [.int w,Qo m R [],Qu m f,.int n]=some (QbJ w))(w:Nat)(hw:w<11):
  QF 5 (Qcp (Qc6 1 0 Qam) (QvK dh) xr xs (Qxg dh xh xr)) [.int w,Qo m R [],Qu m f,.int n]=some (QbJ w):=by
 refine Qbs (Qal (Qar QCG ?_));rw[QcD];change QaU _ [slI w,slF (Qo m R []),slF (Qu m f),slI n,some (dsk .non,true)] _;have i60:(n:Int).natAbs<10^60:=Nat.lt_trans (by simpa using hn) ∅;have hstr:∀ρ:En,ρ[3]? =some (slI n)->dBf QgJ (Qa (Qn 3) Qb) ρ=some (reT (.str (QG n))):=λρ h=>Qlc (r:=reI n) (by unfold Qn;rw[h];rfl) (QtJ i60);have hl:=Qf0 (i:=(n:Int)) (k:=18) ∅ (by simpa using hn);by_cases h8:w<8
 .refine Qgy (r:=⟨[.int w,Qo m R [],Qu m f,.int n],_,_⟩) (QM (Qai (d:= .bl (decide ((w:Int)<8))) rfl rfl rfl) ?_) rfl rfl (hs w h8);show D.bl (decide ((w:Int)<8))=_;rw[decide_eq_true ⋯]
 refine QQ (QM (b:=decide ((w:Int)<8)) (Qai (d:= .bl (decide ((w:Int)<8))) rfl rfl rfl) rfl |>.trans (by rw[decide_eq_false ⋯])) ?_;have h3:w=8∨w=9∨w=10:= ⋯
 rcases h3 with rfl | rfl | rfl
 .refine Qgy (r:=⟨[.str (QG n++tx [32]++tx [120])],true,[]⟩) rfl (QD (r:=reT (.str (QG n++tx [32]++tx [120]))) ?_ (Qat _)) rfl (hr n hn);rw[QqU (y:=Str.ofString " x") (hstr _ rfl) rfl (rb:=reT (.str " x")) rfl rfl (by rw[show(Str.ofString " x").length=2 from by decide];lia)];congr 3
 .refine QQ rfl ?_;obtain⟨k,hk,ek⟩:∃k:Nat,k<8/\(n:Int) % 8=k:=⟨n % 8,⋯,⋯⟩;have e1:=QoD (dh:=dh) (ρ:=[slI ((9:Nat):Int),slF (Qo m R []),slF (Qu m f),slI n,some (dsk .non,true)]) (fs:=Qa (dC (.str "net 1 0-1")) Qb) (y:= "net 1 0-1") rfl rfl;rw[QCN]at e1;have ea:=QuQ (fm:=dOp Qc8 (Qn 3) (dC (.int 8))) (ρ:=[slI ((9:Nat):Int),slF (Qo m R []),slF (Qu m f),slI n,some (dsk (Qo 1 [(0,1)] []),true)]) hk (by rw[← ek];exact Qd9 (b:=8) rfl rfl rfl rfl ∅);have e2:=QoD (dh:=dh) (d:=Qo 1 [(0,1)] []) rfl (QD ea (Qat _));rw[QzF dh k hk]at e2;refine Qql rfl ?_ ?_
  .show Option.bind (Qcx _ _ _ _ _) _=none;rw[e1];exact congrArg (λo=>Option.bind o _) e2
  .refine Qal ⟨_,e1,?_⟩;exact QnJ e2 (Qw9 (d:=Qo 1 [(0,1)] []) rfl rfl rfl (QD ea (Qat _)) (QAQ dh xh xr k hk))
 .refine QQ rfl (QQ rfl ?_);have ea:Qa (QC (dC (.str "heaps ")) (dBf QgJ (Qa (Qn 3) Qb))) Qb [slI ((10:Nat):Int),slF (Qo m R []),slF (Qu m f),slI n,some (dsk .non,true)]=some ⟨[.str (Str.ofString "heaps " ++QG n)],true,[]⟩:=QD (QqU (x:=Str.ofString "heaps ") (ra:=reT (.str "heaps ")) rfl rfl (hstr _ rfl) rfl (by rw[show(Str.ofString "heaps ").length=6 from by decide];lia)) (Qat _);have e1:=QoD (dh:=dh) (d:= .non) rfl ea;rw[Qzz dh n hn]at e1;refine Qql rfl ?_ ?_
  .show Option.bind (Qcx _ _ _ _ _) _=none;rw[e1];rfl
  .exact QnJ e1 (Qw9 (d:= .non) rfl rfl rfl ea (QxB dh xh xr n hn))
end HS
namespace HS
open PySem PySem.Spec L2 PyProof.Rows
def QsW{dn dw ds:Den}{xn:List D->Option Str}(h1:ApF dn xn):ApF (Qm 6 (Qfr dn dw ds)) (QF 6 (Qdx ds dw dn xn)):=Qh4 (by unfold Qfr Qdx;repeat (first | exact Qac | exact Qz | assumption | apply Q2 | apply QP))
def QzN{dd dp:Den}{xn xp:List D->Option Str}(hp:Qes dp)(hx:∀{m:Nat}{R:Lpp}{n:Int},Nt m R->∀ts:List Int,ts.length=m->(∀(i:Nat) a,ts[i]? =some a->a=41+n+i)->0<=n->xn [Qo m R [],QaD ts]=some "NoTree"){m:Nat}{R:Lpp}(N:Nt m R)(n:Nat):QF 7 (Qfd dd dp xn xp) [Qo m R [],Qu m λi=>41+n+i]=some ("NoTree" :Str):=by
 rw[show Qu m (λi=>41+n+i)=QaD ((List.range m).map λ(i:Nat)=>41+(n:Int)+(i:Int))from by unfold Qu QaD;rw[ZZ];rfl];refine QBh hp (hx (n:=n) N _ ⋯ (λi a h=>?_) ⋯);rw[Zw]at h;obtain⟨k,h1,rfl⟩:=Zb.mp h;obtain⟨h2,h3⟩:=Zm.mp h1;simp at h3;rw[h3]
structure Qsj (sub:Str->Str->Option Bool):Prop where
 he:∀w,w<11->sub (QbJ w) "HeapError" =some true
 ve:∀w,w<11->sub (QbJ w) "ValueError" =some true
 kd:∀w,w<11->∀j,j<11->sub (QbJ w) (QbJ j)=some (decide (w=j))
noncomputable def Qph(w:Nat):D:= .lst [.bl (decide (w=0)),.bl (decide (w=1)),.bl (decide (w=2)),.bl (decide (w=3)),.bl (decide (w=4)),.bl (decide (w=5)),.bl (decide (w=6)),.bl (decide (w=7)),.bl (decide (w=8)),.bl (decide (w=9)),.bl (decide (w=10)),.bl true]
def QiB{fa fb:DE}{ρ:En}{ra rb:R}{xs ys:List D}(ha:fa ρ=some ra)(ea:ra.d= .lst xs)(hb:fb ρ=some rb)(eb:rb.d= .lst ys)(h:xs.length+ys.length<=1000)(hf:QY (xs++ys)=true):QC fa fb ρ=some (reT (.lst (xs++ys))):=by
 unfold QC;rw[ha,Za,hb,Za,ea,eb];show(if xs.length+ys.length<=sizeLine then some (Qbh (xs++ys) (ra.M++rb.M))else none)=_;rw[if_pos (by rw[Qbr];exact Zy h ∅)];unfold Qbh;rw[if_pos hf]
def Qzn{sub:Str->Str->Option Bool}(hs:Qsj sub)(w:Nat)(hw:w<11):Qm 2 (QfK sub) [.exc (QbJ w)]=some (Qph w,true):=by
 have e:∀(ρ:En) (j:Nat),ρ[0]? =some (some (.exc (QbJ w),true))->j<11->Qcm sub [QbJ j] (Qn 0) ρ=some (reT (.bl (decide (w=j)))):=λρ j h hj=>(Qs3 (x:=QbJ w) (by unfold Qn;rw[h];rfl) (any_cons (hs.kd w hw j hj) (ys:=[]) rfl)).trans (by rw[Bool.or_false]);have ev:∀(ρ:En),ρ[0]? =some (some (.exc (QbJ w),true))->Qcm sub ["ValueError"] (Qn 0) ρ=some (reT (.bl true)):=λρ h=>Qs3 (x:=QbJ w) (by unfold Qn;rw[h];rfl) (any_cons (hs.ve w hw) (ys:=[]) rfl);refine QbU (run_seq (Qar ((Qlh (QD (e _ 0 rfl ∅) (QD (e _ 1 rfl ∅) (QD (e _ 2 rfl ∅) (QD (e _ 3 rfl ∅) (Qat _))))) ⋯).trans rfl) ?_));change Run _ [some (.exc (QbJ w),true),slT (.lst [.bl (decide (w=0)),.bl (decide (w=1)),.bl (decide (w=2)),.bl (decide (w=3))])] _;refine rsa (QiB rfl rfl ((Qlh (QD (e _ 4 rfl ∅) (QD (e _ 5 rfl ∅) (QD (e _ 6 rfl ∅) (QD (e _ 7 rfl ∅) (Qat _))))) ⋯).trans rfl) rfl ⋯ rfl) ?_;refine rsa (QiB rfl rfl ((Qlh (QD (e _ 8 rfl ∅) (QD (e _ 9 rfl ∅) (QD (e _ 10 rfl ∅) (Qat _)))) ⋯).trans rfl) rfl ⋯ rfl) ?_;exact QaN (QiB rfl rfl ((Qlh (QD (ev _ rfl) (Qat _)) ⋯).trans rfl) rfl ⋯ rfl) ⟨rfl,rfl⟩
def Qkl(d:Den):Prop:=∀(w:Nat),w<11->∀{m:Nat}{R:Lpp},Nt m R->∀(f:Mt1) (n:Nat),n<10^18->d [.int w,Qo m R [],Qu m f,.int n]=some (Qph w,true)
def QAn{sub:Str->Str->Option Bool}{dk:Den}{xa:List D->Option Str}(hs:Qsj sub)(hk:∀w,w<11->dk [.exc (QbJ w)]=some (Qph w,true))(hx:∀(w:Nat),w<11->∀{m:Nat}{R:Lpp},Nt m R->∀(f:Mt1) (n:Nat),n<10^18->xa [.int w,Qo m R [],Qu m f,.int n]=some (QbJ w)):Qkl (Qm 6 (Qgv (λ_=>none) dk xa sub)):=λw hw m R N f n hn=>by
 refine QbU (run_seq (Qar (r:=reT (.lst [])) rfl ?_));change Run _ [slI w,slF (Qo m R []),slF (Qu m f),slI n,slT (.lst []),none] _;have ap:ApF (λ_=>none) xa:=λ_ _=>rfl;refine run_seq (QvF (x:=QbJ w) (ρ':=[slI w,slF (Qo m R []),slF (Qu m f),slI n,slT (.lst []),none]) (Q2 (QP ap) Qac) (Qz4 ap (r:=⟨[.int w,Qo m R [],Qu m f,.int n],_,_⟩) rfl rfl (hx w hw N f n hn)) (hs.he w hw) ?_);refine rsa (Q0 (r:=⟨[.exc (QbJ w)],true,[]⟩) rfl (hk w hw) rfl) ?_;exact QB (QaN (r:=⟨Qph w,true,[4]⟩) rfl ⟨rfl,rfl⟩)
def QCb{dn dc ds:Den}(hn:QmP dn)(hc:Qk3 dc)(hs:Qkl ds)(ns:List Int)(h:ns.length<=63):Qm 5 (QmT dn dc ds) [.lst (ns.map .int)]=slT (.bl true):=by
 obtain⟨m,R,N,en⟩:=hn ns h;have m4:=N.m4;refine QbU ?_;have cell:∀(ρ:En) (v k:Nat) (fk:DE),ρ[v]? =some (slF (.lst (ns.map .int)))->fk ρ=some (reI k)->Ql 2 dc [] (Qa (Qn v) (Qa fk Qb)) ρ=some (reI (ns.getD k 0)):=λρ v k fk h0 hk=>by
  refine Q0 (QD (QcZ h0) (QD hk (Qat _))) ?_ rfl;exact hc ns k
 refine rsa (Q0 (r:=⟨[.lst (ns.map .int)],false,[]⟩) rfl en rfl) ?_;obtain⟨n,e2,n9⟩:∃n:Nat,ns.getD 2 0*69621 % (10^9+1)=n/\n<10^18:=by
  have b1:=Zbp (ns.getD 2 0*69621) (by decide:(10^9+1:Int)≠0);have b2:=Zba (ns.getD 2 0*69621) (by decide:(0:Int)<10^9+1);exact⟨(ns.getD 2 0*69621 % (10^9+1)).toNat,⋯,⋯⟩
 refine rsa (Qd9 (b:=10^9+1) (QoG (b:=69621) (cell _ 0 2 _ rfl rfl) rfl rfl rfl (Qme ∅)) rfl rfl rfl ∅) ?_;rw[e2];refine run_seq (Qar (r:=reT (Qu m λi=>ns.getD (3+i) 0*48271 % 2147483647 % 31)) ?_ ?_)
 .exact Qb5 (toD:=λ(k:Nat)=> .int (k:Int)) (out:=λi=> .int (ns.getD (3+i) 0*48271 % 2147483647 % 31)) (List.range m) (Qh0 (n:=m) (r:=reI m) rfl rfl ⋯) rfl λi hi=>⟨[none,slI i,slF (.lst (ns.map .int))],rfl,reI (ns.getD (3+i) 0*48271 % 2147483647 % 31),Qd9 (b:=31) (Qd9 (b:=2147483647) (QoG (b:=48271) (cell _ 2 (3+i) (QC (dC (.int 3)) (Qn 1)) rfl (by rw[show((3+i:Nat):Int)=3+(i:Int)from by lia];rfl)) rfl rfl rfl (Qme ∅)) rfl rfl rfl ∅) rfl rfl rfl ∅,rfl,rfl⟩
 rw[QcD];generalize (λi=>ns.getD (3+i) 0*48271 % 2147483647 % 31)=f;refine QfM (P:=λρ=>True) ?_ λρ _=>QaN (r:=reT (.bl true)) rfl ⟨rfl,rfl⟩;refine Qdt (toD:=λ(k:Nat)=> .int (k:Int)) (List.range 11) (λi ρ=>∃j4,ρ=[slF (.lst (ns.map .int)),slT (Qo m R []),slI n,slT (Qu m f),j4]) (Qh0 (n:=11) (r:=reI 11) rfl rfl ∅) rfl ⟨none,rfl⟩ ?_ λρ _=>trivial;rintro i k ρ hi ⟨j4,rfl⟩;have hk:i<11/\i=k:=by
  obtain⟨h1,h2⟩:=Zm.mp hi;simp at h1 h2;exact⟨h1,h2⟩
 obtain⟨hk,rfl⟩:=hk;refine⟨_,rfl,run_seq (QaH (b:=false) ?_ (λh=>by cases h) (λ_=>QB (QB ⟨_,rfl⟩)))⟩;have e1:=hs i hk N f n n9;have:i=0∨i=1∨i=2∨i=3∨i=4∨i=5∨i=6∨i=7∨i=8∨i=9∨i=10:= ⋯
 have e3:QC (Qw (Qas (dC (.int 11))) (.nm 1) [none,none,some 4] QO (dOp gEq (Qn 2) (Qn 1))) (QI (Qa (dC (.bl true)) Qb)) [slF (.lst (ns.map .int)),slT (Qo m R []),slI n,slT (Qu m f),slI i]=some ⟨Qph i,true,[]⟩:=by
  rcases this with rfl | rfl | rfl | rfl | rfl | rfl | rfl | rfl | rfl | rfl | rfl<;>rfl
 refine QM (Qai (d:= .bl false) (Q0 (r:=⟨[.int i,Qo m R [],Qu m f,.int n],true,[1,3]⟩) rfl e1 rfl) e3 ?_) rfl;rcases this with rfl | rfl | rfl | rfl | rfl | rfl | rfl | rfl | rfl | rfl | rfl<;>rfl
end HS
def HS.some_of{α:Type}{x:Option α}{d:α}(h:x.isSome=true):x=some (x.getD d):=by cases x with | none=>cases h | some a=>rfl
namespace Law
open PySem L2 HS
noncomputable section
abbrev GX:=List (Str×(Nat×(List D->Option Str)))
def top(i:Nat):Stmt:=PySem.Challenge.pw_heapstill_k76_refusals_apart.main.body.getD i (.Pass ⟨0,0,0,0⟩)
abbrev cst:List (Str×Cn):=[("MOST_PLACES_nets",.inl 8),("MOST_WAYS",.inl 40),("MOST_SPANS",.inl 300),("FIGURES",.inr "0123456789"),("MOST_FIGURES",.inl 18),("ROAD",.inr "-"),("LANE",.inr ">"),("LETTERS",.inr "abcdefghijklmnopqrstuvwxyz"),("MOST_LETTERS",.inl 8),("MOST_PLACES_worth",.inl 4),("MOST_GRAINS",.inl 6)]
abbrev Sc(s:Stmt)(P:List Str):Prop:=QZ (namesOf (Qd s)) P (Qd s)
def scM{s:Stmt}{P:List Str}(h1:(Qd s).kind= .function)(h2:(Qd s).isCoroutine=false)(h3:(Qd s).isGenerator=false)(h4:(namesOf (Qd s)).Nodup/\(namesOf (Qd s)).take P.length=P/\(∀x∈P,(Qd s).names.lookup x=some .local ∨(Qd s).names.lookup x=some .cell)/\∀y∈(Qd s).names,y.2≠ .free):Sc s P:=⟨h1,h2,h3,h4.1,h4.2.1,h4.2.2.1,h4.2.2.2⟩
abbrev Cp(s:Stmt)(Γ:List (Str×FnR)):Option DS:=Q8 60 (QaO s Γ cst) (Qx s)
abbrev Dn(s:Stmt)(g:DS):Den:=Qm (namesOf (Qd s)).length g
abbrev Xn(s:Stmt)(g:DX):List D->Option Str:=QF (namesOf (Qd s)).length g
abbrev Gc(x:Str)(n:Nat)(d:Den)(Γ:List (Str×FnR)):List (Str×FnR):=(x,⟨n,[],d⟩)::Γ
structure Kn (x:Str) (s:Stmt) (P:List Str) (Γ:List (Str×FnR)) (g:DS):Prop where
 a:Sc s P
 b:QA x s P
 c:Cp s Γ=some g
def kn{Pr:Program}{w:World}{K:Fgg}{mg:Str->Option Value}{base h:Heap}{x:Str}{s:Stmt}{P:List Str}{k:Nat}{Γ:List (Str×FnR)}{g:DS}(X:K.In h)(G:h.Ns mainGlobals mg)(F:Fact K x s)(q:Kn x s P Γ g)(M:QaV mg cst)(t:Qaj Pr w K mg base k Γ):Known Pr w K mg base (k+1) x ⟨P.length,[],Dn s g⟩:=Qc3 X G F q.a q.b M t q.c
noncomputable abbrev cls:List Str:=["NoNet","NoRow","NoHeap","TooMany","NotPlain","NoRings","NotAgain","NoTree","NoText","NoName","NoDeed"]
noncomputable abbrev QEW:List (Str×List (Str×Bool)):=cls.map λx=>(x,(([("HeapError",true)]:List (Str×Bool))++cls.map λ(y:Str)=>(y,x == y))++([("ValueError",true)]:List (Str×Bool)))
abbrev sub:=QwZ QEW
abbrev CpT(s:Stmt)(Γ:List (Str×FnR))(Γx:GX)(hΓ:List (Str×FnR)):Option DS:=Q8 60 (thT 60 s Γ cst ⟨Γx,cls⟩ sub hΓ) (Qx s)
abbrev CpH(s:Stmt)(hΓ:List (Str×FnR)):Option DS:=Qiy (QaO s [] cst) sub hΓ (Qx s)
abbrev CpX(s:Stmt)(Γ:List (Str×FnR))(Γx:GX):Option DX:=QcX 60 (QaO s Γ cst) ⟨Γx,cls⟩ (Qx s)
abbrev CpD(s:Stmt)(Γ:List (Str×FnR))(T:ObT)(E:DkT)(p:Option Nat):Option DS:=Q8 60 (thD 60 (QaO s Γ cst) T E p) (Qx s)
abbrev QbM(s:Stmt)(Γ:List (Str×FnR))(Γx:GX)(T:ObT)(E:DkT):Option DX:=Qe7 (thD 60 (QaO s Γ cst) T E none) ⟨Γx,cls⟩ E 60 (Qx s)
abbrev T0:ObT:=⟨HS.QbI,[],[],[],[]⟩
abbrev E0:DkT:=⟨[("COMMANDS",HS.wCd)],[],[],[]⟩
abbrev Qbm:=top 14
def Qjd:Sc Qbm ["net","rows"]:=scM rfl rfl rfl nofun
def QjX:QA "need_rows" Qbm ["net","rows"]:=λ_ _ _ _ _ _=>lc λ_=>lc λ_=>l0 rfl
def Qjg:=(CpX Qbm [] []).getD xNo
def QpK:CpX Qbm [] []=some Qjg:=some_of nofun
abbrev QbD:=Xn Qbm Qjg
abbrev QfQ:GX:=("need_rows",(2,QbD))::[]
def Qj8:=(Cp Qbm []).getD Qi
def Qqc:Cp Qbm []=some Qj8:=some_of nofun
abbrev Q1:=Dn Qbm Qj8
abbrev QdD:=Gc "need_rows" 2 Q1 []
abbrev Qa4:=top 15
def Qio:Sc Qa4 ["net","heaps"]:=scM rfl rfl rfl nofun
def QiL:QA "need_heaps" Qa4 ["net","heaps"]:=λ_ _ _ _ _ _=>lc λ_=>lc λ_=>l0 rfl
def Qib:=(CpX Qa4 QdD QfQ).getD xNo
def Qnk:CpX Qa4 QdD QfQ=some Qib:=some_of nofun
abbrev Qaf:=Xn Qa4 Qib
abbrev Qfc:GX:=("need_heaps",(2,Qaf))::QfQ
def QiT:=(Cp Qa4 QdD).getD Qi
def Qop:Cp Qa4 QdD=some QiT:=some_of nofun
abbrev Qv:=Dn Qa4 QiT
abbrev Qgd:=Gc "need_heaps" 2 Qv QdD
abbrev Qfn:=top 19
def QkN:=(Cp Qfn Qgd).getD Qi
def QrE:Kn "unit_row" Qfn ["size","at"] Qgd QkN:=⟨scM rfl rfl rfl nofun,λ_ _ _ _ _ _=>lc λ_=>lc λ_=>l0 rfl,some_of nofun⟩
abbrev Qdm:=Dn Qfn QkN
abbrev Qsm:=Gc "unit_row" 2 Qdm Qgd
abbrev Qlk:=top 21
def Qrv:QA "opposite" Qlk ["line"]:=λ_ _ _ _ _ _=>lc λ_=>l0 rfl
abbrev Qh6:=Gc "opposite" 1 (λ_=>none) Qsm
abbrev Qd1:=top 27
def QiN:=(Cp Qd1 Qh6).getD Qi
def Qoa:Kn "with_pivot" Qd1 ["lines","at"] Qh6 QiN:=⟨scM rfl rfl rfl nofun,λ_ _ _ _ _ _=>lc λ_=>lc λ_=>l0 rfl,some_of nofun⟩
abbrev Qde:=Dn Qd1 QiN
abbrev QfT:=Gc "with_pivot" 2 Qde Qh6
abbrev QdZ:=top 26
def QrI:Sc QdZ ["lines"]:=scM rfl rfl rfl nofun
def Qup:QA "cleared" QdZ ["lines"]:=λ_ _ _ _ _ _=>lc λ_=>l0 rfl
def Qng:=(CpD QdZ QfT T0 E0 none).getD Qi
def QtY:CpD QdZ QfT T0 E0 none=some Qng:=some_of nofun
abbrev Qcl:=Dn QdZ Qng
abbrev Qe2:=Gc "cleared" 1 Qcl QfT
abbrev Qao:=top 30
def QfJ:Sc Qao ["lines"]:=scM rfl rfl rfl nofun
def Qgt:QA "cleared_whole" Qao ["lines"]:=λ_ _ _ _ _ _=>lc λ_=>l0 rfl
def QfY:=(CpX Qao Qe2 Qfc).getD xNo
def QkE:CpX Qao Qe2 Qfc=some QfY:=some_of nofun
abbrev QdS:=Xn Qao QfY
abbrev QdQ:GX:=("cleared_whole",(1,QdS))::Qfc
def Qgx:=(Cp Qao Qe2).getD Qi
def QkZ:Cp Qao Qe2=some Qgx:=some_of nofun
abbrev Qb2:=Dn Qao Qgx
abbrev QbS:=Gc "cleared_whole" 1 Qb2 Qe2
abbrev QbO:=top 31
def Ql7:Sc QbO ["table"]:=scM rfl rfl rfl nofun
def Qnz:QA "turned_back" QbO ["table"]:=λ_ _ _ _ _ _=>lc λ_=>l0 rfl
def Qg2:=(CpX QbO QbS QdQ).getD xNo
def QmD:CpX QbO QbS QdQ=some Qg2:=some_of nofun
abbrev QeD:=Xn QbO Qg2
abbrev QeA:GX:=("turned_back",(1,QeD))::QdQ
abbrev Qjw:=top 34
def Qq0:=(Cp Qjw QbS).getD Qi
def Qxt:Kn "steps" Qjw ["roads","lanes"] QbS Qq0:=⟨scM rfl rfl rfl nofun,λ_ _ _ _ _ _=>lc λ_=>lc λ_=>l0 rfl,some_of nofun⟩
abbrev Qcj:=Dn Qjw Qq0
abbrev Qmo:=Gc "steps" 2 Qcj QbS
abbrev Qd4:=top 35
def Qjl:=(Cp Qd4 Qmo).getD Qi
def Qok:Kn "toll_table" Qd4 ["net"] Qmo Qjl:=⟨scM rfl rfl rfl nofun,λ_ _ _ _ _ _=>lc λ_=>l0 rfl,some_of nofun⟩
abbrev QN:=Dn Qd4 Qjl
abbrev QfU:=Gc "toll_table" 1 QN Qmo
abbrev QeP:=top 36
def QjZ:=(Cp QeP QfU).getD Qi
def Qp3:Kn "span_list" QeP ["net"] QfU QjZ:=⟨scM rfl rfl rfl nofun,λ_ _ _ _ _ _=>lc λ_=>l0 rfl,some_of nofun⟩
abbrev Qbl:=Dn QeP QjZ
abbrev Qb3:=Gc "span_list" 1 Qbl QfU
abbrev QfD:=top 37
def Qu6:Sc QfD ["net","row","counts"]:=scM rfl rfl rfl nofun
def QyB:QA "after" QfD ["net","row","counts"]:=λ_ _ _ _ _ _=>lc λ_=>lc λ_=>lc λ_=>l0 rfl
def Qpe:=(QbM QfD Qb3 QeA T0 E0).getD xNo
def Qvr:QbM QfD Qb3 QeA T0 E0=some Qpe:=some_of nofun
abbrev Qh2:=Xn QfD Qpe
abbrev Qkw:GX:=("after",(3,Qh2))::QeA
abbrev Qaw:=top 46
def Qgi:Sc Qaw ["net"]:=scM rfl rfl rfl nofun
def Qhu:QA "need_numbers" Qaw ["net"]:=λ_ _ _ _ _ _=>lc λ_=>l0 rfl
def Qgs:=(CpX Qaw Qb3 Qkw).getD xNo
def Qk5:CpX Qaw Qb3 Qkw=some Qgs:=some_of nofun
abbrev Qb0:=Xn Qaw Qgs
abbrev Qem:GX:=("need_numbers",(1,Qb0))::Qkw
def QgU:=(Cp Qaw Qb3).getD Qi
def Qmy:Cp Qaw Qb3=some QgU:=some_of nofun
abbrev Qaz:=Dn Qaw QgU
abbrev QeJ:=Gc "need_numbers" 1 Qaz Qb3
abbrev QjA:=top 49
def Qq9:=(Cp QjA QeJ).getD Qi
def QyT:Kn "leads" QjA ["many","roads","lanes"] QeJ Qq9:=⟨scM rfl rfl rfl nofun,λ_ _ _ _ _ _=>lc λ_=>lc λ_=>lc λ_=>l0 rfl,some_of nofun⟩
abbrev QgZ:=Dn QjA Qq9
abbrev Ql1:=Gc "leads" 3 QgZ QeJ
abbrev QeN:=top 47
def QjW:=(Cp QeN Ql1).getD Qi
def QpW:Kn "need_ways" QeN ["net"] Ql1 QjW:=⟨scM rfl rfl rfl nofun,λ_ _ _ _ _ _=>lc λ_=>l0 rfl,some_of nofun⟩
abbrev QbC:=Dn QeN QjW
abbrev QgO:=Gc "need_ways" 1 QbC Ql1
abbrev Qfw:=top 50
def QkU:=(Cp Qfw QgO).getD Qi
def Qre:Kn "is_plain" Qfw ["net"] QgO QkU:=⟨scM rfl rfl rfl nofun,λ_ _ _ _ _ _=>lc λ_=>l0 rfl,some_of nofun⟩
abbrev Qav:=Dn Qfw QkU
abbrev QhD:=Gc "is_plain" 1 Qav QgO
abbrev QbV:=top 48
def Qe4:=(Cp QbV QhD).getD Qi
def Qi6:Kn "need_small_spans" QbV ["net"] QhD Qe4:=⟨scM rfl rfl rfl nofun,λ_ _ _ _ _ _=>lc λ_=>l0 rfl,some_of nofun⟩
abbrev Qad:=Dn QbV Qe4
abbrev Qbp:=Gc "need_small_spans" 1 Qad QhD
abbrev Qbi:=top 45
def QgH:Sc Qbi ["many","roads","lanes"]:=scM rfl rfl rfl nofun
def Qj2:QfV "made_net" Qbi ["many","roads","lanes"] 3 []:=λK t od n sl h kV doc pm an cdv ct S us hl=>match us,hl with | [_,_,_],_=>QmY h rfl
def QjU:QfV "made_net" Qbi ["many","roads","lanes"] 2 [.none]:=λK t od n sl h kV doc pm an cdv ct S us hl=>match us,hl with | [_,_],_=>QmY h rfl
def Qj9:=(CpX Qbi Qbp Qem).getD xNo
def QjV:CpX Qbi Qbp Qem=some Qj9:=some_of nofun
abbrev Qb6:=Xn Qbi Qj9
abbrev QgT:GX:=("made_net",(3,Qb6))::Qem
def QlN:=(Cp Qbi Qbp).getD Qi
def Qsq:Cp Qbi Qbp=some QlN:=some_of nofun
abbrev Qbn:=Dn Qbi QlN
abbrev Qeh:List (Str×FnR):=("made_net",⟨3,[.non],Qbn⟩)::Qbp
abbrev E1:DkT:=⟨[("COMMANDS",HS.wCd)],[],[],[("made_net",(3,[.non],Qb6))]⟩
abbrev QaW:=top 51
def Qif:Sc QaW ["net"]:=scM rfl rfl rfl nofun
def Qjc:QA "need_plain" QaW ["net"]:=λ_ _ _ _ _ _=>lc λ_=>l0 rfl
def Qit:=(CpX QaW Qeh QgT).getD xNo
def QnA:CpX QaW Qeh QgT=some Qit:=some_of nofun
abbrev QbN:=Xn QaW Qit
abbrev Qfb:GX:=("need_plain",(1,QbN))::QgT
def Qjb:=(Cp QaW Qeh).getD Qi
def QoT:Cp QaW Qeh=some Qjb:=some_of nofun
abbrev QS:=Dn QaW Qjb
abbrev Qc5:=Gc "need_plain" 1 QS Qeh
abbrev QfG:=top 53
def Qv6:Sc QfG ["net","heap"]:=scM rfl rfl rfl nofun
def QxP:QA "still" QfG ["net","heap"]:=λ_ _ _ _ _ _=>lc λ_=>lc λ_=>l0 rfl
def QpQ:=(QbM QfG Qc5 Qfb T0 E1).getD xNo
def Qwc:QbM QfG Qc5 Qfb T0 E1=some QpQ:=some_of nofun
abbrev QhU:=Xn QfG QpQ
abbrev Qkn:GX:=("still",(2,QhU))::Qfb
abbrev QdJ:=top 55
def Qip:=(Cp QdJ Qc5).getD Qi
def Qns:Kn "roads_among" QdJ ["toll","place","places"] Qc5 Qip:=⟨scM rfl rfl rfl nofun,λ_ _ _ _ _ _=>lc λ_=>lc λ_=>lc λ_=>l0 rfl,some_of nofun⟩
abbrev Qah:=Dn QdJ Qip
abbrev QcB:=Gc "roads_among" 3 Qah Qc5
abbrev Qed:=top 57
def QqA:Sc Qed ["net","heap"]:=scM rfl rfl rfl nofun
def Quu:QA "fire" Qed ["net","heap"]:=λ_ _ _ _ _ _=>lc λ_=>lc λ_=>l0 rfl
def Qqh:=(CpX Qed QcB Qkn).getD xNo
def Qzo:CpX Qed QcB Qkn=some Qqh:=some_of nofun
abbrev QeH:=Xn Qed Qqh
abbrev Qmg:GX:=("fire",(2,QeH))::Qkn
def QsG:=(Cp Qed QcB).getD Qi
def QBy:Cp Qed QcB=some QsG:=some_of nofun
abbrev QbE:=Dn Qed QsG
abbrev QoH:=Gc "fire" 2 QbE QcB
abbrev QdI:=top 58
def Qir:=(Cp QdI QoH).getD Qi
def Qnn:Kn "comes_again" QdI ["net","heap"] QoH Qir:=⟨scM rfl rfl rfl nofun,λ_ _ _ _ _ _=>lc λ_=>lc λ_=>l0 rfl,some_of nofun⟩
abbrev Qbt:=Dn QdI Qir
abbrev QcC:=Gc "comes_again" 2 Qbt QoH
abbrev QbP:=top 60
def QmO:Sc QbP ["table"]:=scM rfl rfl rfl nofun
def Qnu:QA "ring_tables" QbP ["table"]:=λ_ _ _ _ _ _=>lc λ_=>l0 rfl
def Qhg:=(QbM QbP QcC Qmg T0 E1).getD xNo
def Qmh:QbM QbP QcC Qmg T0 E1=some Qhg:=some_of nofun
abbrev Qcf:=Xn QbP Qhg
abbrev QeB:GX:=("ring_tables",(1,Qcf))::Qmg
abbrev Qen:=top 89
def QiJ:=(Cp Qen QcC).getD Qi
def Qot:Kn "text_words" Qen ["text"] QcC QiJ:=⟨scM rfl rfl rfl nofun,λ_ _ _ _ _ _=>lc λ_=>l0 rfl,some_of nofun⟩
abbrev Qbo:=Dn Qen QiJ
abbrev Qc7:=Gc "text_words" 1 Qbo QcC
abbrev QaJ:=top 93
def Qg7:Sc QaJ ["word"]:=scM rfl rfl rfl nofun
def Qim:QA "read_number" QaJ ["word"]:=λ_ _ _ _ _ _=>lc λ_=>l0 rfl
def Qhq:=(CpX QaJ Qc7 QeB).getD xNo
def Ql2:CpX QaJ Qc7 QeB=some Qhq:=some_of nofun
abbrev QeF:=Xn QaJ Qhq
abbrev Qew:GX:=("read_number",(1,QeF))::QeB
def Qid:=(Cp QaJ Qc7).getD Qi
def Qnv:Cp QaJ Qc7=some Qid:=some_of nofun
abbrev QaK:=Dn QaJ Qid
abbrev Qcz:=Gc "read_number" 1 QaK Qc7
abbrev Qdw:=top 94
def QpT:Sc Qdw ["text"]:=scM rfl rfl rfl nofun
def QrJ:QA "read_row" Qdw ["text"]:=λ_ _ _ _ _ _=>lc λ_=>l0 rfl
def Qj5:=(CpX Qdw Qcz Qew).getD xNo
def Qp9:CpX Qdw Qcz Qew=some Qj5:=some_of nofun
abbrev QaG:=Xn Qdw Qj5
abbrev QgK:GX:=("read_row",(1,QaG))::Qew
abbrev QdX:=top 97
def QrF:Sc QdX ["net","heap"]:=scM rfl rfl rfl nofun
def Que:QA "tree_of" QdX ["net","heap"]:=λ_ _ _ _ _ _=>lc λ_=>lc λ_=>l0 rfl
def QlC:=(QbM QdX Qcz QgK T0 E1).getD xNo
def Qrs:QbM QdX Qcz QgK T0 E1=some QlC:=some_of nofun
abbrev QfA:=Xn QdX QlC
abbrev Qh5:GX:=("tree_of",(2,QfA))::QgK
abbrev Qin:=top 101
def Qnq:QA "tree_depths" Qin ["net","tree"]:=λ_ _ _ _ _ _=>lc λ_=>lc λ_=>l0 rfl
abbrev Qbu:=Gc "tree_depths" 2 (λ_=>none) Qcz
abbrev QcI:=top 102
def Qon:Sc QcI ["net","tree"]:=scM rfl rfl rfl nofun
def Qp6:QA "need_tree" QcI ["net","tree"]:=λ_ _ _ _ _ _=>lc λ_=>lc λ_=>l0 rfl
def QiI:=(CpX QcI Qbu Qh5).getD xNo
def Qou:CpX QcI Qbu Qh5=some QiI:=some_of nofun
abbrev Qf1:=Xn QcI QiI
abbrev QfP:GX:=("need_tree",(2,Qf1))::Qh5
abbrev Qd0:=top 98
def QrG:Sc Qd0 ["net","tree"]:=scM rfl rfl rfl nofun
def Quy:QA "heap_of" Qd0 ["net","tree"]:=λ_ _ _ _ _ _=>lc λ_=>lc λ_=>l0 rfl
def QlF:=(QbM Qd0 Qbu QfP T0 E1).getD xNo
def Qrn:QbM Qd0 Qbu QfP T0 E1=some QlF:=some_of nofun
abbrev Qfp:=Xn Qd0 QlF
abbrev QhV:GX:=("heap_of",(2,Qfp))::QfP
abbrev Qfs:=top 116
def Qlu:=(Cp Qfs Qbu).getD Qi
def Qss:Kn "with_pit" Qfs ["net"] Qbu Qlu:=⟨scM rfl rfl rfl nofun,λ_ _ _ _ _ _=>lc λ_=>l0 rfl,some_of nofun⟩
abbrev Qcq:=Dn Qfs Qlu
abbrev Qd3:=Gc "with_pit" 1 Qcq Qbu
abbrev QcE:=top 121
def QpJ:Sc QcE ["net","full"]:=scM rfl rfl rfl nofun
def QpZ:QA "row_worth" QcE ["net","full"]:=λ_ _ _ _ _ _=>lc λ_=>lc λ_=>l0 rfl
def QiQ:=(QbM QcE Qd3 QhV T0 E1).getD xNo
def QpN:QbM QcE Qd3 QhV T0 E1=some QiQ:=some_of nofun
abbrev Qee:=Xn QcE QiQ
abbrev Qf2:GX:=("row_worth",(2,Qee))::QhV
abbrev QdK:=top 91
def Qie:=(Cp QdK Qd3).getD Qi
def Qnl:Kn "read_figure" QdK ["sign"] Qd3 Qie:=⟨scM rfl rfl rfl nofun,λ_ _ _ _ _ _=>lc λ_=>l0 rfl,some_of nofun⟩
abbrev QaI:=Dn QdK Qie
abbrev QnB:=Gc "read_figure" 1 QaI Qd3
abbrev Qje:=top 92
def QoJ:QA "read_alike" Qje ["word"]:=λ_ _ _ _ _ _=>lc λ_=>l0 rfl
abbrev QfN:=Gc "read_alike" 1 (λ_=>none) QnB
abbrev QeM:=top 90
def QjY:=(Cp QeM QfN).getD Qi
def QpX:Kn "read_ways" QeM ["word"] QfN QjY:=⟨scM rfl rfl rfl nofun,λ_ _ _ _ _ _=>lc λ_=>l0 rfl,some_of nofun⟩
abbrev QdG:=Dn QeM QjY
abbrev QgP:=Gc "read_ways" 1 QdG QfN
abbrev Qfq:=top 88
def Qlo:=(Cp Qfq QgP).getD Qi
def Qr6:Kn "read_net" Qfq ["text"] QgP Qlo:=⟨scM rfl rfl rfl nofun,λ_ _ _ _ _ _=>lc λ_=>l0 rfl,some_of nofun⟩
abbrev Qbk:=Dn Qfq Qlo
abbrev Qea:=Gc "read_net" 1 Qbk QgP
abbrev Qan:=top 109
def QfR:Sc Qan ["command"]:=scM rfl rfl rfl nofun
def QgF:QA "command_words" Qan ["command"]:=λ_ _ _ _ _ _=>lc λ_=>l0 rfl
def Qf6:=(QbM Qan Qea Qf2 T0 E1).getD xNo
def Qku:QbM Qan Qea Qf2 T0 E1=some Qf6:=some_of nofun
abbrev QdU:=Xn Qan Qf6
abbrev QaP:GX:=("command_words",(1,QdU))::Qf2
def Qgz:=(CpD Qan Qea T0 E1 none).getD Qi
def Qll:CpD Qan Qea T0 E1 none=some Qgz:=some_of nofun
abbrev QaC:=Dn Qan Qgz
abbrev Qeg:=Gc "command_words" 1 QaC Qea
abbrev QeS:=top 110
def Qka:=(Cp QeS Qeg).getD Qi
def Qqa:Kn "need_name" QeS ["word"] Qeg Qka:=⟨scM rfl rfl rfl nofun,λ_ _ _ _ _ _=>lc λ_=>l0 rfl,some_of nofun⟩
abbrev QbB:=Dn QeS Qka
abbrev Qak:=Gc "need_name" 1 QbB Qeg
abbrev QaB:=inClass (top 108) 0
def Qkx:Sc QaB ["self"]:=scM rfl rfl rfl nofun
def Qld:Qhn "__init__" "Desk.__init__" QaB ["self"]:=λ_ _ _ _ _ _=>lc λ_=>l0 rfl
def QcV:=(CpD QaB Qak T0 E1 (some 0)).getD Qi
def Qk2:CpD QaB Qak T0 E1 (some 0)=some QcV:=some_of nofun
abbrev QaY:=Qc6 (namesOf (Qd QaB)).length 0 QcV
abbrev T1:ObT:=⟨HS.QbI,[],[],[("Desk",⟨1,0,QaY⟩)],[]⟩
abbrev Qae:=inClass (top 108) 2
def Qff:Sc Qae ["self","kind","word"]:=scM rfl rfl rfl nofun
def Qf3:Qhn "read_part" "Desk.read_part" Qae ["self","kind","word"]:=λ_ _ _ _ _ _=>lc λ_=>lc λ_=>lc λ_=>l0 rfl
def Qfj:=(QbM Qae Qak QaP T1 E1).getD xNo
def QjR:QbM Qae Qak QaP T1 E1=some Qfj:=some_of nofun
abbrev Qbb:=Xn Qae Qfj
def Qf7:=(CpD Qae Qak T1 E1 none).getD Qi
def Qks:CpD Qae Qak T1 E1 none=some Qf7:=some_of nofun
abbrev QbG:=Dn Qae Qf7
abbrev E2:DkT:=⟨[("COMMANDS",HS.wCd)],[("Desk",[("read_part",(3,QbG))])],[("Desk",[("read_part",(3,Qbb))])],[("made_net",(3,[.non],Qb6))]⟩
abbrev QaZ:=inClass (top 108) 1
def Qke:Sc QaZ ["self","command"]:=scM rfl rfl rfl nofun
def QkL:Qhn "say" "Desk.say" QaZ ["self","command"]:=λ_ _ _ _ _ _=>lc λ_=>lc λ_=>l0 rfl
def Qj6:=(QbM QaZ Qak QaP T1 E2).getD xNo
def QpR:QbM QaZ Qak QaP T1 E2=some Qj6:=some_of nofun
abbrev QeQ:=Xn QaZ Qj6
def Qfl:=(CpD QaZ Qak T1 E2 (some 0)).getD Qi
def Qrz:CpD QaZ Qak T1 E2 (some 0)=some Qfl:=some_of nofun
abbrev Qhz:=Qc6 (namesOf (Qd QaZ)).length 0 Qfl
abbrev T2:ObT:=⟨HS.QbI,[("Desk",[("say",⟨2,0,Qhz⟩)])],[],[("Desk",⟨1,0,QaY⟩)],[]⟩
abbrev E3:DkT:=⟨[("COMMANDS",HS.wCd)],[("Desk",[("read_part",(3,QbG))])],[("Desk",[("read_part",(3,Qbb)),("say",(2,QeQ))])],[("made_net",(3,[.non],Qb6))]⟩
abbrev Qdk:=top 124
def Qhj:=(Cp Qdk Qak).getD Qi
def Qmb:Kn "_law_cell_at" Qdk ["_law_script","_law_k"] Qak Qhj:=⟨scM rfl rfl rfl nofun,λ_ _ _ _ _ _=>lc λ_=>lc λ_=>l0 rfl,some_of nofun⟩
abbrev Qaa:=Dn Qdk Qhj
abbrev Qet:=Gc "_law_cell_at" 2 Qaa Qak
abbrev Qfv:=top 125
def Qlq:=(Cp Qfv Qet).getD Qi
def Qsa:Kn "_law_net" Qfv ["_law_script"] Qet Qlq:=⟨scM rfl rfl rfl nofun,λ_ _ _ _ _ _=>lc λ_=>l0 rfl,some_of nofun⟩
abbrev Qdq:=Dn Qfv Qlq
abbrev Qef:=Gc "_law_net" 1 Qdq Qet
abbrev QbR:=top 126
def Qmi:Sc QbR ["_law_way","_law_net_here","_law_heap","_law_number"]:=scM rfl rfl rfl nofun
def Qno:QA "_law_stages" QbR ["_law_way","_law_net_here","_law_heap","_law_number"]:=λ_ _ _ _ _ _=>lc λ_=>lc λ_=>lc λ_=>lc λ_=>l0 rfl
def Qhs:=(QbM QbR Qef QaP T2 E3).getD xNo
def QmQ:QbM QbR Qef QaP T2 E3=some Qhs:=some_of nofun
abbrev Qch:=Xn QbR Qhs
abbrev Qeu:GX:=("_law_stages",(4,Qch))::QaP
abbrev Qcd:=top 127
def Qnt:Sc Qcd ["_law_way","_law_net_here","_law_heap","_law_number"]:=scM rfl rfl rfl nofun
def Qiv:QA "_law_asked" Qcd ["_law_way","_law_net_here","_law_heap","_law_number"]:=λ_ _ _ _ _ _=>lc λ_=>lc λ_=>lc λ_=>lc λ_=>l0 rfl
def Qik:=(QbM Qcd Qef Qeu T2 E3).getD xNo
def Qnr:QbM Qcd Qef Qeu T2 E3=some Qik:=some_of nofun
abbrev QdM:=Xn Qcd Qik
abbrev Qih:GX:=("_law_asked",(4,QdM))::Qeu
abbrev Qf8:=Gc "_law_asked" 4 (λ_=>none) Qef
abbrev Qci:=top 128
def Qny:Sc Qci ["_law_e"]:=scM rfl rfl rfl nofun
def Qoi:QA "_law_kinds" Qci ["_law_e"]:=λ_ _ _ _ _ _=>lc λ_=>l0 rfl
def QiS:=(CpH Qci []).getD Qi
def QpL:CpH Qci []=some QiS:=some_of nofun
abbrev Qdc:=Dn Qci QiS
abbrev Qig:=Gc "_law_kinds" 1 Qdc []
abbrev QcM:=top 129
def QoR:Sc QcM ["_law_way","_law_net_here","_law_heap","_law_number"]:=scM rfl rfl rfl nofun
def Qp4:QA "_law_said" QcM ["_law_way","_law_net_here","_law_heap","_law_number"]:=λ_ _ _ _ _ _=>lc λ_=>lc λ_=>lc λ_=>lc λ_=>l0 rfl
def Qkf:=(CpT QcM Qf8 Qih Qig).getD Qi
def Qp5:CpT QcM Qf8 Qih Qig=some Qkf:=some_of nofun
abbrev QcL:=Dn QcM Qkf
abbrev Qkd:=Gc "_law_said" 4 QcL Qf8
abbrev QjC:=top 130
def QAY:Sc QjC ["_law_script"]:=scM rfl rfl rfl nofun
def QD0:QA "law" QjC ["_law_script"]:=λ_ _ _ _ _ _=>lc λ_=>l0 rfl
def QwN:=(Cp QjC Qkd).getD Qi
def QDJ:Cp QjC Qkd=some QwN:=some_of nofun
abbrev Qsc:=Dn QjC QwN
def Qj1:Q1=Qm 3 (HS.QdF):=by kernel_rfl
def Qi2:QbD=QF 3 (HS.QeT):=by kernel_rfl
def QiA:Qv=Qm 3 (HS.Qdb Q1):=by kernel_rfl
def Qiq:Qaf=QF 3 (HS.Qd2 Q1 QbD):=by kernel_rfl
def QrL:Qdm=Qm 2 (HS.Qhv):=by kernel_rfl
def Qn2:Qde=Qm 4 (HS.QfL (λ_=>none)):=by kernel_rfl
def Qts:Qcl=Qm 5 (HS.Qii Qde):=by kernel_rfl
def QlL:Qb2=Qm 2 (HS.Qeq Qcl):=by kernel_rfl
def Qkr:QdS=QF 2 (HS.Qeo Qcl):=by kernel_rfl
def QmK:QeD=QF 3 (HS.Qfk Qdm Qb2 QdS):=by kernel_rfl
def Qqu:Qcj=Qm 4 (HS.QgV):=by kernel_rfl
def Qjm:QN=Qm 5 (HS.Qd5 Qcj):=by kernel_rfl
def Qkc:Qbl=Qm 1 (HS.QeK QN):=by kernel_rfl
def Qvj:Qh2=QF 6 (HS.QqQ QN Q1 QbD):=by kernel_rfl
def Qg4:Qaz=Qm 4 (HS.Qdu):=by kernel_rfl
def QgC:Qb0=QF 4 (HS.Qdy):=by kernel_rfl
def QzM:QgZ=Qm 8 (HS.QqG Qcj):=by kernel_rfl
def Qp0:QbC=Qm 1 (HS.Qj7 QgZ):=by kernel_rfl
def Qlj:Qav=Qm 1 (HS.QhS):=by kernel_rfl
def QiZ:Qad=Qm 3 (HS.Qe8 Qav Qbl):=by kernel_rfl
def Qle:Qbn=Qm 6 (HS.Qfr Qaz QbC Qad):=by kernel_rfl
def Qkb:Qb6=QF 6 (HS.Qdx Qad QbC Qaz Qb0):=by kernel_rfl
def QiK:QS=Qm 1 (HS.Qc1 Qav):=by kernel_rfl
def Qij:QbN=QF 1 (HS.Qd8 Qav):=by kernel_rfl
def QwE:QhU=QF 8 (HS.QjT QN Qv Qaf):=by kernel_rfl
def Qnx:Qah=Qm 3 (HS.Qiu):=by kernel_rfl
def Qt5:QbE=Qm 8 (HS.Qls QS Qv QN Qah):=by kernel_rfl
def Qqj:QeH=QF 8 (HS.QlM Qah QN Qv QS Qaf QbN):=by kernel_rfl
def Qnp:Qbt=Qm 4 (HS.Qis QbE Qbl):=by kernel_rfl
def Ql0:Qcf=QF 9 (HS.Qfg QeD):=by kernel_rfl
def QiE:Qbo=Qm 1 (HS.QfZ):=by kernel_rfl
def Qic:QaK=Qm 2 (HS.Qbd):=by kernel_rfl
def Qmj:QeF=QF 2 (HS.Qb9):=by kernel_rfl
def Qp1:QaG=QF 2 (HS.Qhh QaK Qbo QeF):=by kernel_rfl
def QrT:QfA=QF 7 (HS.Qil Qbt QbE QeH):=by kernel_rfl
def Qpx:Qf1=QF 2 (HS.Qgm (λ_=>none)):=by kernel_rfl
def Qsu:Qfp=QF 7 (HS.Qfd (λ_=>none) QS Qf1 QbN):=by kernel_rfl
def Qsk:Qcq=Qm 1 (HS.Qg0 QS):=by kernel_rfl
def Qpr:Qee=QF 4 (HS.Qgo Qcq Q1 QbD):=by kernel_rfl
def QnC:QaI=Qm 1 (HS.Qfi QaK):=by kernel_rfl
def Qp7:QdG=Qm 4 (HS.Qgu (λ_=>none) QaI):=by kernel_rfl
def Qrf:Qbk=Qm 7 (HS.Qht Qbo QaI QdG Qbn):=by kernel_rfl
def Qgn:QaC=Qm 3 (HS.QcP):=by kernel_rfl
def QkD:QdU=QF 3 (HS.QcS):=by kernel_rfl
def QjS:QbB=Qm 1 (HS.Qeb):=by kernel_rfl
def QkY:QcV=HS.Qam:=by kernel_rfl
def Qkk:QbG=Qm 4 (HS.Qei Qbk Qv QbB):=by kernel_rfl
def QjQ:Qbb=QF 4 (HS.Qek QbB Qv Qbk Qaf QaG):=by kernel_rfl
def Qsl:Qfl=HS.Qho QaC E2.mv:=by kernel_rfl
def Qp8:QeQ=QF 5 (HS.Qhm QaC E2.mv QdU E2.mx):=by kernel_rfl
def Qmd:Qaa=Qm 2 (HS.Qg5):=by kernel_rfl
def Qrm:Qdq=Qm 6 (HS.Qez Qaa):=by kernel_rfl
def QmA:Qch=QF 5 (HS.Qfh QbE Qbn Qfp QfA Qcf QeH Qee QhU Qh2 Qb6):=by kernel_rfl
def Qnm:QdM=QF 5 (HS.Qcp QaY T2.me QaG Qch E3.mx):=by kernel_rfl
def QpO:Qdc=Qm 2 (HS.QfK sub):=by kernel_rfl
def Qqd:QcL=Qm 6 (HS.Qgv (λ_=>none) Qdc QdM sub):=by kernel_rfl
def QC3:Qsc=Qm 5 (HS.QmT Qdq Qaa QcL):=by kernel_rfl
end
end Law
namespace HS
open PySem PySem.Spec L2
def QwJ(mg:Str->Option Value):List Str->Prop
 | []=>True
 | x::r=>mg x=none/\QwJ mg r
def QpA{mg:Str->Option Value}:∀{l:List Str},QwJ mg l->∀x∈l,mg x=none
 | [],_,x,h=>by simp at h
 | y::r,h,x,hx=>by
  rcases Zn.mp hx with rfl | hx
  .exact h.1
  .exact QpA h.2 x hx
def Qwv(mg:Str->Option Value):List (Str×Cn)->Prop
 | []=>True
 | (x,i)::r=>(∃t,mg x=some (cnV i t))/\Qwv mg r
def Qos{mg:Str->Option Value}:∀{l:List (Str×Cn)},Qwv mg l->∀x i,look x l=some i->∃t,mg x=some (cnV i t)
 | [],_,x,i,h=>by cases h
 | (y,j)::r,h,x,i,hx=>by
  unfold look at hx;split at hx
  .rename_i e;cases hx;subst e;exact h.1
  .exact Qos h.2 x i hx
def QCt{mg:Str->Option Value}{cs:List (Str×Cn)}(b:QwJ mg Qol)(c:Qwv mg cs):QaV mg cs:=⟨QpA b,Qos c⟩
end HS
def HS.QhB{K:Fgg}{mg:PySem.Str->Option PySem.Value}{h:PySem.Heap}{x:PySem.Str}{i:Int}{t:PySem.Tok}(X:K.In h)(G:h.Ns PySem.mainGlobals mg)(a:PySem.W.nsIn K PySem.mainGlobals x=some (some (.int i t))):∃t,mg x=some (.int i t):=⟨t,ZM X G a⟩
def HS.Qlv{K:Fgg}{mg:PySem.Str->Option PySem.Value}{h:PySem.Heap}{x:PySem.Str}{i:PySem.Str}{t:PySem.Tok}(X:K.In h)(G:h.Ns PySem.mainGlobals mg)(a:PySem.W.nsIn K PySem.mainGlobals x=some (some (.str i t))):∃t,mg x=some (.str i t):=⟨t,ZM X G a⟩
namespace Law
open PySem L2 HS
open HS
def QwM:Qi5 QN:=by rw[Qjm,Qqu];exact QxR
def Qrk:QiC Q1:=by rw[Qj1];exact QxC
def QAH:Qmu Qv:=by rw[QiA];exact QwF Qrk
def Qth:QjG Qav:=by rw[Qlj];exact Qvg
def QkS:Qes QS:=by rw[QiK];exact Qu0 Qth
def QA3:QlS Qah:=by rw[Qnx];exact Qvy
def Qxl:Qlg QbE:=by rw[Qt5];exact Qze QkS QAH QwM QA3
def QBM:Qpu Qbl:=by rw[Qkc];exact Qx6 QwM
def QBI:QmG Qbt:=by rw[Qnp];exact QvP Qxl QBM
def Qpt:ApF Q1 QbD:=by rw[Qj1,Qi2];exact Qyg
def Qxa:QnF QbD:=by rw[Qi2];exact Qwr
def Qml:ApF Qv Qaf:=by rw[QiA,Qiq];exact QuS Qpt
def Qti:Qk7 Qaf:=by rw[Qiq];exact QtP Qpt Qrk Qxa
def QqV:ApF QS QbN:=by rw[QiK,Qij];exact Qv4
def QAO:QoQ QbN:=by rw[Qij];exact Qt6 Qth
def QAk:ApF QbE QeH:=by rw[Qt5,Qqj];exact Qyt Qml QqV
def QCM:Qxe QeH:=by rw[Qqj];exact Qvc Qml QqV QkS Qti QAO
def QEG:Qkp Qb0:=by rw[QgC];exact Qpp
def QwY:ApF Qaz Qb0:=by rw[Qg4,QgC];exact QD5
def QDF(m:Nat)(R:Lpp):Qcq [Qo m R []]=slF (Qo ((m+1:Nat):Int) R []):=by rw[Qsk];exact Qys QkS m R
def QDK:Qcf=QlJ:=by rw[Ql0,QmK,QrL,QlL,Qkr,Qts,Qn2]
def QEQ:Stg QbE Qbn Qfp QfA Qcf QeH Qee QhU Qh2 Qb6 where
 af:=QAk
 am:=by rw[Qle,Qkb];exact QsW QwY
 m0:=λm R a hl=>by rw[Qkb];exact QCA QwY QEG m R a ⋯
 a1:=by rw[Qvj];exact QsJ Qpt Qxa
 s2:=λm R f j hj hf=>by rw[QwE];exact QxX Qml Qti m R f j hj hf
 w3:=λf h=>by rw[Qpr];exact Qyp (QDF _ _) Qrk f h
 f4:=QCM.plain
 r5:=λk hk=>by
  rw[QDK];have:k=0∨k=1∨k=2∨k=3:= ⋯
  rcases this with rfl | rfl | rfl | rfl
  .exact QC5
  .exact QDk
  .exact QCY
  .exact QDi
 t6:=λN n=>by rw[QrT];exact QA4 Qxl QBI N n
 h7:=λN n=>by rw[Qsu];exact QzN QkS (λN ts h1 h2 h3=>by rw[Qpx];exact QCU N ts h1 h2 h3) N n
def QEC(n:Nat)(h:n<10^18):QaG [.str (QG n++tx [32]++tx [120])]=some "NoText" :=by
 rw[Qp1,Qic,Qmj,QiE];exact QCP QvV n h
def qRn:Qbk=QrY:=by rw[Qrf,QiE,Qp7,QnC,Qic,Qle,Qg4,Qp0,QzM,QiZ,Qlj,Qkc,Qjm,Qqu]
def qRp:QbG=QwW Qv:=by rw[Qkk,qRn,QjS]
def QBd:Qbb=Qsp Qv Qaf QaG:=by rw[QjQ,qRn,QjS]
def qMv:E2.mv=Qwu Qv:=by
 show([("Desk",[("read_part",(3,QbG))])]:MvT)=_;rw[qRp]
def qMx:E2.mx=Qz7 Qv Qaf QaG:=by
 show([("Desk",[("read_part",(3,Qbb))])]:MxT)=_;rw[QBd]
def QDS:QeQ=QlA Qv Qaf QaG:=by rw[Qp8,Qgn,QkD,qMv,qMx]
def qn1:(namesOf (Qd QaZ)).length=5:=by kernel_rfl
def qn2:(namesOf (Qd QaB)).length=1:=by kernel_rfl
def QDO:Qhz=Qhk Qv:=by
 show Qc6 (namesOf (Qd QaZ)).length 0 Qfl=_;rw[qn1,Qsl,Qgn,qMv]
def QAI:QaY=Qc6 1 0 Qam:=by
 show Qc6 (namesOf (Qd QaB)).length 0 QcV=_;rw[qn2,QkY]
def QBf:QdM=QF 5 (Qcp (Qc6 1 0 Qam) (QvK Qv) QaG Qch (Qxg Qv Qaf QaG)):=by
 rw[Qnm];show QF 5 (Qcp QaY [("Desk",[("say",⟨2,0,Qhz⟩)])] QaG Qch [("Desk",[("read_part",(3,Qbb)),("say",(2,QeQ))])])=_;rw[QAI,QDO,QBd,QDS]
def hSub:Qsj sub:=⟨nofun,nofun,nofun⟩
def Qw8:Qk3 Qaa:=by rw[Qmd];exact QxK
def QEi:QmP Qdq:=by rw[Qrm];exact Qwe Qw8
def QDX:Qkl QcL:=by
 rw[Qqd];refine QAn hSub (λw hw=>?_) λw hw m R N f n hn=>?_
 .rw[QpO];exact Qzn hSub w hw
 .rw[QBf];exact QyD QEC hn (λw hw=>by rw[QmA];exact QD6 QEQ N f n w hw) w hw
def QB5(ns:List Int)(h:ns.length<=63):∃fr,Qsc [.lst (ns.map .int)]=some (.bl true,fr):=by
 rw[QC3];exact⟨true,QCb QEi Qw8 QDX ns h⟩
end Law
namespace PySem.W.Fast
def tw11107694730548780590:=0
def tw13212358616823329058:=0
def tw10292902463164500362:=0
def tw10888402397547369692:=0
def tw2127064271105632007:=0
def tw5538272521179761760:=0
def tw6111762476731612022:=0
def tw4426110750732095049:=0
def tw15312246504456316959:=0
def tw16857885409577998063:=0
def tw6622743118201480991:=0
def tw6775186312442585557:=0
def tw1522582896308893089:=0
def tw16113154172754087265:=0
def tw16935676370742051050:=0
def tw9147374255166764037:=0
def tw7976535144859878774:=0
def tw13669879923196191477:=0
def tw18112416887600242162:=0
def tw923450243028648624:=0
def tw12975689846247360823:=0
def tw1467616444506426271:=0
def tw5785683995341906286:=0
def tw9861104020708443583:=0
def tw17915742016990914224:=0
def tw11822234362132957318:=0
def tw11054713802219796114:=0
def tw14578030171090802600:=0
def tw11436001170127736124:=0
def tw5461372416535711607:=0
def tw1895867300526343001:=0
def tw3367912928304459640:=0
def tw11188538802299156254:=0
def tw15545484360247956012:=0
def tw7804804911675684360:=0
def tw5291759139149501916:=0
def tw5813776733786674035:=0
def tw425406627935027975:=0
def tw1463355000635667427:=0
def tw8759652176548562968:=0
def tw8505880259122376557:=0
def tw15159688474080641062:=0
def tw16485104721460382157:=0
def tw12287034956064129849:=0
def tw17972438047006790208:=0
def tw17180550969888687746:=0
def tw3736737036188943353:=0
def tw9903882793645462942:=0
def tw7198140436182380355:=0
def tw12188866544250852649:=0
def tw7858155372362434076:=0
def tw8312090806140006809:=0
def tw336556179921633574:=0
def tw9964380518869689801:=0
def tw4733317217370420857:=0
def tw13916512419168773000:=0
def tw8857333992521889584:=0
def tw8496739963334078994:=0
def tw9340477664257316191:=0
def tw16776161706214340784:=0
def tw12727821446887626431:=0
def tw15011915567701159850:=0
def tw16925517245864483665:=0
def tw16099771609644780194:=0
def tw4977375758581865229:=0
def tw10177050611114827322:=0
def tw9741674333337663688:=0
def tw17592127803673275490:=0
def tw15369738230883578817:=0
def tw13220832989713828418:=0
def tw3087772610501932610:=0
def tw8420537788375509052:=0
def tw84041986875468999:=0
def tw6178284393222974556:=0
def tw14752383782347607942:=0
def tw2465843366355652434:=0
def tw388149167985291178:=0
def tw476437421859878377:=0
def tw5590859099833170502:=0
def tw18305095206306132908:=0
def tw2277831009457922216:=0
def tw14151426231728574391:=0
def tw3774205273803282245:=0
def tw1723178684497969328:=0
def tw3432482678937186275:=0
def tw4844418412512943336:=0
def tw7369527684444484081:=0
def tw3658840614354895214:=0
def tw17553954535441079343:=0
def tw6334166760593925316:=0
def tw30399027006203631:=0
def tw16252439516642619873:=0
def tw12941689201672944137:=0
def tw12782977318069489665:=0
def tw15160447818629489502:=0
def tw6238121829209052060:=0
def tw15903703216079770555:=0
def tw15035739580527440917:=0
def tw8468582261170504052:=0
def tw4736989280468670800:=0
def tw6555057841915303590:=0
def tw10684825557674404998:=0
def tw16989243051137403031:=0
def tw13869330382701535516:=0
def tw5104009025097063857:=0
def tw1048936386126347032:=0
def tw7976621848071148061:=0
def tw1000984859230409761:=0
def tw6703657501233824656:=0
def tw1903696227728688986:=0
def tw15093652720755727415:=0
def tw1473747880109674413:=0
def tw16130364347266461960:=0
def tw2649587217974003014:=0
def tw8154094544883685307:=0
def tw12214931323712954102:=0
def tw9865423038228972647:=0
def tw18164049932201988386:=0
def tw6822356235899714955:=0
def tw381417839237033305:=0
def tw11555369969703029574:=0
def tw7338262439526008977:=0
def tw14867988733099493909:=0
def tw10332420843467353442:=0
def tw3725874518683909308:=0
def tw8895902864523972303:=0
def tw1988839536525960618:=0
def tw11334065156813183376:=0
def tw2463336136166653485:=0
def tw3343751222395681238:=0
def tw7107918133013935793:=0
def tw14527660182053944063:=0
def tw16786316352135227696:=0
def tw1247774040140581707:=0
def tw9610408879308603588:=0
def tw7497353195420228738:=0
def tw3238933593090861447:=0
def tw6417734223454441407:=0
def tw7421884764765401769:=0
def tw8949863838891749324:=0
def tw513827375536996649:=0
def tw15126538337462881494:=0
def tw15624285968917251813:=0
def tw11978295684288191855:=0
def tw16600049361056582151:=0
def tw5705903814364996719:=0
def tw12949015154589275285:=0
def tw3963749610687053967:=0
def tw16496251518944426454:=0
def tw14164754961950747723:=0
def tw18127388829932380199:=0
def tw10030468441367987348:=0
def tw17401722889469693076:=0
def tw7883990125812272213:=0
def tw8699177786678406451:=0
def tw8695971240929699635:=0
def tw11149317562871978383:=0
def tw1865967428610606853:=0
def tw7318519945275459606:=0
def tw10883533366642982122:=0
def tw10145750106484519072:=0
def tw8244327555704854385:=0
def tw4078644539557201145:=0
def tw4383683019686440823:=0
def tw2461008280758146389:=0
def tw1082595710762793937:=0
def tw12613929538983804422:=0
def tw9455985089454558931:=0
def tw16338617477033033675:=0
def tw342804817378594373:=0
def tw16281987936874069677:=0
def tw11125112988209528888:=0
def tw11612665237575790493:=0
def tw8055750421409072724:=0
def tw17220962311216833623:=0
def tw17885753690842194256:=0
def tw12035520739541628448:=0
def tw3637131448599585105:=0
def tw13827119302978876992:=0
def tw16469881161358862506:=0
def tw17413719698322899033:=0
def tw11368018388153622174:=0
def tw17574799530944545451:=0
def tw16328221223730841504:=0
def tw12795071602407008718:=0
def tw3498378927488953449:=0
def tw8978668916457822746:=0
def tw15962448840998104962:=0
def tw9701619991202111910:=0
def tw17610056415802587713:=0
def tw7786146669060527206:=0
def tw13467729096972030260:=0
def tw9173197199906512372:=0
def tw18084215572669419261:=0
def tw321086131455846517:=0
def tw3957407254527625110:=0
def tw11716621521849035816:=0
def tw11923834483512393998:=0
def tw497051197814487105:=0
def tw10043607618854994233:=0
def tw9869248176207517527:=0
def tw17656286445542019639:=0
def tw7900902218746526665:=0
def tw3749813502111643740:=0
def tw12134792216036416176:=0
def tw11735275629880805205:=0
def tw10869282796541762507:=0
def tw151537112995701644:=0
def tw10602305936676791210:=0
def tw12276979449386651769:=0
def tw4581938164288004704:=0
def tw8290470198017983980:=0
def tw10650773118209237965:=0
def tw15300851183596690191:=0
def tw9827265700200879524:=0
def tw14145055755016740904:=0
def tw2585521903309244047:=0
def tw14264222446899056679:=0
def tw4736373051823221579:=0
def tw17574304582478324099:=0
def tw17403715458727920546:=0
def tw386537868526230974:=0
def tw15901664029647468094:=0
def tw17484736667217852237:=0
def tw8482448964641853043:=0
def tw3586762168125680639:=0
def tw18282522836156387018:=0
def tw8134306681960269597:=0
def tw10086415782203645608:=0
def tw16926035219564042665:=0
def tw16059802976018405749:=0
def tw16738323842781258483:=0
def tw17657860945865855718:=0
def tw1987744109015945269:=0
def tw4125686631870526569:=0
def tw12145673243819198671:=0
def tw7111911501909239839:=0
def tw11215434300968234318:=0
def tw4734430077691813110:=0
def tw11161013666769860294:=0
def tw2807151226711391244:=0
def tw10448895832271906561:=0
def tw6905430628600474485:=0
def tw889189645205840186:=0
def tw6844724917191064754:=0
def tw5048332495461183329:=0
def tw10959373160012570365:=0
def tw5478123512851956216:=0
def tw1751343612898812645:=0
def tw12223226454266805396:=0
def tw3058775834367666051:=0
def tw1031480455979131121:=0
def tw1209443712484271032:=0
def tw14510007291921256639:=0
def tw9667745022988235598:=0
def tw7756393116211693336:=0
def tw5051619162848882546:=0
def tw2907181219357883720:=0
def tw17929820507749048416:=0
def tw16326267474345832943:=0
def tw14656270431775170653:=0
def tw12178669230677267153:=0
def tw11985389974836787729:=0
def tw11167588755185495694:=0
def tw3406397885974298775:=0
def tw2602374692667458232:=0
def tw9460125095525296303:=0
end PySem.W.Fast
open PySem PySem.W PyProof.Rows HS Law PySem.Challenge
set_option maxRecDepth 100000 in
set_option maxHeartbeats 0 in
theorem PySem.Challenge.cw_heapstill_k76_refusals_apart_holds : PySem.Challenge.rw_heapstill_k76_refusals_apart.Holds := by
 w_on;o_law;k_head;(case hw=>w_witness2)
 k_fill
 refine Qwx (l:=PySem.Challenge.rw_heapstill_k76_refusals_apart) (k:=40) (x:= "_law_script") (den:=Qsc) rfl rfl ⟨rfl,∅,∅⟩ (λw h Y=>PySem.W.kIn_of Y) QB5 ?F
 case F=>
  intro w mg fa h KX G hmg;obtain⟨aA,aB,cp,cq,cr,cs,aC,ct,cu,cv,cw,cx,aD,cy,cz,cA,cB,aE,cC,cD,aF,cE,cF,cG,aG,cH,cI,cJ,cK,cL,cM,cN,cO,cP,cQ,cR,aH,cS,cT,cU,cV,aI,cW,cX,cY⟩:HS.Fact (L2.KOf KX) "need_rows" Qbm/\HS.Fact (L2.KOf KX) "need_heaps" Qa4/\HS.Fact (L2.KOf KX) "unit_row" Qfn/\HS.Fact (L2.KOf KX) "opposite" Qlk/\HS.Fact (L2.KOf KX) "with_pivot" Qd1/\HS.Fact (L2.KOf KX) "cleared" QdZ/\HS.Fact (L2.KOf KX) "cleared_whole" Qao/\HS.Fact (L2.KOf KX) "turned_back" QbO/\HS.Fact (L2.KOf KX) "steps" Qjw/\HS.Fact (L2.KOf KX) "toll_table" Qd4/\HS.Fact (L2.KOf KX) "span_list" QeP/\HS.Fact (L2.KOf KX) "after" QfD/\HS.Fact (L2.KOf KX) "need_numbers" Qaw/\HS.Fact (L2.KOf KX) "leads" QjA/\HS.Fact (L2.KOf KX) "need_ways" QeN/\HS.Fact (L2.KOf KX) "is_plain" Qfw/\HS.Fact (L2.KOf KX) "need_small_spans" QbV/\HS.Fact (L2.KOf KX) "need_plain" QaW/\HS.Fact (L2.KOf KX) "still" QfG/\HS.Fact (L2.KOf KX) "roads_among" QdJ/\HS.Fact (L2.KOf KX) "fire" Qed/\HS.Fact (L2.KOf KX) "comes_again" QdI/\HS.Fact (L2.KOf KX) "ring_tables" QbP/\HS.Fact (L2.KOf KX) "text_words" Qen/\HS.Fact (L2.KOf KX) "read_number" QaJ/\HS.Fact (L2.KOf KX) "read_row" Qdw/\HS.Fact (L2.KOf KX) "tree_of" QdX/\HS.Fact (L2.KOf KX) "tree_depths" Qin/\HS.Fact (L2.KOf KX) "need_tree" QcI/\HS.Fact (L2.KOf KX) "heap_of" Qd0/\HS.Fact (L2.KOf KX) "with_pit" Qfs/\HS.Fact (L2.KOf KX) "row_worth" QcE/\HS.Fact (L2.KOf KX) "read_figure" QdK/\HS.Fact (L2.KOf KX) "read_alike" Qje/\HS.Fact (L2.KOf KX) "read_ways" QeM/\HS.Fact (L2.KOf KX) "read_net" Qfq/\HS.Fact (L2.KOf KX) "command_words" Qan/\HS.Fact (L2.KOf KX) "need_name" QeS/\HS.Fact (L2.KOf KX) "_law_cell_at" Qdk/\HS.Fact (L2.KOf KX) "_law_net" Qfv/\HS.Fact (L2.KOf KX) "_law_stages" QbR/\HS.Fact (L2.KOf KX) "_law_asked" Qcd/\HS.Fact (L2.KOf KX) "_law_kinds" Qci/\HS.Fact (L2.KOf KX) "_law_said" QcM/\HS.Fact (L2.KOf KX) "law" QjC:=by
   refine⟨?_,?_,?_,?_,?_,?_,?_,?_,?_,?_,?_,?_,?_,?_,?_,?_,?_,?_,?_,?_,?_,?_,?_,?_,?_,?_,?_,?_,?_,?_,?_,?_,?_,?_,?_,?_,?_,?_,?_,?_,?_,?_,?_,?_,?_⟩<;>(dsimp only[L2.KOf];refine' HS.fact_mk ?a ?l ?c ?k;(case a=>k_is);(case l=>k_is);(case c=>k_is);(case k=>k_is))
  have ai:Qlr (L2.KOf KX) "made_net" Qbi ["many","roads","lanes"]:=by dsimp only[L2.KOf];refine' QuF ?a ?l ?c ?k ?h;(case a=>k_is);(case l=>k_is);(case c=>k_is);(case k=>k_is);(case h=>k_is)
  have cZ:QhP (L2.KOf KX) "Desk" "__init__" "Desk.__init__" QaB:=by dsimp only[L2.KOf];refine' Qkh ?a ?c1 ?c2 ?c3 ?c4 ?m1 ?m2 ?k ?l ?cd;(case a=>k_is);(case c1=>k_is);(case c2=>k_is);(case c3=>k_is);(case c4=>k_is);(case m1=>k_is);(case m2=>k_is);(case k=>k_is);(case l=>k_is);(case cd=>k_is)
  have aJ:QhP (L2.KOf KX) "Desk" "read_part" "Desk.read_part" Qae:=by dsimp only[L2.KOf];refine' Qkh ?a ?c1 ?c2 ?c3 ?c4 ?m1 ?m2 ?k ?l ?cd;(case a=>k_is);(case c1=>k_is);(case c2=>k_is);(case c3=>k_is);(case c4=>k_is);(case m1=>k_is);(case m2=>k_is);(case k=>k_is);(case l=>k_is);(case cd=>k_is)
  have aK:QhP (L2.KOf KX) "Desk" "say" "Desk.say" QaZ:=by dsimp only[L2.KOf];refine' Qkh ?a ?c1 ?c2 ?c3 ?c4 ?m1 ?m2 ?k ?l ?cd;(case a=>k_is);(case c1=>k_is);(case c2=>k_is);(case c3=>k_is);(case c4=>k_is);(case m1=>k_is);(case m2=>k_is);(case k=>k_is);(case l=>k_is);(case cd=>k_is)
  have aj:Qsh (L2.KOf KX) "Desk" ["net","heaps"]:=by dsimp only[L2.KOf];refine' QvY ?a ?b ?c ?d ?e ?f;(case a=>k_is);(case b=>k_is);(case c=>k_is);(case d=>k_is);(case e=>k_is);(case f=>exact⟨(by show PySem.W.findIn _ _ _=some none;k_is),(by show PySem.W.findIn _ _ _=some none;k_is),trivial⟩)
  have aL:QnR (L2.KOf KX) "Desk" :=by dsimp only[L2.KOf];refine' QvG ?a ?b ?c;(case a=>k_is);(case b=>k_is);(case c=>k_is)
  have ac:Qmm w (L2.KOf KX) "COMMANDS" HS.wCd:=by
   dsimp only[L2.KOf];refine' QzL ?a ?b ?c ?d ?e;(case a=>k_is);(case b=>k_is);(case c=>rfl);(case e=>rfl)
   case d=>repeat (first | exact trivial | (refine Qyn (by k_is) (by repeat (first | exact trivial | refine⟨⟨_,rfl⟩,?_⟩)) ?_))
  have M:QaV mg Law.cst:=by
   obtain⟨c0,c5,c6,c7,c8,c9,ea,eb,ec,ed,ee,ef,eg,eh,ei,ej,ek,el,em⟩:PySem.W.nsIn (L2.KOf KX) mainGlobals "range" =some none/\PySem.W.nsIn (L2.KOf KX) mainGlobals "enumerate" =some none/\PySem.W.nsIn (L2.KOf KX) mainGlobals "zip" =some none/\PySem.W.nsIn (L2.KOf KX) mainGlobals "len" =some none/\PySem.W.nsIn (L2.KOf KX) mainGlobals "list" =some none/\PySem.W.nsIn (L2.KOf KX) mainGlobals "min" =some none/\PySem.W.nsIn (L2.KOf KX) mainGlobals "max" =some none/\PySem.W.nsIn (L2.KOf KX) mainGlobals "sum" =some none/\PySem.W.nsIn (L2.KOf KX) mainGlobals "abs" =some none/\PySem.W.nsIn (L2.KOf KX) mainGlobals "isinstance" =some none/\PySem.W.nsIn (L2.KOf KX) mainGlobals "int" =some none/\PySem.W.nsIn (L2.KOf KX) mainGlobals "bool" =some none/\PySem.W.nsIn (L2.KOf KX) mainGlobals "tuple" =some none/\PySem.W.nsIn (L2.KOf KX) mainGlobals "str" =some none/\PySem.W.nsIn (L2.KOf KX) mainGlobals "divmod" =some none/\PySem.W.nsIn (L2.KOf KX) mainGlobals "sorted" =some none/\PySem.W.nsIn (L2.KOf KX) mainGlobals "any" =some none/\PySem.W.nsIn (L2.KOf KX) mainGlobals "all" =some none/\PySem.W.nsIn (L2.KOf KX) mainGlobals "set" =some none:=by refine⟨?_,?_,?_,?_,?_,?_,?_,?_,?_,?_,?_,?_,?_,?_,?_,?_,?_,?_,?_⟩<;>(dsimp only[L2.KOf];k_is)
   have en:∃t,mg "MOST_PLACES_nets" =some (.int 8 t):=by refine' QhB KX G ?a;(case a=>first | k_is | exact rfl | (dsimp only[L2.KOf];k_is))
   have eo:∃t,mg "MOST_WAYS" =some (.int 40 t):=by refine' QhB KX G ?a;(case a=>first | k_is | exact rfl | (dsimp only[L2.KOf];k_is))
   have ep:∃t,mg "MOST_SPANS" =some (.int 300 t):=by refine' QhB KX G ?a;(case a=>first | k_is | exact rfl | (dsimp only[L2.KOf];k_is))
   have eq:∃t,mg "FIGURES" =some (.str "0123456789" t):=by refine' Qlv KX G ?a;(case a=>first | k_is | exact rfl | (dsimp only[L2.KOf];k_is))
   have er:∃t,mg "MOST_FIGURES" =some (.int 18 t):=by refine' QhB KX G ?a;(case a=>first | k_is | exact rfl | (dsimp only[L2.KOf];k_is))
   have es:∃t,mg "ROAD" =some (.str "-" t):=by refine' Qlv KX G ?a;(case a=>first | k_is | exact rfl | (dsimp only[L2.KOf];k_is))
   have et:∃t,mg "LANE" =some (.str ">" t):=by refine' Qlv KX G ?a;(case a=>first | k_is | exact rfl | (dsimp only[L2.KOf];k_is))
   have eu:∃t,mg "LETTERS" =some (.str "abcdefghijklmnopqrstuvwxyz" t):=by refine' Qlv KX G ?a;(case a=>first | k_is | exact rfl | (dsimp only[L2.KOf];k_is))
   have ev:∃t,mg "MOST_LETTERS" =some (.int 8 t):=by refine' QhB KX G ?a;(case a=>first | k_is | exact rfl | (dsimp only[L2.KOf];k_is))
   have ew:∃t,mg "MOST_PLACES_worth" =some (.int 4 t):=by refine' QhB KX G ?a;(case a=>first | k_is | exact rfl | (dsimp only[L2.KOf];k_is))
   have ex:∃t,mg "MOST_GRAINS" =some (.int 6 t):=by refine' QhB KX G ?a;(case a=>first | k_is | exact rfl | (dsimp only[L2.KOf];k_is))
   exact QCt ⟨PySem.W.mg_none_of KX G c0,PySem.W.mg_none_of KX G c5,PySem.W.mg_none_of KX G c6,PySem.W.mg_none_of KX G c7,PySem.W.mg_none_of KX G c8,PySem.W.mg_none_of KX G c9,PySem.W.mg_none_of KX G ea,PySem.W.mg_none_of KX G eb,PySem.W.mg_none_of KX G ec,PySem.W.mg_none_of KX G ed,PySem.W.mg_none_of KX G ee,PySem.W.mg_none_of KX G ef,PySem.W.mg_none_of KX G eg,PySem.W.mg_none_of KX G eh,PySem.W.mg_none_of KX G ei,PySem.W.mg_none_of KX G ej,PySem.W.mg_none_of KX G ek,PySem.W.mg_none_of KX G el,PySem.W.mg_none_of KX G em,True.intro⟩ ⟨en,eo,ep,eq,er,es,et,eu,ev,ew,ex,True.intro⟩
  have t0:∀base:Heap,Qaj rw_heapstill_k76_refusals_apart.prog w (L2.KOf KX) mg base 0 []:=λ_=>Qaj.nil;have o0:∀base:Heap,QcT rw_heapstill_k76_refusals_apart.prog w (L2.KOf KX) mg base 0 Law.T0:=λb=>Ql9 KX G ⟨aj,trivial⟩ trivial trivial trivial trivial;have d0:∀base:Heap,Qcg rw_heapstill_k76_refusals_apart.prog w (L2.KOf KX) mg base 0 Law.E0:=λb=>Qjt KX G ⟨ac,trivial⟩ trivial trivial trivial;have hcl:∀x∈Law.cls,Qel (L2.KOf KX) x:=Qqm (by refine⟨?_,?_,?_,?_,?_,?_,?_,?_,?_,?_,?_,trivial⟩<;>(dsimp only[L2.KOf];refine' Qxm ?a ?b;(case a=>k_is);(case b=>k_exc)));have hsub:QbH (L2.KOf KX) Law.sub:=by
   refine Qye ⟨⟨?_,?_,?_,?_,?_,?_,?_,?_,?_,?_,?_,?_,?_,?_,trivial⟩,⟨?_,?_,?_,?_,?_,?_,?_,?_,?_,?_,?_,?_,?_,?_,trivial⟩,⟨?_,?_,?_,?_,?_,?_,?_,?_,?_,?_,?_,?_,?_,?_,trivial⟩,⟨?_,?_,?_,?_,?_,?_,?_,?_,?_,?_,?_,?_,?_,?_,trivial⟩,⟨?_,?_,?_,?_,?_,?_,?_,?_,?_,?_,?_,?_,?_,?_,trivial⟩,⟨?_,?_,?_,?_,?_,?_,?_,?_,?_,?_,?_,?_,?_,?_,trivial⟩,⟨?_,?_,?_,?_,?_,?_,?_,?_,?_,?_,?_,?_,?_,?_,trivial⟩,⟨?_,?_,?_,?_,?_,?_,?_,?_,?_,?_,?_,?_,?_,?_,trivial⟩,⟨?_,?_,?_,?_,?_,?_,?_,?_,?_,?_,?_,?_,?_,?_,trivial⟩,⟨?_,?_,?_,?_,?_,?_,?_,?_,?_,?_,?_,?_,?_,?_,trivial⟩,⟨?_,?_,?_,?_,?_,?_,?_,?_,?_,?_,?_,?_,?_,?_,trivial⟩,trivial⟩
   iterate 11
    next=>dsimp only[L2.KOf];refine' QD3 ?a ?b ?c ?d ?e ?f ?g;(case a=>k_is);(case b=>k_is);(case c=>k_is);(case d=>k_is);(case e=>k_is);(case f=>k_is);(case g=>k_is)
    iterate 12 next=>dsimp only[L2.KOf];refine' Qvu ?a ?b ?c ?d;(case a=>k_is);(case b=>k_is);(case c=>kts_exm);(case d=>kit_is)
    next=>dsimp only[L2.KOf];refine' Qyu ?a ?b ?c ?d;(case a=>k_is);(case b=>k_is);(case c=>kts_exm);(case d=>kit_is)
  have x0:∀base:Heap,QcO rw_heapstill_k76_refusals_apart.prog w (L2.KOf KX) mg base 0 []:=λ_=>QcO.nil;have h0:∀base:Heap,QeG rw_heapstill_k76_refusals_apart.prog w (L2.KOf KX) mg base 0 []:=λ_=>QeG.nil;have aM:=λb=>(x0 b).cons (QcH KX G aA Qjd QjX M (t0 b) (x0 b) hcl QpK);have ak:=λb=>(t0 b).cons (Qc3 KX G aA Qjd QjX M (t0 b) Qqc);have aN:=λb=>(aM b).cons (QcH KX G aB Qio QiL M (ak b) (aM b) hcl Qnk);have aO:=λb=>(ak b).cons (Qc3 KX G aB Qio QiL M (ak b) Qop);have ey:=λb=>(aO b).cons (Law.kn KX G cp QrE M (aO b));have aP:=λb=>(ey b).cons (Qfz KX G cq Qrv);have aQ:=λb=>(aP b).cons (Law.kn KX G cr Qoa M (aP b));have al:=λb=>(aQ b).cons (Qqy KX G cs QrI Qup M (aQ b) ((o0 b).mono (k:=4) ∅) ((d0 b).mono (k:=4) ∅) QtY);have aR:=λb=>((aN b).mono (k:=6) ∅).cons (QcH KX G aC QfJ Qgt M (al b) ((aN b).mono (k:=6) ∅) hcl QkE);have am:=λb=>(al b).cons (Qc3 KX G aC QfJ Qgt M (al b) QkZ);have aS:=λb=>(aR b).cons (QcH KX G ct Ql7 Qnz M (am b) (aR b) hcl QmD);have aT:=λb=>(am b).cons (Law.kn KX G cu Qxt M (am b));have aU:=λb=>(aT b).cons (Law.kn KX G cv Qok M (aT b));have ad:=λb=>(aU b).cons (Law.kn KX G cw Qp3 M (aU b));have aV:=λb=>((aS b).mono (k:=10) ∅).cons (Qcs KX G cx Qu6 QyB M (ad b) ((o0 b).mono (k:=9) ∅) ((d0 b).mono (k:=9) ∅) ((aS b).mono (k:=10) ∅) hcl Qvr);have an:=λb=>(aV b).cons (QcH KX G aD Qgi Qhu M ((ad b).rise (k:=11) ∅) (aV b) hcl Qk5);have aW:=λb=>(ad b).cons (Qc3 KX G aD Qgi Qhu M (ad b) Qmy);have aX:=λb=>(aW b).cons (Law.kn KX G cy QyT M (aW b));have aY:=λb=>(aX b).cons (Law.kn KX G cz QpW M (aX b));have aZ:=λb=>(aY b).cons (Law.kn KX G cA Qre M (aY b));have ae:=λb=>(aZ b).cons (Law.kn KX G cB Qi6 M (aZ b));have a0:=λb=>((an b).mono (k:=15) ∅).cons (Qwl KX G ai QgH Qj2 rfl M (ae b) ((an b).mono (k:=15) ∅) hcl QjV);have ao:=λb=>QEa KX G ai QgH QjU rfl M (ae b) ((an b).mono (k:=15) ∅) hcl QjV;have ap:=λb=>(ae b).cons (QyC KX G ai QgH Qj2 QjU rfl M (ae b) Qsq);have aa:∀b:Heap,Qcg rw_heapstill_k76_refusals_apart.prog w (L2.KOf KX) mg b 16 Law.E1:=λb=>Qjt KX G ⟨ac,trivial⟩ trivial trivial ⟨(ao b).mono (k:=16) ∅,trivial⟩;have a1:=λb=>(a0 b).cons (QcH KX G aE Qif Qjc M (ap b) (a0 b) hcl QnA);have aq:=λb=>(ap b).cons (Qc3 KX G aE Qif Qjc M (ap b) QoT);have a2:=λb=>(a1 b).cons (Qcs KX G cC Qv6 QxP M (aq b) ((o0 b).mono (k:=16) ∅) (aa b) (a1 b) hcl Qwc);have ar:=λb=>(aq b).cons (Law.kn KX G cD Qns M (aq b));have a3:=λb=>(a2 b).cons (QcH KX G aF QqA Quu M (ar b) (a2 b) hcl Qzo);have a4:=λb=>(ar b).cons (Qc3 KX G aF QqA Quu M (ar b) QBy);have au:=λb=>(a4 b).cons (Law.kn KX G cE Qnn M (a4 b));have a5:=λb=>((a3 b).mono (k:=20) ∅).cons (Qcs KX G cF QmO Qnu M (au b) ((o0 b).mono (k:=19) ∅) ((aa b).mono (k:=19) ∅) ((a3 b).mono (k:=20) ∅) hcl Qmh);have av:=λb=>(au b).cons (Law.kn KX G cG Qot M (au b));have a6:=λb=>(a5 b).cons (QcH KX G aG Qg7 Qim M (av b) (a5 b) hcl Ql2);have aw:=λb=>(av b).cons (Qc3 KX G aG Qg7 Qim M (av b) Qnv);have a7:=λb=>(a6 b).cons (QcH KX G cH QpT QrJ M (aw b) (a6 b) hcl Qp9);have a8:=λb=>(a7 b).cons (Qcs KX G cI QrF Que M ((aw b).rise (k:=23) ∅) ((o0 b).mono (k:=22) ∅) ((aa b).mono (k:=22) ∅) (a7 b) hcl Qrs);have af:=λb=>(aw b).cons (Qfz KX G cJ Qnq);have a9:=λb=>(a8 b).cons (QcH KX G cK Qon Qp6 M ((af b).rise (k:=24) ∅) (a8 b) hcl Qou);have ca:=λb=>(a9 b).cons (Qcs KX G cL QrG Quy M ((af b).rise (k:=25) ∅) ((o0 b).mono (k:=24) ∅) ((aa b).mono (k:=24) ∅) (a9 b) hcl Qrn);have ax:=λb=>(af b).cons (Law.kn KX G cM Qss M (af b));have cb:=λb=>(ca b).cons (Qcs KX G cN QpJ QpZ M ((ax b).rise (k:=26) ∅) ((o0 b).mono (k:=25) ∅) ((aa b).mono (k:=25) ∅) (ca b) hcl QpN);have ez:=λb=>(ax b).cons (Law.kn KX G cO Qnl M (ax b));have cc:=λb=>(ez b).cons (Qfz KX G cP QoJ);have ce:=λb=>(cc b).cons (Law.kn KX G cQ QpX M (cc b));have ay:=λb=>(ce b).cons (Law.kn KX G cR Qr6 M (ce b));have ag:=λb=>((cb b).mono (k:=28) ∅).cons (Qcs KX G aH QfR QgF M (ay b) ((o0 b).mono (k:=27) ∅) ((aa b).mono (k:=27) ∅) ((cb b).mono (k:=28) ∅) hcl Qku);have cf:=λb=>(ay b).cons (Qqy KX G aH QfR QgF M (ay b) ((o0 b).mono (k:=27) ∅) ((aa b).mono (k:=27) ∅) Qll);have ab:=λb=>(cf b).cons (Law.kn KX G cS Qqa M (cf b));have cg:=λb=>QBv cZ Qkx Qld M (ab b) ((o0 b).mono (k:=29) ∅) ((aa b).mono (k:=29) ∅) Qk2 QoU;have ah:∀b:Heap,QcT rw_heapstill_k76_refusals_apart.prog w (L2.KOf KX) mg b 31 Law.T1:=λb=>Ql9 KX G ⟨aj,trivial⟩ trivial trivial ⟨⟨aL,(cg b).mono (k:=31) ∅⟩,trivial⟩ trivial;have ch:=λb=>QCD aJ Qff Qf3 M ((ab b).rise (k:=32) ∅) (ah b) ((aa b).mono (k:=31) ∅) ((ag b).mono (k:=32) ∅) hcl QjR;have ci:=λb=>QDb aJ Qff Qf3 M ((ab b).rise (k:=32) ∅) (ah b) ((aa b).mono (k:=31) ∅) Qks;have cj:∀b:Heap,Qcg rw_heapstill_k76_refusals_apart.prog w (L2.KOf KX) mg b 33 Law.E2:=λb=>Qjt KX G ⟨ac,trivial⟩ ⟨⟨(ci b).mono (k:=33) ∅,trivial⟩,trivial⟩ ⟨⟨(ch b).mono (k:=33) ∅,trivial⟩,trivial⟩ ⟨(ao b).mono (k:=33) ∅,trivial⟩;have eA:=λb=>QCD aK Qke QkL M ((ab b).rise (k:=34) ∅) ((ah b).mono (k:=33) ∅) (cj b) ((ag b).mono (k:=34) ∅) hcl QpR;have eB:=λb=>QBv aK Qke QkL M ((ab b).rise (k:=34) ∅) ((ah b).mono (k:=33) ∅) (cj b) Qrz QoU;have ck:∀b:Heap,QcT rw_heapstill_k76_refusals_apart.prog w (L2.KOf KX) mg b 35 Law.T2:=λb=>Ql9 KX G ⟨aj,trivial⟩ ⟨⟨(eB b).mono (k:=35) ∅,trivial⟩,trivial⟩ trivial ⟨⟨aL,(cg b).mono (k:=35) ∅⟩,trivial⟩ trivial;have cl:∀b:Heap,Qcg rw_heapstill_k76_refusals_apart.prog w (L2.KOf KX) mg b 35 Law.E3:=λb=>Qjt KX G ⟨ac,trivial⟩ ⟨⟨(ci b).mono (k:=35) ∅,trivial⟩,trivial⟩ ⟨⟨(ch b).mono (k:=35) ∅,(eA b).mono (k:=35) ∅,trivial⟩,trivial⟩ ⟨(ao b).mono (k:=35) ∅,trivial⟩;have cm:=λb=>(ab b).cons (Law.kn KX G cT Qmb M (ab b));have az:=λb=>(cm b).cons (Law.kn KX G cU Qsa M (cm b));have cn:=λb=>((ag b).mono (k:=36) ∅).cons (Qcs KX G cV Qmi Qno M ((az b).rise (k:=36) ∅) (ck b) (cl b) ((ag b).mono (k:=36) ∅) hcl QmQ);have eC:=λb=>(cn b).cons (Qcs KX G aI Qnt Qiv M ((az b).rise (k:=37) ∅) ((ck b).mono (k:=36) ∅) ((cl b).mono (k:=36) ∅) (cn b) hcl Qnr);have co:=λb=>(az b).cons (Qfz KX G aI Qiv);have eD:=λb=>(h0 b).cons (Qzb KX G cW Qny Qoi M hsub (h0 b) QpL);have eE:=λb=>((co b).rise (k:=38) ∅).cons (QzC KX G cX QoR Qp4 M ((co b).rise (k:=38) ∅) (eC b) hcl hsub ((eD b).mono (k:=38) ∅) Qp5);exact QDD KX G hmg cY QAY QD0 M (λbase=>eE base) QDJ
