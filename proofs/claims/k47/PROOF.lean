import PyProof.Rows.All
import Wide.All
import OpenK.AllK
import Wide.FinOn
import Lean
import PyProof.EqAt
import PyProof.EqKinds
import PyProof.TupleCall
import PyProof.Rows.TupTab
import PyProof.DictRoadsH
import PyProof.StrWalks
import PyProof.SliceStr2
import PyProof.StrBlockI
import PyProof.StrBlockG
import PyProof.StrCalls2
import KE.KIntText
import PyProof.Rows.StrSplitMax
import PyProof.ZipIter
import PyProof.EnumMake
import PyProof.Rows.FactsT2
import PyProof.Rows.EnumRows
import PyProof.P3In
import PyProof.NeData
import KE.KUnpack
import PyProof.Rows.TupDisplay
import PyProof.Rows.SumAny
import PyProof.Rows.MinMaxN
import PyProof.Rows.ListRangeD
import PyProof.Rows.Range3
import PyProof.Rows.RuleM_int
import PyProof.Rows.SortShell
import PyProof.Rows.SeqMore
import PyProof.DictWalks
import PyProof.ListRange
import PyProof.Rows.SetFrom
import PyProof.CollectIter
import PyProof.SetRoads
import KE.KSortAsk
import KE.KTryOn
import PyProof.ExcBaseAll.ValueError
import PyProof.RulesAs
import PyProof.ExcAttrAll.ValueError
import PyProof.Rows.RegTopCatchBFacts
import KE.RegKTryMore
import KE.RegKIsAll
import PySem.Challenge.RW_heapstill_k47_all_again
set_option Elab.async false
set_option linter.all false
set_option maxRecDepth 100000
local macro_rules | `(⋯)=> `(by first | with_reducible assumption | with_reducible exact Int.natCast_nonneg _ | with_reducible exact Int.ofNat_lt.2 (by assumption) | lia | simp)
local macro_rules | `(∅)=> `(by decide) | `(nofun)=> `(by decide+kernel)
def Za:= @Option.bind_some
def Zb:= @List.mem_cons_of_mem
def Zc:= @PySem.Heap.get?_push_of_some
def Zd:= @Nat.le_refl
def Ze:= @List.mem_cons_self
def Zf:= @List.mem_append_right
def Zg:= @List.mem_append_left
def Zh:= @Option.map_eq_some_iff
def Zi:= @List.getElem?_eq_some_iff
def Zj:= @List.length_map
def Zk:= @Bool.and_eq_true
def Zl:= @List.getElem?_set_ne
def Zm:= @List.mem_cons
def Zn:= @List.length_append
def Zo:= @List.mem_singleton
def Zp:= @List.getElem?_map
def Zq:= @List.mem_range
def Zr:= @List.mem_append
def Zs:= @List.getElem?_eq_none
def Zt:= @PySem.Heap.lt_size
def Zu:= @Nat.lt_of_lt_of_le
def Zv:= @Array.length_toList
def Zw:= @Nat.le_trans
def Zx:= @List.getElem?_set_self
def Zy:= @List.size_toArray
def Zz:= @List.length_range
def ZA:= @List.map_cons
def ZC:= @List.lookup_cons
def ZD:= @PySem.Heap.get?_push_size
def ZE:= @List.map_congr_left
def ZF:= @Nat.zero_le
def ZG:= @List.append_assoc
def ZH:= @List.getElem?_eq_getElem
def ZI:= @List.length_cons
def ZJ:= @Nat.ne_of_lt
def ZK:= @List.mem_map
def ZL:= @List.getElem?_range
def ZM:= @Int.emod_nonneg
def ZN:= @List.take_append_drop
def ZO:= @Int.emod_lt_of_pos
def ZP:= @Nat.pow_le_pow_right
def ZQ:= @Int.zero_mul
def ZR:= @Int.mul_le_mul_of_nonneg_left
def ZS:= @List.length_take
def ZT:= @Classical.byContradiction
def ZU:= @Int.add_mul
def ZV:= @List.eq_nil_of_length_eq_zero
def ZW:= @Int.mul_zero
def ZX:= @List.count_eq_zero
def ZY:= @Nat.lt_of_le_of_ne
def ZZ:= @List.map_map
def Zaa:= @Nat.lt_irrefl
def Zab:= @List.length_drop
def Zac:= @Bool.false_ne_true
def Zad:= @Array.getElem?_toList
def Zae:= @List.replicate_succ
def Zaf:= @List.drop_eq_getElem_cons
def Zag:= @Array.getElem?_eq_getElem
def Zah:= @List.pairwise_iff_getElem
def Zai:= @Option.map_some
def Zaj:= @PyProof.Rows.callWith_type1
def Zak:= @Nat.lt_succ_self
def Zal:= @List.getD_eq_getElem?_getD
def Zam:= @List.flatten_cons
def Zan:= @Bool.not_eq_true'
def Zao:= @List.mem_of_getElem?
def Zap:= @List.map_append
def Zaq:= @Int.mul_assoc
def Zar:= @PySem.mem_of_lookup
def Zas:= @List.append_nil
def Zat:= @List.all_eq_true
def Zau:= @Int.mul_comm
def Zav:= @Int.mul_le_mul_of_nonneg_right
def Zaw:= @List.getElem?_append_left
def Zax:= @Int.toNat_natCast
def Zay:= @Nat.lt_succ_of_lt
def Zaz:= @List.count_append
def ZaA:= @List.ext_getElem?
def ZaB:= @PySem.Heap.size_push
def ZaC:= @Nat.le_of_lt
def ZaD:= @List.pairwise_cons
def ZaE:= @Int.mul_neg
def ZaF:= @Int.mul_nonneg
def ZaG:= @List.getElem?_zip_eq_some
def ZaH:= @List.count_pos_iff
def ZaI:= @List.sum_cons
def ZaJ:= @List.nodup_nil
def ZaK:= @Nat.le_succ
def ZaL:= @List.nodup_iff_count
def ZaM:= @Int.neg_mul
def ZaN:= @List.count_cons
def ZaO:= @List.take_of_length_le
def ZaP:= @Int.add_zero
def ZaQ:= @Int.zero_sub
def ZaR:= @Int.one_mul
def ZaS:= @Nat.lt_of_le_of_lt
def ZaT:= @Int.natAbs_dvd_natAbs
def ZaU:= @List.set_eq_take_append_cons_drop
def ZaV:= @List.mem_filter
def ZaW:= @List.nodup_cons
def ZaX:= @List.length_set
def ZaY:= @PySem.W.kia_one
def ZaZ:= @Nat.min_eq_left
def Zba:= @List.getElem?_take_of_lt
def Zbb:= @PySem.W.mg_of
def Zbc:= @Nat.le_add_right
def Zbd:= @PyProof.Rows.boot_tuple
def Zbe:= @Nat.add_sub_cancel_left
def Zbf:= @Int.natAbs_mul
def Zbg:= @Int.mul_add
def Zbh:= @List.mem_filterMap
def Zbi:= @List.take_left'
def Zbj:= @List.Perm.append_left
def Zbk:= @Int.emod_add_mul_ediv
def Zbl:= @List.nodup_append
def Zbm:= @List.pairwise_map
def Zbn:= @List.getElem?_append_right
def Zbo:= @Nat.add_le_add_right
def Zbp:= @Int.le_refl
def Zbq:= @Nat.ne_of_gt
def Zbr:= @Nat.min_le_right
def Zbs:= @Nat.zero_add
def Zbt:= @Nat.succ_le_succ
def Zbu:= @Int.eq_of_mul_eq_mul_left
def Zbv:= @PySem.W.hideAll_get
def Zbw:= @List.map_eq_nil_iff
def Zbx:= @List.range_succ
def Zby:= @Int.natCast_add
def Zbz:= @Nat.eq_zero_or_pos
def ZbA:= @Nat.add_sub_cancel
def ZbB:= @Int.mul_one
def ZbC:= @List.map_nil
def ZbD:= @PySem.Heap.get?_update_other
def ZbE:= @List.reverse_cons
def ZbF:= @List.drop_eq_nil_of_le
def ZbG:= @List.range_succ_eq_map
def ZbH:= @List.length_singleton
def ZbI:= @List.contains_iff_mem
def ZbJ:= @Nat.le_of_ble_eq_true
def ZbK:= @List.mem_flatten
def ZbL:= @List.mem_reverse
def ZbM:= @PySem.Paired.length
def ZbN:= @Nat.le_of_dvd
def ZbO:= @List.count_singleton
def ZbP:= @List.forIn_cons
def ZbQ:= @PySem.F.slot_zip_next
def ZbR:= @List.nil_append
def ZbS:= @PyProof.Rows.boot_isinstance
def ZbT:= @List.filterMap_cons
def ZbU:= @List.length_reverse
def ZbV:= @Nat.add_le_add_left
def ZbW:= @List.filter_eq_self
def ZbX:= @List.sum_append_int
def ZbY:= @Nat.le_of_eq
def ZbZ:= @Int.fdiv_eq_ediv_of_nonneg
def Zca:= @List.getElem?_drop
def Zcb:= @List.take_sublist
def Zcc:= @Int.emod_eq_of_lt
def Zcd:= @Int.mul_left_comm
def Zce:= @Option.isSome_iff_exists
def Zcf:= @PyProof.noPylong_of_log2
def Zcg:= @List.getElem?_replicate
def Zch:= @List.zipIdx_cons
def Zci:= @PySem.Heap.IsList.push
def Zcj:= @List.cons_append
def Zck:= @List.foldlM_cons
def Zcl:= @PySem.F.plainAttrs_list
def Zcm:= @List.take_length
def Zcn:= @PyProof.Rows.intBits_le
def Zco:= @Int.dvd_mul_of_dvd_left
def Zcp:= @PySem.W.cellsFrom_some
def Zcq:= @Nat.lt_trans
def Zcr:= @PyProof.Rows.boot_list
def Zcs:= @Nat.sub_zero
def Zct:= @List.all_map
def Zcu:= @Int.fmod_nonneg_of_pos
def Zcv:= @List.of_mem_zip
def Zcw:= @List.foldl_cons
def Zcx:= @Bool.or_eq_true
def Zcy:= @Nat.min_le_left
def Zcz:= @Nat.le_antisymm
def ZcA:= @Int.ediv_nonneg
def ZcB:= @List.forIn_nil
def ZcC:= @List.drop_zero
def ZcD:= @List.any_cons
def ZcE:= @List.map_take
def ZcF:= @Bool.and_true
abbrev Mt2:=Nat->Nat->Int
abbrev Mt1:=Nat->Int
abbrev Lpp:=List (Int×Int)
abbrev LAd:=List PySem.Addr
abbrev Fgg:=PySem.W.Frag
namespace L2
open PySem PySem.Spec PyProof.Rows
noncomputable abbrev Key:=Sum Int Str
noncomputable def Qih:Key->Value->Bool
 | .inl k,v=>Value.isInt k v
 | .inr x,v=>Value.isStrOf x v
noncomputable def QBY(w:World):Key->Int
 | .inl k=>hashInt k
 | .inr x=>hashStr w x
def QaV:∀{k:Key}{v:Value},Qih k v=true->(∃i t,k=Sum.inl i/\v=Value.int i t)∨(∃x t,k=Sum.inr x/\v=Value.str x t)
 | .inl i,v,h=>by
  obtain⟨t,e⟩:=Value.isInt_shape (k:=i) (v:=v) h;exact .inl ⟨i,t,rfl,e⟩
 | .inr x,v,h=>by
  obtain⟨t,e⟩:=Value.isStrOf_shape (x:=x) (v:=v) h;exact .inr ⟨x,t,rfl,e⟩
def Qsw(i:Int)(t:Tok):Qih (.inl i) (.int i t)=true:=by simp[Qih,Value.isInt]
def Qs6(x:Str)(t:Tok):Qih (.inr x) (.str x t)=true:=by simp[Qih,Value.isStrOf]
def Qzf(a b:Int):decide ((Sum.inl a:Key)=Sum.inl b)=(a == b):=by
 by_cases e:a=b
 .subst e;simp
 .have h:¬(Sum.inl a:Key)=Sum.inl b:=λq=>e (Sum.inl.inj q);rw[decide_eq_false h];exact(beq_eq_false_iff_ne.mpr e).symm
def Qz9(a b:Str):decide ((Sum.inr a:Key)=Sum.inr b)=decide (a=b):=by
 by_cases e:a=b
 .subst e;simp
 .have h:¬(Sum.inr a:Key)=Sum.inr b:=λq=>e (Sum.inr.inj q);rw[decide_eq_false h,decide_eq_false e]
def Qza(a:Int)(b:Str):decide ((Sum.inl a:Key)=Sum.inr b)=false:=decide_eq_false (λq=>nomatch q)
def QyB(a:Str)(b:Int):decide ((Sum.inr a:Key)=Sum.inl b)=false:=decide_eq_false (λq=>nomatch q)
noncomputable def QaE(prog:Program)(w:World):PySem.KeyKind prog w Key where
 is:=Qih
 hash:=QBY w
 inj:=λv a b ha hb=>by
  rcases QaV ha with⟨i,t,rfl,rfl⟩ | ⟨x,t,rfl,rfl⟩
  .rcases QaV hb with⟨j,u,rfl,e⟩ | ⟨y,u,rfl,e⟩
   .injection e with e1 _;rw[e1]
   .exact nomatch e
  .rcases QaV hb with⟨j,u,rfl,e⟩ | ⟨y,u,rfl,e⟩
   .exact nomatch e
   .injection e with e1 _;rw[e1]
 byValue:=λk v h=>by
  rcases QaV h with⟨i,t,rfl,rfl⟩ | ⟨x,t,rfl,rfl⟩<;>rfl
 pyHash:=λhv h=>by
  rcases QaV hv with⟨i,t,rfl,rfl⟩ | ⟨x,t,rfl,rfl⟩
  .exact wpAny_pyHash_int h
  .exact wpAny_pyHash_str h
 eqBool:=λhu hv h=>by
  rcases QaV hu with⟨i,t,rfl,rfl⟩ | ⟨x,t,rfl,rfl⟩
  .rcases QaV hv with⟨j,u,rfl,rfl⟩ | ⟨y,u,rfl,rfl⟩
   .rw[Qzf]at h;exact wpAny_eqBool_int h
   .rw[Qza]at h;exact SeqAt.EqAt.int_str i t y u _ _ _ _ h
  .rcases QaV hv with⟨j,u,rfl,rfl⟩ | ⟨y,u,rfl,rfl⟩
   .rw[QyB]at h;exact SeqAt.EqAt.str_int x t j u _ _ _ _ h
   .rw[Qz9]at h;exact wpAny_eqBool_str h
 «strs» :=λk x t v h=>by
  rcases QaV h with⟨i,u,rfl,e⟩ | ⟨y,u,rfl,e⟩
  .exact nomatch e
  .injection e with e1 _;subst e1;cases v<;>rfl
def QoY(prog:Program)(w:World)(i:Int)(t:Tok):(QaE prog w).is (.inl i) (.int i t)=true:=Qsw i t
def QoL(prog:Program)(w:World)(x:Str)(t:Tok):(QaE prog w).is (.inr x) (.str x t)=true:=Qs6 x t
inductive V where
 | non | bl (b:Bool) | int (i:Int) | str (x:Str) | byt (b:Array UInt8) | flt (b:UInt64) | ref (a:Addr) | ty (n:String)
 deriving DecidableEq
def RelV:V->Value->Prop
 | .non,u=>u=Value.none
 | .bl b,u=>u=Value.bool b
 | .int i,u=>∃t,u=Value.int i t
 | .str x,u=>∃t,u=Value.str x t
 | .byt b,u=>∃t,u=Value.bytes b t
 | .flt b,u=>∃t,u=Value.float b t
 | .ref a,u=>u=Value.ref a
 | .ty n,u=>u=Value.type n
abbrev Qz:List V->List Value->Prop:=Paired RelV
def Qz.length{xs:List V}{us:List Value}(r:Qz xs us):xs.length=us.length:=ZbM r
def Qz.get:∀{xs:List V}{us:List Value}{i:Nat}{x:V},Qz xs us->xs[i]? =some x->∃u,us[i]? =some u/\RelV x u
 | _,_,_,_,.nil,e=>by simp at e
 | _,_,0,_,.cons r _,e=>by simp at e;subst e;exact⟨_,rfl,r⟩
 | _,_,i+1,x,.cons _ t,e=>by
  obtain⟨u,h1,h2⟩:=Qz.get (i:=i) (x:=x) t (by simpa using e);exact⟨u,by simpa using h1,h2⟩
def Qz.set{x:V}{u:Value}(r:RelV x u):∀{xs:List V}{us:List Value}(i:Nat),Qz xs us->Qz (xs.set i x) (us.set i u)
 | _,_,_,.nil=> .nil
 | _,_,0,.cons _ t=> .cons r t
 | _,_,i+1,.cons q t=> .cons q (Qz.set r i t)
def exK{α β γ δ:Type}{P Q R:α->β->γ->δ->Prop}{G:Prop}(k:∀a b c d,P a b c d->Q a b c d->R a b c d->G)(h:∃a b c d,P a b c d/\Q a b c d/\R a b c d):G:=let ⟨a,b,c,d,p,q,r⟩:=h;k a b c d p q r
def exJ{α β:Type}{P Q R:α->β->Prop}{G:Prop}(k:∀a b,P a b->Q a b->R a b->G)(h:∃a b,P a b/\Q a b/\R a b):G:=let ⟨a,b,p,q,r⟩:=h;k a b p q r
def Qz.append{xs ys:List V}{us ws:List Value}(h:Qz xs us)(s:Qz ys ws):Qz (xs++ys) (us++ws):=by
 induction h with
 | nil=>exact s
 | cons r t ih=>exact .cons r ih
def Qz.take:∀{xs:List V}{us:List Value}(n:Nat),Qz xs us->Qz (xs.take n) (us.take n)
 | _,_,0,_=> .nil
 | _,_,_+1,.nil=> .nil
 | _,_,n+1,.cons r t=> .cons r (Qz.take n t)
def Qz.drop:∀{xs:List V}{us:List Value}(n:Nat),Qz xs us->Qz (xs.drop n) (us.drop n)
 | _,_,0,r=>r
 | _,_,_+1,.nil=> .nil
 | _,_,n+1,.cons _ t=>Qz.drop n t
def Qok:Option V->Option Value->Prop
 | some v,some u=>RelV v u
 | none,none=>True
 | _,_=>False
def KV{κ:Type}:List (κ×V)->List (κ×Value)->Prop:=Paired λ(p:κ×V) (q:κ×Value)=>p.1=q.1/\RelV p.2 q.2
noncomputable def kV:Key->V
 | .inl i=> .int i
 | .inr x=> .str x
inductive HO where
 | lst (xs:List V)
 | tup (xs:List V)
 | dK (kvs:List (Key×V)) | dT (kvs:List (List Key×V))
 | set (S:Int->Bool) (n:Nat)
 | ins (C dx:Addr) (fs:List (Str×V))
 | own (x:Addr)
 | xd (fs:List (Str×V))
 | met (f x:Addr)
 | rng (lo hi:Int)
 | frz (o:Obj) (u:HO)
 | tbl (ps:Array Value)
 | ext (φ:Heap->Prop)
noncomputable abbrev Hp:=Addr->Option HO
noncomputable def upd(H:Hp)(a:Addr)(o:HO):Hp:=λb=>if b=a then some o else H b
def Q4{H:Hp}{a:Addr}{o:HO}:upd H a o a=some o:=by unfold upd;rw[if_pos rfl]
def QA{H:Hp}{a b:Addr}{o:HO}(h:b≠a):upd H a o b=H b:=by unfold upd;rw[if_neg h]
def QdS{H:Hp}{a b:Addr}{o u:HO}(h:H a=some o)(h':H b=some u)(d:o≠u):a≠b:=by
 intro e;subst e;rw[h]at h';exact d (Option.some.inj h')
def Qbp{H:Hp}{a b:Addr}{o:HO}(h:H a=some o)(h':H b=none):a≠b:=by
 intro e;subst e;rw[h]at h';cases h'
section
variable (P:Program) (w:World)
def QaH(H:Hp)(h:Heap)(a:Addr):HO->Prop
 | .lst xs=>xs.length<=sizeLine/\∃(its:List Value) (n:Nat),Qz xs its/\h.get? a=some {cls:= .type "list",data:= .seq its.toArray n}
 | .tup xs=>xs.length<=sizeLine/\∃its:List Value,Qz xs its/\IsTup h a its.toArray
 | .dK kvs=>kvs.length<=sizeLine/\(a == sysModules)=false/\∃vs,KV kvs vs/\h.DictOf (QaE P w) a vs
 | .dT kvs=>kvs.length<=sizeLine/\(a == sysModules)=false/\∃xs:List (List Key×Addr×Value),
   Paired (λ(p:List Key×V) (q:List Key×Addr×Value)=>p.1=q.1/\H q.2.1=some (.tup (p.1.map kV))/\RelV p.2 q.2.2) kvs xs∧
   ∃o es ep,h.get? a=some o/\o.ExactDict/\o.data= .dict es ep/\es.toList=xs.map (entryOfKey (tupleKind (QaE P w)))/\(xs.map (·.1)).Nodup
 | .set S n=>h.SetOf (intKind P w) a S n
 | .ins C dx fs=>H dx=some (.own a)/\fs.length<=1000/\dx≠a/\h.get? a=some (PySem.W.instObj C dx)∧
   ∃mA,h.Ns1 dx mA/\(∀f,Qok (fs.lookup f) (mA f))/\PySem.Within mA (fs.map (·.1))
 | .own _=>∃o,h.get? a=some o
 | .xd fs=>∃mA,h.Ns1 a mA/\∀f,Qok (fs.lookup f) (mA f)
 | .rng lo hi=>∃t u v,h.get? a=some {cls:= .type "range",data:= .fields #[.int lo t,.int hi u,.int 1 v]}
 | .frz o u=>h.get? a=some o/\QaH H h a u
 | .tbl ps=>h.get? a=some {cls:= .none,data:= .fields ps}
 | .met f x=>h.get? a=some (PySem.W.methodObj (.ref f) (.ref x))
 | .ext φ=>φ h/\(∃o,h.get? a=some o)/\∀h1 h2:Heap,φ h1->(∀o,h1.get? a=some o->h2.get? a=some o)->φ h2
def HOk(H:Hp)(h:Heap):Prop:=∀a o,H a=some o->QaH P w H h a o
end
section
variable {P:Program}{w:World}{H H':Hp}{h h':Heap}{a:Addr}{o:HO}
def QaH.lt(x:QaH P w H h a o):a<h.objs.size:=by
 cases o with
 | lst xs=>obtain⟨_,_,_,_,e⟩:=x;exact Zt e
 | tup xs=>obtain⟨_,_,_,p⟩:=x;exact p.lt
 | dK kvs=>obtain⟨_,_,_,_,o,_,_,e,_⟩:=x;exact Zt e
 | dT kvs=>obtain⟨_,_,_,_,o,_,_,e,_⟩:=x;exact Zt e
 | set S n=>obtain⟨o,_,_,_,e,_⟩:=x;exact Zt e
 | ins C dx fs=>obtain⟨_,_,_,e,_⟩:=x;exact Zt e
 | own y=>obtain⟨_,e⟩:=x;exact Zt e
 | xd fs=>obtain⟨_,⟨_,_,_,e,_⟩,_⟩:=x;exact Zt e
 | rng lo hi=>obtain⟨_,_,_,e⟩:=x;exact Zt e
 | frz ob u=>obtain⟨e,_⟩:=x;exact Zt e
 | tbl ps=>exact Zt (show h.get? a=some _ from x)
 | met f y=>exact Zt (show h.get? a=some _ from x)
 | ext φ=>obtain⟨_,⟨_,e⟩,_⟩:=x;exact Zt e
def Paired.QtW{α β:Type}{F G:α->β->Prop}:∀{l₁:List α}{l₂:List β},Paired F l₁ l₂->(∀a b,F a b->G a b)->Paired G l₁ l₂
 | _,_,.nil,_=> .nil
 | _,_,.cons r t,f=> .cons (f _ _ r) (Paired.QtW t f)
def QaH.QfE(x:QaH P w H h a o)(k:∀b u,(b=a∨H b=some (.own a))->h.get? b=some u->h'.get? b=some u)
  (ho:∀b,H b=some (.own a)->H' b=some (.own a)) (ht:∀b xs,H b=some (.tup xs)->H' b=some (.tup xs)):QaH P w H' h' a o:=by
 induction o with
 | lst xs=>obtain⟨z,its,n,r,e⟩:=x;exact⟨z,its,n,r,k _ _ (.inl rfl) e⟩
 | tup xs=>obtain⟨z,its,r,ob,e,c⟩:=x;exact⟨z,its,r,ob,k _ _ (.inl rfl) e,c⟩
 | dK kvs=>obtain⟨z,y,vs,r,ob,es,ep,e,c⟩:=x;exact⟨z,y,vs,r,ob,es,ep,k _ _ (.inl rfl) e,c⟩
 | dT kvs=>
  obtain⟨z,y,xs,r,ob,es,ep,e,c⟩:=x;exact⟨z,y,xs,Paired.QtW r λp q z=>⟨z.1,ht _ _ z.2.1,z.2.2⟩,ob,es,ep,k _ _ (.inl rfl) e,c⟩
 | set S n=>obtain⟨ob,es,ep,t,e,c⟩:=x;exact⟨ob,es,ep,t,k _ _ (.inl rfl) e,c⟩
 | ins C dx fs=>
  obtain⟨d,z,ne,e,mA,⟨od,es,ep,e2,c⟩,r⟩:=x;exact⟨ho _ d,z,ne,k _ _ (.inl rfl) e,mA,⟨od,es,ep,k _ _ (.inr d) e2,c⟩,r⟩
 | own y=>obtain⟨ob,e⟩:=x;exact⟨ob,k _ _ (.inl rfl) e⟩
 | xd fs=>obtain⟨mA,⟨od,es,ep,e,c⟩,r⟩:=x;exact⟨mA,⟨od,es,ep,k _ _ (.inl rfl) e,c⟩,r⟩
 | rng lo hi=>obtain⟨t,u,v,e⟩:=x;exact⟨t,u,v,k _ _ (.inl rfl) e⟩
 | frz ob u ih=>obtain⟨e,q⟩:=x;exact⟨k _ _ (.inl rfl) e,ih q⟩
 | tbl ps=>
  have e:h.get? a=some {cls:= .none,data:= .fields ps}:=x;show h'.get? a=some {cls:= .none,data:= .fields ps};exact k a _ (.inl rfl) e
 | met f y=>
  have e:h.get? a=some (PySem.W.methodObj (.ref f) (.ref y)):=x;show h'.get? a=some (PySem.W.methodObj (.ref f) (.ref y));exact k a _ (.inl rfl) e
 | ext φ=>obtain⟨p,⟨o,e⟩,st⟩:=x;exact⟨st _ _ p λo q=>k _ _ (.inl rfl) q,⟨o,k _ _ (.inl rfl) e⟩,st⟩
def HOk.lt(x:HOk P w H h)(e:H a=some o):a<h.objs.size:=(x a o e).lt
def HOk.fresh(x:HOk P w H h)(e:h.objs.size<=a):H a=none:=by
 cases q:H a with
 | none=>rfl
 | some u=>exact absurd (Zu (x.lt q) e) (Zaa _)
def HOk.kept(x:HOk P w H h)(k:∀b u,h.get? b=some u->h'.get? b=some u):HOk P w H h':=λa o e=>
 (x a o e).QfE (λb u _ q=>k b u q) (λ_ q=>q) λ_ _ q=>q
def HOk.laid(x:HOk P w H h)(k:∀b u,h.get? b=some u->h'.get? b=some u)(hp:h.objs.size<=a)(new:QaH P w (upd H a o) h' a o):HOk P w (upd H a o) h':=λb u e=>by
 have hn:=x.fresh hp;by_cases hb:b=a
 .subst hb;rw[Q4]at e;cases e;exact new
 .rw[QA hb]at e;exact(x b u e).QfE (λc v _ q=>k c v q) (λc q=>by rw[QA (Qbp q hn)];exact q) λc xs q=>by rw[QA (Qbp q hn)];exact q
end
def Rd(H:Hp)(a:Addr)(u:HO):Prop:=H a=some u∨∃o,H a=some (.frz o u)
def Rd.ok{P:Program}{w:World}{H:Hp}{h:Heap}{a:Addr}{u:HO}(r:Rd H a u)(x:HOk P w H h):QaH P w H h a u:=by
 rcases r with r | ⟨o,r⟩
 .exact x a u r
 .obtain⟨_,q⟩:=x a _ r;exact q
def Mut:Option HO->Prop
 | some (.lst _)=>True
 | some (.dK _)=>True
 | some (.dT _)=>True
 | some (.set _ _)=>True
 | some (.ins _ _ _)=>True
 | some (.ext _)=>True
 | _=>False
section
variable {P:Program}{w:World}{H:Hp}{h h':Heap}{x e:Addr}{o':HO}
def HOk.write(ok:HOk P w H h)(mu:Mut (H x))(he:e=x∨H e=some (.own x))(k:∀b u,b≠e->h.get? b=some u->h'.get? b=some u)(heo:∃u,h'.get? e=some u)
  (new:QaH P w (upd H x o') h' x o'):HOk P w (upd H x o') h':=λb u q=>by
 have nown:∀c y,H c=some (.own y)->c≠x:=λc y r z=>by subst z;rw[r]at mu;exact mu
 have ntup:∀c xs,H c=some (.tup xs)->c≠x:=λc xs r z=>by subst z;rw[r]at mu;exact mu
 by_cases hb:b=x
 .subst hb;rw[Q4]at q;cases q;exact new
 .rw[QA hb]at q;by_cases hbe:b=e
  .have q':H b=some (.own x):=by
    rcases he with z | z
    .exact absurd (hbe.trans z) hb
    .rw[hbe];exact z
   rw[q]at q';cases q';obtain⟨v,hv⟩:=heo;exact⟨v,by rw[hbe];exact hv⟩
  .refine(ok b u q).QfE (λc v hc r=>k c v ?_ r) (λc r=>by rw[QA (nown c b r)];exact r) λc xs r=>by rw[QA (ntup c xs r)];exact r
   rcases hc with rfl | hc
   .exact hbe
   .rintro rfl;rcases he with z | z
    .exact nown c b hc z
    .rw[hc]at z;cases z;exact hb rfl
end
structure Un (fs ex:LAd) (H H':Hp) (h h':Heap):Prop where
 keep:∀b o,h.get? b=some o->H b=none->b∉fs->b∉ex->h'.get? b=some o
 slot:∀b o,h.get? b=some o->H b=none->b∈fs->b∉ex->∃sl,h'.get? b=some {o with slots:=sl}
 free:∀b o,h.get? b=some o->H b=none->b∉ex->H' b=none
 there:∀b o,h.get? b=some o->b∉ex->∃o',h'.get? b=some o'
 tups:∀b xs,H b=some (.tup xs)->H' b=some (.tup xs)
 frzs:∀b o u,H b=some (.frz o u)->H' b=some (.frz o u)
 tbls:∀b ps,H b=some (.tbl ps)->∃more,H' b=some (.tbl (ps++more))
section
variable {fs fs' ex ex':LAd}{H H1 H2:Hp}{h h1 h2 h':Heap}{a x e:Addr}{o:HO}
def Un.any(u:Un fs ex H H1 h h1){b:Addr}{ob:Obj}(q:h.get? b=some ob)(n:H b=none)(hx:b∉ex):∃sl,h1.get? b=some {ob with slots:=sl}:=by
 by_cases hb:b∈fs
 .exact u.slot b ob q n hb hx
 .exact⟨ob.slots,u.keep b ob q n hb hx⟩
def Un.kept(k:∀b u,h.get? b=some u->h'.get? b=some u):Un fs ex H H h h':=
 ⟨λb ob q _ _ _=>k b ob q,λb ob q _ _ _=>⟨ob.slots,k b ob q⟩,λ_ _ _ n _=>n,λb ob q _=>⟨ob,k b ob q⟩,λ_ _ q=>q,λ_ _ _ q=>q,λ_ ps q=>⟨#[],by rw[q];simp⟩⟩
def Un.refl:Un fs ex H H h h:=Un.kept λ_ _ q=>q
def Un.laid(k:∀b u,h.get? b=some u->h'.get? b=some u)(hp:h.objs.size<=a)(hn:H a=none):Un fs ex H (upd H a o) h h' where
 keep:=λb u q _ _ _=>k b u q
 slot:=λb u q _ _ _=>⟨u.slots,k b u q⟩
 free:=λb u q n _=>by rw[QA (ZJ (Zu (Zt q) hp))];exact n
 there:=λb u q _=>⟨u,k b u q⟩
 tups:=λb xs q=>by rw[QA (Qbp q hn)];exact q
 frzs:=λb u xs q=>by rw[QA (Qbp q hn)];exact q
 tbls:=λb ps q=>⟨#[],by rw[QA (Qbp q hn),q];simp⟩
def Un.write(mu:Mut (H x))(he:e=x∨H e=some (.own x))(k:∀b u,b≠e->h.get? b=some u->h'.get? b=some u)(heo:∃u,h'.get? e=some u):Un fs ex H (upd H x o) h h':=by
 have hx:∀b,H b=none->b≠x:=λb n z=>by subst z;rw[n]at mu;exact mu
 have hb:∀b,H b=none->b≠e:=λb n z=>by
  subst z;rcases he with r | r
  .exact hx b n r
  .rw[n]at r;cases r
 have hm:∀b u,H b=some u->¬Mut (some u)->b≠x:=λb u q nm z=>by subst z;rw[q]at mu;exact nm mu
 refine⟨λb u q n _ _=>k b u (hb b n) q,λb u q n _ _=>⟨u.slots,k b u (hb b n) q⟩,λb u q n _=>by rw[QA (hx b n)];exact n,λb u q _=>?_,
  λb xs q=>by rw[QA (hm b _ q λz=>z)];exact q,λb u xs q=>by rw[QA (hm b _ q λz=>z)];exact q,λb ps q=>⟨#[],by rw[QA (hm b _ q λz=>z),q];simp⟩⟩
 by_cases hbe:b=e
 .subst hbe;exact heo
 .exact⟨u,k b u hbe q⟩
end
noncomputable def trk(h:Heap)(H:Hp):List Addr:=(List.range h.objs.size).filter λa=>(H a).isSome
noncomputable def QgM(h:Heap)(H:Hp):Heap:=PySem.W.hideAll h (trk h H)
def Qr8(h:Heap)(H:Hp):(QgM h H).objs.size=h.objs.size:=PySem.W.hideAll_size _ _
def QtM{h:Heap}{H:Hp}{b:Addr}{o:Obj}(e:h.get? b=some o)(n:H b=none):(QgM h H).get? b=some o:=
 Zbv _ e λhm=>by
  have q:(H b).isSome=true:=(ZaV.mp hm).2;rw[n]at q;simp at q
def QxP{h:Heap}{H:Hp}{b:Addr}{o:Obj}(e:(QgM h H).get? b=some o):h.get? b=some o/\H b=none:=by
 have e':h.get? b=some o:=PySem.W.of_hideAll (trk h H) e;refine⟨e',?_⟩;cases q:H b with
 | none=>rfl
 | some x=>
  have hm:b∈trk h H:=ZaV.mpr ⟨Zq.mpr (Zt e'),by simp[q]⟩;have z:(QgM h H).get? b=none:=PySem.W.hideAll_none (trk h H) hm;rw[z]at e;cases e
structure Mod (K:Fgg) (mg:Str->Option Value) (base:Heap):Prop where
 kin:K.In base
 glob:base.Ns mainGlobals mg
 blt:∃mb,base.Ns builtinsNs mb/\∀x:Str,x≠ "__name__" ->mb x=bootBuiltins x
 nolimit:base.NoLimit
structure Cx where
 prog:Program
 w:World
 K:PySem.W.Frag
 mg:Str->Option Value
 base:Heap
 A:Around
 N:List Str
 s₀:Shared
 H₀:Hp
 env:Env
 outer:List Env
 stack:List Env
 ex:List Addr
 fn:Str->Bool
 calm:Bool
 pn:List (Addr×Obj)
 xe:Value->Shared->Prop
noncomputable def frs(l:List Env):List Addr:=l.filterMap (·.frame)
noncomputable abbrev Cx.fs(X:Cx):List Addr:=frs X.outer
def Vis(sc:Scope)(x:Str):Prop:=sc.names.lookup x=some .local ∨sc.names.lookup x=some .cell∨sc.names.lookup x=some .free
def Loc(sc:Scope)(x:Str):Prop:=sc.names.lookup x=some .local ∨sc.names.lookup x=some .cell
def Look(env:Env)(h:Heap)(m:Str->Option Value)(x:Str)(u:Value):Prop:=
 (env.kindOf x=some .local /\m x=some u)∨((env.kindOf x=some .cell∨env.kindOf x=some .free)/\∃c,env.cells.lookup x=some c/\h.IsCell c (some u))
structure Cx.Ok (X:Cx):Prop where
 mod:Mod X.K X.mg X.base
 kind:X.env.scope.kind= .function
 glob:X.env.globals=mainGlobals
 blt:X.env.builtins=builtinsNs
 above:X.s₀.heap.objs.size<=X.env.locals
 inj:∀x y c,X.env.cells.lookup x=some c->X.env.cells.lookup y=some c->x=y
 has:∀x,(X.env.kindOf x=some .cell∨X.env.kindOf x=some .free)->∃c,X.env.cells.lookup x=some c
 cab:∀x c,X.fn x=true->X.env.cells.lookup x=some c->X.s₀.heap.objs.size<=c
 hd:X.calm=true->X.A.handled=none
 frames:X.A.frames=some X.stack
 stk:X.stack=X.outer∨(X.stack=X.env::X.outer/\X.env.frame=some X.env.locals)
 exf:∀b∈X.ex,b≠X.env.locals/\∀x c,X.env.cells.lookup x=some c->c≠b
 bs:∀b o,X.base.get? b=some o->X.s₀.heap.get? b=some o/\X.H₀ b=none
 bsz:X.base.objs.size<=X.s₀.heap.objs.size
 noex:∀b o,X.base.get? b=some o->b∉X.ex
 exfs:∀b∈X.ex,b∉X.fs
 Qda:X.s₀.heap.FunFrames X.base X.outer
 frf:∀b∈X.fs,X.H₀ b=none
structure Inv (X:Cx) (pins:List (Addr×Obj)) (σ:List (Option V)) (H:Hp) (s:Shared):Prop where
 ok:X.Ok
 os:s.os=X.s₀.os
 bare:AllBare s.gens
 base:Un X.fs X.ex X.H₀ H X.s₀.heap s.heap
 loc:∃m,s.heap.Ns X.env.locals m/\∀(i:Nat) (x:Str) (v:V),X.N[i]? =some x->σ[i]? =some (some v)->Vis X.env.scope x->∃u,RelV v u/\Look X.env s.heap m x u
 cell:∀x c,X.env.cells.lookup x=some c->∃v,s.heap.IsCell c v
 free:H X.env.locals=none
 freeC:∀x c,X.env.cells.lookup x=some c->H c=none
 pin:∀p∈X.pn++pins,s.heap.get? p.1=some p.2/\H p.1=none/\p.1≠X.env.locals/\p.1∉X.fs/\∀v,p.2.data≠ .cell v
 hok:HOk X.prog X.w H s.heap
 len:σ.length=X.N.length
section
variable {X:Cx}{pins:List (Addr×Obj)}{σ:List (Option V)}{H H':Hp}{s:Shared}{h':Heap}
def Cx.Ok.QBK(ok:X.Ok){b:Addr}{o:Obj}(e:X.base.get? b=some o):b∉X.fs:=λhb=>by
 have:=(ok.Qda.mem hb).1;rw[e]at this;cases this
def Inv.bs(I:Inv X pins σ H s):∀b o,X.base.get? b=some o->s.heap.get? b=some o/\H b=none:=λb o e=>
 ⟨I.base.keep b o (I.ok.bs b o e).1 (I.ok.bs b o e).2 (I.ok.QBK e) (I.ok.noex b o e),I.base.free b o (I.ok.bs b o e).1 (I.ok.bs b o e).2 (I.ok.noex b o e)⟩
def Inv.bk(I:Inv X pins σ H s):∀b o,X.base.get? b=some o->s.heap.get? b=some o:=λb o e=>(I.bs b o e).1
def Inv.mod(I:Inv X pins σ H s):Mod X.K X.mg X.base:=I.ok.mod
def Inv.kIn(I:Inv X pins σ H s):X.K.In s.heap:=I.ok.mod.kin.keeps I.bk
def Inv.lt(I:Inv X pins σ H s):X.env.locals<s.heap.objs.size:=let ⟨_,hn,_⟩:=I.loc;hn.lt
def Inv.sz(I:Inv X pins σ H s):X.s₀.heap.objs.size<=s.heap.objs.size:=Zw I.ok.above (ZaC I.lt)
def Inv.QBG(I:Inv X pins σ H s){a:Addr}(h:s.heap.objs.size<=a):a∉X.fs:=λhb=>by
 obtain⟨_,o,ho,_⟩:=I.ok.Qda.mem hb;exact absurd (Zu (Zt ho) (Zw I.sz h)) (Zaa _)
def Inv.cne(I:Inv X pins σ H s):∀x c,X.env.cells.lookup x=some c->c≠X.env.locals:=λx c e z=>by
 obtain⟨v,o,ho,hd⟩:=I.cell x c e;obtain⟨m,⟨o',es,ep,ho',hd',_⟩,_⟩:=I.loc;rw[z,ho']at ho;cases ho;rw[hd']at hd;cases hd
def Inv.Qda(I:Inv X pins σ H s):s.heap.FunFrames X.base X.outer:=by
 have all:∀(l:List Env),(∀b∈frs l,b∈X.fs)->X.s₀.heap.FunFrames X.base l->s.heap.FunFrames X.base l:=by
  intro l
  induction l with
  | nil=>intro _ _;trivial
  | cons env r ih=>
   intro hs hl;obtain⟨hk,⟨L,o,hf,hn,ho,hd⟩,hr⟩:=hl;have hL:L∈X.fs:=hs L (by unfold frs;rw[ZbT,hf];exact Ze);obtain⟨sl,e⟩:=I.base.slot L o ho (I.ok.frf L hL) hL λz=>I.ok.exfs L z hL;exact⟨hk,⟨L,_,hf,hn,e,hd⟩,ih (λb hb=>hs b (by unfold frs;rw[ZbT,hf];exact Zb _ hb)) hr⟩
 exact all X.outer (λ_ hb=>hb) I.ok.Qda
def Inv.stack(I:Inv X pins σ H s):s.heap.FunFrames X.base X.stack:=by
 rcases I.ok.stk with e | ⟨e,hf⟩
 .rw[e];exact I.Qda
 .rw[e];obtain⟨m,hn,_⟩:=I.loc;refine .cons (by rw[I.ok.kind];decide) hf hn ?_ I.Qda;exact Heap.get?_none_of_le (Zw I.ok.bsz I.ok.above)
def Inv.QeV(I:Inv X pins σ H s):∀b∈frs X.stack,b∈X.env.locals::X.fs:=λb hb=>by
 rcases I.ok.stk with e | ⟨e,hf⟩
 .rw[e]at hb;exact Zb _ hb
 .rw[e]at hb;unfold frs at hb;rw[ZbT,hf]at hb;exact hb
def Inv.Qly(I:Inv X pins σ H s):∀b∈frs X.stack,H b=none:=λb hb=>by
 rcases Zm.mp (I.QeV b hb)with e | hb
 .rw[e];exact I.free
 .obtain⟨_,o,ho,_⟩:=I.ok.Qda.mem hb;exact I.base.free b o ho (I.ok.frf b hb) λz=>I.ok.exfs b z hb
def Inv.step{g':Array GenState}{t':Nat}{d':Drawn}{ch:LAd}(I:Inv X pins σ H s)
  (hch:∀b∈ch,(b∈X.ex∨X.s₀.heap.objs.size<=b)/\b≠X.env.locals/\(∀x c,X.env.cells.lookup x=some c->c≠b)/\∀p∈X.pn++pins,p.1≠b)
  (keep:∀b o,b≠X.env.locals->b∉X.fs->b∉ch->s.heap.get? b=some o->H b=none->h'.get? b=some o)
  (slot:∀b o,b≠X.env.locals->b∈X.fs->b∉ch->s.heap.get? b=some o->H b=none->∃sl,h'.get? b=some {o with slots:=sl}) (free:∀b o,b∉ch->s.heap.get? b=some o->H b=none->H' b=none)
  (there:∀b o,b∉ch->s.heap.get? b=some o->∃o',h'.get? b=some o')
  (tups:∀b xs,H b=some (.tup xs)->H' b=some (.tup xs)) (frzs:∀b o u,H b=some (.frz o u)->H' b=some (.frz o u)) (tbls:∀b ps,H b=some (.tbl ps)->∃more,H' b=some (.tbl (ps++more)))
  (ns:∀m,s.heap.Ns X.env.locals m->h'.Ns X.env.locals m) (hok:HOk X.prog X.w H' h') (hg:AllBare g'):
  Inv X pins σ H' {s with heap:=h',gens:=g',drawn:=d',toks:=t'}:=by
 have neL:∀b o,X.s₀.heap.get? b=some o->b≠X.env.locals:=λb o e=>ZJ (Zu (Zt e) I.ok.above);have neC:∀b o,X.s₀.heap.get? b=some o->b∉X.ex->b∉ch:=λb o e hx hb=>by
  rcases(hch b hb).1 with z | z
  .exact hx z
  .exact absurd (Zu (Zt e) z) (Zaa _)
 have cellK:∀x c,X.env.cells.lookup x=some c->∀v,s.heap.IsCell c v->h'.IsCell c v:=λx c e v Z=>by
  obtain⟨o,ho,hd⟩:=Z;have nch:c∉ch:=λz=>(hch c z).2.2.1 x c e rfl;by_cases hc:c∈X.fs
  .obtain⟨sl,q⟩:=slot c o (I.cne x c e) hc nch ho (I.freeC x c e);exact⟨_,q,hd⟩
  .exact⟨o,keep c o (I.cne x c e) hc nch ho (I.freeC x c e),hd⟩
 refine⟨I.ok,I.os,hg,⟨λb o e n hb hx=>?_,λb o e n hb hx=>?_,λb o e n hx=>?_,λb o e hx=>?_,λb xs e=>tups b xs (I.base.tups b xs e),λb o xs e=>frzs b o xs (I.base.frzs b o xs e),λb ps e=>?_⟩,?_,λx c e=>?_,?_,λx c e=>?_,λp hp=>?_,hok,I.len⟩
 .exact keep b o (neL b o e) hb (neC b o e hx) (I.base.keep b o e n hb hx) (I.base.free b o e n hx)
 .obtain⟨sl,e1⟩:=I.base.slot b o e n hb hx;obtain⟨sl',e2⟩:=slot b _ (neL b o e) hb (neC b o e hx) e1 (I.base.free b o e n hx);exact⟨sl',e2⟩
 .obtain⟨o',e1⟩:=I.base.there b o e hx;exact free b o' (neC b o e hx) e1 (I.base.free b o e n hx)
 .obtain⟨o',e1⟩:=I.base.there b o e hx;exact there b o' (neC b o e hx) e1
 .obtain⟨m1,e1⟩:=I.base.tbls b ps e;obtain⟨m2,e2⟩:=tbls b _ e1;exact⟨m1++m2,by rw[e2,Array.append_assoc]⟩
 .obtain⟨m,hn,hl⟩:=I.loc;refine⟨m,ns m hn,λi x v e1 e2 e3=>?_⟩;obtain⟨u,r,l⟩:=hl i x v e1 e2 e3;refine⟨u,r,?_⟩;rcases l with l | ⟨k,c,e,z⟩
  .exact .inl l
  .exact .inr ⟨k,c,e,cellK x c e _ z⟩
 .obtain⟨v,z⟩:=I.cell x c e;exact⟨v,cellK x c e v z⟩
 .obtain⟨m,⟨o,_,_,ho,_⟩,_⟩:=I.loc;exact free _ o (λz=>(hch _ z).2.1 rfl) ho I.free
 .obtain⟨v,o,ho,hd⟩:=I.cell x c e;exact free c o (λz=>(hch c z).2.2.1 x c e rfl) ho (I.freeC x c e)
 .obtain⟨e,n,ne,nf,d⟩:=I.pin p hp;have nch:p.1∉ch:=λz=>(hch p.1 z).2.2.2 p hp rfl;exact⟨keep p.1 p.2 ne nf nch e n,free p.1 p.2 nch e n,ne,nf,d⟩
def Inv.un{t':Nat}(I:Inv X pins σ H s)(u:Un X.fs [] H H' s.heap h')(hok:HOk X.prog X.w H' h'):Inv X pins σ H' {s with heap:=h',toks:=t'}:=by
 obtain⟨m,⟨o,es,ep,ho,r⟩,_⟩:=id I.loc;obtain⟨sl,hL⟩:=u.any ho I.free ⋯;exact I.step (g':=s.gens) (d':=s.drawn) (ch:=[]) (λ_ z=>nomatch z) (λb o _ hb _ e n=>u.keep b o e n hb ⋯) (λb o _ hb _ e n=>u.slot b o e n hb ⋯) (λb o _ e n=>u.free b o e n ⋯) (λb o _ e=>u.there b o e ⋯) u.tups u.frzs u.tbls (λm' hm=>by
  obtain⟨o',es',ep',ho',r'⟩:=hm;rw[ho]at ho';cases ho';exact⟨_,es',ep',hL,r'⟩) hok I.bare
def Inv.call{g':Array GenState}{t':Nat}{d':Drawn}{ch:LAd}(I:Inv X pins σ H s)(u:Un (frs X.stack) ch H H' s.heap h')(hok:HOk X.prog X.w H' h')(hg:AllBare g')
  (hch:∀b∈ch,(b∈X.ex∨X.s₀.heap.objs.size<=b)/\b≠X.env.locals/\(∀x c,X.env.cells.lookup x=some c->c≠b)/\∀p∈X.pn++pins,p.1≠b):
  Inv X pins σ H' {s with heap:=h',gens:=g',drawn:=d',toks:=t'}:=by
 obtain⟨m,⟨o,es,ep,ho,r⟩,_⟩:=id I.loc;obtain⟨sl,hL⟩:=u.any ho I.free λz=>(hch _ z).2.1 rfl;exact I.step (ch:=ch) hch (λb o hL hb hc e n=>u.keep b o e n (λz=>(Zm.mp (I.QeV b z)).elim hL hb) hc) (λb o _ _ hc e n=>u.any e n hc) (λb o hc e n=>u.free b o e n hc) (λb o hc e=>u.there b o e hc) u.tups u.frzs u.tbls (λm' hm=>by
  obtain⟨o',es',ep',ho',r'⟩:=hm;rw[ho]at ho';cases ho';exact⟨_,es',ep',hL,r'⟩) hok hg
def Inv.turned{t':Nat}{it:Addr}(I:Inv X pins σ H s)(k:∀b o,b≠it->s.heap.get? b=some o->h'.get? b=some o)(hn:H it=none)(hL:it≠X.env.locals)
  (h1:it∈X.ex∨X.s₀.heap.objs.size<=it) (h2:∀x c,X.env.cells.lookup x=some c->c≠it) (h3:∀p∈X.pn++pins,p.1≠it):Inv X pins σ H {s with heap:=h',toks:=t'}:=by
 have nit:∀b u,H b=some u->b≠it:=λb u e z=>by rw[z,hn]at e;cases e
 refine I.step (g':=s.gens) (d':=s.drawn) (ch:=[it]) (λb hb=>?_) (λb o _ _ hc e _=>k b o (λz=>hc (by simp[z])) e) (λb o _ _ hc e _=>⟨o.slots,k b o (λz=>hc (by simp[z])) e⟩) (λ_ _ _ _ n=>n)
  (λb o hc e=>⟨o,k b o (λz=>hc (by simp[z])) e⟩) (λ_ _ e=>e) (λ_ _ _ e=>e) (λb ps e=>⟨#[],by rw[e];simp⟩) (λm hm=>?_) (λb u e=>?_) I.bare
 .have e:b=it:=by simpa using hb
  subst e;exact⟨h1,hL,h2,h3⟩
 .obtain⟨o,es,ep,ho,r⟩:=hm;exact⟨o,es,ep,k _ o (Ne.symm hL) ho,r⟩
 .refine(I.hok b u e).QfE (λc v hc q=>k c v ?_ q) (λ_ q=>q) λ_ _ q=>q;rcases hc with z | z
  .rw[z];exact nit b u e
  .exact nit c _ z
def Inv.tok(I:Inv X pins σ H s)(t:Nat):Inv X pins σ H {s with toks:=t}:=I.un (h':=s.heap) (t':=t) Un.refl I.hok
def Inv.kept{t':Nat}(I:Inv X pins σ H s)(k:∀b u,s.heap.get? b=some u->h'.get? b=some u):Inv X pins σ H {s with heap:=h',toks:=t'}:=I.un (Un.kept k) (I.hok.kept k)
def Inv.laid{a:Addr}{o:HO}{t':Nat}(I:Inv X pins σ H s)(k:∀b u,s.heap.get? b=some u->h'.get? b=some u)(hp:s.heap.objs.size<=a)(new:QaH X.prog X.w (upd H a o) h' a o):
  Inv X pins σ (upd H a o) {s with heap:=h',toks:=t'}:=I.un (Un.laid k hp (I.hok.fresh hp)) (I.hok.laid k hp new)
def Inv.write{x e:Addr}{o:HO}{t':Nat}(I:Inv X pins σ H s)(mu:Mut (H x))(he:e=x∨H e=some (.own x))(k:∀b u,b≠e->s.heap.get? b=some u->h'.get? b=some u)(heo:∃u,h'.get? e=some u)
  (new:QaH X.prog X.w (upd H x o) h' x o):Inv X pins σ (upd H x o) {s with heap:=h',toks:=t'}:=I.un (Un.write mu he k heo) (I.hok.write mu he k heo new)
def Inv.weak{σ':List (Option V)}(I:Inv X pins σ H s)(hl:σ'.length=σ.length)(w:∀(i:Nat) v,σ'[i]? =some (some v)->σ[i]? =some (some v)):Inv X pins σ' H s:=
 ⟨I.ok,I.os,I.bare,I.base,let ⟨m,hn,hl'⟩:=I.loc;⟨m,hn,λi x v e1 e2 e3=>hl' i x v e1 (w i v e2) e3⟩,I.cell,I.free,I.freeC,I.pin,I.hok,hl.trans I.len⟩
def Inv.Qp7{pins':List (Addr×Obj)}(I:Inv X pins σ H s)(h:∀p∈pins',s.heap.get? p.1=some p.2/\H p.1=none/\p.1≠X.env.locals/\p.1∉X.fs/\∀v,p.2.data≠ .cell v):Inv X pins' σ H s:=
 ⟨I.ok,I.os,I.bare,I.base,I.loc,I.cell,I.free,I.freeC,λp hp=>(Zr.mp hp).elim (λz=>I.pin p (Zg _ z)) (h p),I.hok,I.len⟩
def Qjp{N:List Str}(hN:N.Nodup){i j:Nat}{x:Str}(a:N[i]? =some x)(b:N[j]? =some x):i=j:=by
 obtain⟨h1,e1⟩:=Zi.mp a;obtain⟨h2,e2⟩:=Zi.mp b;exact(List.getElem_inj hN).mp (e1.trans e2.symm)
def Qmc{M:Model}{A:Around}{E:Value->Shared->Prop}{i:Nat}{x:Str}{v:V}{u:Value}{Q:Unit->Shared->Prop}(I:Inv X pins σ H s)(hN:X.N.Nodup)(hi:X.N[i]? =some x)(hx:Loc X.env.scope x)(r:RelV v u)
  (h:∀s',Inv X pins (σ.set i (some v)) H s'->(∃a,Heap.SameBut a s.heap s'.heap/\(a=X.env.locals∨X.env.cells.lookup x=some a))->Q () s') (hf:X.fn x=true∨X.env.scope.names.lookup x=some .local :=by first | exact .inl rfl | exact .inr rfl | assumption):wpAny M A (storeName X.env x u) Q E s:=by
 obtain⟨m,hn,hl⟩:=id I.loc;have hcls:(X.env.scope.kind == .class || (X.env.scope.kind == .module && X.env.locals != X.env.globals))=false:=by rw[I.ok.kind];rfl
 have hiσ:i<σ.length:=by rw[I.len];exact(Zi.mp hi).1
 have cne:=I.cne;have tracked:∀{a:Addr}{h':Heap},(∃o,s.heap.get? a=some o/\H a=none)->Heap.SameBut a s.heap h'->HOk X.prog X.w H h':=λ{a h'} ha hs b ob e=>by
  obtain⟨_,_,hfree⟩:=ha;refine(I.hok b ob e).QfE (λc w' hc q=>(hs.2 c ?_).trans q) (λ_ q=>q) λ_ _ q=>q;rintro rfl;rcases hc with rfl | hc
  .rw[hfree]at e;cases e
  .rw[hfree]at hc;cases hc
 rcases hx with hk | hk
 .refine wpAny_storeName_local hk hn (λh' hn' hs=>?_) hcls;obtain⟨oL,_,_,hoL,_⟩:=id hn;refine h _ ⟨I.ok,I.os,I.bare,⟨λb o e n hb hx=>?_,λb o e n hb hx=>?_,I.base.free,λb o e hx=>?_,I.base.tups,I.base.frzs,I.base.tbls⟩,⟨_,hn',λj y v' e1 e2 e3=>?_⟩,λy c e=>?_,I.free,I.freeC,λp hp=>?_,tracked ⟨oL,hoL,I.free⟩ hs,by simpa using I.len⟩ ⟨_,hs,.inl rfl⟩
  .exact(hs.2 b (ZJ (Zu (Zt e) I.ok.above))).trans (I.base.keep b o e n hb hx)
  .obtain⟨sl,e1⟩:=I.base.slot b o e n hb hx;exact⟨sl,(hs.2 b (ZJ (Zu (Zt e) I.ok.above))).trans e1⟩
  .obtain⟨o',e1⟩:=I.base.there b o e hx;exact⟨o',(hs.2 b (ZJ (Zu (Zt e) I.ok.above))).trans e1⟩
  .by_cases hj:j=i
   .subst hj;rw[hi]at e1;cases e1;rw[Zx hiσ]at e2;cases e2;exact⟨u,r,.inl ⟨hk,⋯⟩⟩
   .rw[Zl (Ne.symm hj)]at e2;obtain⟨u',r',q⟩:=hl j y v' e1 e2 e3;refine⟨u',r',?_⟩;rcases q with⟨k,e⟩ | ⟨k,c,e,z⟩
    .refine .inl ⟨k,?_⟩;have:y≠x:=λe=>hj (Qjp hN e1 (e▸hi));simp[this,e]
    .exact .inr ⟨k,c,e,z.sameBut hs (cne y c e)⟩
  .obtain⟨w',z⟩:=I.cell y c e;exact⟨w',z.sameBut hs (cne y c e)⟩
  .obtain⟨e,n,ne,nf,d⟩:=I.pin p hp;exact⟨(hs.2 p.1 ne).trans e,n,ne,nf,d⟩
 .have hfn:X.fn x=true:=by
   rcases hf with z | z
   .exact z
   .rw[z]at hk;cases hk
  obtain⟨c,hc⟩:=I.ok.has x (.inl hk);obtain⟨w',z⟩:=I.cell x c hc;refine wpAny_storeName_cell I.ok.kind hk hc z (λh' hc' hs=>?_);obtain⟨oc,hoc,hocd⟩:=id z;refine h {s with heap:=h'} ⟨I.ok,I.os,I.bare,⟨λb o e n hb hx=>?_,λb o e n hb hx=>?_,I.base.free,λb o e hx=>?_,I.base.tups,I.base.frzs,I.base.tbls⟩,⟨m,hn.sameBut hs (Ne.symm (cne x c hc)),λj y v' e1 e2 e3=>?_⟩,λy c' e=>?_,I.free,I.freeC,λp hp=>?_,tracked ⟨oc,hoc,I.freeC x c hc⟩ hs,by simpa using I.len⟩ ⟨c,hs,.inr hc⟩
  .exact(hs.2 b (ZJ (Zu (Zt e) (I.ok.cab x c hfn hc)))).trans (I.base.keep b o e n hb hx)
  .obtain⟨sl,e1⟩:=I.base.slot b o e n hb hx;exact⟨sl,(hs.2 b (ZJ (Zu (Zt e) (I.ok.cab x c hfn hc)))).trans e1⟩
  .obtain⟨o',e1⟩:=I.base.there b o e hx;exact⟨o',(hs.2 b (ZJ (Zu (Zt e) (I.ok.cab x c hfn hc)))).trans e1⟩
  .by_cases hj:j=i
   .subst hj;rw[hi]at e1;cases e1;rw[Zx hiσ]at e2;cases e2;exact⟨u,r,.inr ⟨.inl hk,c,hc,hc'⟩⟩
   .rw[Zl (Ne.symm hj)]at e2;obtain⟨u',r',q⟩:=hl j y v' e1 e2 e3;refine⟨u',r',?_⟩;rcases q with q | ⟨k,c',e,z'⟩
    .exact .inl q
    .refine .inr ⟨k,c',e,z'.sameBut hs ?_⟩;rintro rfl;exact hj (Qjp hN e1 (I.ok.inj _ _ _ e hc▸hi))
  .by_cases hcc:c'=c
   .subst hcc;exact⟨_,hc'⟩
   .obtain⟨w2,z2⟩:=I.cell y c' e;exact⟨w2,z2.sameBut hs hcc⟩
  .obtain⟨e,n,ne,nf,d⟩:=I.pin p hp;refine⟨(hs.2 p.1 ?_).trans e,n,ne,nf,d⟩;intro q;rw[q,hoc]at e;have q':oc=p.2:=Option.some.inj e;exact d w' (by rw[← q'];exact hocd)
def QeP{M:Model}{A:Around}{E:Value->Shared->Prop}{i:Nat}{x:Str}{v:V}{u:Value}{Q:Unit->Shared->Prop}(I:Inv X pins σ H s)(hN:X.N.Nodup)(hi:X.N[i]? =some x)(hx:Loc X.env.scope x)(r:RelV v u)
  (h:∀s',Inv X pins (σ.set i (some v)) H s'->Q () s') (hf:X.fn x=true∨X.env.scope.names.lookup x=some .local :=by first | exact .inl rfl | exact .inr rfl | assumption):wpAny M A (storeName X.env x u) Q E s:=
 Qmc I hN hi hx r (λs' I' _=>h s' I') hf
def Inv.QvU{s':Shared}{ch:LAd}(I:Inv X pins σ H s)(ho:s'.os=s.os)(u:Un (frs X.stack) ch H H' s.heap s'.heap)(hok:HOk X.prog X.w H' s'.heap)(hg:AllBare s'.gens)
  (hch:∀b∈ch,(b∈X.ex∨X.s₀.heap.objs.size<=b)/\b≠X.env.locals/\(∀x c,X.env.cells.lookup x=some c->c≠b)/\∀p∈X.pn++pins,p.1≠b):Inv X pins σ H' s':=by
 obtain⟨h',g',d',t',o'⟩:=s';have e:o'=s.os:=ho;subst e;exact I.call (g':=g') (t':=t') (d':=d') u hok hg hch
end
abbrev XK:=Value->Option Addr->Hp->Prop
noncomputable abbrev St:=List (Option V)
abbrev VK:=V->Hp->Prop
abbrev TE:=St->Hp->VK->Prop
abbrev TT:=St->Hp->(Bool->Hp->Prop)->Prop
abbrev TA:=St->Hp->(List V->Hp->Prop)->Prop
structure Ends where
 nx:St->Hp->Prop
 rt:VK
 bk:St->Hp->Prop:=λ_ _=>False
 ct:St->Hp->Prop:=λ_ _=>False
abbrev TS:=Ends->St->Hp->Prop
def EP(X:Cx)(pins:List (Addr×Obj))(σ:St)(Q:VK)(u:Value)(s':Shared):Prop:=∃v H',Inv X pins σ H' s'/\RelV v u/\Q v H'
def TP(X:Cx)(pins:List (Addr×Obj))(σ:St)(Q:Bool->Hp->Prop)(b:Bool)(s':Shared):Prop:=∃H',Inv X pins σ H' s'/\Q b H'
def AP(X:Cx)(pins:List (Addr×Obj))(σ:St)(Q:List V->Hp->Prop)(us:List Value)(s':Shared):Prop:=∃vs H',Inv X pins σ H' s'/\Qz vs us/\Q vs H'
def SP(X:Cx)(pins:List (Addr×Obj))(D:Ends)(f:Flow)(s':Shared):Prop:=
 match f with
 | .next=>∃σ' H',Inv X pins σ' H' s'/\D.nx σ' H'
 | .brk=>∃σ' H',Inv X pins σ' H' s'/\D.bk σ' H'
 | .cont=>∃σ' H',Inv X pins σ' H' s'/\D.ct σ' H'
 | .ret u=>∃v σ' H',Inv X pins σ' H' s'/\RelV v u/\D.rt v H'
def PE(X:Cx)(e:Expr)(t:TE):Prop:=
 ∀(pins:List (Addr×Obj)) (s:Shared) (σ:St) (H:Hp) (Q:VK),Inv X pins σ H s->t σ H Q->wpAny (model X.prog X.w) X.A (eval e X.env) (EP X pins σ Q) X.xe s
def PT(X:Cx)(e:Expr)(t:TT):Prop:=
 ∀(pins:List (Addr×Obj)) (s:Shared) (σ:St) (H:Hp) (Q:Bool->Hp->Prop),Inv X pins σ H s->t σ H Q->wpAny (model X.prog X.w) X.A (isTrue e X.env (eval e X.env)) (TP X pins σ Q) X.xe s
def PW(X:Cx)(e:Expr)(t:TT):Prop:=
 ∀(whole:Sem Value) (pins:List (Addr×Obj)) (s:Shared) (σ:St) (H:Hp) (Q:Bool->Hp->Prop),Inv X pins σ H s->t σ H Q->wpAny (model X.prog X.w) X.A (isTrue e X.env whole) (TP X pins σ Q) X.xe s
def PW.pt{X:Cx}{e:Expr}{t:TT}(h:PW X e t):PT X e t:=h _
def PA(X:Cx)(es:List Expr)(t:TA):Prop:=
 ∀(pos:Pos) (pins:List (Addr×Obj)) (s:Shared) (σ:St) (H:Hp) (Q:List V->Hp->Prop),Inv X pins σ H s->t σ H Q->wpAny (model X.prog X.w) X.A (spliced (backTo pos (starEach es X.env))) (AP X pins σ Q) X.xe s
def PS(X:Cx)(st:Stmt)(t:TS):Prop:=
 ∀(pins:List (Addr×Obj)) (s:Shared) (σ:St) (H:Hp) (D:Ends),Inv X pins σ H s->t D σ H->wpAny (model X.prog X.w) X.A (exec st X.env) (SP X pins D) X.xe s
def PSs(X:Cx)(st:List Stmt)(t:TS):Prop:=
 ∀(pins:List (Addr×Obj)) (s:Shared) (σ:St) (H:Hp) (D:Ends),Inv X pins σ H s->t D σ H->wpAny (model X.prog X.w) X.A (execs st X.env) (SP X pins D) X.xe s
def thn{α:Type}{t:Sem α}{Q Q':α->Shared->Prop}{M:Model}{A:Around}{E:Value->Shared->Prop}{s:Shared}(h:wpAny M A t Q E s)(hQ:∀a s,Q a s->Q' a s):wpAny M A t Q' E s:=wpAny_mono h hQ λ_ _ x=>x
section
variable {X:Cx}
noncomputable def QnP(i:Nat):TE:=λσ H Q=>∃v,σ[i]? =some (some v)/\Q v H
noncomputable def tC(v:V):TE:=λ_ H Q=>Q v H
def QzQ{i:Nat}{x:Str}{pos:Pos}(hN:X.N[i]? =some x)(hv:Vis X.env.scope x)(hd:(x == ("__debug__" :Str))=false:=by decide)(hcd:(x == ("__classdict__" :Str))=false:=by decide):PE X (.Name x pos) (QnP i):=by
 intro pins s σ H Q I h;obtain⟨v,e,h⟩:=h;obtain⟨m,hn,hl⟩:=I.loc;obtain⟨u,r,l⟩:=hl i x v hN e hv;have fin:EP X pins σ Q u s:=⟨v,H,I,r,h⟩;rcases l with⟨hk,hm⟩ | ⟨hk,c,hc,hcell⟩
 .exact wpAny_Name (wpAny_loadName_local I.ok.kind hk hn hm fin) hd
 .rcases hk with hk | hk
  .exact wpAny_Name (wpAny_loadName_cell I.ok.kind hk hc hcell fin) hd
  .exact wpAny_Name (wpAny_loadName_free I.ok.kind hk hc hcell fin hcd) hd
def QzH{i j pos}:PE X (.Constant (.int i) j pos) (tC (.int i)):=λ_ _ _ H _ I h=>wpAny_Constant_int ⟨.int i,H,I.tok _,⟨_,rfl⟩,h⟩
def QmK{b j pos}:PE X (.Constant (.bool b) j pos) (tC (.bl b)):=λ_ _ _ H _ I h=>Constant_bool ⟨.bl b,H,I,rfl,h⟩
def QyO{j pos}:PE X (.Constant .none j pos) (tC .non):=λ_ _ _ H _ I h=>Constant_none ⟨.non,H,I,rfl,h⟩
def Qzs{x j pos}:PE X (.Constant (.str x) j pos) (tC (.str x)):=λ_ _ _ H _ I h=>Calls.Constant_str ⟨.str x,H,I.tok _,⟨_,rfl⟩,h⟩
def Gl(X:Cx)(x:Str):Prop:=X.env.kindOf x=some .globalImplicit
def Qeu{E:Value->Shared->Prop}{pins:List (Addr×Obj)}{s:Shared}{σ:St}{H:Hp}{x:Str}{u:Value}{pos:Pos}{Q:Value->Shared->Prop}(I:Inv X pins σ H s)(hg:Gl X x)(hm:X.mg x=some u)(h:Q u s)
  (hd:(x == ("__debug__" :Str))=false:=by decide):wpAny (model X.prog X.w) X.A (eval (.Name x pos) X.env) Q E s:=
 Calls.Name_function_global I.ok.kind hg (Calls.loadGlobal_global (by rw[I.ok.glob];exact I.mod.glob.keeps I.bk) hm h) hd
def QcI{E:Value->Shared->Prop}{pins:List (Addr×Obj)}{s:Shared}{σ:St}{H:Hp}{x:Str}{u:Value}{pos:Pos}{Q:Value->Shared->Prop}(I:Inv X pins σ H s)(hg:Gl X x)(hm:X.mg x=none)(hv:bootBuiltins x=some u)(h:Q u s)
  (hn:x≠ "__name__" :=by decide) (hd:(x == ("__debug__" :Str))=false:=by decide):wpAny (model X.prog X.w) X.A (eval (.Name x pos) X.env) Q E s:=by
 obtain⟨mb,h1,h2⟩:=I.mod.blt;exact Calls.Name_function_global I.ok.kind hg (Calls.loadGlobal_builtin (by rw[I.ok.glob];exact I.mod.glob.keeps I.bk) hm (by rw[I.ok.blt];exact h1.keeps I.bk) ((h2 x hn).trans hv) h) hd
def Qwk{x:Str}{v:V}{u:Value}{pos:Pos}(hg:Gl X x)(hm:X.mg x=some u)(r:RelV v u)(hd:(x == ("__debug__" :Str))=false:=by decide):PE X (.Name x pos) (tC v):=
 λ_ _ _ H _ I h=>Qeu I hg hm ⟨v,H,I,r,h⟩ hd
def Qgb{x:Str}{v:V}{u:Value}{pos:Pos}(hg:Gl X x)(hm:X.mg x=none)(hv:bootBuiltins x=some u)(r:RelV v u)(hn:x≠ "__name__" :=by decide)(hd:(x == ("__debug__" :Str))=false:=by decide):PE X (.Name x pos) (tC v):=
 λ_ _ _ H _ I h=>QcI I hg hm hv ⟨v,H,I,r,h⟩ hn hd
variable {a b:Expr}{ta tb:TE}{pos:Pos}
variable {tA tB':TT}{rest:List Expr}
noncomputable def QCk(t u:TT):TT:=λσ H Q=>t σ H λc H1=>if c=true then u σ H1 Q else Q false H1
noncomputable def tOr(t u:TT):TT:=λσ H Q=>t σ H λc H1=>if c=true then Q true H1 else u σ H1 Q
noncomputable def QCq(t:TT):TT:=λσ H Q=>t σ H λc H1=>Q (!c) H1
def Qwx(ha:PT X a tA):PW X (.BoolOp .And [a] pos) tA:=by
 intro wh pins s σ H Q I h;refine isTrue_and (thn (ha pins s σ H Q I h) λc s1 e=>?_);cases c with
 | true=>exact isTrue_and_nil e
 | false=>exact e
def Qzq(ha:PT X a tA):PW X (.BoolOp .Or [a] pos) tA:=by
 intro wh pins s σ H Q I h;refine isTrue_or (thn (ha pins s σ H Q I h) λc s1 e=>?_);cases c with
 | false=>exact isTrue_or_nil e
 | true=>exact e
def QAc(ha:PT X a tA)(hb:PW X (.BoolOp .And (b::rest) pos) tB'):PW X (.BoolOp .And (a::b::rest) pos) (QCk tA tB'):=by
 intro wh pins s σ H Q I h;refine isTrue_and (thn (ha pins s σ H _ I h) λc s1 Z=>?_);obtain⟨H1,I1,q1⟩:=Z;cases c with
 | true=>exact hb wh pins s1 σ H1 Q I1 q1
 | false=>exact⟨H1,I1,q1⟩
def QAo(ha:PT X a tA)(hb:PW X (.BoolOp .Or (b::rest) pos) tB'):PW X (.BoolOp .Or (a::b::rest) pos) (tOr tA tB'):=by
 intro wh pins s σ H Q I h;refine isTrue_or (thn (ha pins s σ H _ I h) λc s1 Z=>?_);obtain⟨H1,I1,q1⟩:=Z;cases c with
 | true=>exact⟨H1,I1,q1⟩
 | false=>exact hb wh pins s1 σ H1 Q I1 q1
def Qyl(ha:PT X a tA):PT X (.UnaryOp .Not a pos) (QCq tA):=by
 intro pins s σ H Q I h;exact isTrue_not (ha pins s σ H (λc H1=>Q (!c) H1) I h)
def QyF{op}{t:TE}(h:PE X a t):PE X (.BoolOp op [a] pos) t:=λpins s σ H Q I hw=>BoolOp_one (h pins s σ H Q I hw)
noncomputable def tIf(t:TT)(ta tb:TE):TE:=λσ H Q=>t σ H λc H1=>if c=true then ta σ H1 Q else tb σ H1 Q
def QtG{c:Expr}(hc:PT X c tA)(ha:PE X a ta)(hb:PE X b tb):PE X (.IfExp c a b pos) (tIf tA ta tb):=by
 intro pins s σ H Q I h;refine wpAny_IfExp (thn (hc pins s σ H _ I h) λd s1 Z=>?_);obtain⟨H1,I1,q1⟩:=Z;cases d with
 | true=>exact ha pins s1 σ H1 Q I1 q1
 | false=>exact hb pins s1 σ H1 Q I1 q1
end
def SqL(K:Fgg)(H:Hp)(a:Addr)(xs:List V):Prop:=
 Rd H a (.lst xs)∨
  ∃(o:Obj) (its:Array Value) (n:Nat),K.lookup a=some o/\o.cls= .type "list" /\o.dict=none/\o.data= .seq its n/\its.size<=sizeLine/\Qz xs its.toList
def SqT(K:Fgg)(H:Hp)(a:Addr)(xs:List V):Prop:=
 Rd H a (.tup xs)∨
  ∃(o:Obj) (its:Array Value) (n:Nat),K.lookup a=some o/\o.cls= .type "tuple" /\o.data= .seq its n/\its.size<=sizeLine/\Qz xs its.toList
noncomputable def QCt:Value->Option V
 | .none=>some .non
 | .bool b=>some (.bl b)
 | .int i _=>some (.int i)
 | .str x _=>some (.str x)
 | .bytes b _=>some (.byt b)
 | .float b _=>some (.flt b)
 | .ref a=>some (.ref a)
 | .type n=>some (.ty n)
 | _=>none
def RelV.abs{x:V}{u:Value}(r:RelV x u):QCt u=some x:=by
 cases x with
 | non=>cases r;rfl
 | bl _=>cases r;rfl
 | int _=>obtain⟨t,rfl⟩:=r;rfl
 | str _=>obtain⟨t,rfl⟩:=r;rfl
 | byt _=>obtain⟨t,rfl⟩:=r;rfl
 | flt _=>obtain⟨t,rfl⟩:=r;rfl
 | ref _=>cases r;rfl
 | ty _=>cases r;rfl
def RelV.inj{x y:V}{u:Value}(r:RelV x u)(q:RelV y u):x=y:=Option.some.inj (r.abs.symm.trans q.abs)
def Qz.inj:∀{xs ys:List V}{us:List Value},Qz xs us->Qz ys us->xs=ys
 | _,_,_,.nil,.nil=>rfl
 | _,_,_,.cons r t,.cons r' t'=>by rw[r.inj r',Qz.inj t t']
section
variable {X:Cx}{pins:List (Addr×Obj)}{σ:St}{H:Hp}{s:Shared}{a:Addr}{xs ys:List V}
def SqL.of{K:Fgg}(h:H a=some (.lst xs)):SqL K H a xs:= .inl (.inl h)
def SqT.of{K:Fgg}(h:H a=some (.tup xs)):SqT K H a xs:= .inl (.inl h)
def Inv.list(I:Inv X pins σ H s)(h:SqL X.K H a xs):∃its:List Value,Qz xs its/\PlainL s.heap a its.toArray/\xs.length<=sizeLine:=by
 rcases h with h | ⟨o,its,n,hk,hc,hd,hs,hz,r⟩
 .obtain⟨z,its,n,r,e⟩:=h.ok I.hok;exact⟨its,r,⟨_,n,e,rfl,rfl,rfl⟩,z⟩
 .refine⟨its.toList,r,⟨o,n,I.kIn a o hk,hc,hd,by simpa using hs⟩,?_⟩;have e:=r.length;simp only[Zv]at e;lia
def Inv.tuple(I:Inv X pins σ H s)(h:SqT X.K H a xs):∃its:List Value,Qz xs its/\IsTup s.heap a its.toArray/\xs.length<=sizeLine:=by
 rcases h with h | ⟨o,its,n,hk,hc,hs,hz,r⟩
 .obtain⟨z,its,r,p⟩:=h.ok I.hok;exact⟨its,r,p,z⟩
 .refine⟨its.toList,r,⟨o,I.kIn a o hk,hc,n,by simpa using hs⟩,?_⟩;have e:=r.length;simp only[Zv]at e;lia
def Inv.Qb2(I:Inv X pins σ H s)(h:SqL X.K H a xs)(h':SqL X.K H a ys):xs=ys:=by
 obtain⟨its,r,⟨o,n,e,_,_,d⟩,_⟩:=I.list h;obtain⟨its',r',⟨o',n',e',_,_,d'⟩,_⟩:=I.list h';rw[e]at e';cases e';rw[d]at d';injection d' with d1 _;have:its=its':=by simpa using congrArg Array.toList d1
 subst this;exact r.inj r'
def Inv.QsX(I:Inv X pins σ H s)(h:SqT X.K H a xs)(h':SqT X.K H a ys):xs=ys:=by
 obtain⟨its,r,⟨o,e,_,n,d⟩,_⟩:=I.tuple h;obtain⟨its',r',⟨o',e',_,n',d'⟩,_⟩:=I.tuple h';rw[e]at e';cases e';rw[d]at d';injection d' with d1 _;have:its=its':=by simpa using congrArg Array.toList d1
 subst this;exact r.inj r'
end
noncomputable abbrev Cx.Qe1(X:Cx)(E:Value->Shared->Prop):Cx:={X with xe:=E}
noncomputable abbrev Cx.nox(X:Cx):Cx:=X.Qe1 λ_ _=>False
def Cx.Ok.Qe1{X:Cx}(ok:X.Ok)(E:Value->Shared->Prop):(X.Qe1 E).Ok:=
 ⟨ok.mod,ok.kind,ok.glob,ok.blt,ok.above,ok.inj,ok.has,ok.cab,ok.hd,ok.frames,ok.stk,ok.exf,ok.bs,ok.bsz,ok.noex,ok.exfs,ok.Qda,ok.frf⟩
def Cx.Ok.Qd6{X:Cx}{E:Value->Shared->Prop}(ok:(X.Qe1 E).Ok):X.Ok:=
 ⟨ok.mod,ok.kind,ok.glob,ok.blt,ok.above,ok.inj,ok.has,ok.cab,ok.hd,ok.frames,ok.stk,ok.exf,ok.bs,ok.bsz,ok.noex,ok.exfs,ok.Qda,ok.frf⟩
section
variable {X:Cx}{pins:List (Addr×Obj)}{σ:St}{H:Hp}{s:Shared}{E:Value->Shared->Prop}
def Inv.Qe1(I:Inv X pins σ H s)(E:Value->Shared->Prop):Inv (X.Qe1 E) pins σ H s:=⟨I.ok.Qe1 E,I.os,I.bare,I.base,I.loc,I.cell,I.free,I.freeC,I.pin,I.hok,I.len⟩
def Inv.Qd6(I:Inv (X.Qe1 E) pins σ H s):Inv X pins σ H s:=⟨I.ok.Qd6,I.os,I.bare,I.base,I.loc,I.cell,I.free,I.freeC,I.pin,I.hok,I.len⟩
def SP.Qd6{D:Ends}{f:Flow}{s':Shared}(h:SP (X.Qe1 E) pins D f s'):SP X pins D f s':=by
 cases f with
 | next=>obtain⟨σ',H',I,q⟩:=h;exact⟨σ',H',I.Qd6,q⟩
 | brk=>obtain⟨σ',H',I,q⟩:=h;exact⟨σ',H',I.Qd6,q⟩
 | cont=>obtain⟨σ',H',I,q⟩:=h;exact⟨σ',H',I.Qd6,q⟩
 | ret u=>obtain⟨v,σ',H',I,r,q⟩:=h;exact⟨v,σ',H',I.Qd6,r,q⟩
def PSs.nox{st:List Stmt}{t:TS}(h:PSs X.nox st t):PSs X st t:=λpins s σ H D I hw=>
 wpAny_mono (h pins s σ H D (I.Qe1 _) hw) (λ_ _ q=>q.Qd6) λ_ _ z=>False.elim z
end
section
variable {X:Cx}{st:Stmt}{rest:List Stmt}{t u:TS}{e:Expr}{te:TE}{pos:Pos}
noncomputable def QqT:TS:=λD σ H=>D.nx σ H
noncomputable def QCa(t u:TS):TS:=λD σ H=>t {D with nx:=u D} σ H
def Qxf:PSs X [] QqT:=λ_ _ σ H _ I h=>wpAny_execs_nil ⟨σ,H,I,h⟩
def Qnm(h1:PS X st t)(h2:PSs X rest u):PSs X (st::rest) (QCa t u):=by
 intro pins s σ H D I h;refine wpAny_execs_cons (thn (h1 pins s σ H {D with nx:=u D} I h) λf s1 q=>?_);cases f with
 | next=>
  obtain⟨σ',H',I',q⟩:=q;exact h2 pins s1 σ' H' D I' q
 | ret v=>exact q
 | brk=>exact q
 | cont=>exact q
noncomputable def QyM:TS:=λD σ H=>D.bk σ H
noncomputable def QAI:TS:=λD σ H=>D.ct σ H
def Qxv:PS X (.Pass pos) QqT:=λ_ _ σ H _ I h=>wpAny_Pass ⟨σ,H,I,h⟩
def QtH:PS X (.Break pos) QyM:=λ_ _ σ H _ I h=>wpAny_Break ⟨σ,H,I,h⟩
def Qo5:PS X (.Continue pos) QAI:=λ_ _ σ H _ I h=>wpAny_Continue ⟨σ,H,I,h⟩
def Inv.quiet{pins:List (Addr×Obj)}{σ:St}{H:Hp}{s:Shared}(I:Inv X pins σ H s):interactive X.env=false:=by simp[interactive,I.ok.kind]
def Qy8{x j pos pos'}:PS X (.Expr (.Constant (.str x) j pos) pos') QqT:=λ_ s σ H _ I h=>wpAny_Expr (Calls.Constant_str (show SP X _ _ .next {s with toks:=s.toks+1}from⟨σ,H,I.tok _,h⟩)) I.quiet
noncomputable def QmI(te:TE):TS:=λD σ H=>te σ H λ_ H1=>D.nx σ H1
def Qie(he:PE X e te)(hs:swapsWith e none pos.line X.env=pure false:=by rfl):PS X (.Expr e pos) (QmI te):=by
 intro pins s σ H D I h;exact wpAny_Expr_any (thn (he pins s σ H _ I h) λv s1 ⟨x,H1,I1,r1,q1⟩=>⟨σ,H1,I1,q1⟩) I.quiet hs
noncomputable def QBI(te:TE):TS:=λD σ H=>te σ H D.rt
def QAf(he:PE X e te):PS X (.Return (some e) pos) (QBI te):=by
 intro pins s σ H D I h;exact wpAny_Return_some (thn (he pins s σ H _ I h) λv s1 ⟨x,H1,I1,r1,q1⟩=>⟨x,σ,H1,I1,r1,q1⟩)
noncomputable def QBN(c:TT)(t u:TS):TS:=λD σ H=>c σ H λb H1=>if b=true then t D σ H1 else u D σ H1
def QvJ{c:Expr}{a b:List Stmt}{tc:TT}(hc:PT X c tc)(ha:PSs X a t)(hb:PSs X b u):PS X (.If c a b pos) (QBN tc t u):=by
 intro pins s σ H D I h;refine wpAny_If (thn (hc pins s σ H _ I h) λd s1 Z=>?_);obtain⟨H1,I1,q1⟩:=Z;cases d with
 | true=>exact ha pins s1 σ H1 D I1 q1
 | false=>exact hb pins s1 σ H1 D I1 q1
noncomputable def QyZ:TS:=λ_ _ _=>False
def QuI:PS X st QyZ:=λ_ _ _ _ _ _ h=>h.elim
end
abbrev TG:=V->St->Hp->(St->Hp->Prop)->Prop
abbrev TGs:=List V->St->Hp->(St->Hp->Prop)->Prop
def PG(X:Cx)(target:Expr)(t:TG):Prop:=
 ∀(pins:List (Addr×Obj)) (s:Shared) (σ:St) (H:Hp) (v:V) (u:Value) (Q:St->Hp->Prop),Inv X pins σ H s->RelV v u->t v σ H Q→
  wpAny (model X.prog X.w) X.A (assign target X.env u) (λ_ s'=>∃σ' H',Inv X pins σ' H' s'/\Q σ' H') X.xe s
def PGs(X:Cx)(ts:List Expr)(t:TGs):Prop:=
 ∀(pins:List (Addr×Obj)) (s:Shared) (σ:St) (H:Hp) (vs:List V) (us:List Value) (Q:St->Hp->Prop),Inv X pins σ H s->Qz vs us->t vs σ H Q→
  wpAny (model X.prog X.w) X.A (assignInOrder ((assignEach ts X.env).map (·.2)) us) (λ_ s'=>∃σ' H',Inv X pins σ' H' s'/\Q σ' H') X.xe s
abbrev Qn2:=V->V->V->Hp->(Hp->Prop)->Prop
def Qur(X:Cx)(t:Qn2):Prop:=
 ∀(pins:List (Addr×Obj)) (s:Shared) (σ:St) (H:Hp) (o i v:V) (ov iv u:Value) (Q:Hp->Prop),Inv X pins σ H s->RelV o ov->RelV i iv->RelV v u->t o i v H Q→
  wpAny (model X.prog X.w) X.A (setItem ov iv u) (λ_ s'=>∃H',Inv X pins σ H' s'/\Q H') X.xe s
abbrev TIp:=V->V->Hp->VK->Prop
def PIp(X:Cx)(op:Operator)(t:TIp):Prop:=
 ∀(pins:List (Addr×Obj)) (s:Shared) (σ:St) (H:Hp) (x y:V) (v u:Value) (Q:VK),Inv X pins σ H s->RelV x v->RelV y u->t x y H Q→
  wpAny (model X.prog X.w) X.A (inplaceOp op v u) (EP X pins σ Q) X.xe s
section
variable {X:Cx}{pos:Pos}
noncomputable def Qil(i:Nat):TG:=λv σ H Q=>Q (σ.set i (some v)) H
def QpS{i:Nat}{x:Str}(hN:X.N.Nodup)(hi:X.N[i]? =some x)(hx:Loc X.env.scope x)(hf:X.fn x=true∨X.env.scope.names.lookup x=some .local :=by first | exact .inl rfl | exact .inr rfl | assumption):PG X (.Name x pos) (Qil i):=by
 intro pins s σ H v u Q I r h;exact wpAny_assign_Name (QeP I hN hi hx r (λs' I'=>⟨_,H,I',h⟩) hf)
noncomputable def QyH:TGs:=λvs σ H Q=>vs=[]/\Q σ H
noncomputable def QvQ(t:TG)(u:TGs):TGs:=λvs σ H Q=>∃v r,vs=v::r/\t v σ H λσ' H'=>u r σ' H' Q
def QxL:PGs X [] QyH:=by
 intro pins s σ H vs us Q I r h;obtain⟨e,h⟩:=h;subst e;cases r;exact assignInOrder_nil ⟨σ,H,I,h⟩
def Quc{e:Expr}{es:List Expr}{t:TG}{u:TGs}(h1:PG X e t)(h2:PGs X es u)
  (hs:(assignEach (e::es) X.env).map (·.2)=assign e X.env::(assignEach es X.env).map (·.2):=by rfl):PGs X (e::es) (QvQ t u):=by
 intro pins s σ H vs us Q I r h;obtain⟨v,vr,e1,h⟩:=h;subst e1;cases r with
 | cons r rr=>
  rw[hs];refine assignInOrder_cons (thn (h1 pins s σ H _ _ _ I r h) λ_ s1 Z=>?_);obtain⟨σ1,H1,I1,q1⟩:=Z;exact h2 pins s1 σ1 H1 _ _ Q I1 rr q1
noncomputable def QCe(K:Fgg)(n:Nat)(t:TGs):TG:=λv σ H Q=>∃a xs,v= .ref a/\SqT K H a xs/\xs.length=n/\t xs σ H Q
def QzR{es:List Expr}{k:Nat}{t:TGs}{n:Nat}(hc:X.calm=true)(h:PGs X es t)
  (hn:(assignEach es X.env).length=n:=by rfl) (hst:(assignEach es X.env).findIdx? (·.1)=none:=by rfl):PG X (.Tuple es k pos) (QCe X.K n t):=by
 intro pins s σ H v u Q I r hw;obtain⟨a,xs,e1,hq,hl,hw⟩:=hw;subst e1;cases r;obtain⟨its,rv,ht,hz⟩:=I.tuple hq;refine assign_Tuple_tuple (I.ok.hd hc) ht (by simp[hn,← hl,rv.length]) hst λh' hx=>?_;have I1:Inv X pins σ H {s with heap:=h'}:=I.kept (t':=s.toks) λb o e=>hx b o (ZJ (Zt e)) e;exact h pins _ σ H xs _ Q I1 (by simpa using rv) hw
noncomputable def QaS(to ti:TE)(t:Qn2):TG:=λv σ H Q=>to σ H λo H1=>ti σ H1 λi H2=>t o i v H2 λH3=>Q σ H3
def Qy1{o i:Expr}{to ti:TE}{t:Qn2}(ho:PE X o to)(hi:PE X i ti)(hs:Qur X t)
  (ha:∀v,assign (.Subscript o i pos) X.env v=(do
   let ov ← holding [v] (eval o X.env)
   let iv ← holding [v,ov] (eval i X.env)
   standAt pos
   holding [v,ov,iv] (setItem ov iv v)
   release [v,ov,iv] []):=by intro _;rfl):PG X (.Subscript o i pos) (QaS to ti t):=by
 intro pins s σ H v u Q I r h;rw[ha];refine wpAny_bind (wpAny_holding (thn (ho pins s σ H _ I h) λov s1=>exJ λx H1 I1 r1 q1=>?_));refine wpAny_bind (wpAny_holding (thn (hi pins s1 σ H1 _ I1 q1) λiv s2=>exJ λy H2 I2 r2 q2=>?_));refine wpAny_bind (wpAny_standAt (wpAny_bind (wpAny_holding (thn (hs pins s2 σ H2 x y v ov iv u _ I2 r1 r2 r q2) λ_ s3 Z=>?_))));obtain⟨H3,I3,q3⟩:=Z;exact wpAny_release ⟨σ,H3,I3,q3⟩
noncomputable def QmN(te:TE)(g:TG):TS:=λD σ H=>te σ H λx H1=>g x σ H1 D.nx
def QzX{tg e:Expr}{te:TE}{g:TG}(he:PE X e te)(hg:PG X tg g)(hs:swapsWithSole [tg] e pos.line X.env=pure false:=by rfl)(hw:swappedStores [tg] e X.env=pure none:=by rfl)
  (h1:(assignEach [tg] X.env).map (·.2)=[assign tg X.env]:=by rfl):PS X (.Assign [tg] e pos) (QmN te g):=by
 intro pins s σ H D I h;refine wpAny_Assign_stores (thn (he pins s σ H _ I h) λv s1 ⟨x,H1,I1,r1,q1⟩=>?_) hs hw;rw[h1];exact thn (hg pins s1 σ H1 x v _ I1 r1 q1) λ_ s2 q=>q
def QhU{i:Nat}{x:Str}{e:Expr}{te:TE}{pos':Pos}(hN:X.N.Nodup)(hi:X.N[i]? =some x)(hx:Loc X.env.scope x)(he:PE X e te)(hs:swapsWith e (some (.Name x pos')) pos.line X.env=pure false:=by rfl)(hf:X.fn x=true∨X.env.scope.names.lookup x=some .local :=by first | exact .inl rfl | exact .inr rfl | assumption):
  PS X (.Assign [.Name x pos'] e pos) (QmN te (Qil i)):=by
 intro pins s σ H D I h;refine wpAny_Assign_Name (thn (he pins s σ H _ I h) λv s1 ⟨y,H1,I1,r1,q1⟩=>?_) hs;exact QeP I1 hN hi hx r1 (λs2 I2=>⟨_,H1,I2,q1⟩) hf
noncomputable def Qzv(i:Nat)(te:TE)(ti:TIp):TS:=λD σ H=>∃x,σ[i]? =some (some x)/\te σ H λy H1=>ti x y H1 λz H2=>D.nx (σ.set i (some z)) H2
def QzI{i:Nat}{x:Str}{e:Expr}{te:TE}{op:Operator}{ti:TIp}{pos':Pos}(hN:X.N.Nodup)(hi:X.N[i]? =some x)(hx:Loc X.env.scope x)(he:PE X e te)(ho:PIp X op ti)(hf:X.fn x=true∨X.env.scope.names.lookup x=some .local :=by first | exact .inl rfl | exact .inr rfl | assumption):
  PS X (.AugAssign (.Name x pos') op e pos) (Qzv i te ti):=by
 intro pins s σ H D I h;obtain⟨v,e1,h⟩:=h;obtain⟨m,hn,hl⟩:=I.loc;have vis:Vis X.env.scope x:=by rcases hx with k | k;exact .inl k;exact .inr (.inl k)
 obtain⟨u,r,l⟩:=hl i x v hi e1 vis;refine wpAny_AugAssign_Name ?_;have go:wpAny (model X.prog X.w) X.A (eval e X.env) (λw s₂=>wpAny (model X.prog X.w) X.A (inplaceOp op u w) (λr s₃=>wpAny (model X.prog X.w) X.A (storeName X.env x r) (λ_=>SP X pins D .next) X.xe s₃) X.xe s₂) X.xe s:=by
  refine thn (he pins s σ H _ I h) λw s1=>exJ λy H1 I1 r1 q1=>?_;refine thn (ho pins s1 σ H1 v y u w _ I1 r r1 q1) λz s2=>exJ λzv H2 I2 r2 q2=>?_;exact QeP I2 hN hi hx r2 (λs3 I3=>⟨_,H2,I3,q2⟩) hf
 rcases l with⟨hk,hm⟩ | ⟨hk,c,hc,hcell⟩
 .exact wpAny_loadName_local I.ok.kind hk hn hm go
 .rcases hk with hk | hk
  .exact wpAny_loadName_cell I.ok.kind hk hc hcell go
  .rcases hx with k | k
   .have:X.env.scope.names.lookup x=some .free:=hk;rw[k]at this;cases this
   .have:X.env.scope.names.lookup x=some .free:=hk;rw[k]at this;cases this
noncomputable def QBk(to ti te:TE)(tget:V->V->Hp->VK->Prop)(tip:TIp)(tset:Qn2):TS:=λD σ H=>to σ H λo H1=>ti σ H1 λi H2=>tget o i H2 λx H3=>te σ H3 λy H4=>tip x y H4 λz H5=>tset o i z H5 λH6=>D.nx σ H6
def QzO(X:Cx)(t:V->V->Hp->VK->Prop):Prop:=
 ∀(pins:List (Addr×Obj)) (s:Shared) (σ:St) (H:Hp) (o i:V) (ov iv:Value) (Q:VK),Inv X pins σ H s->RelV o ov->RelV i iv->t o i H Q→
  wpAny (model X.prog X.w) X.A (getItem ov iv) (EP X pins σ Q) X.xe s
def QwG{o i e:Expr}{to ti te:TE}{tget:V->V->Hp->VK->Prop}{tip:TIp}{tset:Qn2}{op:Operator}{tpos:Pos}(ho:PE X o to)(hi:PE X i ti)(hg:QzO X tget)(he:PE X e te)(hp:PIp X op tip)(hs:Qur X tset)
  (ha:∀ov iv new,augStore i ov iv new=(do holding [new,ov,iv] (setItem ov iv new);release [new,ov,iv] [];pure .next):=by intros;rfl):PS X (.AugAssign (.Subscript o i tpos) op e pos) (QBk to ti te tget tip tset):=by
 intro pins s σ H D I h;refine wpAny_AugAssign_SubscriptAny (thn (ho pins s σ H _ I h) λov s1 ⟨x1,H1,I1,r1,q1⟩=>?_) ha;refine thn (hi pins s1 σ H1 _ I1 q1) λiv s2=>exJ λx2 H2 I2 r2 q2=>?_;refine thn (hg pins s2 σ H2 x1 x2 ov iv _ I2 r1 r2 q2) λold s3=>exJ λx3 H3 I3 r3 q3=>?_;refine thn (he pins s3 σ H3 _ I3 q3) λv s4=>exJ λx4 H4 I4 r4 q4=>?_;refine thn (hp pins s4 σ H4 x3 x4 old v _ I4 r3 r4 q4) λnew s5=>exJ λx5 H5 I5 r5 q5=>?_;exact thn (hs pins s5 σ H5 x1 x2 x5 ov iv new _ I5 r1 r2 r5 q5) λ_ s6 ⟨H6,I6,q6⟩=>⟨σ,H6,I6,q6⟩
end
section
variable {X:Cx}{pos:Pos}
noncomputable def QzL(c:TT)(tb:TS):TS:=λD σ H=>∃W:Nat->St->Hp->Prop,(∃m,W m σ H)/\∀m σ H,W m σ H→
 c σ H λb H1=>if b=true then ∃N:St->Hp->Prop,(∀σ' H',N σ' H'->∃m',m'<m/\W m' σ' H')/\tb {D with nx:=N,ct:=N,bk:=D.nx} σ H1 else D.nx σ H1
def QtP{c:Expr}{body:List Stmt}{tc:TT}{tb:TS}(hp:PassesOwn (model X.prog X.w) X.A X.env X.xe)(hc:PT X c tc)(hb:PSs X body tb):PS X (.While c body [] pos) (QzL tc tb):=by
 intro pins s σ H D I h;obtain⟨W,⟨m0,w0⟩,turn⟩:=h;refine wpAny_While (codeAny_whileLoop (λn s'=>∃σ' H',Inv X pins σ' H' s'/\W n σ' H') ?_ m0 ⟨σ,H,I,w0⟩);rintro n s1 ⟨σ1,H1,I1,w1⟩;refine wpAny_passesOwn hp (thn (hc pins s1 σ1 H1 _ I1 (turn n σ1 H1 w1)) λb s2 Z=>?_);obtain⟨H2,I2,q2⟩:=Z;cases b with
 | true=>
  obtain⟨N,hN,q2⟩:=q2;rw[if_pos rfl];refine wpAny_passesOwn hp (thn (hb pins s2 σ1 H2 _ I2 q2) λf s3 q3=>?_);cases f with
  | next=>
   obtain⟨σ3,H3,I3,n3⟩:=q3;obtain⟨m',hm,w3⟩:=hN σ3 H3 n3;exact⟨m',hm,σ3,H3,I3,w3⟩
  | cont=>
   obtain⟨σ3,H3,I3,n3⟩:=q3;obtain⟨m',hm,w3⟩:=hN σ3 H3 n3;exact⟨m',hm,σ3,H3,I3,w3⟩
  | brk=>exact q3
  | ret v=>exact q3
 | false=>
  rw[if_neg Zac];exact wpAny_execs_nil ⟨σ1,H2,I2,q2⟩
end
structure It where
 go:Nat->Hp->Prop
 yld:Nat->Hp->V->Hp->Prop
 stop:Nat->Hp->Prop
def Qc6(X:Cx)(pins:List (Addr×Obj))(H:Hp)(b:Addr):Prop:=
 H b=none/\b≠X.env.locals/\b∉X.fs/\(b∈X.ex∨X.s₀.heap.objs.size<=b)/\(∀x c,X.env.cells.lookup x=some c->c≠b)/\∀p∈X.pn++pins,p.1≠b
def Inv.Qji{X:Cx}{pins:List (Addr×Obj)}{σ:St}{H H':Hp}{s:Shared}{b:Addr}(I:Inv X pins σ H s)(hb:s.heap.objs.size<=b)(hn:H' b=none):Qc6 X pins H' b:=by
 refine⟨hn,Zbq (Zu I.lt hb),I.QBG hb,.inr (Zw I.sz hb),λx c e z=>?_,λp hp z=>?_⟩
 .obtain⟨v,q⟩:=I.cell x c e;exact absurd (Zu q.lt (by rw[z];exact hb)) (Zaa _)
 .exact absurd (Zu (Zt (I.pin p hp).1) (by rw[z];exact hb)) (Zaa _)
structure Turn (P:Program) (w:World) (K:Fgg) (tg:Expr) (J:It) (fp:LAd) (it:Addr) (tn:Nat->Heap->Prop):Prop where
 mem:it∈fp
 obj:∀i h,tn i h->∀b∈fp,∃o,h.get? b=some o/\∀v,o.data≠ .cell v
 keep:∀i h h',tn i h->(∀b∈fp,∀o,h.get? b=some o->h'.get? b=some o)->tn i h'
 item:∀(X:Cx),X.prog=P->X.w=w->X.K=K->X.calm=true->∀(i:Nat) (pins:List (Addr×Obj)) (s:Shared) (σ:St) (H:Hp) (E:Value->Shared->Prop),Inv X pins σ H s->(∀b∈fp,Qc6 X pins H b)->tn i s.heap->J.go i H→
  wpAny (model P w) X.A (pyNext (.ref it)) (λr s1=>∃u,r=some u∧
   wpAny (model P w) X.A (letOwnedTupleGo tg (.ref it) u) (λ_ s2=>∃x H',Inv X pins σ H' s2/\RelV x u/\J.yld i H x H'/\tn (i+1) s2.heap/\∀b∈fp,H' b=none) E s1) E s
 done:∀(X:Cx),X.prog=P->X.w=w->X.K=K->X.calm=true->∀(i:Nat) (pins:List (Addr×Obj)) (s:Shared) (σ:St) (H:Hp) (E:Value->Shared->Prop),Inv X pins σ H s->(∀b∈fp,Qc6 X pins H b)->tn i s.heap->J.stop i H→
  wpAny (model P w) X.A (pyNext (.ref it)) (λr s1=>r=none/\Inv X pins σ H s1) E s
 self:∀(A:Around) (i:Nat) (s:Shared) (Q:Value->Shared->Prop) (E:Value->Shared->Prop),tn i s.heap->Q (.ref it) s->wpAny (model P w) A (pyIter (.ref it)) Q E s
abbrev TI:=St->Hp->(It->Hp->Prop)->Prop
def PIE(X:Cx)(pins:List (Addr×Obj))(σ:St)(tg:Expr)(R:It->Hp->Prop)(itv:Value)(s2:Shared):Prop:=
 ∃(it:Addr) (fp:LAd) (tn:Nat->Heap->Prop) (J:It) (H':Hp),itv= .ref it/\Inv X pins σ H' s2/\Turn X.prog X.w X.K tg J fp it tn/\tn 0 s2.heap/\(∀b∈fp,Qc6 X pins H' b)/\R J H'
def PI(X:Cx)(tg iter:Expr)(wi:TI):Prop:=
 ∀(pins:List (Addr×Obj)) (s:Shared) (σ:St) (H:Hp) (R:It->Hp->Prop),Inv X pins σ H s->wi σ H R→
  wpAny (model X.prog X.w) X.A (eval iter X.env) (λv s1=>wpAny (model X.prog X.w) X.A (pyIter v) (PIE X pins σ tg R) X.xe s1) X.xe s
def Qmw{M:Model}{A:Around}{E:Value->Shared->Prop}{s:Shared}{tg:Expr}{it:Addr}{u:Value}{o:Obj}{n:String}{vs:Array Value}{Q:Unit->Shared->Prop}(ho:s.heap.get? it=some o)(hc:o.cls= .type n)(hd:o.data= .fields vs)
    (hn:["enumerate","zip","dict_itemiterator","dict_reverseitemiterator","odict_iterator","itertools.zip_longest","itertools.pairwise"].contains n=false) (hQ:Q () s):wpAny M A (letOwnedTupleGo tg (.ref it) u) Q E s:=by
  unfold letOwnedTupleGo
  cases tg<;>first
    | exact wpAny_pure hQ
    | (cases u<;>first
        | exact wpAny_pure hQ
        | (refine wpAny_bind (wpAny_load ho ?_)
           rw[hc,hd];show wpAny M A (if(["enumerate","zip","dict_itemiterator","dict_reverseitemiterator","odict_iterator","itertools.zip_longest","itertools.pairwise"].contains n && vs[0]? == some (rawInt _))=true then _ else _) Q E s;rw[if_neg (by intro h;rw[hn,Bool.false_and]at h;cases h)];exact wpAny_pure hQ))
noncomputable def Itl(K:Fgg)(a:Addr):It:=
 ⟨λi H=>∃xs x,SqL K H a xs/\xs[i]? =some x,λi H x H'=>H'=H/\∀xs,SqL K H a xs->xs[i]? =some x,λi H=>∃xs,SqL K H a xs/\xs.length<=i⟩
noncomputable def Itt(K:Fgg)(a:Addr):It:=
 ⟨λi H=>∃xs x,SqT K H a xs/\xs[i]? =some x,λi H x H'=>H'=H/\∀xs,SqT K H a xs->xs[i]? =some x,λi H=>∃xs,SqT K H a xs/\xs.length<=i⟩
noncomputable def Itr(lo:Int)(n:Nat):It:=⟨λi _=>i<n,λi H x H'=>H'=H/\x= .int (lo+i),λi _=>n<=i⟩
def Qsb{P:Program}{w:World}{K:Fgg}{tg:Expr}(a it:Addr):Turn P w K tg (Itl K a) [it] it (λi h=>h.IsListIter it a i) where
 mem:= ⋯
 obj:=λi h st b hb=>by
  have e:b=it:=by simpa using hb
  subst e;obtain⟨o,e,c,d⟩:=st;exact⟨o,e,λv z=>by rw[d]at z;cases z⟩
 keep:=λi h h' st k=>st.at λo e=>k it ⋯ o e
 item:=by
  intro X hP hw hK hc i pins s σ H E I hf st hg;subst hP hw hK;obtain⟨xs,x,hq,hx⟩:=hg;obtain⟨its,rv,p,hz⟩:=I.list hq;obtain⟨u,hu,ru⟩:=rv.get hx;obtain⟨f0,f1,f2,f3,f4,f5⟩:=hf it ⋯;refine wpAny_pyNext_list_item st p.isList (x:=u) (by simpa using hu) λh' st' sb=>?_;have I1:Inv X pins σ H {s with heap:=h'}:=I.turned (t':=s.toks) (λb o hb e=>(sb.2 b hb).trans e) f0 f1 f3 f4 f5;obtain⟨o,e,c,d⟩:=id st';exact⟨u,rfl,Qmw (s:={s with heap:=h'}) e c d ∅ ⟨x,H,I1,ru,⟨rfl,λys hy=>by rw[I.Qb2 hy hq];exact hx⟩,st',λb hb=>(hf b hb).1⟩⟩
 done:=by
  intro X hP hw hK hc i pins s σ H E I hf st hg;subst hP hw hK;obtain⟨xs,hq,hx⟩:=hg;obtain⟨its,rv,p,hz⟩:=I.list hq;obtain⟨f0,f1,f2,f3,f4,f5⟩:=hf it ⋯;have hl:=rv.length;exact wpAny_pyNext_list_end (I.ok.hd hc) st p.isList (by simp;lia) λh' eb=>⟨rfl,I.turned (t':=s.toks) (λb o hb e=>eb b o hb e) f0 f1 f3 f4 f5⟩
 self:=λ_ _ _ _ _ st h=>wpAny_pyIter_listiter st h
def Qrk{P:Program}{w:World}{K:Fgg}{tg:Expr}(a it:Addr):Turn P w K tg (Itt K a) [it] it (λi h=>h.IsTupleIter it a i) where
 mem:= ⋯
 obj:=λi h st b hb=>by
  have e:b=it:=by simpa using hb
  subst e;obtain⟨o,e,c,d⟩:=st;exact⟨o,e,λv z=>by rw[d]at z;cases z⟩
 keep:=λi h h' st k=>st.at λo e=>k it ⋯ o e
 item:=by
  intro X hP hw hK hc i pins s σ H E I hf st hg;subst hP hw hK;obtain⟨xs,x,hq,hx⟩:=hg;obtain⟨its,rv,p,hz⟩:=I.tuple hq;obtain⟨u,hu,ru⟩:=rv.get hx;obtain⟨f0,f1,f2,f3,f4,f5⟩:=hf it ⋯;refine wpAny_pyNext_tuple_item st (show s.heap.IsTuple a its.toArray from p) (x:=u) (by simpa using hu) λh' st' sb=>?_;have I1:Inv X pins σ H {s with heap:=h'}:=I.turned (t':=s.toks) (λb o hb e=>(sb.2 b hb).trans e) f0 f1 f3 f4 f5;obtain⟨o,e,c,d⟩:=id st';exact⟨u,rfl,Qmw (s:={s with heap:=h'}) e c d ∅ ⟨x,H,I1,ru,⟨rfl,λys hy=>by rw[I.QsX hy hq];exact hx⟩,st',λb hb=>(hf b hb).1⟩⟩
 done:=by
  intro X hP hw hK hc i pins s σ H E I hf st hg;subst hP hw hK;obtain⟨xs,hq,hx⟩:=hg;obtain⟨its,rv,p,hz⟩:=I.tuple hq;obtain⟨f0,f1,f2,f3,f4,f5⟩:=hf it ⋯;have hl:=rv.length;exact wpAny_pyNext_tuple_end (I.ok.hd hc) st (show s.heap.IsTuple a its.toArray from p) (by simp;lia) λh' eb=>⟨rfl,I.turned (t':=s.toks) (λb o hb e=>eb b o hb e) f0 f1 f3 f4 f5⟩
 self:=λ_ _ _ _ _ st h=>wpAny_pyIter_tupleiter st h
def QqY{P:Program}{w:World}{K:Fgg}{tg:Expr}(it:Addr)(lo:Int)(n:Nat):Turn P w K tg (Itr lo n) [it] it (λi h=>IsRangeIter h it (lo+(i:Nat)*1) ((n:Int)-(i:Nat)) 1) where
 mem:= ⋯
 obj:=λi h st b hb=>by
  have e:b=it:=by simpa using hb
  subst e;exact⟨_,st,λv z=>by
   have z':Data.fields _=Data.cell v:=z;cases z'⟩
 keep:=λi h h' st k=>k it ⋯ _ st
 item:=by
  intro X hP hw hK hc i pins s σ H E I hf st hg;subst hP hw hK;obtain⟨f0,f1,f2,f3,f4,f5⟩:=hf it ⋯;have W:=Walks.range (prog:=X.prog) (w:=X.w) (I.ok.hd hc) it lo 1 n;refine W.item i s _ _ hg st λv h' tk hv st' kk=>?_;obtain⟨t,rfl⟩:=hv;have I1:Inv X pins σ H {s with heap:=h',toks:=tk}:=I.turned (λb o hb e=>kk b o (by simpa using hb) e) f0 f1 f3 f4 f5;refine⟨_,rfl,Qmw (s:={s with heap:=h',toks:=tk}) (n:= "range_iterator") st' rfl rfl ∅ ⟨.int (lo+i),H,I1,⟨t,?_⟩,⟨rfl,rfl⟩,st',λb hb=>(hf b hb).1⟩⟩;rw[ZbB]
 done:=by
  intro X hP hw hK hc i pins s σ H E I hf st hg;subst hP hw hK;obtain⟨f0,f1,f2,f3,f4,f5⟩:=hf it ⋯;exact wpAny_pyNext_range_end (I.ok.hd hc) st (by have:n<=i:=hg;lia) λh' eb=>⟨rfl,I.turned (t':=s.toks) (λb o hb e=>eb b o hb e) f0 f1 f3 f4 f5⟩
 self:=λ_ _ _ _ _ st h=>wpAny_pyIter_rangeiter st h
section
variable {X:Cx}{tg:Expr}
def Qng{pins:List (Addr×Obj)}{σ:St}{H:Hp}{s:Shared}{R:It->Hp->Prop}{E:Value->Shared->Prop}{lo hi:Int}{t u v:Tok}{tk:Nat}(I:Inv X pins σ H s)(h1: -(2^62)<=lo)(h2:lo<2^62)(h3: -(2^62)<=hi)(h4:hi<2^62)
  (q:R (Itr lo (hi-lo).toNat) H):wpAny (model X.prog X.w) X.A (pyIter (.ref s.heap.objs.size)) (PIE X pins σ tg R) E {s with heap:=s.heap.push {cls:= .type "range",data:= .fields #[.int lo t,.int hi u,.int 1 v]},toks:=tk}:=by
 refine wpAny_pyIter_range (IsRange.new ..) (small_one h1 h2 h3 h4) ?_;have I1:Inv X pins σ H {s with heap:=s.heap.push {cls:= .type "range",data:= .fields #[.int lo t,.int hi u,.int 1 v]},toks:=tk}:=I.kept λb o e=>Zc _ e
 refine⟨(s.heap.push {cls:= .type "range",data:= .fields #[.int lo t,.int hi u,.int 1 v]}).objs.size,[(s.heap.push {cls:= .type "range",data:= .fields #[.int lo t,.int hi u,.int 1 v]}).objs.size],_,_,H,rfl,
  I1.kept (t':=tk) λb o e=>Zc _ e,QqY _ lo (hi-lo).toNat,?_,λb hb=>?_,q⟩
 .have e1:lo+((0:Nat):Int)*1=lo:= ⋯
  have e2:(((hi-lo).toNat:Nat):Int)-((0:Nat):Int)=Builtin.Range.rangeSize lo hi 1:=by rw[rangeSize_one];split<;>lia
  show IsRangeIter _ _ (lo+((0:Nat):Int)*1) ((((hi-lo).toNat:Nat):Int)-((0:Nat):Int)) 1;rw[e1,e2];exact ZD _ rfl
 .have e:b=(s.heap.push {cls:= .type "range",data:= .fields #[.int lo t,.int hi u,.int 1 v]}).objs.size:=by simpa using hb
  subst e;exact I1.Qji (Zd _) (I1.hok.fresh (Zd _))
noncomputable def QBn(ta:TA):TI:=λσ H R=>ta σ H λvs H1=>∃j:Int,vs=[.int j]/\ -(2^62)<=j/\j<2^62/\R (Itr 0 j.toNat) H1
noncomputable def QAZ(ta:TA):TI:=λσ H R=>ta σ H λvs H1=>∃i j:Int,vs=[.int i,.int j]/\(-(2^62)<=i/\i<2^62/\ -(2^62)<=j/\j<2^62)/\R (Itr i (j-i).toNat) H1
def QrJ{a:Expr}{ta:TA}{p pos:Pos}(hg:Gl X "range")(hm:X.mg "range" =none)(ha:PA X [a] ta)(hs:starEach [a] X.env=[(false,eval a X.env)]:=by rfl):PI X tg (.Call (.Name "range" p) [a] [] pos) (QBn ta):=by
 intro pins s σ H R I h;refine Call_ (QcI I hg hm boot_range (Zaj (thn (ha pos pins s σ H _ I h) λus s1 ⟨vs,H1,I1,r1,q1⟩=>?_) hs rfl));obtain⟨j,e,q1,q2,q⟩:=q1;subst e;cases r1 with
 | cons r rr=>
  cases rr;obtain⟨t,rfl⟩:=r;exact call_range_1 (Qng I1 ⋯ ⋯ q1 q2 (by simpa using q))
def QrH{a b:Expr}{ta:TA}{p pos:Pos}(hg:Gl X "range")(hm:X.mg "range" =none)(ha:PA X [a,b] ta)(hs:starEach [a,b] X.env=[(false,eval a X.env),(false,eval b X.env)]:=by rfl)(hs2:starEach [b] X.env=[(false,eval b X.env)]:=by rfl):
  PI X tg (.Call (.Name "range" p) [a,b] [] pos) (QAZ ta):=by
 intro pins s σ H R I h;refine Call_ (QcI I hg hm boot_range (Zaj (thn (ha pos pins s σ H _ I h) λus s1 ⟨vs,H1,I1,r1,q1⟩=>?_) (by rw[hs,hs2]) (by rw[hs2];rfl)));obtain⟨i,j,e,⟨q1,q2,q3,q4⟩,q⟩:=q1;subst e;cases r1 with
 | cons r rr=>
  cases rr with
  | cons r' rr=>
   cases rr;obtain⟨t,rfl⟩:=r;obtain⟨t',rfl⟩:=r';exact call_range_2 (Qng I1 q1 q2 q3 q4 q)
noncomputable def QBT(wi:TI)(g:TG)(tb:TS):TS:=λD σ H=>wi σ H λJ H1=>∃W:Nat->Nat->St->Hp->Prop,(∃m,W 0 m σ H1)/\∀i m σ H,W i m σ H→
 (J.stop i H/\D.nx σ H)∨(J.go i H/\∃N:St->Hp->Prop,(∀σ' H',N σ' H'->∃m',m'<m/\W (i+1) m' σ' H')/\∀x H',J.yld i H x H'->g x σ H' λσ2 H2=>tb {D with nx:=N,ct:=N,bk:=D.nx} σ2 H2)
noncomputable def QhE(fp:LAd)(h:Heap):List (Addr×Obj):=fp.filterMap λb=>(h.get? b).map λo=>(b,o)
def QgQ{fp:LAd}{h:Heap}{b:Addr}{o:Obj}(hb:b∈fp)(e:h.get? b=some o):(b,o)∈QhE fp h:=Zbh.mpr ⟨b,hb,by rw[e];rfl⟩
def QrG{fp:LAd}{h:Heap}{p:Addr×Obj}(hp:p∈QhE fp h):p.1∈fp/\h.get? p.1=some p.2:=by
 obtain⟨b,hb,e⟩:=Zbh.mp hp;cases q:h.get? b with
 | none=>rw[q]at e;cases e
 | some o=>
  rw[q]at e;have e':(b,o)=p:=Option.some.inj e;subst e';exact⟨hb,q⟩
def Inv.pinned{pins:List (Addr×Obj)}{σ:St}{H:Hp}{s:Shared}{fp:LAd}(I:Inv X pins σ H s)(hf:∀b∈fp,Qc6 X pins H b)(ho:∀b∈fp,∃o,s.heap.get? b=some o/\∀v,o.data≠ .cell v):Inv X (pins++QhE fp s.heap) σ H s:=
 I.Qp7 λp hp=>(Zr.mp hp).elim (λz=>I.pin p (Zf _ z)) λz=>by
  obtain⟨hb,e⟩:=QrG z;obtain⟨f0,f1,f2,_⟩:=hf p.1 hb;obtain⟨o,e',d⟩:=ho p.1 hb;rw[e]at e';cases e';exact⟨e,f0,f1,f2,d⟩
def Inv.Qgw{pins pl:List (Addr×Obj)}{σ:St}{H:Hp}{s:Shared}(I:Inv X (pins++pl) σ H s):Inv X pins σ H s:=I.Qp7 λp hp=>I.pin p (Zf _ (Zg _ hp))
def Qyu{iter:Expr}{body:List Stmt}{wi:TI}{g:TG}{tb:TS}{pos:Pos}(hp:PassesOwn (model X.prog X.w) X.A X.env X.xe)(hc:X.calm=true)(hi:PI X tg iter wi)(hg:PG X tg g)(hb:PSs X body tb)
  (hs:∀x,foldedSetIterable iter X.env x=pure x:=by intro _;rfl):PS X (.For tg iter body [] pos) (QBT wi g tb):=by
 intro pins s σ H D I h;refine wpAny_For (thn (hi pins s σ H _ I h) λv s1 h1=>thn h1 λitv s2 h2=>?_) hs;obtain⟨it,fp,tn,J,H2,e,I2,T,st2,f2,W,⟨m0,w0⟩,turn⟩:=h2;subst e;have stat:∀{H':Hp},(∀b∈fp,H' b=none)->∀b∈fp,Qc6 X pins H' b:=λhn b hb=>⟨hn b hb,(f2 b hb).2⟩;refine codeAny_forLoop_any (λn s'=>∃i σ' H',Inv X pins σ' H' s'/\tn i s'.heap/\(∀b∈fp,H' b=none)/\W i n σ' H') ?_ m0 ⟨0,σ,H2,I2,st2,λb hb=>(f2 b hb).1,w0⟩;rintro n s3 ⟨i,σ3,H3,I3,st3,fr3,w3⟩;rcases turn i n σ3 H3 w3 with⟨stop,qn⟩ | ⟨go,N,hN,step⟩
 .refine wpAny_passesOwn hp (thn (T.done X rfl rfl rfl hc i pins s3 σ3 H3 X.xe I3 (stat fr3) st3 stop) λr s4 Z=>?_);obtain⟨hr,I4⟩:=Z;subst hr;exact wpAny_execs_nil ⟨σ3,H3,I4,qn⟩
 .refine wpAny_passesOwn hp (thn (T.item X rfl rfl rfl hc i pins s3 σ3 H3 X.xe I3 (stat fr3) st3 go) λr s4 Z=>?_);obtain⟨u,hr,h4⟩:=Z;subst hr;refine wpAny_passesOwn hp (thn h4 λ_ s5 Z=>?_);obtain⟨x,H5,I5,r5,y5,st5,fr5⟩:=Z;have I5':=I5.pinned (stat fr5) (T.obj _ _ st5);refine wpAny_passesOwn hp (thn (hg _ s5 σ3 H5 x u _ I5' r5 (step x H5 y5)) λ_ s6 Z=>?_);obtain⟨σ6,H6,I6,q6⟩:=Z;refine wpAny_passesOwn hp (thn (hb _ s6 σ6 H6 _ I6 q6) λf s7 q7=>?_);have again:∀{σ7:St}{H7:Hp},Inv X (pins++QhE fp s5.heap) σ7 H7 s7->N σ7 H7->∃m,m<n/\∃i σ' H',Inv X pins σ' H' s7/\tn i s7.heap/\(∀b∈fp,H' b=none)/\W i m σ' H':=λ{σ7 H7} I7 n7=>by
   obtain⟨m',hm,w7⟩:=hN σ7 H7 n7;refine⟨m',hm,i+1,σ7,H7,I7.Qgw,T.keep _ _ _ st5 λb hb o e=>(I7.pin (b,o) (Zf _ (Zf _ (QgQ hb e)))).1,λb hb=>?_,w7⟩;obtain⟨o,e,d⟩:=T.obj _ _ st5 b hb;exact(I7.pin (b,o) (Zf _ (Zf _ (QgQ hb e)))).2.1
  cases f with
  | next=>obtain⟨σ7,H7,I7,n7⟩:=q7;exact again I7 n7
  | cont=>obtain⟨σ7,H7,I7,n7⟩:=q7;exact again I7 n7
  | brk=>obtain⟨σ7,H7,I7,q7⟩:=q7;exact⟨σ7,H7,I7.Qgw,q7⟩
  | ret v=>obtain⟨x7,σ7,H7,I7,r7,q7⟩:=q7;exact⟨x7,σ7,H7,I7.Qgw,r7,q7⟩
end
abbrev R2:=V->V->Hp->VK->Prop
def OpR(X:Cx)(f:Value->Value->Sem Value)(r:R2):Prop:=
 ∀(pins:List (Addr×Obj)) (s:Shared) (σ:St) (H:Hp) (x y:V) (v u:Value) (Q:VK),Inv X pins σ H s->RelV x v->RelV y u->r x y H Q→
  wpAny (model X.prog X.w) X.A (f v u) (EP X pins σ Q) X.xe s
def UnR(X:Cx)(f:Value->Sem Value)(r:V->Hp->VK->Prop):Prop:=
 ∀(pins:List (Addr×Obj)) (s:Shared) (σ:St) (H:Hp) (x:V) (v:Value) (Q:VK),Inv X pins σ H s->RelV x v->r x H Q→
  wpAny (model X.prog X.w) X.A (f v) (EP X pins σ Q) X.xe s
def Qb6(X:Cx)(f:Value)(r:List V->Hp->VK->Prop):Prop:=
 ∀(pins:List (Addr×Obj)) (s:Shared) (σ:St) (H:Hp) (xs:List V) (us:List Value) (Q:VK),Inv X pins σ H s->Qz xs us->r xs H Q→
  wpAny (model X.prog X.w) X.A (call f us) (EP X pins σ Q) X.xe s
def QBU(X:Cx)(r:V->Hp->(Bool->Hp->Prop)->Prop):Prop:=
 ∀(pins:List (Addr×Obj)) (s:Shared) (σ:St) (H:Hp) (x:V) (v:Value) (Q:Bool->Hp->Prop),Inv X pins σ H s->RelV x v->r x H Q→
  wpAny (model X.prog X.w) X.A (truthy v) (TP X pins σ Q) X.xe s
noncomputable def tOp(r:R2)(ta tb:TE):TE:=λσ H Q=>ta σ H λx H1=>tb σ H1 λy H2=>r x y H2 Q
noncomputable def tUn(r:V->Hp->VK->Prop)(ta:TE):TE:=λσ H Q=>ta σ H λx H1=>r x H1 Q
noncomputable def rI(C:Int->Int->Prop)(g:Int->Int->V):R2:=λx y H Q=>∃i j,x= .int i/\y= .int j/\C i j/\Q (g i j) H
noncomputable def rI0(g:Int->Int->V):R2:=λx y H Q=>∃i j,x= .int i/\y= .int j/\Q (g i j) H
def rU(g:Int->V):V->Hp->VK->Prop:=λx H Q=>∃i,x= .int i/\Q (g i) H
section
variable {X:Cx}{a b c:Expr}{ta tb tc:TE}{pos:Pos}
def QuJ(ha:PE X a ta)(hb:PE X b tb){pins:List (Addr×Obj)}{s:Shared}{σ:St}{H:Hp}{R:V->V->Hp->Prop}(I:Inv X pins σ H s)
  (h:ta σ H λx H1=>tb σ H1 λy H2=>R x y H2) {Q:Value->Shared->Prop}{f:Value->Value->Sem Value}
  (hf:∀v u s2 x y H2,Inv X pins σ H2 s2->RelV x v->RelV y u->R x y H2->wpAny (model X.prog X.w) X.A (f v u) Q X.xe s2):
  wpAny (model X.prog X.w) X.A (eval a X.env) (λv s₁=>wpAny (model X.prog X.w) X.A (eval b X.env) (λu s₂=>wpAny (model X.prog X.w) X.A (f v u) Q X.xe s₂) X.xe s₁) X.xe s:=by
 refine thn (ha pins s σ H _ I h) λv s1=>exJ λx H1 I1 r1 q1=>?_;refine thn (hb pins s1 σ H1 _ I1 q1) λu s2=>exJ λy H2 I2 r2 q2=>?_;exact hf v u s2 x y H2 I2 r1 r2 q2
def Qq1{op:Operator}{r:R2}(ho:OpR X (binaryOp op) r)(ha:PE X a ta)(hb:PE X b tb):PE X (.BinOp a op b pos) (tOp r ta tb):=by
 intro pins s σ H Q I h;exact wpAny_BinOp (QuJ ha hb I h λv u s2 x y H2 I2 rx ry q=>ho pins s2 σ H2 x y v u Q I2 rx ry q)
def QAJ{op:UnaryOp}{r:V->Hp->VK->Prop}(ho:UnR X (unaryOp op) r)(ha:PE X a ta):PE X (.UnaryOp op a pos) (tUn r ta):=by
 intro pins s σ H Q I h;exact UnaryOp_ (thn (ha pins s σ H _ I h) λv s1 ⟨x,H1,I1,r1,q1⟩=>ho pins s1 σ H1 x v Q I1 r1 q1)
def QyD{op:Operator}{r:R2}(ho:OpR X (inplaceOp op) r){pins:List (Addr×Obj)}{s:Shared}{σ:St}{H:Hp}{x y:V}{v u:Value}{Q:VK}(I:Inv X pins σ H s)
  (rx:RelV x v) (ry:RelV y u) (q:r x y H Q):wpAny (model X.prog X.w) X.A (inplaceOp op v u) (EP X pins σ Q) X.xe s:=ho pins s σ H x y v u Q I rx ry q
def opI{f:Value->Value->Sem Value}{C:Int->Int->Prop}{g:Int->Int->Int}
  (rule:∀(i j:Int) (t u:Tok) (s:Shared) (Q:Value->Shared->Prop) (E:Value->Shared->Prop),C i j->Q (.int (g i j) s.toks) {s with toks:=s.toks+1}->wpAny (model X.prog X.w) X.A (f (.int i t) (.int j u)) Q E s):
  OpR X f (rI C λi j=> .int (g i j)):=by
 intro pins s σ H x y v u Q I rx ry h;obtain⟨i,j,rfl,rfl,hc,q⟩:=h;obtain⟨t,rfl⟩:=rx;obtain⟨t',rfl⟩:=ry;exact rule i j t t' s _ _ hc ⟨.int (g i j),H,I.tok _,⟨_,rfl⟩,q⟩
def Qre{f:Value->Value->Sem Value}{g:Int->Int->Int}
  (rule:∀(i j:Int) (t u:Tok) (s:Shared) (Q:Value->Shared->Prop) (E:Value->Shared->Prop),Q (.int (g i j) s.toks) {s with toks:=s.toks+1}->wpAny (model X.prog X.w) X.A (f (.int i t) (.int j u)) Q E s):
  OpR X f (rI0 λi j=> .int (g i j)):=by
 intro pins s σ H x y v u Q I rx ry h;obtain⟨i,j,rfl,rfl,q⟩:=h;obtain⟨t,rfl⟩:=rx;obtain⟨t',rfl⟩:=ry;exact rule i j t t' s _ _ ⟨.int (g i j),H,I.tok _,⟨_,rfl⟩,q⟩
def Qrg{f:Value->Value->Sem Value}{g:Int->Int->Bool}
  (rule:∀(i j:Int) (t u:Tok) (s:Shared) (Q:Value->Shared->Prop) (E:Value->Shared->Prop),Q (.bool (g i j)) s->wpAny (model X.prog X.w) X.A (f (.int i t) (.int j u)) Q E s):
  OpR X f (rI0 λi j=> .bl (g i j)):=by
 intro pins s σ H x y v u Q I rx ry h;obtain⟨i,j,rfl,rfl,q⟩:=h;obtain⟨t,rfl⟩:=rx;obtain⟨t',rfl⟩:=ry;exact rule i j t t' s _ _ ⟨.bl (g i j),H,I,rfl,q⟩
def QqU(k:Nat):(0:Int)<=2^k:=by
 rw[two_pow_cast];exact Int.natCast_nonneg _
def Qzd:OpR X (binaryOp .Add) (rI0 λi j=> .int (i+j)):=Qre λ_ _ _ _ _ _ _ q=>add_int q
def Qy7:OpR X (binaryOp .Sub) (rI0 λi j=> .int (i-j)):=Qre λ_ _ _ _ _ _ _ q=>sub_int q
def QyY:OpR X (binaryOp .RShift) (rI (λ_ j=>0<=j) λi j=> .int (i / 2^j.toNat)):=opI λi j _ _ _ _ _ hc q=>
 rshift_int hc (by rw[ZbZ i (QqU _)];exact q)
def Qxg:OpR X (inplaceOp .Add) (rI0 λi j=> .int (i+j)):=Qre λ_ _ _ _ _ _ _ q=>iadd_int q
def Qw2:OpR X (inplaceOp .Sub) (rI0 λi j=> .int (i-j)):=Qre λ_ _ _ _ _ _ _ q=>isub_int q
def unI{f:Value->Sem Value}{g:Int->Int}
  (rule:∀(i:Int) (t:Tok) (s:Shared) (Q:Value->Shared->Prop) (E:Value->Shared->Prop),Q (.int (g i) s.toks) {s with toks:=s.toks+1}->wpAny (model X.prog X.w) X.A (f (.int i t)) Q E s):
  UnR X f (rU λi=> .int (g i)):=by
 intro pins s σ H x v Q I rx h;obtain⟨i,rfl,q⟩:=h;obtain⟨t,rfl⟩:=rx;exact rule i t s _ _ ⟨.int (g i),H,I.tok _,⟨_,rfl⟩,q⟩
def Qz0:UnR X (unaryOp .USub) (rU λi=> .int (-i)):=unI λ_ _ _ _ _ q=>neg_int q
end
section
variable {X:Cx}{a b c:Expr}{ta tb tc:TE}{pos:Pos}
def QBt:OpR X (compareOp .Lt) (rI0 λi j=> .bl (decide (i<j))):=Qrg λ_ _ _ _ _ _ _ q=>lt_int q
def QBs:OpR X (compareOp .LtE) (rI0 λi j=> .bl (decide (i<=j))):=Qrg λ_ _ _ _ _ _ _ q=>le_int q
def QAx:OpR X (compareOp .Gt) (rI0 λi j=> .bl (decide (j<i))):=Qrg λ_ _ _ _ _ _ _ q=>gt_int q
def QAv:OpR X (compareOp .GtE) (rI0 λi j=> .bl (decide (j<=i))):=Qrg λ_ _ _ _ _ _ _ q=>ge_int q
def OpR.or{f:Value->Value->Sem Value}{r r':R2}(h:OpR X f r)(h':OpR X f r'):OpR X f (λx y H Q=>r x y H Q∨r' x y H Q):=by
 intro pins s σ H x y v u Q I rx ry q;rcases q with q | q
 .exact h pins s σ H x y v u Q I rx ry q
 .exact h' pins s σ H x y v u Q I rx ry q
def Qxu{op:CmpOp}{r:R2}(ho:OpR X (compareOp op) r)(ha:PE X a ta)(hb:PE X b tb)(hm:behindInMarks op b=false):PE X (.Compare a [op] [b] pos) (tOp r ta tb):=by
 intro pins s σ H Q I h;exact wpAny_Compare1 (QuJ ha hb I h λv u s2 x y H2 I2 rx ry q=>ho pins s2 σ H2 x y v u Q I2 rx ry q) hm
noncomputable def QAO(t:TE):TT:=λσ H Q=>t σ H λx H'=>∃k,x= .bl k/\Q k H'
def Qwc{op:CmpOp}{r:R2}(ho:OpR X (compareOp op) r)(ha:PE X a ta)(hb:PE X b tb)(hm:behindInMarks op b=false):PT X (.Compare a [op] [b] pos) (QAO (tOp r ta tb)):=by
 intro pins s σ H Q I h;refine wpAny_isTrue_Compare1 (thn (ha pins s σ H _ I h) λv s1 ⟨x,H1,I1,r1,q1⟩=>thn (hb pins s1 σ H1 _ I1 q1) λu s2 ⟨y,H2,I2,r2,q2⟩=>
  thn (ho pins s2 σ H2 x y v u _ I2 r1 r2 q2) λc s3 ⟨z,H3,I3,r3,k,e,q3⟩=>?_) hm
 subst e;cases r3;exact wpAny_truthy_bool ⟨H3,I3,q3⟩
def QtN(K:Fgg)(x:V)(H:Hp)(k:Bool):Prop:=
 match x with
 | .non=>k=false
 | .bl b=>k=b
 | .int i=>k=(i != 0)
 | .str y=>y.length<=sizeLine/\k=((y.length:Int) != 0)
 | .byt y=>y.size<=sizeLine/\k=((y.size:Int) != 0)
 | .ref p=>(∃xs,SqL K H p xs/\k= !xs.isEmpty)∨(∃xs,SqT K H p xs/\k= !xs.isEmpty)∨∃kvs,H p=some (.dK kvs)/\k= !kvs.isEmpty
 | _=>False
def Qqe{κ:Type}{kvs:List (κ×V)}{vs:List (κ×Value)}(r:KV kvs vs):(!vs.isEmpty)= !kvs.isEmpty:=by
 cases r<;>rfl
def QjM{xs:List V}{its:List Value}(r:Qz xs its):(!its.toArray.isEmpty)= !xs.isEmpty:=by
 cases r<;>simp
def Qgk:(sizeLine:Nat)<2^63:=by rw[sizeLine_eq];decide
def QkI:QBU X (λx H Q=>∃k,QtN X.K x H k/\Q k H):=by
 intro pins s σ H x v Q I rx h;obtain⟨k,e,q⟩:=h;have hl:=Qgk;have hs:sizeLine=16777216:=sizeLine_eq;cases x with
 | non=>
  cases rx;have e':k=false:=e;subst e';exact truthy_none ⟨H,I,q⟩
 | bl b=>
  cases rx;have e':k=b:=e;subst e';exact wpAny_truthy_bool ⟨H,I,q⟩
 | int i=>
  obtain⟨t,rfl⟩:=rx;have e':k=(i != 0):=e;subst e';exact PySem.P.truthy_int ⟨H,I,q⟩
 | str y=>
  obtain⟨t,rfl⟩:=rx;obtain⟨hy,e'⟩:y.length<=sizeLine/\k=((y.length:Int) != 0):=e;subst e';exact PySem.P.truthy_str ⋯ ⟨H,I.tok _,q⟩
 | byt y=>
  obtain⟨t,rfl⟩:=rx;obtain⟨hy,e'⟩:y.size<=sizeLine/\k=((y.size:Int) != 0):=e;subst e';exact PySem.W.truthy_bytes ⋯ ⟨H,I.tok _,q⟩
 | ref p=>
  cases rx;have e':(∃xs,SqL X.K H p xs/\k= !xs.isEmpty)∨(∃xs,SqT X.K H p xs/\k= !xs.isEmpty)∨∃kvs,H p=some (.dK kvs)/\k= !kvs.isEmpty:=e;rcases e' with⟨xs,hx,e'⟩ | ⟨xs,hx,e'⟩ | ⟨kvs,hx,e'⟩
  .subst e';obtain⟨its,r,pl,hz⟩:=I.list hx;have hlen:=r.length;exact wpAny_truthy_list pl.isList (by simp only[Zy];lia) ⟨H,I.tok _,by rw[QjM r];exact q⟩
  .subst e';obtain⟨its,r,pl,hz⟩:=I.tuple hx;have hlen:=r.length;exact truthy_tuple pl (by simp only[Zy];lia) ⟨H,I.tok _,by rw[QjM r];exact q⟩
  .subst e';obtain⟨hz,hS,vs,r,m⟩:kvs.length<=sizeLine/\(p == sysModules)=false/\∃vs,KV kvs vs/\s.heap.DictOf (QaE X.prog X.w) p vs:=I.hok p _ hx;have hlen:kvs.length=vs.length:=ZbM r;exact wpAny_truthy_dict hS m ⋯ ⟨H,I.tok _,by rw[Qqe r];exact q⟩
 | _=>exact(show False from e).elim
def Qt1(ha:PE X a ta)(he:∀whole,isTrue a X.env whole=(do let v ← whole;standAt a.pos;holding [v] (truthy v))):
  PT X a (λσ H Q=>ta σ H λx H'=>∃k,QtN X.K x H' k/\Q k H'):=by
 intro pins s σ H Q I h;exact isTrue_plain (thn (ha pins s σ H _ I h) λv s1 ⟨x,H1,I1,r1,q1⟩=>QkI pins s1 σ H1 x v Q I1 r1 q1) (he _)
def vals1{x:V}{us:List Value}(r:Qz [x] us):∃u,us=[u]/\RelV x u:=by
 cases r with
 | cons r1 r2=>cases r2;exact⟨_,rfl,r1⟩
def vals2{x y:V}{us:List Value}(r:Qz [x,y] us):∃u w',us=[u,w']/\RelV x u/\RelV y w':=by
 cases r with
 | cons r1 r2=>
  cases r2 with
  | cons r3 r4=>cases r4;exact⟨_,_,rfl,r1,r3⟩
def QtR:Qb6 X (.builtin "abs") (λxs H Q=>∃i,xs=[.int i]/\Q (.int (if i<0 then-i else i)) H):=by
 intro pins s σ H xs us Q I r h;obtain⟨i,rfl,q⟩:=h;obtain⟨u,rfl,t,rfl⟩:=vals1 r;exact call_abs_int λu tk=>⟨.int (if i<0 then-i else i),H,I.tok _,⟨_,rfl⟩,q⟩
def Qtv(hc:X.calm=true):Qb6 X (.builtin "max") (λxs H Q=>∃i j,xs=[.int i,.int j]/\Q (.int (if j>i then j else i)) H):=by
 intro pins s σ H xs us Q I r h;obtain⟨i,j,rfl,q⟩:=h;obtain⟨u,w',rfl,⟨t,rfl⟩,⟨t',rfl⟩⟩:=vals2 r;refine max_two_ints (I.ok.hd hc) λh' tk k=>⟨_,H,I.kept k,?_,q⟩;by_cases hj:j>i
 .rw[if_pos hj,if_pos hj];exact⟨_,rfl⟩
 .rw[if_neg hj,if_neg hj];exact⟨_,rfl⟩
def QrW(hc:X.calm=true):Qb6 X (.builtin "min") (λxs H Q=>∃i j,xs=[.int i,.int j]/\Q (.int (if j<i then j else i)) H):=by
 intro pins s σ H xs us Q I r h;obtain⟨i,j,rfl,q⟩:=h;obtain⟨u,w',rfl,⟨t,rfl⟩,⟨t',rfl⟩⟩:=vals2 r;refine min_two_ints (I.ok.hd hc) λh' tk k=>⟨_,H,I.kept k,?_,q⟩;by_cases hj:j<i
 .rw[if_pos hj,if_pos hj];exact⟨_,rfl⟩
 .rw[if_neg hj,if_neg hj];exact⟨_,rfl⟩
end
structure QCx (h:Heap) (x dx C:Addr) (mA:Str->Option Value):Prop where
 obj:h.get? x=some (PySem.W.instObj C dx)
 ns:h.Ns1 dx mA
 ne:dx≠x
section
variable {prog:Program}{w:World}{A:Around}{E:Value->Shared->Prop}{s:Shared}{K:Fgg}{x dx C f:Addr}{mA:Str->Option Value}{name:Str}{v:Value}
end
section
variable {P:Program}{w:World}{H H':Hp}{h h':Heap}{a C dx:Addr}{fs fs':List (Str×V)}
end
structure Cls (K:Fgg) (C:Addr):Prop where
 pg:PySem.W.plainGet K C Str.empty=true
 hd:PySem.W.hasDictIn K C=true
 po:PySem.W.plainOver K C=true
 sa:PySem.W.findIn K (.ref C) "__setattr__" =some (some (.builtin "object.__setattr__"))
structure Con (K:Fgg) (C:Addr) (f:Str) (v:V) (u:Value):Prop where
 at_:PySem.W.findIn K (.ref C) f=some (some u)
 rel:RelV v u
 get:PySem.W.specialIn K u "__get__" =some none
 cp:PySem.W.copiedNames.contains f=false
structure QCy (K:Fgg) (C:Addr) (m:Str) (f:Addr):Prop where
 at_:PySem.W.findIn K (.ref C) m=some (some (.ref f))
 fn:PySem.W.isFn K (.ref f)=true
 kp:PySem.W.keepIn K (.ref f)=true
section
variable {X:Cx}{pins:List (Addr×Obj)}{σ:St}{H:Hp}{s:Shared}{a C dx:Addr}{fs:List (Str×V)}{f:Str}{v:V}{A:Around}{E:Value->Shared->Prop}
end
section
variable {X:Cx}{o e value:Expr}{f:Str}{pos pos' tpos:Pos}{ta tv:TE}
end
section
variable {X:Cx}{pins:List (Addr×Obj)}{σ:St}{H:Hp}{s:Shared}{A:Around}{E:Value->Shared->Prop}{Q:Value->Shared->Prop}{c:Value}{b:Bool}
end
structure QaQ (k:Nat) (A:Around):Prop where
 hd:A.handled=none
 dp:A.depth+3*k+5<recursionLimit
 un:A.units+16*k+200<cLine
def QaQ.mono{j k:Nat}{A:Around}(r:QaQ k A)(h:j<=k):QaQ j A:=⟨r.hd,by have:=r.dp;lia,by have:=r.un;lia⟩
def QaQ.deeper{k:Nat}{A:Around}(r:QaQ (k+1) A)(env:Env):QaQ k (A.deeper env):=
 ⟨r.hd,by have:=r.dp;show A.depth+1+3*k+5<_;lia,by have:=r.un;show A.units+3+16*k+200<_;lia⟩
def QaQ.depth{k:Nat}{A:Around}(r:QaQ k A):A.depth<recursionLimit:=by have:=r.dp;lia
def QaQ.units{k:Nat}{A:Around}(r:QaQ k A):A.units+64<cLine:=by have:=r.un;lia
noncomputable def Qrf:TA:=λ_ H Q=>Q [] H
noncomputable def QqL(ta:TE)(tr:TA):TA:=λσ H Q=>ta σ H λx H1=>tr σ H1 λxs H2=>Q (x::xs) H2
section
variable {X:Cx}{e:Expr}{es:List Expr}{te:TE}{t:TA}{pos:Pos}
def QcM:PA X [] Qrf:=λ_ _ _ _ H Q I h=>Calls.spliced_nil ⟨[],H,I,.nil,h⟩
def Qax(ha:PE X e te)(hr:PA X es t)(hs:starEach (e::es) X.env=(false,eval e X.env)::starEach es X.env:=by rfl):PA X (e::es) (QqL te t):=by
 intro pos pins s σ H Q I h;rw[hs];show wpAny _ _ (spliced ((false,eval e X.env)::backTo pos (starEach es X.env))) _ _ s;refine Calls.spliced_cons (thn (ha pins s σ H _ I h) λu s1=>exJ λx H1 I1 r1 q1=>?_);exact thn (hr pos pins s1 σ H1 _ I1 q1) λus s2 ⟨xs,H2,I2,r2,q2⟩=>⟨x::xs,H2,I2,.cons r1 r2,q2⟩
noncomputable def QCg(t:TA):TE:=λσ H Q=>t σ H λxs H1=>xs.length<=sizeLine/\∀p,H1 p=none->Q (.ref p) (upd H1 p (.tup xs))
noncomputable def QB8(t:TA):TE:=λσ H Q=>t σ H λxs H1=>xs.length<=sizeLine/\∀p,H1 p=none->Q (.ref p) (upd H1 p (.lst xs))
def QzC{x1}(h:PA X es t):PE X (.Tuple es x1 pos) (QCg t):=by
 intro pins s σ H Q I hq;refine wpAny_Tuple_spliced (thn (h pos pins s σ H _ I hq) λus s1 ⟨xs,H1,I1,r,z,q⟩=>⟨by rw[← r.length];exact z,?_⟩);have hf:H1 s1.heap.objs.size=none:=I1.hok.fresh (Zd _);refine⟨.ref s1.heap.objs.size,upd H1 s1.heap.objs.size (.tup xs),I1.laid (t':=s1.toks) (λb u e=>Zc _ e) (Zd _) ?_,rfl,q _ hf⟩;exact⟨z,us,r,⟨_,ZD _ rfl,rfl,_,rfl⟩⟩
def QzV(h:PA X es t):PE X (.List es pos) (QB8 t):=by
 intro pins s σ H Q I hq;refine wpAny_List_spliced (thn (h pos pins s σ H _ I hq) λus s1 ⟨xs,H1,I1,r,z,q⟩=>⟨by rw[← r.length];exact z,?_⟩);have hf:H1 s1.heap.objs.size=none:=I1.hok.fresh (Zd _);refine⟨.ref s1.heap.objs.size,upd H1 s1.heap.objs.size (.lst xs),I1.laid (t':=s1.toks) (λb u e=>Zc _ e) (Zd _) ?_,rfl,q _ hf⟩;exact⟨z,us,0,r,ZD _ rfl⟩
end
abbrev Sp:=List V->Hp->VK->XK->Prop
abbrev CXT:=List Env->Hp->Shared->XK->Value->Shared->Prop
structure Qqm (P:Program) (w:World) (K:Fgg) (mg:Str->Option Value) (base:Heap) (A:Around) (outer:List Env) (s:Shared) (H:Hp):Prop where
 frames:A.frames=some outer
 mod:Mod K mg base
 bs:∀b o,base.get? b=some o->s.heap.get? b=some o/\H b=none
 bsz:base.objs.size<=s.heap.objs.size
 Qda:s.heap.FunFrames base outer
 frf:∀b∈frs outer,H b=none
 hok:HOk P w H s.heap
 bare:AllBare s.gens
def CE(outer:List Env)(P:Program)(w:World)(H:Hp)(s:Shared)(Q:VK)(u:Value)(s':Shared):Prop:=
 ∃v H',s'.os=s.os/\AllBare s'.gens/\Un (frs outer) [] H H' s.heap s'.heap/\HOk P w H' s'.heap/\RelV v u/\Q v H'
def CR(CX:CXT)(outer:List Env)(P:Program)(w:World)(H:Hp)(s:Shared)(Q:VK)(E:XK)(r:Result)(s':Shared):Prop:=
 match r with
 | .ok (.ret u)=>CE outer P w H s Q u s'
 | .ok _=>False
 | .error e=>CX outer H s E e s'
structure QbL (P:Program) (w:World) (K:Fgg) (mg:Str->Option Value) (base:Heap) (CX:CXT) (k:Nat) (f:Addr) (fd:FuncData) (ps:List Str) (sp:Sp):Prop where
 len:∀vs H Q E,sp vs H Q E->vs.length=ps.length
 run:∀(A:Around) (outer:List Env) (s:Shared) (H:Hp) (args:Args) (us:List Value) (vs:List V) (Q:VK) (E:XK),QaQ k A->Qqm P w K mg base A outer s H->BindsTo s fd args (ps.zip us)->Qz vs us->sp vs H Q E→
  codeAny (model P w) A (.call (.ref f) args) (CR CX outer P w H s Q E) s
def QbL.mono{P:Program}{w:World}{K:Fgg}{mg:Str->Option Value}{base:Heap}{CX:CXT}{j k:Nat}{f:Addr}{fd:FuncData}{ps:List Str}{sp:Sp}(F:QbL P w K mg base CX j f fd ps sp)(h:j<=k):
  QbL P w K mg base CX k f fd ps sp:=⟨F.len,λA outer s H args us vs Q E hr=>F.run A outer s H args us vs Q E (hr.mono h)⟩
section
variable {X:Cx}{pins:List (Addr×Obj)}{σ:St}{H:Hp}{s s':Shared}
def Inv.QzB(I:Inv X pins σ H s):Qqm X.prog X.w X.K X.mg X.base X.A X.stack s H:=
 ⟨I.ok.frames,I.ok.mod,I.bs,Zw I.ok.bsz I.sz,I.stack,I.Qly,I.hok,I.bare⟩
def Inv.after{Q:VK}{u:Value}(I:Inv X pins σ H s)(h:CE X.stack X.prog X.w H s Q u s'):EP X pins σ Q u s':=by
 obtain⟨v,H',os,bare,un,hok,r,q⟩:=h;obtain⟨hh,g,d,t,os'⟩:=s';obtain rfl:os'=s.os:=os;exact⟨v,H',I.call (h':=hh) (g':=g) (d':=d) (t':=t) (ch:=[]) un hok bare (λb z=>absurd z ⋯),r,q⟩
end
noncomputable def QqA(sp:Sp)(dvs:List V)(E:XK)(t:TA):TE:=λσ H Q=>t σ H λvs H1=>sp (vs++dvs) H1 Q E
def Binds(K:Fgg)(fd:FuncData)(ps:List Str)(ds:List Value):Prop:=
 ∀(s:Shared) (us:List Value),K.In s.heap->(us++ds).length=ps.length->BindsTo s fd ⟨us,[]⟩ (ps.zip (us++ds))
def Binds.all{K:Fgg}{fd:FuncData}{ps:List Str}(h:∀us:List Value,us.length=ps.length->bindArgs fd ⟨us,[]⟩=pure (ps.zip us)):Binds K fd ps []:=λs us _ hl=>by
 rw[Zas]at hl ⊢;exact .of_eq (h us hl)
def Qj2(CX:CXT)(X:Cx)(E:XK):Prop:=∀(pins:List (Addr×Obj)) (σ:St) (H:Hp) (s:Shared) (e:Value) (s':Shared),Inv X pins σ H s->CX X.stack H s E e s'->X.xe e s'
section
variable {X:Cx}{CX:CXT}{k:Nat}{f C:Addr}{fd:FuncData}{ps:List Str}{sp:Sp}{dvs:List V}{ds:List Value}{E:XK}{x m:Str}{p pos apos:Pos}{e o:Expr}{es:List Expr}{ta:TE}{t:TA}
def Qsp{pins:List (Addr×Obj)}{σ:St}{H:Hp}{s:Shared}{Q:VK}{us:List Value}{vs:List V}(F:QbL X.prog X.w X.K X.mg X.base CX k f fd ps sp)(hr:QaQ k X.A)(hb:Binds X.K fd ps ds)(hd:Qz dvs ds)(hx:Qj2 CX X E)
  (I:Inv X pins σ H s) (r:Qz vs us) (h:sp (vs++dvs) H Q E):wpAny (model X.prog X.w) X.A (call (.ref f) us) (EP X pins σ Q) X.xe s:=by
 have r2:Qz (vs++dvs) (us++ds):=r.append hd;have hl:(us++ds).length=ps.length:=by rw[← r2.length];exact F.len _ _ _ _ h
 refine wpAny_call (codeAny_mono (F.run X.A X.stack s H ⟨us,[]⟩ (us++ds) (vs++dvs) Q E hr I.QzB (hb s us I.kIn hl) r2 h) λr s' hq=>?_);cases r with
 | error e=>exact hx pins σ H s e s' I hq
 | ok fl=>
  cases fl with
  | ret u=>exact I.after hq
  | next=>exact False.elim hq
  | brk=>exact False.elim hq
  | cont=>exact False.elim hq
def Qwe(F:QbL X.prog X.w X.K X.mg X.base CX k f fd ps sp)(hr:QaQ k X.A)(hg:Gl X x)(hm:X.mg x=some (.ref f))(hk:PySem.W.keepIn X.K (.ref f)=true)(hb:Binds X.K fd ps ds)(hd:Qz dvs ds)(hx:Qj2 CX X E)
  (ha:PA X (e::es) t) (hdb:(x == ("__debug__" :Str))=false:=by decide) (he:starEach (e::es) X.env=(false,eval e X.env)::starEach es X.env:=by rfl) (hpl:(backTo pos (starEach es X.env)).any (·.1)=false:=by rfl):
  PE X (.Call (.Name x p) (e::es) [] pos) (QqA sp dvs E t):=by
 intro pins s σ H Q I h;refine wpAny_Call_Name_kw (Qeu I hg hm ?_ hdb);refine PySem.W.callWith_K (h₀:=X.base) I.ok.mod.kin hk (thn (ha pos pins s σ H _ I h) λus s1 ⟨vs,H1,I1,r,q⟩=>⟨I1.kIn,?_⟩) he hpl;exact Qsp F hr hb hd hx I1 r q
def Qut(F:QbL X.prog X.w X.K X.mg X.base CX k f fd ps sp)(hr:QaQ k X.A)(hg:Gl X x)(hm:X.mg x=some (.ref f))(hk:PySem.W.keepIn X.K (.ref f)=true)(hb:Binds X.K fd ps ds)(hd:Qz dvs ds)(hx:Qj2 CX X E)
  (hdb:(x == ("__debug__" :Str))=false:=by decide):PE X (.Call (.Name x p) [] [] pos) (QqA sp dvs E Qrf):=by
 intro pins s σ H Q I h;refine wpAny_Call_Name_kw (Qeu I hg hm ?_ hdb);exact PySem.W.callWith_K0 I.kIn hk (Qsp (us:=[]) F hr hb hd hx I .nil h)
structure Mk (K:Fgg) (C f:Addr):Prop where
 makes:PySem.W.makesIn K C=true
 init:PySem.W.findIn K (.ref C) "__init__" =some (some (.ref f))
 fn:PySem.W.isFn K (.ref f)=true
 kp:PySem.W.keepIn K (.ref C)=true
end
section
variable {X:Cx}{CX:CXT}{k:Nat}{f C:Addr}{fd:FuncData}{ps ks:List Str}{sp:Sp}{E:XK}{x m:Str}{p pos apos kpos:Pos}{e o:Expr}{es:List Expr}{kws:List Keyword}{te ta:TE}{t tk:TA}{nm:Option Str}
structure QCv (K:Fgg) (fd:FuncData) (ps ks:List Str) (g:List Value->List Value->List Value) (gV:List V->List V->List V):Prop where
 to:∀(s:Shared) (us ws:List Value),K.In s.heap->(g us ws).length=ps.length->BindsTo s fd ⟨us,ks.zip ws⟩ (ps.zip (g us ws))
 rel:∀{vs:List V}{us:List Value}{zs:List V}{ws:List Value},Qz vs us->Qz zs ws->Qz (gV vs zs) (g us ws)
variable {g:List Value->List Value->List Value}{gV:List V->List V->List V}
end
structure QbM (N P:List Str) (sc:Scope):Prop where
 kind:sc.kind= .function
 co:sc.isCoroutine=false
 gen:sc.isGenerator=false
 nd:N.Nodup
 pre:N.take P.length=P
 par:∀x∈P,sc.names.lookup x=some .local ∨sc.names.lookup x=some .cell
 nofree:∀y∈sc.names,y.2≠ .free
def Ql1{kindOf:Str->Option NameKind}{x:Str}:∀{binds:List (Str×Value)}{m:Str->Option Value},(∀v,(x,v)∉binds)->bindL kindOf binds m x=m x
 | [],_,_=>rfl
 | (n,v)::r,m,h=>by
  unfold bindL;rw[Ql1 λw hw=>h w (Zb _ hw)];split
  .have:x≠n:=by rintro rfl;exact h v Ze
   simp[this]
  .rfl
def Qmm{kindOf:Str->Option NameKind}{x:Str}:∀{binds:List (Str×Value)}{m:Str->Option Value},(∀v,(x,v)∉binds)->bindC kindOf binds m x=m x
 | [],_,_=>rfl
 | (n,v)::r,m,h=>by
  unfold bindC;rw[Qmm λw hw=>h w (Zb _ hw)];split
  .rfl
  .have:x≠n:=by rintro rfl;exact h v Ze
   simp[this]
def Ql8{kindOf:Str->Option NameKind}{x:Str}{v:Value}:∀{P:List Str}{vs:List Value}{i:Nat}{m:Str->Option Value},P.Nodup->P[i]? =some x->vs[i]? =some v->kindOf x=some .local →
  bindL kindOf (P.zip vs) m x=some v
 | [],_,_,_,_,h,_,_=>by simp at h
 | _::_,[],_,_,_,_,h,_=>by simp at h
 | p::P,w::vs,0,m,nd,h1,h2,hk=>by
  simp at h1 h2;subst h1;subst h2;show bindL kindOf ((p,w)::P.zip vs) m p=_;unfold bindL;rw[Ql1 λv hv=>(ZaW.mp nd).1 (Zcv hv).1,if_pos hk];simp
 | p::P,w::vs,i+1,m,nd,h1,h2,hk=>by
  show bindL kindOf ((p,w)::P.zip vs) m x=_;unfold bindL;exact Ql8 (i:=i) (ZaW.mp nd).2 (by simpa using h1) (by simpa using h2) hk
def Qmh{kindOf:Str->Option NameKind}{x:Str}{v:Value}:∀{P:List Str}{vs:List Value}{i:Nat}{m:Str->Option Value},P.Nodup->P[i]? =some x->vs[i]? =some v->kindOf x≠some .local →
  bindC kindOf (P.zip vs) m x=some v
 | [],_,_,_,_,h,_,_=>by simp at h
 | _::_,[],_,_,_,_,h,_=>by simp at h
 | p::P,w::vs,0,m,nd,h1,h2,hk=>by
  simp at h1 h2;subst h1;subst h2;show bindC kindOf ((p,w)::P.zip vs) m p=_;unfold bindC;rw[Qmm λv hv=>(ZaW.mp nd).1 (Zcv hv).1,if_neg hk];simp
 | p::P,w::vs,i+1,m,nd,h1,h2,hk=>by
  show bindC kindOf ((p,w)::P.zip vs) m x=_;unfold bindC;exact Qmh (i:=i) (ZaW.mp nd).2 (by simpa using h1) (by simpa using h2) hk
noncomputable def start(N:List Str)(vs:List V):St:=vs.map some++List.replicate (N.length-vs.length) none
noncomputable def Qec(CX:CXT)(P:Program)(w:World)(K:Fgg)(mg:Str->Option Value)(base:Heap)(N:List Str)(qual:Str)(scope:Scope)(f:Addr)(cd:Value)(A:Around)(outer:List Env)(s:Shared)(H:Hp)(E:XK):Cx where
 prog:=P
 w:=w
 K:=K
 mg:=mg
 base:=base
 A:=A.deeper (envOfC qual scope s.heap.objs.size f cd)
 N:=N
 s₀:=s
 H₀:=H
 env:=envOfC qual scope s.heap.objs.size f cd
 outer:=outer
 stack:=envOfC qual scope s.heap.objs.size f cd::outer
 ex:=[]
 calm:=decide (A.handled=none)
 fn:=λ_=>true
 pn:=[]
 xe:=λe s'=>wpAny (model P w) (A.deeper (envOfC qual scope s.heap.objs.size f cd)) (leaving (envOfC qual scope s.heap.objs.size f cd) e) (λ_ s''=>CX outer H s E e s'') (λe' s''=>CX outer H s E e' s'') s'
def QoF{sc:Scope}{n:Nat}{x:Str}(h:sc.names.lookup x=some .cell):∃c,(cellsFrom n sc.names []).lookup x=some c:=by
 have q:=Zcp sc.names n [] (.inl h);exact Zce.mp q
def QsR{CX:CXT}{P:Program}{w:World}{K:Fgg}{mg:Str->Option Value}{base:Heap}{N ps:List Str}{qual:Str}{scope:Scope}{f:Addr}{cd:Value}{A:Around}{outer:List Env}{s s1:Shared}{H:Hp}{E:XK}{us:List Value}{vs:List V}
  (S:QbM N ps scope) (e0:Qqm P w K mg base A outer s H) (hl:vs.length=ps.length) (r:Qz vs us)
  (x:InCallC s s.heap.objs.size (bindL (envOfC qual scope s.heap.objs.size f cd).kindOf (ps.zip us) λ_=>none) (cellsFrom (s.heap.objs.size+1) scope.names []) (bindC (envOfC qual scope s.heap.objs.size f cd).kindOf (ps.zip us) λ_=>none) s1):
  Inv (Qec CX P w K mg base N qual scope f cd A outer s H E) [] (start N vs) H s1:=by
 have hpl:ps.length<=N.length:=by have:=congrArg List.length S.pre;rw[ZS]at this;lia
 obtain⟨h1,tk,rfl,hk⟩:=x.done;have noA:∀b:Addr,b∉(Qec CX P w K mg base N qual scope f cd A outer s H E).ex:=λb z=>absurd (show b∈([]:LAd)from z) ⋯
 refine⟨⟨e0.mod,S.kind,rfl,rfl,Zd _,λy z c h1 h2=>?_,λy hy=>?_,λy c _ h=>?_,λh=>of_decide_eq_true h,Around.frames_deeper e0.frames,.inr ⟨rfl,rfl⟩,λb z=>absurd z (noA b),e0.bs,e0.bsz,λb _ _=>noA b,λb z=>absurd z (noA b),e0.Qda,e0.frf⟩,
  rfl,e0.bare,Un.kept hk,⟨_,x.toInCall.ns,λi y v h1 h2 h3=>?_⟩,λy c h=>⟨_,x.cell y c h⟩,e0.hok.fresh (Zd _),λy c h=>?_,λp hp=>absurd (show p∈([]:List (Addr×Obj))from hp) ⋯,e0.hok.kept hk,?_⟩
 .exact name_of_addr x.apart (Zar h1) (Zar h2)
 .have hy:scope.names.lookup y=some .cell∨scope.names.lookup y=some .free:=hy;rcases hy with hy | hy
  .exact QoF hy
  .exact absurd rfl (S.nofree _ (Zar hy))
 .exact ZaC (x.above y c (Zar h))
 .have hi:i<vs.length:=by
   unfold start at h2;by_cases hi:i<vs.length
   .exact hi
   .rw[Zbn (by simpa using hi),Zcg]at h2;split at h2<;>cases h2
  have ha:vs[i]? =some v:=by
   unfold start at h2;rw[Zaw (by simpa using hi),Zp]at h2;cases e:vs[i]? with
   | none=>rw[e]at h2;cases h2
   | some a=>rw[e]at h2;cases h2;rfl
  obtain⟨u,hu,rv⟩:=r.get ha;have hp:ps[i]? =some y:=by
   rw[← S.pre,Zba ⋯];exact h1
  have ndP:ps.Nodup:=by rw[← S.pre];exact S.nd.sublist (Zcb _ _)
  refine⟨u,rv,?_⟩;rcases S.par y (Zao hp)with k | k
  .exact .inl ⟨k,Ql8 ndP hp hu k⟩
  .obtain⟨c,e⟩:=QoF (n:=s.heap.objs.size+1) k;refine .inr ⟨.inl k,c,e,?_⟩;have q:=x.cell y c e;rw[Qmh ndP hp hu (by show scope.names.lookup y≠_;rw[k];decide)]at q;exact q
 .exact e0.hok.fresh (ZaC (x.above y c (Zar h)))
 .unfold start;show _=N.length;rw[Zn,Zj,List.length_replicate];lia
def QvX{CX:CXT}{P:Program}{w:World}{K:Fgg}{mg:Str->Option Value}{base:Heap}{k:Nat}{f:Addr}{name qual:Str}{params:Arguments}{body:List Stmt}{scope:Scope}{dV kV doc pm cdv ct oc:Value}{an od:Option Addr}
  {osl:Array (Option Value)}{N ps:List Str}{sp:Sp}(lk:K.lookup f=some ⟨oc,od,.func (PySem.W.fnOf name qual params body scope dV kV doc pm an cdv ct),osl⟩) (hcd:PySem.W.codeIn K cdv qual=true) (S:QbM N ps scope)
  (len:∀vs H Q E,sp vs H Q E->vs.length=ps.length)
  (hbody:∀(A:Around) (outer:List Env) (s:Shared) (H:Hp) (vs:List V) (Q:VK) (E:XK),QaQ k (A.deeper (envOfC qual scope s.heap.objs.size f cdv))->sp vs H Q E→
   ∃t,PSs (Qec CX P w K mg base N qual scope f cdv A outer s H E) body t/\t {nx:=λ_ H'=>Q .non H',rt:=Q} (start N vs) H):
  QbL P w K mg base CX (k+1) f (PySem.W.fnOf name qual params body scope dV kV doc pm an cdv ct) ps sp:=by
 refine⟨len,λA outer s H args us vs Q E hr e0 hb r hsp=>?_⟩;have hl:=len _ _ _ _ hsp;have KX:K.In s.heap:=e0.mod.kin.keeps λb o e=>(e0.bs b o e).1;have lim:s.heap.NoLimit:=e0.mod.nolimit.keeps λb o e=>(e0.bs b o e).1;have hkind:∀y∈ps.zip us,scope.names.lookup y.1=some .local ∨(scope.names.lookup y.1=some .cell/\((cellsFrom (s.heap.objs.size+1) scope.names []).lookup y.1).isSome=true):=λZ hy=>by
  obtain⟨n,v⟩:=Z;rcases S.par n (Zcv hy).1 with q | q
  .exact .inl q
  .exact .inr ⟨q,Zcp _ _ _ (.inl q)⟩
 refine codeAny_call_function hr.depth (KX _ _ lk) rfl S.co S.gen rfl (PySem.W.codeRec_of KX hcd) (hb _ _ _ _ ?_);refine wpAny_newFunctionEnv_cells S.kind hkind λenv he s1 x=>?_;subst he;refine⟨lim.keeps x.toInCall.keep,codeAny_func ?_⟩;obtain⟨t,ht,hq⟩:=hbody A outer s H vs Q E (hr.deeper _) hsp;have I:Inv (Qec CX P w K mg base N qual scope f cdv A outer s H E) [] (start N vs) H s1:=QsR S e0 hl r x;refine wpAny_mono (ht [] s1 (start N vs) H _ I hq) (λfl s' hs=>?_) λe s' hs=>hs
 have fin:∀{σ':St}{H':Hp}{v:V}{u:Value},Inv (Qec CX P w K mg base N qual scope f cdv A outer s H E) [] σ' H' s'->RelV v u->Q v H'->CE outer P w H s Q u s':=
  λ{σ' H' v u} J rv q=>⟨v,H',J.os,J.bare,J.base,J.hok,rv,q⟩
 cases fl with
 | ret u=>
  obtain⟨v,σ',H',J,rv,q⟩:=hs;exact fin J rv q
 | next=>
  obtain⟨σ',H',J,q⟩:=hs;exact fin (v:=V.non) (u:=Value.none) J rfl q
 | brk=>
  obtain⟨_,_,_,q⟩:=hs;exact False.elim q
 | cont=>
  obtain⟨_,_,_,q⟩:=hs;exact False.elim q
section
variable {X:Cx}{x:Str}{p pos:Pos}{e:Expr}{es:List Expr}{t:TA}{id T:String}{r:List V->Hp->VK->Prop}
noncomputable def tCB(r:List V->Hp->VK->Prop)(t:TA):TE:=λσ H Q=>t σ H λvs H1=>r vs H1 Q
def QgE(hc:Qb6 X (.builtin id) r)(hg:Gl X x)(hm:X.mg x=none)(hv:bootBuiltins x=some (.builtin id))(ha:PA X (e::es) t)(hn:x≠ "__name__" :=by decide)(hdb:(x == ("__debug__" :Str))=false:=by decide)
  (he:starEach (e::es) X.env=(false,eval e X.env)::starEach es X.env:=by rfl) (hpl:(backTo pos (starEach es X.env)).any (·.1)=false:=by rfl):PE X (.Call (.Name x p) (e::es) [] pos) (tCB r t):=by
 intro pins s σ H Q I h;refine wpAny_Call_Name_kw (QcI I hg hm hv ?_ hn hdb);exact PyProof.Rows.callWith_builtin1 (thn (ha pos pins s σ H _ I h) λus s1 ⟨vs,H1,I1,r1,q1⟩=>hc pins s1 σ H1 vs us Q I1 r1 q1) he hpl
def Qfg(hc:Qb6 X (.type T) r)(hg:Gl X x)(hm:X.mg x=none)(hv:bootBuiltins x=some (.type T))(ha:PA X (e::es) t)(hn:x≠ "__name__" :=by decide)(hdb:(x == ("__debug__" :Str))=false:=by decide)
  (he:starEach (e::es) X.env=(false,eval e X.env)::starEach es X.env:=by rfl) (hpl:(backTo pos (starEach es X.env)).any (·.1)=false:=by rfl):PE X (.Call (.Name x p) (e::es) [] pos) (tCB r t):=by
 intro pins s σ H Q I h;refine wpAny_Call_Name_kw (QcI I hg hm hv ?_ hn hdb);exact Zaj (thn (ha pos pins s σ H _ I h) λus s1 ⟨vs,H1,I1,r1,q1⟩=>hc pins s1 σ H1 vs us Q I1 r1 q1) he hpl
end
end L2
namespace HT
open PySem PyProof.Rows
noncomputable def lexLt:List Int->List Int->Bool
 | [],[]=>false
 | [],_::_=>true
 | _::_,[]=>false
 | x::xs,y::ys=>if x=y then lexLt xs ys else decide (x<y)
def Qcx(x y:Int)(xs ys:List Int):lexLt (x::xs) (y::ys)=if x=y then lexLt xs ys else decide (x<y):=rfl
def Qmq:lexLt [] []=false:=rfl
def QkT(y:Int)(ys:List Int):lexLt [] (y::ys)=true:=rfl
def Qk8(x:Int)(xs:List Int):lexLt (x::xs) []=false:=rfl
def Qtx(A:Around)(s:Shared)(a:Int)(t:Tok)(c:Int)(u:Tok):∃e,SeqAt.EqAt A s (.int a t) (.int c u) e/\(e=true↔a=c):=
 ⟨(a == c),SeqAt.EqAt.int_int a t c u,⋯⟩
def Qun(A:Around)(s:Shared)(a:Int)(t:Tok)(c:Int)(u:Tok)(prog:Program)(w:World)(E:Value->Shared->Prop)(Q:Value->Shared->Prop)(h:Q (.bool (decide (a<c))) s):
  wpAny (model prog w) A (richCompare .Lt (.int a t) (.int c u)) Q E s:=
 (PyProof.Rows.lt_int h:wpAny (model prog w) A (compareOp .Lt (.int a t) (.int c u)) Q E s)
section
open PySem.SeqAt
open PySem.AutoSeq1 (wpAny_loadPart')
open PySem.MeetsSeq PySem.MeetsSeq2 PySem.MeetsSeq3
end
section
variable {prog:Program}{w:World}{A:Around}{E:Value->Shared->Prop}{s:Shared}
noncomputable def sIx(n d:Nat):Option Int->Nat
 | none=>d
 | some v=>if v<0 then(v+(n:Int)).toNat else min v.toNat n
def Qe5(n d:Nat):sIx n d none=d:=rfl
def Qf5(n d k:Nat):sIx n d (some (k:Int))=min k n:=by
 show(if(k:Int)<0 then((k:Int)+(n:Int)).toNat else min (k:Int).toNat n)=min k n;rw[if_neg ⋯,Zax]
end
end HT
namespace L2
open PySem PySem.Spec PyProof.Rows
abbrev TO:=St->Hp->(Option Int->Hp->Prop)->Prop
def PO(X:Cx)(e:Option Expr)(t:TO):Prop:=
 ∀(pins:List (Addr×Obj)) (s:Shared) (σ:St) (H:Hp) (Q:Option Int->Hp->Prop),Inv X pins σ H s->t σ H Q→
  wpAny (model X.prog X.w) X.A (evalPart e X.env) (λu s'=>∃o H',Inv X pins σ H' s'/\IsPart u o/\Q o H') X.xe s
noncomputable def Qwm:TO:=λ_ H Q=>Q none H
noncomputable def QAk(t:TE):TO:=λσ H Q=>t σ H λx H1=>∃i,x= .int i/\Q (some i) H1
def intsAre_of{ns:List Int}:∀{us:List Value},Qz (ns.map V.int) us->IntsAre us ns:=by
 induction ns with
 | nil=>intro us r;rw[ZbC]at r;cases r;exact .nil
 | cons n ns ih=>
  intro us r;rw[ZA]at r;cases r with
  | cons r1 r2=>
   obtain⟨t,e⟩:=r1;subst e;exact .cons n t (ih r2)
section
variable {X:Cx}{e:Expr}{te:TE}{lo hi:Option Expr}{tl th:TO}{pos p2:Pos}
def QxC:PO X none Qwm:=by
 intro pins s σ H Q I h;rw[evalPart_none];exact wpAny_pure ⟨none,H,I,.none,h⟩
def Qx4(h:PE X e te):PO X (some e) (QAk te):=by
 intro pins s σ H Q I hw;rw[evalPart_some];refine thn (h pins s σ H _ I hw) λu s1=>exJ λx H1 I1 r1 q1=>?_;obtain⟨i,rfl,q⟩:=q1;obtain⟨t,rfl⟩:=r1;exact⟨some i,H1,I1,.int i t,q⟩
def SlR(X:Cx)(r:V->Option Int->Option Int->Hp->VK->Prop):Prop:=
 ∀(pins:List (Addr×Obj)) (s:Shared) (σ:St) (H:Hp) (x:V) (v vl vu:Value) (lo hi:Option Int) (sl:Addr) (Q:VK),Inv X pins σ H s->RelV x v->s.heap.IsSliceOf sl vl vu .none->IsPart vl lo->IsPart vu hi->r x lo hi H Q→
  ∃T id,typeLookup (.type T) "__getitem__" =pure (some (.builtin id))/\s.TypeIs v T/\wpAny (model X.prog X.w) X.A (getItem v (.ref sl)) (EP X pins σ Q) X.xe s
noncomputable def tSl(r:V->Option Int->Option Int->Hp->VK->Prop)(te:TE)(tl th:TO):TE:=λσ H Q=>te σ H λx H1=>tl σ H1 λl H2=>th σ H2 λu H3=>r x l u H3 Q
def Quf{r:V->Option Int->Option Int->Hp->VK->Prop}(hr:SlR X r)(he:PE X e te)(hl:PO X lo tl)(hu:PO X hi th):PE X (.Subscript e (.Slice lo hi none p2) pos) (tSl r te tl th):=by
 intro pins s σ H Q I h;refine Subscript_ (thn (he pins s σ H _ I h) λv s1=>exJ λx H1 I1 r1 q1=>?_);refine wpAny_Slice (thn (hl pins s1 σ H1 _ I1 q1) λvl s2 ⟨l,H2,I2,pl,q2⟩=>thn (hu pins s2 σ H2 _ I2 q2) λvu s3=>exJ λu H3 I3 pu q3=>?_);rw[evalPart_none];refine wpAny_pure ?_;have I4:Inv X pins σ H3 {s3 with heap:=s3.heap.push {cls:= .type "slice",data:= .fields #[vl,vu,.none]}}:=I3.kept (t':=s3.toks) λb ob q=>Zc _ q;obtain⟨T,id,hT,ht,hg⟩:=hr pins {s3 with heap:=s3.heap.push {cls:= .type "slice",data:= .fields #[vl,vu,.none]}} σ H3 x v vl vu l u s3.heap.objs.size Q I4 r1 (Heap.IsSliceOf.new ..) pl pu q3;show wpAny (model X.prog X.w) X.A (subscriptTail e (.Slice lo hi none p2) v (.ref s3.heap.objs.size)) (EP X pins σ Q) X.xe {s3 with heap:=s3.heap.push {cls:= .type "slice",data:= .fields #[vl,vu,.none]}};exact tail_any (ops:=[.ref s3.heap.objs.size,v]) ht hT hg (by with_unfolding_all rfl)
noncomputable def Qk5(xs:List V)(lo hi:Option Int):List V:=(xs.drop (HT.sIx xs.length 0 lo)).take (HT.sIx xs.length xs.length hi-HT.sIx xs.length 0 lo)
def QoW(xs:List V)(lo hi:Option Int):(Qk5 xs lo hi).length<=xs.length:=by
 unfold Qk5;rw[ZS,Zab];lia
end
noncomputable def ixN(n:Nat)(i:Int):Option Nat:=if 0<=i then(if i<n then some i.toNat else none)else if-(n:Int)<=i then some (i+n).toNat else none
noncomputable def atI{α:Type}(xs:List α)(i:Int):Option α:=(ixN xs.length i).bind λj=>xs[j]?
def Qgl{n:Nat}{i:Int}{j:Nat}(h:ixN n i=some j):seqIndex? i n=some j/\j<n/\ -(n:Int)<=i/\i<n:=by
 unfold ixN at h;by_cases h0:0<=i
 .rw[if_pos h0]at h;by_cases h1:i<n
  .rw[if_pos h1]at h;have e:i.toNat=j:=Option.some.inj h;exact⟨by rw[seqIndex_of h0 h1,e],⋯,⋯,h1⟩
  .rw[if_neg h1]at h;cases h
 .rw[if_neg h0]at h;by_cases h1: -(n:Int)<=i
  .rw[if_pos h1]at h;have e:(i+n).toNat=j:=Option.some.inj h;exact⟨by rw[seqIndex_neg ⋯ h1,e],⋯,h1,⋯⟩
  .rw[if_neg h1]at h;cases h
def Qll{α:Type}{xs:List α}{i:Int}{v:α}(h:atI xs i=some v):∃j,seqIndex? i xs.length=some j/\xs[j]? =some v/\j<xs.length/\ -(xs.length:Int)<=i/\i<xs.length:=by
 unfold atI at h;cases e:ixN xs.length i with
 | none=>rw[e]at h;cases h
 | some j=>
  rw[e]at h;obtain⟨h1,h2,h3,h4⟩:=Qgl e;exact⟨j,h1,h,h2,h3,h4⟩
def Qia(b:Expr):Prop:=∀o i,subscripted b false o i=operate [o,i] (getItem o i)
def IxR(X:Cx)(r:R2):Prop:=
 ∀(value slice:Expr) (pins:List (Addr×Obj)) (s:Shared) (σ:St) (H:Hp) (x y:V) (v u:Value) (Q:VK),Inv X pins σ H s->RelV x v->RelV y u->r x y H Q→
  subscripted slice false v u=operate [v,u] (getItem v u)->wpAny (model X.prog X.w) X.A (subscriptTail value slice v u) (EP X pins σ Q) X.xe s
def MtR(X:Cx)(id:String)(r:V->List V->Hp->VK->Prop):Prop:=
 ∀(pins:List (Addr×Obj)) (s:Shared) (σ:St) (H:Hp) (x:V) (xs:List V) (v:Value) (us:List Value) (Q:VK),Inv X pins σ H s->RelV x v->Qz xs us->r x xs H Q→
  wpAny (model X.prog X.w) X.A (call (.builtin id) (v::us)) (EP X pins σ Q) X.xe s
section
variable {X:Cx}{a b:Expr}{ta tb:TE}{pos:Pos}
def IxR.or{r r':R2}(h:IxR X r)(h':IxR X r'):IxR X (λx y H Q=>r x y H Q∨r' x y H Q):=by
 intro value slice pins s σ H x y v u Q I rx ry q hs;rcases q with q | q
 .exact h value slice pins s σ H x y v u Q I rx ry q hs
 .exact h' value slice pins s σ H x y v u Q I rx ry q hs
def QvV{r:R2}(hr:IxR X r)(ha:PE X a ta)(hb:PE X b tb)(hs:Qia b):PE X (.Subscript a b pos) (tOp r ta tb):=by
 intro pins s σ H Q I h;exact Subscript_ (QuJ ha hb I h λv u s2 x y H2 I2 rx ry q=>hr a b pins s2 σ H2 x y v u Q I2 rx ry q (hs _ _))
noncomputable def Qzb(K:Fgg):R2:=λx y H Q=>∃p xs i v,x= .ref p/\y= .int i/\SqL K H p xs/\atI xs i=some v/\Q v H
noncomputable def QBW(K:Fgg):R2:=λx y H Q=>∃p xs i v,x= .ref p/\y= .int i/\SqT K H p xs/\atI xs i=some v/\Q v H
def QpL:IxR X (Qzb X.K):=by
 intro value slice pins s σ H x y v u Q I rx ry h hs;obtain⟨p,xs,i,z,rfl,rfl,hq,he,q⟩:=h;cases rx;obtain⟨t,rfl⟩:=ry;obtain⟨its,r,pl,hz⟩:=I.list hq;obtain⟨j,h1,h2,h3,h4,h5⟩:=Qll he;obtain⟨w,ew,rw'⟩:=r.get h2;have hl:=r.length;have hn:=Qgk;have fin:EP X pins σ Q w s:=⟨z,H,I,rw',q⟩;by_cases h0:0<=i
 .have hj:i.toNat=j:=by
   rw[seqIndex_of h0 h5]at h1;exact Option.some.inj h1
  exact item_listR pl.isList h0 ⋯ (by rw[hj];simpa using ew) fin hs
 .have hj:(i+(its.toArray.size:Int)).toNat=j:=by
   rw[seqIndex_neg ⋯ h4]at h1;rw[Zy,← hl];exact Option.some.inj h1
  exact subscriptTail_builtinR (x:=w) pl.isList.typeIs slot_list_getitem.lookup
   (wpAny_getItem_list_neg (Q:=λr s'=>r=w/\EP X pins σ Q r s') pl.isList ⋯ (by rw[Zy]<;>lia) ⋯ (by rw[hj];simpa using ew) ⟨rfl,fin⟩) hs
def QsF:IxR X (QBW X.K):=by
 intro value slice pins s σ H x y v u Q I rx ry h hs;obtain⟨p,xs,i,z,rfl,rfl,hq,he,q⟩:=h;cases rx;obtain⟨t,rfl⟩:=ry;obtain⟨its,r,pl,hz⟩:=I.tuple hq;obtain⟨j,h1,h2,h3,h4,h5⟩:=Qll he;obtain⟨w,ew,rw'⟩:=r.get h2;have hl:=r.length;have hn:=Qgk;have fin:EP X pins σ Q w s:=⟨z,H,I,rw',q⟩
 exact subscriptTail_builtinR (x:=w) pl.typeIs slot_tuple_getitem.lookup
  (getItem_tuple (j:=j) (Q:=λr s'=>r=w/\EP X pins σ Q r s') pl ⋯ ⋯ (by rw[Zy,← hl];exact h1) (by simpa using ew) ⟨rfl,fin⟩) hs
def QqK(its:List Value)(n j:Nat)(u:Value):Obj.mapSeq (·.setIfInBounds j u) {cls:= .type "list",data:= .seq its.toArray n}={cls:= .type "list",data:= .seq (its.set j u).toArray n}:=by
 simp[Obj.mapSeq]
def Inv.lst{pins:List (Addr×Obj)}{σ:St}{H:Hp}{s:Shared}{p:Addr}{xs:List V}(I:Inv X pins σ H s)(h:H p=some (.lst xs)):
  ∃(its:List Value) (n:Nat),Qz xs its/\s.heap.get? p=some {cls:= .type "list",data:= .seq its.toArray n}/\xs.length<=sizeLine:=by
 obtain⟨z,its,n,r,e⟩:=I.hok p _ h;exact⟨its,n,r,e,z⟩
def Inv.QzK{pins:List (Addr×Obj)}{σ:St}{H:Hp}{s:Shared}{p:Addr}{xs ys:List V}{its its':List Value}{n n':Nat}{f:Obj->Obj}(I:Inv X pins σ H s)(h:H p=some (.lst xs))
  (ho:s.heap.get? p=some {cls:= .type "list",data:= .seq its.toArray n}) (hf:f {cls:= .type "list",data:= .seq its.toArray n}={cls:= .type "list",data:= .seq its'.toArray n'}) (r:Qz ys its') (hz:ys.length<=sizeLine) (t:Nat):
  Inv X pins σ (upd H p (.lst ys)) {s with heap:=s.heap.update p f,toks:=t}:=by
 have e:(s.heap.update p f).get? p=some {cls:= .type "list",data:= .seq its'.toArray n'}:=by
  rw[Heap.get?_update_self f ho (by rw[hf]<;>rfl),hf]
 refine I.write (x:=p) (e:=p) (by rw[h];trivial) (.inl rfl) (λb u hb q=>(ZbD _ _ (Ne.symm hb)).trans q) ⟨_,e⟩ ?_;exact⟨hz,its',n',r,e⟩
def Qv7:V->V->V->Hp->(Hp->Prop)->Prop:=λo i v H Q=>∃p xs k j,o= .ref p/\i= .int k/\H p=some (.lst xs)/\ixN xs.length k=some j/\Q (upd H p (.lst (xs.set j v)))
def set_list:Qur X Qv7:=by
 intro pins s σ H o i v ov iv u Q I ro ri rv h;obtain⟨p,xs,k,j,rfl,rfl,hp,hj,q⟩:=h;cases ro;obtain⟨t,rfl⟩:=ri;obtain⟨its,n,r,ho,hz⟩:=I.lst hp;obtain⟨h1,h2,h3,h4⟩:=Qgl hj;have hl:=r.length;have hn:=Qgk
 have I':Inv X pins σ (upd H p (.lst (xs.set j v))) {s with heap:=s.heap.update p (Obj.mapSeq (·.setIfInBounds j u))}:=
  I.QzK hp ho (QqK its n j u) (r.set rv j) (by rw[ZaX];exact hz) s.toks
 by_cases h0:0<=k
 .have hk:k.toNat=j:=by
   rw[seqIndex_of h0 h4]at h1;exact Option.some.inj h1
  exact PySem.W.ki_setAt ho h0 ⋯ (by rw[Zy,← hl];exact h4) (by rw[hk];exact⟨_,I',q⟩)
 .have hk:(k+(its.toArray.size:Int)).toNat=j:=by
   rw[seqIndex_neg ⋯ h3]at h1;rw[Zy,← hl];exact Option.some.inj h1
  exact PySem.W.ki_setBack ho ⋯ (by rw[Zy,← hl];exact h3) ⋯ (by rw[hk];exact⟨_,I',q⟩)
def Qnq(lo hi:Option Int)(n:Nat):(sliceBounds lo hi none n).1=((HT.sIx n 0 lo:Nat):Int)/\(sliceBounds lo hi none n).2.1=((HT.sIx n n hi:Nat):Int)/\(sliceBounds lo hi none n).2.2=1:=by
 refine⟨?_,?_,rfl⟩
 .cases lo with
  | none=>simp[sliceBounds,HT.sIx]
  | some i=>
   simp only[sliceBounds,HT.sIx,Option.getD_none,show(1:Int)>0 by decide,if_true];by_cases h:i<0
   .simp only[h,if_true]<;>lia
   .simp only[h,if_false]<;>lia
 .cases hi with
  | none=>simp[sliceBounds,HT.sIx]
  | some i=>
   simp only[sliceBounds,HT.sIx,Option.getD_none,show(1:Int)>0 by decide,if_true];by_cases h:i<0
   .simp only[h,if_true]<;>lia
   .simp only[h,if_false]<;>lia
def Qmu(its:List Value)(lo hi:Option Int):slicePick its.toArray lo hi none=((its.drop (HT.sIx its.length 0 lo)).take (HT.sIx its.length its.length hi-HT.sIx its.length 0 lo)).toArray:=by
 obtain⟨h1,h2,h3⟩:=Qnq lo hi its.toArray.size;unfold slicePick;rw[h1,h2,h3];simp only[sliceRange_one,pick_run,Zy]<;>rfl
def QCj(K:Fgg):V->Option Int->Option Int->Hp->VK->Prop:=λx lo hi H Q=>∃a xs,x= .ref a/\SqL K H a xs/\∀p,H p=none->Q (.ref p) (upd H p (.lst (Qk5 xs lo hi)))
def Qwv:SlR X (QCj X.K):=by
 intro pins s σ H x v vl vu lo hi sl Q I rx hs pl pu h;obtain⟨a,xs,rfl,hx,q⟩:=h;cases rx;obtain⟨its,r,ht,hz⟩:=I.list hx;have hlen:=r.length;refine⟨"list",_,slot_list_getitem.lookup,ht.isList.typeIs,?_⟩;refine wpAny_getItem_list_slice ht.isList hs pl pu .none ⋯ ?_ (by rw[Zy]<;>lia);rw[Qmu,← hlen];refine⟨.ref s.heap.objs.size,_,I.laid (t':=s.toks) (o:= .lst (Qk5 xs lo hi)) (λb ob q=>Zc _ q) (Zd _) ?_,rfl,q _ (I.hok.fresh (Zd _))⟩;exact⟨Zw (QoW xs lo hi) hz,_,0,(r.drop (HT.sIx xs.length 0 lo)).take (HT.sIx xs.length xs.length hi-HT.sIx xs.length 0 lo),ZD _ rfl⟩
def QnR:Qb6 X (.builtin "len") (λxs H Q=>∃p ys,xs=[.ref p]/\(SqL X.K H p ys∨SqT X.K H p ys)/\Q (.int ys.length) H):=by
 intro pins s σ H xs us Q I r h;obtain⟨p,ys,rfl,hq,q⟩:=h;obtain⟨u,rfl,rx⟩:=vals1 r;cases rx;have hn:=Qgk;rcases hq with hq | hq
 .obtain⟨its,r',pl,hz⟩:=I.list hq;have hlen:=r'.length;exact Calls.call_len_list pl.isList (by simp only[Zy]<;>lia) ⟨.int ys.length,H,I.tok _,⟨s.toks+1,by rw[Zy,hlen]⟩,q⟩
 .obtain⟨its,r',pl,hz⟩:=I.tuple hq;have hlen:=r'.length;exact len_tuple pl (by simp only[Zy]<;>lia) ⟨.int ys.length,H,I.tok _,⟨s.toks+1,by rw[Zy,hlen]⟩,q⟩
def QmR:Qb6 X (.type "list") (λxs H Q=>∃p ys,xs=[.ref p]/\(SqL X.K H p ys∨SqT X.K H p ys)/\∀l,H l=none->Q (.ref l) (upd H l (.lst ys))):=by
 intro pins s σ H xs us Q I r h;obtain⟨p,ys,rfl,hq,q⟩:=h;obtain⟨u,rfl,rx⟩:=vals1 r;cases rx
 have fin:∀(its:List Value),Qz ys its->ys.length<=sizeLine->∀(h':Heap) (c':Nat),(∀b o',s.heap.get? b=some o'->h'.get? b=some o')→
   h'.get? s.heap.objs.size=some {cls:= .type "list",dict:=none,data:= .seq its.toArray c',slots:= #[]}->EP X pins σ Q (.ref s.heap.objs.size) {s with heap:=h'}:=λits r' hz h' c' kp e=>
  ⟨.ref s.heap.objs.size,_,I.laid (t':=s.toks) kp (Zd _) (show QaH X.prog X.w _ h' _ (.lst ys)from⟨hz,its,c',r',e⟩),rfl,q _ (I.hok.fresh (Zd _))⟩
 rcases hq with hq | hq
 .obtain⟨its,r',pl,hz⟩:=I.list hq;have hlen:=r'.length;obtain⟨o,ho,hc,n,hd⟩:=pl.isList;exact call_list_seq p (.inl rfl) ho hc hd (λh' c' kp e=>fin its r' hz h' c' kp e) (by simp only[Zy]<;>lia)
 .obtain⟨its,r',pl,hz⟩:=I.tuple hq;have hlen:=r'.length;obtain⟨o,ho,hc,n,hd⟩:=pl;exact call_list_seq p (.inr rfl) ho hc hd (λh' c' kp e=>fin its r' hz h' c' kp e) (by simp only[Zy]<;>lia)
def Qed:Qb6 X (.type "tuple") (λxs H Q=>∃p ys,xs=[.ref p]/\((SqL X.K H p ys/\∀l,H l=none->Q (.ref l) (upd H l (.tup ys)))∨(SqT X.K H p ys/\Q (.ref p) H))):=by
 intro pins s σ H xs us Q I r h;obtain⟨p,ys,rfl,h⟩:=h;obtain⟨u,rfl,rx⟩:=vals1 r;cases rx;rcases h with⟨hq,q⟩ | ⟨hq,q⟩
 .obtain⟨its,r',pl,hz⟩:=I.list hq;have hlen:=r'.length;refine call_tuple_list pl.isList (λh' kp=>?_) (by simp only[Zy]<;>lia);have I1:Inv X pins σ H {s with heap:=h'}:=I.kept (t':=s.toks) kp
  have I2:Inv X pins σ (upd H h'.objs.size (.tup ys)) {s with heap:=h'.push {cls:= .type "tuple",data:= .seq its.toArray}}:=
   I1.laid (t':=s.toks) (λb o e=>Zc _ e) (Zd _) (show QaH X.prog X.w _ _ _ (.tup ys)from⟨hz,its,r',IsTup.new _ _⟩)
  exact⟨.ref h'.objs.size,_,I2,rfl,q _ (I1.hok.fresh (Zd _))⟩
 .obtain⟨its,r',pl,hz⟩:=I.tuple hq;exact call_tuple_same pl ⟨.ref p,H,I,rfl,q⟩
def tyV(K:Fgg)(T:String)(x:V)(H:Hp):Prop:=match x with
 | .str _=>T= "str"
 | .int _=>T= "int"
 | .ref p=>(T= "list" /\∃xs,SqL K H p xs)∨(T= "tuple" /\∃o,K.lookup p=some o/\o.cls= .type "tuple" /\o.dict=none)∨
   (T= "dict" /\((∃kvs,H p=some (.dK kvs))∨∃kvs,H p=some (.dT kvs)))∨(T= "set" /\∃S n,H p=some (.set S n))
 | _=>False
def Qsf{pins:List (Addr×Obj)}{σ:St}{H:Hp}{s:Shared}{T:String}{x:V}{v:Value}(I:Inv X pins σ H s)(r:RelV x v)(ty:tyV X.K T x H):
  s.TypeIs v T/\∀a,v= .ref a->∃ob,s.heap.get? a=some ob/\ob.dict=none:=by
 cases x with
 | str z=>
  obtain⟨t,rfl⟩:=r;cases(show T= "str" from ty);exact⟨typeIs_str s z t,λ_ e=>nomatch e⟩
 | int i=>
  obtain⟨t,rfl⟩:=r;cases(show T= "int" from ty);exact⟨typeIs_int s i t,λ_ e=>nomatch e⟩
 | ref p=>
  cases r;rcases ty with⟨rfl,xs,hq⟩ | ⟨rfl,o,hk,hc,hd⟩ | ⟨rfl,hk⟩ | ⟨rfl,S,n,hk⟩
  .obtain⟨its,_,pl,_⟩:=I.list hq;refine⟨pl.isList.typeIs,λa e=>?_⟩;cases e;obtain⟨o,n,e,c,hd,_⟩:=pl;exact⟨o,e,hd⟩
  .refine⟨⟨o,I.kIn p o hk,hc⟩,λa e=>?_⟩;cases e;exact⟨o,I.kIn _ o hk,hd⟩
  .have z:∃o,s.heap.get? p=some o/\o.ExactDict:=by
    rcases hk with⟨kvs,hk⟩ | ⟨kvs,hk⟩
    .obtain⟨_,_,_,_,o,_,_,e,ex,_⟩:=I.hok p _ hk;exact⟨o,e,ex⟩
    .obtain⟨_,_,_,_,o,_,_,e,ex,_⟩:=I.hok p _ hk;exact⟨o,e,ex⟩
   obtain⟨o,e,ex⟩:=z;refine⟨⟨o,e,ex.1⟩,λa e2=>?_⟩;cases e2;exact⟨o,e,ex.2.1⟩
  .obtain⟨o,_,_,_,e,ex,_⟩:=I.hok p _ hk;refine⟨⟨o,e,ex.1⟩,λa e2=>?_⟩;cases e2;exact⟨o,e,ex.2.1⟩
 | _=>exact False.elim ty
noncomputable def QyT(K:Fgg)(T:String)(r:V->List V->Hp->VK->Prop)(to:TE):TE:=λσ H Q=>to σ H λx H1=>tyV K T x H1/\r x [] H1 Q
noncomputable def tBM(K:Fgg)(T:String)(r:V->List V->Hp->VK->Prop)(to:TE)(t:TA):TE:=λσ H Q=>to σ H λx H1=>tyV K T x H1/\t σ H1 λxs H2=>r x xs H2 Q
variable {o e:Expr}{es:List Expr}{to:TE}{t:TA}{name:Str}{apos cpos:Pos}{T id:String}{r:V->List V->Hp->VK->Prop}
def Qsy(pa:PlainAttrs T)(slot:Slot T name id)(hty:typeOf (.builtin id)=pure (.type "method_descriptor"))(hm:MtR X id r)(ho:PE X o to)
  (hbase:attributeBase o name X.env (eval o X.env)=eval o X.env:=by rfl) (hline:(apos.endLine == cpos.line)=true:=by rfl):PE X (.Call (.Attribute o name apos) [] [] cpos) (QyT X.K T r to):=by
 intro pins s σ H Q I h;refine wpAny_Call_method0_late hbase hline (thn (ho pins s σ H _ I h) λv s1 Z=>?_);obtain⟨x,H1,I1,r1,ty,q1⟩:=Z;obtain⟨h1,h2⟩:=Qsf I1 r1 ty;exact⟨T,id,pa,slot,hty,h1,h2,Calls.callWith_builtin rfl (PySem.evalArgs_none (hm pins s1 σ H1 x [] v [] Q I1 r1 .nil q1))⟩
def QBu(pa:PlainAttrs T)(slot:Slot T name id)(hty:typeOf (.builtin id)=pure (.type "method_descriptor"))(hm:MtR X id r)(ho:PE X o to)(ha:PA X (e::es) t)
  (hbase:attributeBase o name X.env (eval o X.env)=eval o X.env:=by rfl)
  (hfew:((backTo cpos (starEach (e::es) X.env)).all (λx=> !x.1) && (backToKw cpos (keywordEach [] X.env)).all (λx=>x.1.isSome)
   && decide ((e::es).length+([]:List Keyword).length+(if([]:List Keyword).isEmpty then 0 else 1)<30))=true:=by rfl)
  (hline:(apos.endLine == cpos.line)=true:=by rfl) (hs:starEach (e::es) X.env=(false,eval e X.env)::starEach es X.env:=by rfl) (hplain:(backTo cpos (starEach es X.env)).any (·.1)=false:=by rfl):
  PE X (.Call (.Attribute o name apos) (e::es) [] cpos) (tBM X.K T r to t):=by
 intro pins s σ H Q I h;refine wpAny_Call_method_late hbase hfew hline rfl (thn (ho pins s σ H _ I h) λv s1 Z=>?_);obtain⟨x,H1,I1,r1,ty,q1⟩:=Z;obtain⟨h1,h2⟩:=Qsf I1 r1 ty;refine⟨T,id,pa,slot,hty,h1,h2,?_⟩;have hA:=ha cpos pins s1 σ H1 _ I1 q1;rw[hs]at hA ⊢;refine Calls.callWith_builtin (by show(false || (backTo cpos (starEach es X.env)).any (·.1))=false;rw[hplain]<;>rfl) (Calls.evalArgs_plain ?_);exact thn hA λus s2 ⟨vs,H2,I2,r2,q2⟩=>hm pins s2 σ H2 x vs v us Q I2 r1 r2 q2
end
def MtM(X:Cx)(id:String)(r:V->List V->Hp->VK->Prop):Prop:=
 ∀(pins:List (Addr×Obj)) (s:Shared) (σ:St) (H:Hp) (x:V) (xs:List V) (v:Value) (us:List Value) (Q:VK),Inv X pins σ H s->RelV x v->Qz xs us->r x xs H Q→
  wpAny (model X.prog X.w) X.A (call (.builtin id) (v::us)) (EP X pins σ Q) X.xe s
def Qz.one{x:V}{us:List Value}(r:Qz [x] us):∃u,us=[u]/\RelV x u:=vals1 r
def Qz.zero:∀{us:List Value},Qz [] us->us=[]
 | _,.nil=>rfl
def Qz.reverse{xs:List V}{us:List Value}(h:Qz xs us):Qz xs.reverse us.reverse:=by
 induction h with
 | nil=>exact .nil
 | cons r t ih=>rw[ZbE,ZbE];exact Qz.append ih (.cons r .nil)
def Qz.rep{xs:List V}{us:List Value}(h:Qz xs us):∀k:Nat,Qz (List.replicate k xs).flatten (List.replicate k us).flatten
 | 0=> .nil
 | k+1=>by
  rw[Zae,Zae,Zam,Zam];exact Qz.append h (Qz.rep h k)
def foldl_rep(its:List Value):∀(k:Nat) (acc:List Value),
  List.foldl (λx1 x2=>x1++x2) acc.toArray (List.replicate k its.toArray)=(acc++(List.replicate k its).flatten).toArray
 | 0,acc=>by simp
 | k+1,acc=>by
  have e:acc.toArray++its.toArray=(acc++its).toArray:= ⋯
  have e2:(acc++its)++(List.replicate k its).flatten=acc++(List.replicate (k+1) its).flatten:=by
   rw[Zae,Zam,ZG]
  rw[← e2,← foldl_rep its k (acc++its),← e,Zae,Zcw]
section
variable {X:Cx}{pins:List (Addr×Obj)}{σ:St}{H:Hp}{s:Shared}{l b:Addr}{xs ys zs:List V}
def Inv.QzS{its its':List Value}{n:Nat}{f:Array Value->Array Value}{t':Nat}(I:Inv X pins σ H s)(hH:H l=some (.lst xs))
  (e:s.heap.get? l=some {cls:= .type "list",data:= .seq its.toArray n}) (hf:f its.toArray=its'.toArray) (hv:Qz ys its') (hz:ys.length<=sizeLine):
  Inv X pins σ (upd H l (.lst ys)) {s with heap:=s.heap.update l (Obj.mapSeq f),toks:=t'}:=by
 have q:=PySem.IsL.update e f;rw[hf]at q;refine I.write (x:=l) (e:=l) (by rw[hH];exact trivial) (.inl rfl) (λb' u hb hu=>(ZbD s.heap (Obj.mapSeq f) (Ne.symm hb)).trans hu) ⟨_,q⟩ ?_;exact⟨hz,its',_,hv,q⟩
def Inv.QyJ{its:List Value}{t':Nat}(I:Inv X pins σ H s)(hv:Qz ys its)(hz:ys.length<=sizeLine):
  Inv X pins σ (upd H s.heap.objs.size (.lst ys)) {s with heap:=s.heap.push {cls:= .type "list",data:= .seq its.toArray},toks:=t'}:=
 I.laid (λ_ _ q=>Zc _ q) (Zd _) ⟨hz,its,0,hv,ZD _ rfl⟩
def Inv.fresh(I:Inv X pins σ H s):H s.heap.objs.size=none:=I.hok.fresh (Zd _)
def Inv.Qu6(I:Inv X pins σ H s)(hH:H l=some (.lst xs)):xs.length<=sizeLine/\∃(its:List Value) (n:Nat),Qz xs its/\xs.length=its.length/\s.heap.get? l=some {cls:= .type "list",data:= .seq its.toArray n}:=by
 obtain⟨z,its,n,r,e⟩:=I.hok l _ hH;exact⟨z,its,n,r,r.length,e⟩
def QuF{n:Nat}(h:n<=sizeLine):Builtin.List.listTooLong n=false:=by
 unfold Builtin.List.listTooLong;exact decide_eq_false ⋯
end
section
variable {X:Cx}
def Qpz:V->List V->Hp->VK->Prop:=λx vs H Q=>∃l xs y,x= .ref l/\vs=[y]/\H l=some (.lst xs)/\xs.length<sizeLine/\Q .non (upd H l (.lst (xs++[y])))
def Qmk:MtM X "list.append" Qpz:=by
 intro pins s σ H x vs v us Q I rx rv h;obtain⟨l,xs,y,rfl,rfl,hH,hz,q⟩:=h;cases rx;obtain⟨u,rfl,ru⟩:=rv.one;obtain⟨z,its,n,r,hl,e⟩:=I.Qu6 hH;refine call_meets F.slot_list_append ⟨_,e,rfl⟩ F.entry_list_append (F.args_list_append_2 _ _) (PySem.list_append l its.toArray n u (by rw[Zy];lia)) ⟨e,?_⟩;refine⟨.non,_,I.QzS (its':=its++[u]) hH e ⋯ (r.append (.cons ru .nil)) ?_,rfl,q⟩;rw[Zn,ZbH];lia
def Qsl:V->List V->Hp->VK->Prop:=λx vs H Q=>∃l xs,x= .ref l/\vs=[]/\H l=some (.lst xs)/\Q .non (upd H l (.lst []))
def Qu7:MtM X "list.clear" Qsl:=by
 intro pins s σ H x vs v us Q I rx rv h;obtain⟨l,xs,rfl,rfl,hH,q⟩:=h;cases rx;have hus:=rv.zero;subst hus;obtain⟨z,its,n,r,hl,e⟩:=I.Qu6 hH;refine call_meets F.slot_list_clear ⟨_,e,rfl⟩ F.entry_list_clear (F.args_list_clear_1 _) (AutoSeq1.list_clear_list_0 l its.toArray n (by rw[Zy];lia)) ⟨e,?_⟩;exact⟨.non,_,I.QzS (its':=[]) (ys:=[]) hH e rfl .nil (ZF _),rfl,q⟩
def len_rep{α:Type}(xs:List α)(k:Nat):(List.replicate k xs).flatten.length=k*xs.length:=by
 induction k with
 | zero=>simp
 | succ k ih=>rw[Zae,Zam,Zn,ih,Nat.succ_mul,Nat.add_comm]
end
section
variable {prog:Program}{w:World}{A:Around}{E:Value->Shared->Prop}{s:Shared}
end
section
variable {X:Cx}
end
end L2
namespace Att
open PySem PySem.W PySem.Calls PyProof.Rows
def QjN{P:Params}{h:Heap}:∀(ns:List Int) (vs:List Value),WellAll P h vs (ns.map WData.int)->IntsAre vs ns:=by
 intro ns
 induction ns with
 | nil=>
  intro vs w;rw[ZbC]at w;cases w;exact .nil
 | cons n ns ih=>
  intro vs w;rw[ZA]at w;cases w with
  | cons a b=>
   cases a;exact .cons _ _ (ih _ b)
def QsT{l:OpenLaw}{n:Nat}(hn:l.most=some n){P:Params}{h:Heap}{args:List WData}{vals:List Value}
  (hpre:l.row.toRowW.claim.pre args=true) (hwl:WellAll P h vals args):
  ∃a vs ns,vals=[Value.ref a]/\args=[WData.list (ns.map WData.int)]/\h.get? a=some {cls:= .type "list",data:= .seq vs.toArray}/\IntsAre vs ns/\ns.length<=n:=by
 have hsh:WShape.hasAll [] args [.list .int]=true:=(pre_splitW hpre).1;have hc:l.pre.holds [] {args:=args}=true:=(pre_splitW hpre).2;obtain⟨d,r,rfl,h1,h2⟩:=hasAllW_cons hsh;obtain rfl:=hasAllW_nil h2;obtain⟨xs,rfl,h3⟩:=hasW_list h1;obtain⟨ns,rfl⟩:=items_int h3;have hlen:ns.length<=n:=by
  unfold OpenLaw.pre at hc;have h4:(WTm.not (.lt (.lit (.int (n:Int))) (.len (.arg 0)))).holds [] {args:=[.list (ns.map .int)]}=true:=by
   have h4:=(holds_andW hc).1;rw[hn]at h4;exact h4
  have h5:=condW_of h4 (w_not (w_lt w_lit (w_len_list (w_arg rfl))));rw[Zj]at h5;refine Nat.le_of_not_lt λq=>?_;have q':(n:Int)<((ns.length:Nat):Int):= ⋯
  first
   | (rw[decide_eq_true q']at h5;exact absurd h5 ∅)
   | (simp at h5;lia)
 cases hwl with
 | cons w1 w2=>
  cases w2;cases w1 with
  | list ho hall=>exact⟨_,_,ns,rfl,rfl,ho,QjN ns _ hall,hlen⟩
def Qrn(l:OpenLaw)(args:List WData):l.row.toRowW.claim.post args (.bool true) args=true:=
 postW_of (r:=l.row.toRowW) (X:=(true == true))
  (show WShape.has [] (.bool true) .bool=true by first | rfl | decide | simp[WShape.has,WShape.arms,WShape.armsAll])
  (show(WTm.eq .res (.lit (.bool true))).value [] {args:=args,res:=some (.bool true),after:=args}=some (.bool (true == true))from w_eq_bool (w_res rfl) w_lit) rfl
section
variable {prog:Program}{w:World}{A:Around}{E:Value->Shared->Prop}{s:Shared}{K:Frag}
end
end Att
namespace L2
open PySem PySem.Spec PyProof.Rows
def QbU:∀{vs:List Value}{ns:List Int},IntsAre vs ns->Qz (ns.map V.int) vs
 | _,_,.nil=> .nil
 | _,_,.cons n t h=> .cons ⟨t,rfl⟩ (QbU h)
def Qz6(H:Hp):Prop:=∀b,H b=none∨∃o xs,H b=some (.frz o (.lst xs))
def Qui{P:Program}{w:World}{K:Fgg}{mg mb:Str->Option Value}{CX:CXT}{k:Nat}{fa a:Addr}{fd:FuncData}{x:Str}{sp:Sp}{s₁:Shared}{vs:List Value}{ns:List Int}
  (KX:K.In s₁.heap) (hns:s₁.heap.Ns mainGlobals mg) (hb:s₁.heap.Ns builtinsNs mb) (hbb:∀x:Str,x≠ "__name__" ->mb x=bootBuiltins x) (hlim:s₁.heap.NoLimit) (hg:s₁.gens= #[])
  (ha:s₁.heap.get? a=some {cls:= .type "list",data:= .seq vs.toArray}) (hi:IntsAre vs ns) (hl:ns.length<=sizeLine) (hr:QaQ k callerA)
  (F:∀base:Heap,K.In base->base.Ns mainGlobals mg->QbL P w K mg base CX k fa fd [x] sp) (hbind:∀(s:Shared) (u:Value),BindsTo s fd ⟨[u],[]⟩ [(x,u)])
  (hsp:∀H:Hp,Qz6 H->SqL K H a (ns.map V.int)->sp [.ref a] H (λv _=>v= .bl true) λ_ _ _=>False)
  (hCX:∀H e s',CX [] H s₁ (λ_ _ _=>False) e s'->False):
  codeAny (model P w) callerA (.call (.ref fa) ⟨[.ref a],[]⟩) (λr s'=>r= .ok (.ret (.bool true))/\OldK s₁.heap s'.heap/\s'.os=s₁.os/\AllBare s'.gens) s₁:=by
 have rv:=QbU hi;have lenV:=hi.length
 have core:∀H:Hp,Qz6 H->SqL K H a (ns.map V.int)->HOk P w H s₁.heap->(∀b,H b≠none->b=a)->(H a≠none->K.lookup a=none)→
   codeAny (model P w) callerA (.call (.ref fa) ⟨[.ref a],[]⟩) (λr s'=>r= .ok (.ret (.bool true))/\OldK s₁.heap s'.heap/\s'.os=s₁.os/\AllBare s'.gens) s₁:=by
  intro H hO hS hok hA hK;have base_of:∀{b:Addr}{o:Obj},s₁.heap.get? b=some o->H b=none->(QgM s₁.heap H).get? b=some o:=λe n=>QtM e n;have noA:∀{b:Addr}{o:Obj}{es:Array DictEntry}{ep:Nat},s₁.heap.get? b=some o->o.data= .dict es ep->H b=none:=λ{b o es ep} e d=>by
   cases q:H b with
   | none=>rfl
   | some u=>
    have e':b=a:=hA b (by rw[q];simp);subst e';rw[ha]at e;cases e;have d':Data.seq vs.toArray _=Data.dict es ep:=d;cases d'
  have nsK:∀{b:Addr}{m:Str->Option Value},s₁.heap.Ns b m->(QgM s₁.heap H).Ns b m:=λ{b m} ⟨o,es,ep,e,d,r⟩=>⟨o,es,ep,base_of e (noA e d),d,r⟩;have hKb:K.In (QgM s₁.heap H):=λb o e=>base_of (KX b o e) (by
   cases q:H b with
   | none=>rfl
   | some u=>
    have e':b=a:=hA b (by rw[q];simp);subst e';rw[hK (by rw[q];simp)]at e;cases e)
  have hM:Mod K mg (QgM s₁.heap H):=⟨hKb,nsK hns,⟨mb,nsK hb,hbb⟩,let ⟨mc,h1,h2⟩:=hlim;⟨mc,nsK h1,h2⟩⟩;have e0:Qqm P w K mg (QgM s₁.heap H) callerA [] s₁ H:=⟨rfl,hM,λb o e=>QxP e,ZbY (Qr8 _ _),trivial,λb hb=>absurd (show b∈([]:LAd)from hb) ⋯,hok,.of_eq hg⟩;refine codeAny_mono ((F _ hKb (nsK hns)).run callerA [] s₁ H ⟨[.ref a],[]⟩ [.ref a] [.ref a] _ _ hr e0 (hbind s₁ (.ref a)) (.cons rfl .nil) (hsp H hO hS)) λr s' h=>?_;cases r with
  | error e=>exact(hCX H e s' h).elim
  | ok fl=>
   cases fl with
   | next=>exact False.elim h
   | brk=>exact False.elim h
   | cont=>exact False.elim h
   | ret u=>
    obtain⟨v,H',os,bare,un,hok',r',q⟩:=h;have q':v= .bl true:=q;subst q';obtain rfl:u=Value.bool true:=r';refine⟨rfl,OldK.of_keep λb o e=>?_,os,bare⟩;cases q:H b with
    | none=>exact un.keep b o e q (by intro z;exact absurd (show b∈([]:LAd)from z) ⋯) ⋯
    | some u=>
     rcases hO b with z | ⟨ob,xs,z⟩
     .rw[q]at z;cases z
     .have z2:=un.frzs b ob _ z;obtain⟨e1,_⟩:=hok b _ z;obtain⟨e2,_⟩:=hok' b _ z2;rw[e]at e1;cases e1;exact e2
 cases hk:K.lookup a with
 | some o=>
  have e:=KX a o hk;rw[ha]at e;cases e;refine core (λ_=>none) (λ_=> .inl rfl) (.inr ⟨_,vs.toArray,_,hk,rfl,rfl,rfl,by rw[Zy,lenV];exact hl,by simpa using rv⟩) (λb u z=>by have z':(none:Option HO)=some u:=z;cases z') (λb z=>absurd rfl z) λz=>absurd rfl z
 | none=>
  refine core (λb=>if b=a then some (.frz {cls:= .type "list",data:= .seq vs.toArray} (.lst (ns.map V.int)))else none) (λb=>?_) (.inl (.inr ⟨{cls:= .type "list",data:= .seq vs.toArray},if_pos rfl⟩)) (λb u z=>?_) (λb z=>?_) λ_=>hk
  .by_cases hb:b=a
   .exact .inr ⟨_,_,if_pos hb⟩
   .exact .inl (if_neg hb)
  .by_cases hb:b=a
   .have z':=(if_pos hb).symm.trans z;cases z';subst hb;exact⟨ha,by rw[Zj];exact hl,vs,_,rv,ha⟩
   .have z':=(if_neg hb).symm.trans z;cases z'
  .by_cases hb:b=a
   .exact hb
   .exact absurd (if_neg hb) z
noncomputable abbrev KOf{K:Fgg}{h:Heap}(_:K.In h):PySem.W.Frag:=K
noncomputable def Qey(s:Stmt):Arguments:=match s with
 | .FunctionDef _ a _ _ _ _ _ _ _ _=>a
 | _=>{posonlyargs:=[],args:=[],vararg:=none,kwonlyargs:=[],kw_defaults:=[],kwarg:=none,defaults:=[]}
noncomputable def QaR(s:Stmt):List Stmt:=match s with
 | .FunctionDef _ _ b _ _ _ _ _ _ _=>b
 | _=>[]
noncomputable def Qr(s:Stmt):Scope:=match s with
 | .FunctionDef _ _ _ _ _ _ sc _ _ _=>sc
 | _=>{kind:= .function,names:=[],isGenerator:=false,isCoroutine:=false}
noncomputable abbrev CX0:CXT:=λ_ _ _ _ _ _=>False
noncomputable abbrev E0:XK:=λ_ _ _=>False
def QvL{X:Cx}:Qj2 CX0 X E0:=λ_ _ _ _ _ _ _ h=>h.elim
structure Fun (K:Fgg) (x qual:Str) (st:Stmt) (f:Addr) (fd:FuncData):Prop where
 ex:∃(oc:Value) (od:Option Addr) (kV doc pm:Value) (an:Option Addr) (cdv ct:Value) (osl:Array (Option Value)),
  fd=PySem.W.fnOf x qual (Qey st) (QaR st) (Qr st) .none kV doc pm an cdv ct/\K.lookup f=some ⟨oc,od,.func fd,osl⟩/\PySem.W.codeIn K cdv qual=true
 kp:PySem.W.keepIn K (.ref f)=true
section
variable {P:Program}{w:World}{K:Fgg}{mg:Str->Option Value}{base:Heap}
def Fun.ok{x qual:Str}{st:Stmt}{f:Addr}{fd:FuncData}{N ps:List Str}{k:Nat}{sp:Sp}(F:Fun K x qual st f fd)(S:QbM N ps (Qr st))(len:∀vs H Q E,sp vs H Q E->vs.length=ps.length)
  (hbody:∀(cdv:Value) (A:Around) (outer:List Env) (s:Shared) (H:Hp) (vs:List V) (Q:VK) (E:XK),QaQ k (A.deeper (envOfC qual (Qr st) s.heap.objs.size f cdv))->sp vs H Q E→
   ∃t,PSs (Qec CX0 P w K mg base N qual (Qr st) f cdv A outer s H E).nox (QaR st) t/\t {nx:=λ_ H'=>Q .non H',rt:=Q} (start N vs) H):QbL P w K mg base CX0 (k+1) f fd ps sp:=by
 obtain⟨oc,od,kV,doc,pm,an,cdv,ct,osl,rfl,lk,hcd⟩:=F.ex;refine QvX lk hcd S len λA outer s H vs Q E hr hsp=>?_;obtain⟨t,h,q⟩:=hbody cdv A outer s H vs Q E hr hsp;exact⟨t,h.nox,q⟩
def Fun.binds{x qual:Str}{st:Stmt}{f:Addr}{fd:FuncData}{ps:List Str}(F:Fun K x qual st f fd)
  (h:∀(kV doc pm:Value) (an:Option Addr) (cdv ct:Value) (us:List Value),us.length=ps.length->bindArgs (PySem.W.fnOf x qual (Qey st) (QaR st) (Qr st) .none kV doc pm an cdv ct) ⟨us,[]⟩=pure (ps.zip us)):Binds K fd ps []:=by
 obtain⟨oc,od,kV,doc,pm,an,cdv,ct,osl,rfl,lk,hcd⟩:=F.ex;exact .all (h kV doc pm an cdv ct)
def QyR{x qual:Str}{st:Stmt}{f:Addr}{oc:Value}{od an:Option Addr}{osl:Array (Option Value)}{kV doc pm cdv ct:Value}(l:K.lookup f=some ⟨oc,od,.func (PySem.W.fnOf x qual (Qey st) (QaR st) (Qr st) .none kV doc pm an cdv ct),osl⟩)
  (c:PySem.W.codeIn K cdv qual=true) (k:PySem.W.keepIn K (.ref f)=true):Fun K x qual st f (PySem.W.fnOf x qual (Qey st) (QaR st) (Qr st) .none kV doc pm an cdv ct):=⟨⟨oc,od,kV,doc,pm,an,cdv,ct,osl,rfl,l,c⟩,k⟩
end
section
variable {X:Cx}
end
def QqQ{A B:Prop}(h:B):if false=true then A else B:=by
 rw[if_neg Zac];exact h
def Qrb{A B:Prop}(h:A):if true=true then A else B:=by
 rw[if_pos rfl];exact h
def QN(H H':Hp):Prop:=∀b o,H b=some o->H' b=some o
def QN.refl(H:Hp):QN H H:=λ_ _ h=>h
def QN.trans{H H1 H2:Hp}(a:QN H H1)(b:QN H1 H2):QN H H2:=λc o h=>b c o (a c o h)
def QN.free{H H':Hp}(e:QN H H'){l:Addr}(h:H' l=Option.none):H l=Option.none:=by
 cases q:H l with
 | none=>rfl
 | some o=>
  rw[e l o q]at h;cases h
section
variable {κ:Type} [DecidableEq κ]
noncomputable def Qg0(kvs:List (κ×V))(k:κ):Option V:=(kvs.find? λkv=>decide (kv.1=k)).map (·.2)
noncomputable def putK(kvs:List (κ×V))(k:κ)(v:V):List (κ×V):=
 if(kvs.any λkv=>decide (kv.1=k))=true then kvs.map (λkv=>if kv.1=k then(kv.1,v)else kv)else kvs++[(k,v)]
def Qjf{p:κ×V}{r:List (κ×V)}{k:κ}(e:p.1=k):Qg0 (p::r) k=some p.2:=by simp[Qg0,List.find?_cons,e]
def Qi2{p:κ×V}{r:List (κ×V)}{k:κ}(e:¬p.1=k):Qg0 (p::r) k=Qg0 r k:=by simp[Qg0,List.find?_cons,e]
def Qny(k:κ):∀kvs:List (κ×V),(kvs.any λkv=>decide (kv.1=k))=(Qg0 kvs k).isSome
 | []=>rfl
 | p::r=>by
  rw[ZcD];by_cases e:p.1=k
  .simp only[Qjf e,decide_eq_true e,Bool.true_or,Option.isSome_some]
  .rw[Qi2 e,decide_eq_false e,Bool.false_or];exact Qny k r
def QiG(kvs:List (κ×V))(k:κ)(v:V):(putK kvs k v).length<=kvs.length+1:=by
 unfold putK;split
 .rw[Zj];lia
 .rw[Zn,ZI,List.length_nil];lia
def Qok.Qhr{o:Option V}{u:Option Value}(r:Qok o u):o.isSome=u.isSome:=by
 cases o with
 | none=>cases u with
  | none=>rfl
  | some _=>exact(show False from r).elim
 | some _=>cases u with
  | none=>exact(show False from r).elim
  | some _=>rfl
def KV.any{kvs:List (κ×V)}{vs:List (κ×Value)}(r:KV kvs vs)(k:κ):(kvs.any λkv=>decide (kv.1=k))=vs.any λkv=>decide (kv.1=k):=by
 unfold KV at r
 induction r with
 | nil=>rfl
 | cons h t ih=>rw[ZcD,ZcD,ih,h.1]
def KV.QuT{kvs:List (κ×V)}{vs:List (κ×Value)}(r:KV kvs vs)(k:κ){y:V}{u:Value}(ry:RelV y u):
  KV (kvs.map λkv=>if kv.1=k then(kv.1,y)else kv) (vs.map λkv=>if kv.1=k then(kv.1,u)else kv):=by
 unfold KV at r ⊢
 induction r with
 | nil=>exact .nil
 | @cons p q ps qs h t ih=>
  rw[ZA,ZA];refine .cons ?_ ih;obtain⟨h1,h2⟩:=h;by_cases e:p.1=k
  .rw[if_pos e,if_pos (h1.symm.trans e)];exact⟨h1,ry⟩
  .rw[if_neg e,if_neg (λz=>e (h1.trans z))];exact⟨h1,h2⟩
def KV.put{kvs:List (κ×V)}{vs:List (κ×Value)}(r:KV kvs vs)(k:κ){y:V}{u:Value}(ry:RelV y u):KV (putK kvs k y) (stored vs k u):=by
 unfold putK stored;rw[r.any k];by_cases e:(vs.any λkv=>decide (kv.1=k))=true
 .rw[if_pos e,if_pos e];exact r.QuT k ry
 .rw[if_neg e,if_neg e];exact Paired.snoc r ⟨rfl,ry⟩
def KV.length{kvs:List (κ×V)}{vs:List (κ×Value)}(r:KV kvs vs):kvs.length=vs.length:=ZbM r
end
def Qv3{P:Program}{w:World}{k:Key}{u:Value}(r:RelV (kV k) u):(QaE P w).is k u=true:=by
 cases k with
 | inl i=>obtain⟨t,e⟩:=(show ∃t,u=Value.int i t from r);subst e;exact QoY P w i t
 | inr x=>obtain⟨t,e⟩:=(show ∃t,u=Value.str x t from r);subst e;exact QoL P w x t
def Qha{P:Program}{w:World}:∀{ks:List Key}{us:List Value},Qz (ks.map kV) us->ItemsAre (QaE P w) ks us
 | [],_,r=>by rw[ZbC]at r;cases r;exact .nil
 | k::ks,_,r=>by
  rw[ZA]at r;cases r with
  | cons h t=>exact .cons (Qv3 h) (Qha t)
abbrev KT(H:Hp):List (List Key×V)->List (List Key×Addr×Value)->Prop:=Paired λp q=>p.1=q.1/\H q.2.1=some (.tup (p.1.map kV))/\RelV p.2 q.2.2
def KT.val{H:Hp}{kvs:List (List Key×V)}{xs:List (List Key×Addr×Value)}(r:KT H kvs xs)(k:List Key):Qok (Qg0 kvs k) ((atKey xs k).map (·.2)):=by
 induction r with
 | nil=>exact True.intro
 | @cons p q ps qs h t ih=>
  obtain⟨h1,_,h2⟩:=h;by_cases e:p.1=k
  .have e':q.1=k:=h1.symm.trans e;have b:atKey (q::qs) k=some q.2:=by simp[atKey,List.find?_cons,e']
   rw[Qjf e,b];exact h2
  .have e':¬q.1=k:=λz=>e (h1.trans z);have b:atKey (q::qs) k=atKey qs k:=by simp[atKey,List.find?_cons,e']
   rw[Qi2 e,b];exact ih
def KT.QuT{H:Hp}{kvs:List (List Key×V)}{xs:List (List Key×Addr×Value)}(r:KT H kvs xs)(k:List Key){y:V}{u:Value}(ry:RelV y u):
  KT H (kvs.map λkv=>if kv.1=k then(kv.1,y)else kv) (xs.map (putAt k u)):=by
 induction r with
 | nil=>exact .nil
 | @cons p q ps qs h t ih=>
  rw[ZA,ZA];refine .cons ?_ ih;obtain⟨h1,h2,h3⟩:=h;unfold putAt;by_cases e:p.1=k
  .rw[if_pos e,if_pos (h1.symm.trans e)];exact⟨h1,h2,ry⟩
  .rw[if_neg e,if_neg (λz=>e (h1.trans z))];exact⟨h1,h2,h3⟩
def KT.put{H:Hp}{kvs:List (List Key×V)}{xs:List (List Key×Addr×Value)}(r:KT H kvs xs)(k:List Key){b:Addr}{y:V}{u:Value}(hb:H b=some (.tup (k.map kV)))(ry:RelV y u):
  KT H (putK kvs k y) (storedH xs k b u):=by
 have e:(kvs.any λkv=>decide (kv.1=k))=(atKey xs k).isSome:=by
  rw[Qny,(r.val k).Qhr,Option.isSome_map]
 unfold putK storedH;rw[e];by_cases q:(atKey xs k).isSome=true
 .rw[if_pos q,if_pos q];exact r.QuT k ry
 .rw[if_neg q,if_neg q];exact Paired.snoc r ⟨rfl,hb,ry⟩
def KT.keeps{H H':Hp}{kvs:List (List Key×V)}{xs:List (List Key×Addr×Value)}(r:KT H kvs xs)(ht:∀b ys,H b=some (.tup ys)->H' b=some (.tup ys)):KT H' kvs xs:=
 Paired.QtW r λ_ _ z=>⟨z.1,ht _ _ z.2.1,z.2.2⟩
section
variable {P:Program}{w:World}{H:Hp}{h:Heap}{a:Addr}
def QvZ{u:HO}(ok:HOk P w H h)(e:Rd H a u):QaH P w H h a u:=e.ok ok
def QBr{kvs:List (Key×V)}(ok:HOk P w H h)(e:Rd H a (.dK kvs)):kvs.length<=sizeLine/\(a == sysModules)=false/\∃vs,KV kvs vs/\h.DictOf (QaE P w) a vs:=
 show QaH P w H h a (.dK kvs)from QvZ ok e
def QBi{kvs:List (Key×V)}(ok:HOk P w H h)(e:H a=some (.dK kvs)):kvs.length<=sizeLine/\(a == sysModules)=false/\∃vs,KV kvs vs/\h.DictOf (QaE P w) a vs:=QBr ok (.inl e)
def Qoq{ks:List Key}(ok:HOk P w H h)(e:H a=some (.tup (ks.map kV))):(tupleKind (QaE P w)).is h ks a:=by
 obtain⟨_,its,r,o,h1,h2,n,h3⟩:=(show QaH P w H h a (.tup (ks.map kV))from ok a _ e);exact⟨o,its.toArray,n,h1,h2,h3,by simpa using Qha r⟩
def Qrh{kvs:List (List Key×V)}(ok:HOk P w H h)(e:Rd H a (.dT kvs)):kvs.length<=sizeLine/\(a == sysModules)=false∧
  ∃xs,KT H kvs xs/\h.DictOfH (tupleKind (QaE P w)) a xs:=by
 obtain⟨z,y,xs,r,o,es,ep,h1,h2,h3,h4,h5⟩:=(show QaH P w H h a (.dT kvs)from QvZ ok e);refine⟨z,y,xs,r,o,es,ep,h1,h2,h3,h4,λx hx=>?_,h5⟩;have all:∀{l:List (List Key×V)}{m:List (List Key×Addr×Value)},KT H l m->∀x∈m,(tupleKind (QaE P w)).is h x.1 x.2.1:=by
  intro l m q
  induction q with
  | nil=>intro x hx;exact nomatch hx
  | @cons p q ps qs hq t ih=>
   intro x hx;rcases Zm.mp hx with e | hx
   .subst e;exact Qoq ok (by rw[← hq.1];exact hq.2.1)
   .exact ih x hx
 exact all r x hx
def QvY{kvs:List (List Key×V)}(ok:HOk P w H h)(e:H a=some (.dT kvs)):kvs.length<=sizeLine/\(a == sysModules)=false∧
  ∃xs,KT H kvs xs/\h.DictOfH (tupleKind (QaE P w)) a xs:=Qrh ok (.inl e)
end
def QmO(H:Hp)(a:Addr)(y v:V)(H':Hp):Prop:=
 (∃kvs k,H a=some (.dK kvs)/\y=kV k/\kvs.length<sizeLine/\H'=upd H a (.dK (putK kvs k v)))∨
 ∃kvs k b,H a=some (.dT kvs)/\y= .ref b/\H b=some (.tup (k.map kV))/\kvs.length<sizeLine/\H'=upd H a (.dT (putK kvs k v))
def QmO.t{H:Hp}{a b:Addr}{kvs:List (List Key×V)}{k:List Key}{v:V}(e:H a=some (.dT kvs))(eb:H b=some (.tup (k.map kV)))(hl:kvs.length<sizeLine):
  QmO H a (.ref b) v (upd H a (.dT (putK kvs k v))):= .inr ⟨kvs,k,b,e,rfl,eb,hl,rfl⟩
section
variable {X:Cx}{pins:List (Addr×Obj)}{σ:St}{H:Hp}{s:Shared}{a:Addr}{y v:V}{u r:Value}{o:Option V}{A:Around}{E:Value->Shared->Prop}
def Inv.big(I:Inv X pins σ H s):sysModules<s.heap.objs.size:=by
 have h:mainGlobals<s.heap.objs.size:=(I.mod.glob.keeps I.bk).lt;exact Zcq ∅ h
def Qlc{h':Heap}{t':Nat}{ob:HO}(I:Inv X pins σ H s)(mu:Mut (H a))(hs:Heap.SameBut a s.heap h')(he:∃q,h'.get? a=some q)(new:QaH X.prog X.w (upd H a ob) h' a ob):
  Inv X pins σ (upd H a ob) {s with heap:=h',toks:=t'}:=
 I.write (x:=a) (e:=a) mu (.inl rfl) (λb q hb z=>(hs.2 b hb).trans z) he new
def Qyn{P:Program}{w:World}{H':Hp}{h':Heap}{kvs:List (Key×V)}{vs:List (Key×Value)}(z:kvs.length<=sizeLine)(hd:(a == sysModules)=false)(rel:KV kvs vs)(dd:h'.DictOf (QaE P w) a vs):
  QaH P w H' h' a (.dK kvs):=⟨z,hd,vs,rel,dd⟩
def Qrq{H':Hp}{Q:Unit->Shared->Prop}(hu:A.units+1<cLine)(I:Inv X pins σ H s)(g:QmO H a y v H')(ry:RelV y u)(rv:RelV v r)(h:∀s',Inv X pins σ H' s'->Q () s'):
  wpAny (model X.prog X.w) A (setItem (.ref a) u r) Q E s:=by
 rcases g with⟨kvs,k,e,ey,l,eH⟩ | ⟨kvs,k,b,e,ey,eb,l,eH⟩
 .subst ey eH;obtain⟨z,hd,vs,rel,dd⟩:=QBi I.hok e;have hz:vs.length<=sizeLine:=by rw[← rel.length];exact z
  have hl:(putK kvs k v).length<=sizeLine:=by have:=QiG kvs k v;lia
  refine wpAny_setItem_pairs (hsz:=hz) (Qv3 ry) dd λh' dd' hs=>h _ ?_;have he:∃q,h'.get? a=some q:=let ⟨q,_,_,hq,_⟩:=dd';⟨q,hq⟩;exact Qlc I (by rw[e];exact True.intro) hs he (Qyn hl hd (rel.put k rv) dd')
 .subst ey eH;cases(show u=Value.ref b from ry);obtain⟨z,hd,xs,rel,dd⟩:=QvY I.hok e;have hz:xs.length<=sizeLine:=by rw[← ZbM rel];exact z
  have hl:(putK kvs k v).length<=sizeLine:=by have:=QiG kvs k v;lia
  refine wpAny_setItem_heap (hsz:=hz) (tupleKind_room_in1 hu) (Qoq I.hok eb) dd λh' dd' hs=>h _ ?_;obtain⟨q,es,ep,hq,h2,h3,h4,_,h5⟩:=dd';refine Qlc I (by rw[e];exact True.intro) hs ⟨q,hq⟩ ⟨hl,hd,_,(rel.put k eb rv).keeps λc ys ec=>?_,q,es,ep,hq,h2,h3,h4,h5⟩;rw[QA (QdS ec e (λz=>nomatch z))];exact ec
end
section
variable {X:Cx}{pins:List (Addr×Obj)}{σ:St}{H:Hp}{s:Shared}{a:Addr}{kvs:List (Key×V)}{k:Key}{u:Value}{A:Around}{E:Value->Shared->Prop}
end
noncomputable def QAS(td ty tv:TE):TS:=λD σ H=>tv σ H λv H1=>td σ H1 λx H2=>ty σ H2 λy H3=>∃a H4,x= .ref a/\QmO H3 a y v H4/\D.nx σ H4
section
variable {X:Cx}{o i e value:Expr}{pos pos' tpos:Pos}{td ty tv:TE}
def QxK(hu:X.A.units+1<cLine)(ho:PE X o td)(hi:PE X i ty)(hv:PE X value tv)(hs:swapsWith value (some (.Subscript o i pos')) pos.line X.env=pure false):
  PS X (.Assign [.Subscript o i pos'] value pos) (QAS td ty tv):=by
 intro pins s σ H D I h;refine wpAny_Assign_Subscript (thn (hv pins s σ H _ I h) λr s1 ⟨v,H1,I1,rv,q1⟩=>thn (ho pins s1 σ H1 _ I1 q1) λu s2 ⟨x,H2,I2,rx,q2⟩=>thn (hi pins s2 σ H2 _ I2 q2) λiv s3 ⟨y,H3,I3,ry,a,H4,ex,g,q3⟩=>?_) hs;subst ex;obtain rfl:u=Value.ref a:=rx;exact Qrq hu I3 g ry rv λs4 I4=>⟨σ,H4,I4,q3⟩
end
def Qnb{P:Program}{w:World}{H:Hp}(h:Heap)(hb:sysModules<h.objs.size):QaH P w H (h.push {cls:= .type "dict",data:= .dict #[]}) h.objs.size (.dT []):=
 ⟨ZF _,beq_eq_false_iff_ne.mpr (Ne.symm (ZJ hb)),[],.nil,_,#[],0,ZD _ rfl,⟨rfl,rfl,rfl⟩,rfl,rfl,ZaJ⟩
noncomputable def QzD:TE:=λ_ H Q=>∀p,H p=none->Q (.ref p) (upd H p (.dT []))
section
variable {X:Cx}{pos:Pos}
def Qvc:PE X (.Dict [] [] pos) QzD:=λpins s σ H Q I h=>
 wpAny_Dict_empty ⟨.ref s.heap.objs.size,_,I.laid (a:=s.heap.objs.size) (o:= .dT []) (t':=s.toks) (λ_ _ q=>Zc _ q) (Zd _) (Qnb s.heap I.big),rfl,h _ (I.hok.fresh (Zd _))⟩
end
end L2
namespace HS
open PySem PySem.Spec L2 PyProof.Rows
end HS
namespace L2
open PySem PySem.Spec PyProof.Rows
def Qlp(env:Env)(body:Str×NameKind->List (Str×Addr)->Sem (ForInStep (List (Str×Addr))))
  (hb:∀n k cs,body (n,k) cs=if(k == NameKind.free)=true then(do let c ← cellOf env n;pure (ForInStep.yield ((n,c)::cs)))else pure (ForInStep.yield cs)):
  ∀(names:List (Str×NameKind)) (acc:List (Str×Addr)),(∀y∈names,y.2= .free->∃c,env.cells.lookup y.1=some c)->(∀x c,acc.lookup x=some c->env.cells.lookup x=some c)→
   ∃cl,forIn names acc body=(pure cl:Sem _)/\(∀x c,cl.lookup x=some c->env.cells.lookup x=some c)/\(∀x,acc.lookup x≠none->cl.lookup x≠none)/\∀y∈names,y.2= .free->cl.lookup y.1≠none
 | [],acc,_,ha=>⟨acc,rfl,ha,λ_ h=>h,λy hy=>by simp at hy⟩
 | (n,k)::r,acc,hn,ha=>by
  rw[ZbP,hb];have hr:∀y∈r,y.2= .free->∃c,env.cells.lookup y.1=some c:=λy hy=>hn y (Zb _ hy);by_cases hk:k= .free
  .subst hk;obtain⟨c,hc⟩:=hn (n,.free) Ze rfl;have hce:cellOf env n=pure c:=by unfold cellOf;rw[show env.cells.lookup n=some c from hc]
   rw[if_pos (by rfl),hce];obtain⟨cl,e,h1,h2,h3⟩:=Qlp env body hb r ((n,c)::acc) hr (λx c' e=>by
    rw[ZC]at e;cases q:x == n with
    | true=>rw[q]at e;cases e;rw[beq_iff_eq]at q;rw[q];exact hc
    | false=>rw[q]at e;exact ha x c' e)
   have hcons:∀x,((n,c)::acc).lookup x≠none->cl.lookup x≠none:=h2;refine⟨cl,by simpa using e,h1,λx hx=>hcons x ?_,λy hy hf=>?_⟩
   .rw[ZC];cases x == n with
    | true=>simp
    | false=>exact hx
   .rcases Zm.mp hy with rfl | hy
    .exact hcons _ (by simp[ZC])
    .exact h3 y hy hf
  .rw[if_neg (by simpa using hk)];obtain⟨cl,e,h1,h2,h3⟩:=Qlp env body hb r acc hr ha;refine⟨cl,by simpa using e,h1,h2,λy hy hf=>?_⟩;rcases Zm.mp hy with rfl | hy
   .exact absurd hf hk
   .exact h3 y hy hf
def Qxx(h:∀y∈scope.names,y.2= .free->∃c,env.cells.lookup y.1=some c):
  ∃cl,closureFor scope env=pure cl/\(∀x c,cl.lookup x=some c->env.cells.lookup x=some c)/\∀y∈scope.names,y.2= .free->∃c,cl.lookup y.1=some c:=by
 unfold closureFor;obtain⟨cl,e,h1,_,h3⟩:=Qlp env (λx cs=>match x with | (name,kind)=>if(kind == NameKind.free)=true then(do let c ← cellOf env name;pure (ForInStep.yield ((name,c)::cs)))else pure (ForInStep.yield cs)) (λ_ _ _=>rfl) scope.names [] h (λx c e=>by simp at e);refine⟨cl,?_,h1,λy hy hf=>Option.ne_none_iff_exists'.mp (h3 y hy hf)⟩;show(forIn scope.names [] _ >>= λr=>pure r)=_;rw[e];rfl
noncomputable def cxc(X:Cx)(N':List Str)(scope:Scope)(cl:List (Str×Addr))(C:Addr)(fp:LAd)(s3:Shared)(H3:Hp):Cx:=
 {X with N:=N',s₀:=s3,H₀:=H3,env:=compEnvC scope cl C X.env,outer:=X.stack,ex:=fp,fn:=λx=>decide (scope.names.lookup x=some .cell),pn:=[],xe:=λ_ _=>False}
def PTs(X:Cx)(ifs:List Expr)(t:TT):Prop:=
 ∀(pins:List (Addr×Obj)) (s:Shared) (σ:St) (H:Hp) (Q:Bool->Hp->Prop),Inv X pins σ H s->t σ H Q→
  wpAny (model X.prog X.w) X.A (forIn ifs true λc r=>if r=true then do let ok ← isTrue c X.env (eval c X.env);pure (ForInStep.yield ok)else pure (ForInStep.yield r)) (TP X pins σ Q) X.xe s
noncomputable def QB3:TT:=λ_ H Q=>Q true H
def Qwn:PTs X [] QB3:=λ_ _ _ H _ I h=>wpAny_tests_nil ⟨H,I,h⟩
def Qws(h:PT X c t):PTs X [c] t:=λpins s σ H Q I q=>wpAny_tests_one (h pins s σ H Q I q)
def QkF(X:Cx)(N':List Str)(scope:Scope)(σ σ':St):Prop:=
 σ'.length=N'.length/\∀(j:Nat) (x:Str) (v:V),N'[j]? =some x->σ'[j]? =some (some v)->scope.names.lookup x=some .free/\∃i:Nat,X.N[i]? =some x/\σ[i]? =some (some v)/\(X.env.kindOf x=some .cell∨X.env.kindOf x=some .free)
noncomputable def Qmz(wi:TI)(cap:St->St->Prop)(g:TG)(tc:TT)(te:TE):TE:=λσ H Q=>wi σ H λJ H1=>∃σc,cap σ σc/\∀D,H1 D=none->∃W:Nat->Nat->List V->Hp->Prop,
 (∃m,W 0 m [] (upd H1 D (.lst [])))/\∀i m acc H2,W i m acc H2->(J.stop i H2/\Q (.ref D) H2)∨
  (J.go i H2/\∀x H3,J.yld i H2 x H3->g x σc H3 λσ2 H4=>(∀(j:Nat) v,σc[j]? =some (some v)->σ2[j]? =some (some v))/\tc σ2 H4 λb H5=>if b=true then
   te σ2 H5 λy H6=>H6 D=some (.lst acc)/\acc.length<sizeLine/\∃m',m'<m/\W (i+1) m' (acc++[y]) (upd H6 D (.lst (acc++[y])))
   else ∃m',m'<m/\W (i+1) m' acc H5)
def Qcd{env:Env}:∀{names:List (Str×NameKind)}{x:Str},names.lookup x=some .free→
  (names.map λ(n,k)=>if(k == NameKind.free && env.scope.kind == .function && env.kindOf n == some .cell)then(n,NameKind.cell)else(n,k)).lookup x=some .cell∨
  (names.map λ(n,k)=>if(k == NameKind.free && env.scope.kind == .function && env.kindOf n == some .cell)then(n,NameKind.cell)else(n,k)).lookup x=some .free
 | [],_,h=>by simp at h
 | (n,k)::r,x,h=>by
  have ih:= @Qcd env r x;rw[ZA];cases hx:x == n with
  | true=>
   simp only[ZC,hx]at h;cases h;dsimp only;split
   .left;simp[ZC,hx]
   .right;simp[ZC,hx]
  | false=>
   simp only[ZC,hx]at h;dsimp only;split
   .simp only[ZC,hx];exact ih h
   .simp only[ZC,hx];exact ih h
def Qd5{env:Env}:∀{names:List (Str×NameKind)}{x:Str},
  ((names.map λ(n,k)=>if(k == NameKind.free && env.scope.kind == .function && env.kindOf n == some .cell)then(n,NameKind.cell)else(n,k)).lookup x=some .cell∨
  (names.map λ(n,k)=>if(k == NameKind.free && env.scope.kind == .function && env.kindOf n == some .cell)then(n,NameKind.cell)else(n,k)).lookup x=some .free)→
  ∃k,(x,k)∈names/\(k= .free∨k= .cell)
 | [],_,h=>by simp at h
 | (n,k)::r,x,h=>by
  have ih:= @Qd5 env r x;rw[ZA]at h;cases hx:x == n with
  | true=>
   have hn:x=n:=by simpa using hx
   subst hn;dsimp only at h;split at h
   .rename_i hc;simp only[Zk]at hc;refine⟨k,Ze,.inl (by simpa using hc.1.1)⟩
   .simp only[ZC,hx]at h;refine⟨k,Ze,?_⟩;rcases h with h | h
    .exact .inr (Option.some.inj h)
    .exact .inl (Option.some.inj h)
  | false=>
   dsimp only at h;have:∃k,(x,k)∈r/\(k= .free∨k= .cell):=by
    apply ih;split at h
    .simpa only[ZC,hx]using h
    .simpa only[ZC,hx]using h
   obtain⟨k',h1,h2⟩:=this;exact⟨k',Zb _ h1,h2⟩
def Qf7:∀(names:List (Str×NameKind)) (n:Nat) (acc:List (Str×Addr)) (x:Str) (c:Addr),(cellsFrom n names acc).lookup x=some c->acc.lookup x=some c∨(n<=c/\(x,NameKind.cell)∈names)
 | [],_,_,_,_,h=> .inl h
 | (nm,k)::r,n,acc,x,c,h=>by
  unfold cellsFrom at h;split at h
  .rename_i hk;have hk:k= .cell:=by simpa using hk
   rcases Qf7 r (n+1) ((nm,n)::acc) x c h with h | ⟨h1,h2⟩
   .rw[ZC]at h;cases q:x == nm with
    | true=>
     rw[q]at h;cases h;have:x=nm:=by simpa using q
     exact .inr ⟨Zd _,by rw[this,hk];exact Ze⟩
    | false=>rw[q]at h;exact .inl h
   .exact .inr ⟨⋯,Zb _ h2⟩
  .rcases Qf7 r n acc x c h with h | ⟨h1,h2⟩
   .exact .inl h
   .exact .inr ⟨h1,Zb _ h2⟩
def Qod:∀(names:List (Str×NameKind)) (n:Nat) (acc:List (Str×Addr)) (x:Str) (c:Addr),(x,NameKind.cell)∈names->(cellsFrom n names acc).lookup x=some c->n<=c
 | (nm,k)::r,n,acc,x,c,hm,h=>by
  unfold cellsFrom at h;split at h
  .by_cases hr:(x,NameKind.cell)∈r
   .have:=Qod r (n+1) _ x c hr h;lia
   .have hx:x=nm:=by
     rcases Zm.mp hm with e | e
     .exact(Prod.mk.inj e).1
     .exact absurd e hr
    rcases Qf7 r (n+1) ((nm,n)::acc) x c h with h | ⟨h1,_⟩
    .rw[ZC,show(x == nm)=true by simpa using hx]at h;cases h;exact Zd _
    .lia
  .rename_i hk;rcases Zm.mp hm with e | e
   .exact absurd (by rw[← (Prod.mk.inj e).2];rfl) hk
   .exact Qod r n acc x c e h
def Qom:∀(names:List (Str×NameKind)) (n:Nat) (acc:List (Str×Addr)),(∀x y c,acc.lookup x=some c->acc.lookup y=some c->x=y)->(∀x c,acc.lookup x=some c->c<n)→
  ∀x y c,(cellsFrom n names acc).lookup x=some c->(cellsFrom n names acc).lookup y=some c->x=y
 | [],_,_,hi,_,x,y,c,h1,h2=>hi x y c h1 h2
 | (nm,k)::r,n,acc,hi,hb,x,y,c,h1,h2=>by
  unfold cellsFrom at h1 h2;split at h1
  .rename_i hk;rw[if_pos hk]at h2;refine Qom r (n+1) ((nm,n)::acc) (λx y c h1 h2=>?_) (λx c h=>?_) x y c h1 h2
   .rw[ZC]at h1 h2;cases qx:x == nm with
    | true=>
     rw[qx]at h1;cases h1;cases qy:y == nm with
     | true=>rw[show x=nm by simpa using qx,show y=nm by simpa using qy]
     | false=>rw[qy]at h2;exact absurd (hb y _ h2) (Zaa _)
    | false=>
     rw[qx]at h1;cases qy:y == nm with
     | true=>rw[qy]at h2;cases h2;exact absurd (hb x _ h1) (Zaa _)
     | false=>rw[qy]at h2;exact hi x y c h1 h2
   .rw[ZC]at h;cases qx:x == nm with
    | true=>rw[qx]at h;cases h;exact Zak _
    | false=>rw[qx]at h;exact Zay (hb x c h)
  .rename_i hk;rw[if_neg hk]at h2;exact Qom r n acc hi hb x y c h1 h2
def QfZ:∀(names:List (Str×NameKind)) (n:Nat) (acc:List (Str×Addr)) (x:Str),(∃c,acc.lookup x=some c)->∃c,(cellsFrom n names acc).lookup x=some c
 | [],_,_,_,h=>h
 | (nm,k)::r,n,acc,x,h=>by
  unfold cellsFrom;split
  .refine QfZ r (n+1) _ x ?_;rw[ZC];cases x == nm with
   | true=>exact⟨n,rfl⟩
   | false=>exact h
  .exact QfZ r n acc x h
def QoB:∀(names:List (Str×NameKind)) (n:Nat) (acc:List (Str×Addr)) (x:Str),(x,NameKind.cell)∈names->∃c,(cellsFrom n names acc).lookup x=some c
 | (nm,k)::r,n,acc,x,hm=>by
  unfold cellsFrom;rcases Zm.mp hm with e | e
  .obtain⟨e1,e2⟩:=Prod.mk.inj e;subst e1;rw[← e2,if_pos (by rfl)];exact QfZ r (n+1) _ x ⟨n,by simp[ZC]⟩
  .split
   .exact QoB r (n+1) _ x e
   .exact QoB r n acc x e
def QlS(lo:Nat):∀(names:List (Str×NameKind)) (h:Heap) (acc:List (Str×Addr)),(∀x c,acc.lookup x=some c->lo<=c->h.IsCell c none)->lo<=h.objs.size→
  ∀x c,(cellsFrom h.objs.size names acc).lookup x=some c->lo<=c->(pushCells h names).IsCell c none
 | [],_,_,ha,_,x,c,e,hl=>ha x c e hl
 | (nm,k)::r,h,acc,ha,hlo,x,c,e,hl=>by
  unfold cellsFrom at e;unfold pushCells;split at e
  .rename_i hk;rw[if_pos hk];have hs:=ZaB h {cls:= .type "cell",data:= .cell none};refine QlS lo r (h.push {cls:= .type "cell",data:= .cell none}) ((nm,h.objs.size)::acc) (λx c e hl=>?_) (by rw[hs];lia) x c (by rw[hs];exact e) hl;rw[ZC]at e;cases q:x == nm with
   | true=>rw[q]at e;cases e;exact⟨_,ZD _ rfl,rfl⟩
   | false=>rw[q]at e;exact(ha x c e hl).keeps λb o e=>Zc _ e
  .rename_i hk;rw[if_neg hk];exact QlS lo r h acc ha hlo x c e hl
def QqO
  (hQ:∀h':Heap,h'.Ns s.heap.objs.size (λ_=>none)->(∀b o,s.heap.get? b=some o->h'.get? b=some o)->((∀x c,cl.lookup x=some c->c<s.heap.objs.size)->∀x c,(cellsFrom (s.heap.objs.size+1) scope.names cl).lookup x=some c->s.heap.objs.size+1<=c->h'.IsCell c none)→
   Q (newEnv scope s.heap.objs.size globals (cellsFrom (s.heap.objs.size+1) scope.names cl) qual none .none (some env) builtins) {s with heap:=h'}):
  wpAny M A (newFunctionEnv scope globals cl [] qual none .none (some env) builtins) Q E s:=by
 simp only[newFunctionEnv,Option.isSome_some,if_true];refine wpAny_bind (wpAny_alloc ?_);refine wpAny_bind (wpAny_layCells _ (λname kind cells=>by cases hkc:kind == NameKind.cell<;>simp[hkc]) _ _ _ _ ?_);have hs:=ZaB s.heap {cls:= .type "dict",data:= .dict #[]};rw[show({s with heap:=s.heap.push {cls:= .type "dict",data:= .dict #[]}}:Shared).heap.objs.size=s.heap.objs.size+1 from hs];refine wpAny_bind (wpAny_pure (wpAny_pure ?_));refine hQ _ ((Heap.Ns.new s.heap (.type "dict")).keeps (pushCells_keeps _ _)) (λb o e=>pushCells_keeps _ _ b o (Zc _ e)) λhb x c e hl=>?_;refine QlS (s.heap.objs.size+1) scope.names (s.heap.push {cls:= .type "dict",data:= .dict #[]}) cl (λx c e hl=>?_) (by rw[hs];exact Zd _) x c (by rw[hs];exact e) hl;exact absurd (Zu (hb x c e) (Zw (ZaK _) hl)) (Zaa _)
section
variable {X:Cx}{tg iter elt:Expr}{ifs:List Expr}{scope:Scope}{N':List Str}{pos:Pos}
structure QdY (X:Cx) (N':List Str) (scope:Scope):Prop where
 kind:scope.kind= .function
 own:∀y∈scope.names,y.2= .cell->scope.names.lookup y.1=some .cell
 loc:∀y∈scope.names,y.2= .local ->scope.names.lookup y.1=some .local
 free:∀y∈scope.names,y.2= .free->X.env.kindOf y.1=some .cell∨X.env.kindOf y.1=some .free
def QvD{pins:List (Addr×Obj)}{σ σc:St}{H3:Hp}{s3:Shared}{fp:LAd}{cl:List (Str×Addr)}{h':Heap}{tk:Nat}(S:QdY X N' scope)(I:Inv X pins σ H3 s3)
  (hf:∀b∈fp,Qc6 X pins H3 b) (hfl:∀b∈fp,b<s3.heap.objs.size) (hc1:∀x c,cl.lookup x=some c->X.env.cells.lookup x=some c) (hc2:∀y∈scope.names,y.2= .free->∃c,cl.lookup y.1=some c) (cap:QkF X N' scope σ σc)
  (hns:h'.Ns s3.heap.objs.size (λ_=>none)) (hk:∀b o,s3.heap.get? b=some o->h'.get? b=some o)
  (hown:(∀x c,cl.lookup x=some c->c<s3.heap.objs.size)->∀x c,(cellsFrom (s3.heap.objs.size+1) scope.names cl).lookup x=some c->s3.heap.objs.size+1<=c->h'.IsCell c none):
  Inv (cxc X N' scope (cellsFrom (s3.heap.objs.size+1) scope.names cl) s3.heap.objs.size fp s3 H3) [] σc H3 {s3 with heap:=h',toks:=tk}:=by
 have nold:∀b,b∈fp->b≠s3.heap.objs.size:=λb hb e=>absurd (hfl b hb) (by rw[e];exact Zaa _);have cellOld:∀x c,cl.lookup x=some c->∃v,s3.heap.IsCell c v:=λx c e=>I.cell x c (hc1 x c e);have cellLt:∀x c,cl.lookup x=some c->c<s3.heap.objs.size:=λx c e=>let ⟨v,q⟩:=cellOld x c e;q.lt;have cellNew:∀c v,s3.heap.IsCell c v->h'.IsCell c v:=λc v ⟨o,ho,hd⟩=>⟨o,hk c o ho,hd⟩;have hown:=hown cellLt;have look:∀x c,(cellsFrom (s3.heap.objs.size+1) scope.names cl).lookup x=some c->cl.lookup x=some c∨(s3.heap.objs.size+1<=c/\(x,NameKind.cell)∈scope.names):=Qf7 scope.names _ cl
 refine⟨⟨I.ok.mod,S.kind,I.ok.glob,I.ok.blt,Zd _,Qom scope.names _ cl (λx y c h1 h2=>I.ok.inj x y c (hc1 x c h1) (hc1 y c h2)) (λx c e=>Zay (cellLt x c e)),λx hx=>?_,λx c e1 e2=>?_,I.ok.hd,I.ok.frames,.inl rfl,λb hb=>⟨nold b hb,λx c e=>?_⟩,
  I.bs,Zw I.ok.bsz I.sz,λb o e hb=>?_,λb hb hs=>?_,I.stack,I.Qly⟩,rfl,I.bare,Un.kept hk,⟨_,hns,λj x v h1 h2 h3=>?_⟩,λx c e=>?_,I.hok.fresh (Zd _),λx c e=>?_,λp hp=>absurd (show p∈([]:List (Addr×Obj))from hp) ⋯,I.hok.kept hk,cap.1⟩
 .obtain⟨k,hm,hk'⟩:=Qd5 hx;rcases hk' with rfl | rfl
  .exact QfZ scope.names _ cl x (hc2 _ hm rfl)
  .exact QoB scope.names _ cl x hm
 .have e1:decide (scope.names.lookup x=some .cell)=true:=e1;have:=Qod scope.names _ cl x c (Zar (of_decide_eq_true e1)) e2;exact Zw (ZaK _) this
 .rcases look x c e with e | ⟨e,_⟩
  .exact(hf b hb).2.2.2.2.1 x c (hc1 x c e)
  .intro z;rw[z]at e;exact absurd (Zu (hfl b hb) (Zw (ZaK _) e)) (Zaa _)
 .rcases(hf b hb).2.2.2.1 with z | z
  .exact I.ok.noex b o e z
  .exact absurd (Zu (Zt e) (Zw I.ok.bsz z)) (Zaa _)
 .rcases Zm.mp (I.QeV b hs)with e | z
  .exact(hf b hb).2.1 e
  .exact(hf b hb).2.2.1 z
 .obtain⟨hl,i,e1,e2,e3⟩:=cap.2 j x v h1 h2;obtain⟨m,hn,look'⟩:=I.loc;obtain⟨u,r,l⟩:=look' i x v e1 e2 (e3.elim (λz=> .inr (.inl z)) λz=> .inr (.inr z));refine⟨u,r,.inr ⟨Qcd hl,?_⟩⟩;rcases l with⟨k,_⟩ | ⟨_,c,ec,hcell⟩
  .rcases e3 with z | z<;>(rw[k]at z;cases z)
  .obtain⟨c',ec'⟩:=QfZ scope.names (s3.heap.objs.size+1) cl x (hc2 (x,.free) (Zar hl) rfl);rcases look x c' ec' with q | ⟨_,q⟩
   .have:=hc1 x c' q;rw[ec]at this;cases this;exact⟨c,ec',cellNew c _ hcell⟩
   .have:=S.own _ q rfl;rw[hl]at this;cases this
 .rcases look x c e with q | ⟨q,_⟩
  .obtain⟨v,q⟩:=cellOld x c q;exact⟨v,cellNew c v q⟩
  .exact⟨none,hown x c e q⟩
 .rcases look x c e with q | ⟨q,_⟩
  .exact I.freeC x c (hc1 x c q)
  .exact I.hok.fresh ⋯
def QrA(J:Nat->Shared->Prop)
  (turn:∀n s,J n s->wpAny (model prog w) A (pyNext it) (λr s1=>match r with
   | none=>R (.ok .next) s1
   | some v=>wpAny (model prog w) A (letOwnedTupleGo tg it v) (λ_ s2=>wpAny (model prog w) A (assign tg env v) (λ_ s3=>
     wpAny (model prog w) A (forIn ifs true λc r=>if r=true then do let ok ← isTrue c env (eval c env);pure (ForInStep.yield ok)else pure (ForInStep.yield r)) (λok s4=>
      if ok=true then wpAny (model prog w) A (eval elt env) (λx s5=>wpAny (model prog w) A (call (.builtin "list.append") [acc,x]) (λ_ s6=>∃m,m<n/\J m s6) (λ_ _=>False) s5) (λ_ _=>False) s4
      else ∃m,m<n/\J m s4) (λ_ _=>False) s3) (λ_ _=>False) s2) (λ_ _=>False) s1) (λ_ _=>False) s)
  (n:Nat) (h:J n s0):codeAny (model prog w) A (.compLoop (.ListComp elt [⟨tg,iter,ifs,0⟩] scope pos) 0 it acc env) R s0:=by
 have up:∀{α:Type}{t:Sem α}{Q:α->Shared->Prop}{E:Value->Shared->Prop}{s:Shared},wpAny (model prog w) A t Q (λ_ _=>False) s->wpAny (model prog w) A t Q E s:=λh=>wpAny_mono h (λ_ _ q=>q) λ_ _ f=>f.elim;refine codeAny_loop (by rfl) J (λk sk hk=>?_) n h;show wpAny (model prog w) A ((compTurn (.ListComp elt [⟨tg,iter,ifs,0⟩] scope pos) 0 it acc env).onRaise (λx=>do noteFrame x env;theTreesLotGoes x)) _ _ sk;refine wpAny_noted (up ?_);rw[compTurn_list];refine wpAny_bind (wpAny_standAt (wpAny_bind (thn (turn k sk hk) λr s1 h1=>?_)));cases r with
 | none=>exact wpAny_pure h1
 | some v=>
  refine wpAny_bind (thn h1 λ_ s2 h2=>wpAny_bind (thn h2 λ_ s3 h3=>wpAny_bind (thn h3 λok s4 h4=>?_)));cases ok with
  | false=>exact wpAny_pure ⟨rfl,h4⟩
  | true=>exact wpAny_bind (wpAny_bind (thn h4 λx s5 h5=>wpAny_bind (thn h5 λ_ s6 h6=>wpAny_pure (wpAny_pure ⟨rfl,h6⟩))))
def Qu2{it D C:Addr}{fp:LAd}{tn:Nat->Heap->Prop}{J:It}{cl:List (Str×Addr)}{s3 s4:Shared}{H3:Hp}{σc:St}{g:TG}{tc:TT}{te:TE}{Q:Hp->Prop}(hcalm:X.calm=true)
  (T:Turn X.prog X.w X.K tg J fp it tn)
  (hg:PG (cxc X N' scope cl C fp s3 H3) tg g) (ht:PTs (cxc X N' scope cl C fp s3 H3) ifs tc) (he:PE (cxc X N' scope cl C fp s3 H3) elt te)
  (I:Inv (cxc X N' scope cl C fp s3 H3) [] σc H3 s4) (st:tn 0 s4.heap) (ff:∀b∈fp,Qc6 (cxc X N' scope cl C fp s3 H3) [] H3 b)
  (W:Nat->Nat->List V->Hp->Prop) (hw:∃m,W 0 m [] H3)
  (turn:∀i m acc H2,W i m acc H2->(J.stop i H2/\Q H2)∨
   (J.go i H2/\∀x H5,J.yld i H2 x H5->g x σc H5 λσ2 H6=>(∀(j:Nat) v,σc[j]? =some (some v)->σ2[j]? =some (some v))/\tc σ2 H6 λb H7=>if b=true then
    te σ2 H7 λy H8=>H8 D=some (.lst acc)/\acc.length<sizeLine/\∃m',m'<m/\W (i+1) m' (acc++[y]) (upd H8 D (.lst (acc++[y])))
    else ∃m',m'<m/\W (i+1) m' acc H7))
  {R:Result->Shared->Prop}(hR:∀H' s',Inv (cxc X N' scope cl C fp s3 H3) [] σc H' s'->Q H'->R (.ok .next) s'):
  codeAny (model X.prog X.w) X.A (.compStart (.ListComp elt [⟨tg,iter,ifs,0⟩] scope pos) 0 (.ref it) (.ref D) (compEnvC scope cl C X.env)) R s4:=by
 obtain⟨m0,w0⟩:=hw;have stat:∀{H':Hp},(∀b∈fp,H' b=none)->∀b∈fp,Qc6 (cxc X N' scope cl C fp s3 H3) [] H' b:=λhn b hb=>⟨hn b hb,(ff b hb).2⟩;have loop:codeAny (model X.prog X.w) X.A (.compLoop (.ListComp elt [⟨tg,iter,ifs,0⟩] scope pos) 0 (.ref it) (.ref D) (compEnvC scope cl C X.env)) R s4:=by
  refine QrA (λn s'=>∃i acc H',Inv (cxc X N' scope cl C fp s3 H3) [] σc H' s'/\tn i s'.heap/\(∀b∈fp,H' b=none)/\W i n acc H') ?_ m0 ⟨0,[],H3,I,st,λb hb=>(ff b hb).1,w0⟩;rintro n s5 ⟨i,acc,H5,I5,st5,fr5,w5⟩;rcases turn i n acc H5 w5 with⟨stop,q⟩ | ⟨go,step⟩
  .refine thn (T.done (cxc X N' scope cl C fp s3 H3) rfl rfl rfl hcalm i [] s5 σc H5 _ I5 (stat fr5) st5 stop) λr s6 Z=>?_;obtain⟨hr,I6⟩:=Z;subst hr;exact hR H5 s6 I6 q
  .refine thn (T.item (cxc X N' scope cl C fp s3 H3) rfl rfl rfl hcalm i [] s5 σc H5 _ I5 (stat fr5) st5 go) λr s6 Z=>?_;obtain⟨u,hr,h6⟩:=Z;subst hr;refine thn h6 λ_ s7 Z=>?_;obtain⟨x,H7,I7,r7,y7,st7,fr7⟩:=Z;have I7':=I7.pinned (stat fr7) (T.obj _ _ st7);refine thn (hg _ s7 σc H7 x u _ I7' r7 (step x H7 y7)) λ_ s8=>exJ λσ8 H8 I8 k8 q8=>?_;refine thn (ht _ s8 σ8 H8 _ I8 q8) λok s9 Z=>?_;obtain⟨H9,I9,q9⟩:=Z
   have again:∀{H':Hp}{s':Shared}{acc':List V},Inv (cxc X N' scope cl C fp s3 H3) ([]++QhE fp s7.heap) σ8 H' s'->(∃m',m'<n/\W (i+1) m' acc' H')→
     ∃m,m<n/\∃i acc H',Inv (cxc X N' scope cl C fp s3 H3) [] σc H' s'/\tn i s'.heap/\(∀b∈fp,H' b=none)/\W i m acc H':=λ{H' s' acc'} I' ⟨m',hm,w'⟩=>by
    have pin:∀b∈fp,∀o,s7.heap.get? b=some o->s'.heap.get? b=some o/\H' b=none:=λb hb o e=>by
     have z:=I'.pin (b,o) (Zf _ (Zf _ (QgQ hb e)));exact⟨z.1,z.2.1⟩
    refine⟨m',hm,i+1,acc',H',?_,T.keep _ _ _ st7 λb hb o e=>(pin b hb o e).1,λb hb=>?_,w'⟩
    .exact I'.Qgw.weak (I.len.trans I8.len.symm) k8
    .obtain⟨o,e,_⟩:=T.obj _ _ st7 b hb;exact(pin b hb o e).2
   cases ok with
   | false=>
    rw[if_neg Zac]at q9 ⊢;exact again I9 q9
   | true=>
    rw[if_pos rfl]at q9 ⊢;refine thn (he _ s9 σ8 H9 _ I9 q9) λyv s10 Z=>?_;obtain⟨y,H10,I10,r10,e10,l10,q10⟩:=Z;refine thn (Qmk _ s10 σ8 H10 (.ref D) [y] (.ref D) [yv] (λv H11=>H11=upd H10 D (.lst (acc++[y]))) I10 rfl (.cons r10 .nil) ⟨D,acc,y,rfl,rfl,e10,l10,rfl⟩) λ_ s11 Z=>?_;obtain⟨_,H11,I11,_,e11⟩:=Z;subst e11;exact again I11 q10
 exact codeAny_compStart_list loop (T.self _ 0 _ _ _ st loop)
def QnH{wi:TI}{g:TG}{tc:TT}{te:TE}{cp:Pos}{use:Option (Value->Sem Unit)}{pins:List (Addr×Obj)}{s:Shared}{σ:St}{H:Hp}{QV:Value->Shared->Prop}{Q:VK}(hcalm:X.calm=true)(S:QdY X N' scope)(hi:PI X tg iter wi)
  (hin:∀cl C fp s3 H3,PG (cxc X N' scope cl C fp s3 H3) tg g/\PTs (cxc X N' scope cl C fp s3 H3) ifs tc/\PE (cxc X N' scope cl C fp s3 H3) elt te)
  (hs:∀x,foldedSetIterable iter X.env x=pure x) (I:Inv X pins σ H s) (h:Qmz wi (QkF X N' scope) g tc te σ H Q)
  (fin:∀(D C:Addr) (H':Hp) (s':Shared),Inv X pins σ H' s'->H' C=none->C≠X.env.locals->X.s₀.heap.objs.size<=C->(∀x c,X.env.cells.lookup x=some c->c≠C)->(∀p∈X.pn++pins,p.1≠C)->(∃m,s'.heap.Ns C m)->Q (.ref D) H'→
   compPost (model X.prog X.w) X.A X.xe use QV (.ref D) C (.ok .next) s'):
  wpAny (model X.prog X.w) X.A (comprehension (.ListComp elt [⟨tg,iter,ifs,0⟩] scope pos) scope X.env cp (newList []) false (eval iter X.env) use) QV X.xe s:=by
 obtain⟨cl,hcl,hc1,hc2⟩:=Qxx λy hy hf=>I.ok.has y.1 (S.free y hy hf);refine wpAny_comprehension_free rfl hs hcl S.kind S.loc ?_;refine thn (hi pins s σ H _ I h) λv s1 h1=>thn h1 λitv s2 h2=>?_;obtain⟨it,fp,tn,J,H2,e,I2,T,st2,f2,σc,cap,hw⟩:=h2;subst e;have hD0:H2 s2.heap.objs.size=none:=I2.hok.fresh (Zd _);obtain⟨W,hW0,turn⟩:=hw _ hD0;have fpl:∀b∈fp,b<s2.heap.objs.size:=λb hb=>let ⟨o,e,_⟩:=T.obj _ _ st2 b hb;Zt e;have hlist:∀D:Addr,D=s2.heap.objs.size->∃x,x=D:=λD _=>⟨D,rfl⟩;refine wpAny_newObj_type ?_
 have I3:Inv X pins σ (upd H2 s2.heap.objs.size (.lst [])) {s2 with heap:=s2.heap.push {cls:= .type "list",dict:=none,data:= .seq ([]:List Value).toArray}}:=
  I2.laid (t':=s2.toks) (λb o e=>Zc _ e) (Zd _) ⟨ZF _,[],0,.nil,ZD _ rfl⟩
 generalize hs3:({s2 with heap:=s2.heap.push {cls:= .type "list",dict:=none,data:= .seq ([]:List Value).toArray}}:Shared)=s3 at I3;have hs3':s3.heap=s2.heap.push {cls:= .type "list",dict:=none,data:= .seq ([]:List Value).toArray}:=by rw[← hs3]
 have sz3:s3.heap.objs.size=s2.heap.objs.size+1:=by rw[hs3',ZaB]
 have old3:∀b o,s2.heap.get? b=some o->s3.heap.get? b=some o:=λb o e=>by rw[hs3'];exact Zc _ e
 have f3:∀b∈fp,Qc6 X pins (upd H2 s2.heap.objs.size (.lst [])) b:=λb hb=>⟨by rw[QA (ZJ (fpl b hb))];exact(f2 b hb).1,(f2 b hb).2⟩;have fpl3:∀b∈fp,b<s3.heap.objs.size:=λb hb=>by rw[sz3];exact Zay (fpl b hb)
 refine QqO (λh4 hns4' keep4 hown4=>?_);have I4:=QvD (tk:=s3.toks) S I3 f3 fpl3 hc1 hc2 cap hns4' keep4 hown4;have hout:∀H' s',Inv (cxc X N' scope (cellsFrom (s3.heap.objs.size+1) scope.names cl) s3.heap.objs.size fp s3 (upd H2 s2.heap.objs.size (.lst []))) [] σc H' s'->Inv X pins σ H' s':=λH' s' J'=>
  I3.QvU J'.os J'.base J'.hok J'.bare λb hb=>⟨(f3 b hb).2.2.2.1,(f3 b hb).2.1,(f3 b hb).2.2.2.2.1,(f3 b hb).2.2.2.2.2⟩
 obtain⟨hg,ht,he⟩:=hin (cellsFrom (s3.heap.objs.size+1) scope.names cl) s3.heap.objs.size fp s3 (upd H2 s2.heap.objs.size (.lst []));have fc:∀b∈fp,Qc6 (cxc X N' scope (cellsFrom (s3.heap.objs.size+1) scope.names cl) s3.heap.objs.size fp s3 (upd H2 s2.heap.objs.size (.lst []))) [] (upd H2 s2.heap.objs.size (.lst [])) b:=λb hb=>
  ⟨(f3 b hb).1,ZJ (fpl3 b hb),λhs'=>(Zm.mp (I3.QeV b hs')).elim (f3 b hb).2.1 (f3 b hb).2.2.1,.inl hb,λx c e=>(by
   rcases Qf7 scope.names _ cl x c e with e | ⟨e,_⟩
   .exact(f3 b hb).2.2.2.2.1 x c (hc1 x c e)
   .intro z;rw[z]at e;exact absurd (Zu (fpl3 b hb) (Zw (ZaK _) e)) (Zaa _)),λp hp=>absurd (show p∈([]:List (Addr×Obj))from hp) ⋯⟩
 have hC1:s3.heap.objs.size≠X.env.locals:=Ne.symm (ZJ I3.lt);refine Qu2 (W:=W) hcalm T hg ht he I4 (T.keep _ _ _ st2 λb hb o e=>keep4 b o (old3 b o e)) fc hW0 turn λH' s' J' q=>?_;have O:=hout H' s' J';refine fin _ _ H' s' O J'.free hC1 (Zw I3.sz (Zd _)) (λx c e z=>?_) (λp hp z=>?_) (let ⟨m,hn,_⟩:=J'.loc;⟨m,hn⟩) q
 .obtain⟨v,o,ho,_⟩:=I3.cell x c e;exact absurd (Zt ho) (by rw[z];exact Zaa _)
 .exact absurd (Zt (I3.pin p hp).1) (by rw[z];exact Zaa _)
def Inv.QvO(I:Inv X pins σ H s)(hs:Heap.SameBut C s.heap h')(hn:H C=none)(hL:C≠X.env.locals)(h1:X.s₀.heap.objs.size<=C)
  (h2:∀x c,X.env.cells.lookup x=some c->c≠C) (h3:∀p∈X.pn++pins,p.1≠C):Inv X pins σ H {s with heap:=h'}:=
 I.turned (t':=s.toks) (λb o hb e=>(hs.2 b hb).trans e) hn hL (.inr h1) h2 h3
def QpQ(hcalm:X.calm=true)(S:QdY X N' scope)(hi:PI X tg iter wi)
  (hin:∀cl C fp s3 H3,PG (cxc X N' scope cl C fp s3 H3) tg g/\PTs (cxc X N' scope cl C fp s3 H3) ifs tc/\PE (cxc X N' scope cl C fp s3 H3) elt te)
  (hs:∀x,foldedSetIterable iter X.env x=pure x:=by intro _;rfl):PE X (.ListComp elt [⟨tg,iter,ifs,0⟩] scope pos) (Qmz wi (QkF X N' scope) g tc te):=by
 intro pins s σ H Q I h;rw[eval_ListComp];refine QnH hcalm S hi hin hs I h λD C H' s' O h1 h2 h3 h4 h5 Z q=>?_;obtain⟨m,hm⟩:=Z;exact⟨m,hm,λh' hs'=>⟨.ref D,H',O.QvO hs' h1 h2 h3 h4 h5,rfl,q⟩⟩
def Qxn(hN:X.N.Nodup)(hx1:X.N[i]? =some x)(hx:Loc X.env.scope x)(hf:X.fn x=true∨X.env.scope.names.lookup x=some .local)(hcalm:X.calm=true)(S:QdY X N' scope)(hi:PI X tg iter wi)
  (hin:∀cl C fp s3 H3,PG (cxc X N' scope cl C fp s3 H3) tg g/\PTs (cxc X N' scope cl C fp s3 H3) ifs tc/\PE (cxc X N' scope cl C fp s3 H3) elt te)
  (hs:∀x,foldedSetIterable iter X.env x=pure x:=by intro _;rfl):
  PS X (.Assign [.Name x pos'] (.ListComp elt [⟨tg,iter,ifs,0⟩] scope pos) spos) (QmN (Qmz wi (QkF X N' scope) g tc te) (Qil i)):=by
 have hb:∃b,swapsWith (.ListComp elt [⟨tg,iter,ifs,0⟩] scope pos) (some (.Name x pos')) spos.line X.env=pure b:=⟨_,rfl⟩;obtain⟨b,hb⟩:=hb;cases b with
 | false=>exact QhU hN hx1 hx (QpQ hcalm S hi hin hs) hb hf
 | true=>
  intro pins s σ H D I h;rw[exec_Assign_Name_used _ _ _ _ hb];refine wpAny_bind (wpAny_standAt (wpAny_bind ?_));show wpAny _ X.A (do let _ ← comprehension (.ListComp elt [⟨tg,iter,ifs,0⟩] scope pos) scope X.env _ (newList []) false (eval iter X.env) (some (assign (.Name x pos') X.env))) _ _ s;refine wpAny_bind (thn (QnH hcalm S hi hin hs I h λDl C H' s' O h1 h2 h3 h4 h5 ⟨m,hm⟩ q=>?_) λ_ s' hq=>wpAny_pure (wpAny_pure hq));refine wpAny_assign_Name (Qmc O hN hx1 hx (v:= .ref Dl) rfl (λs2 I2 hsb=>?_) hf);obtain⟨a,sb,ha⟩:=hsb;have haC:C≠a:=by
   rcases ha with rfl | ha
   .exact h2
   .exact Ne.symm (h4 _ _ ha)
  exact⟨m,hm.sameBut sb haC,λh' hs'=>⟨_,H',I2.QvO hs' h1 h2 h3 h4 h5,q⟩⟩
end
section
def Inv.Qqq{t':Nat}{ch:LAd}{T:Addr}{ts:List V}(I:Inv X pins σ H s)(hf:∀b∈ch,Qc6 X pins H b)(k:∀b o,b∉ch->s.heap.get? b=some o->h'.get? b=some o)(hp:∀b∈ch,∃o,h'.get? b=some o)
  (hT:s.heap.objs.size<=T) (hnew:ts.length<=sizeLine/\∃its:List Value,Qz ts its/\IsTup h' T its.toArray):Inv X pins σ (upd H T (.tup ts)) {s with heap:=h',toks:=t'}:=by
 have hn:H T=none:=I.hok.fresh hT;have neT:∀b u,H b=some u->b≠T:=λb u e=>Qbp e hn;have nch:∀b u,H b=some u->b∉ch:=λb u e hb=>by rw[(hf b hb).1]at e;cases e
 have ltT:∀b o,s.heap.get? b=some o->b≠T:=λb o e=>ZJ (Zu (Zt e) hT)
 refine I.step (g':=s.gens) (d':=s.drawn) (ch:=ch) (λb hb=>?_) (λb o _ _ hc e _=>k b o hc e) (λb o _ _ hc e _=>⟨o.slots,k b o hc e⟩) (λb o _ e n=>by rw[QA (ltT b o e)];exact n)
  (λb o hc e=>⟨o,k b o hc e⟩) (λb xs e=>by rw[QA (neT b _ e)];exact e) (λb o u e=>by rw[QA (neT b _ e)];exact e) (λb ps e=>⟨#[],by rw[QA (neT b _ e),e];simp⟩) (λm hm=>?_) (λb u e=>?_) I.bare
 .obtain⟨f0,f1,f2,f3,f4,f5⟩:=hf b hb;exact⟨f3,f1,f4,f5⟩
 .obtain⟨o,es,ep,ho,r⟩:=hm;exact⟨o,es,ep,k _ o (λz=>(hf _ z).2.1 rfl) ho,r⟩
 .by_cases hb:b=T
  .subst hb;rw[Q4]at e;cases e;exact hnew
  .rw[QA hb]at e;refine(I.hok b u e).QfE (λc v hc q=>k c v ?_ q) (λc q=>by rw[QA (neT c _ q)];exact q) λc xs q=>by rw[QA (neT c _ q)];exact q
   rcases hc with z | z
   .rw[z];exact nch b u e
   .exact nch c _ z
def Inv.turns{t':Nat}{ch:LAd}(I:Inv X pins σ H s)(hf:∀b∈ch,Qc6 X pins H b)(k:∀b o,b∉ch->s.heap.get? b=some o->h'.get? b=some o):Inv X pins σ H {s with heap:=h',toks:=t'}:=by
 have nch:∀b u,H b=some u->b∉ch:=λb u e hb=>by rw[(hf b hb).1]at e;cases e
 refine I.step (g':=s.gens) (d':=s.drawn) (ch:=ch) (λb hb=>?_) (λb o _ _ hc e _=>k b o hc e) (λb o _ _ hc e _=>⟨o.slots,k b o hc e⟩) (λb o _ e n=>n)
  (λb o hc e=>⟨o,k b o hc e⟩) (λb xs e=>e) (λb o u e=>e) (λb ps e=>⟨#[],by rw[e];simp⟩) (λm hm=>?_) (λb u e=>?_) I.bare
 .obtain⟨f0,f1,f2,f3,f4,f5⟩:=hf b hb;exact⟨f3,f1,f4,f5⟩
 .obtain⟨o,es,ep,ho,r⟩:=hm;exact⟨o,es,ep,k _ o (λz=>(hf _ z).2.1 rfl) ho,r⟩
 .refine(I.hok b u e).QfE (λc v hc q=>k c v ?_ q) (λc q=>q) λc xs q=>q;rcases hc with z | z
  .rw[z];exact nch b u e
  .exact nch c _ z
end
noncomputable def Ite(K:Fgg)(a:Addr):It:=
 ⟨λi H=>∃xs x,SqL K H a xs/\xs[i]? =some x,λi H v H'=>∃p x,v= .ref p/\H p=none/\H'=upd H p (.tup [.int i,x])/\∀xs,SqL K H a xs->xs[i]? =some x,λi H=>∃xs,SqL K H a xs/\xs.length<=i⟩
def mm0{a:Addr}{l:LAd}:a∈a::l:= .head _
def mm1{a b:Addr}{l:LAd}:a∈b::a::l:= .tail _ mm0
def mm2{a b c:Addr}{l:LAd}:a∈b::c::a::l:= .tail _ mm1
def mm3{a b c d:Addr}{l:LAd}:a∈b::c::d::a::l:= .tail _ mm2
def mm4{a b c d e:Addr}{l:LAd}:a∈b::c::d::e::a::l:= .tail _ mm3
def nmm{a b:Addr}{l:LAd}(hb:b∉l)(ha:a∈l):b≠a:=λe=>hb (e▸ha)
def fa1{p:Addr->Prop}{a:Addr}{l:LAd}(h:p a)(t:∀x∈l,p x):∀x∈a::l,p x:=List.forall_mem_cons.2 ⟨h,t⟩
def NL(h:Heap)(b:Addr):Prop:=∃o,h.get? b=some o/\o.cls≠ .type "list" /\∀v,o.data≠ .cell v
def NL.it{h:Heap}(q:h.IsListIter b l k):NL h b:=by
 obtain⟨o,ho,hc,hd⟩:=q;exact⟨o,ho,by rw[hc];simp,λv z=>by rw[hd]at z;cases z⟩
def NL.zip(hz:IsZip h z T1 T2 x):NL h z:=⟨_,hz,⋯,λv z=>by cases z⟩
def NL.tup{h:Heap}(q:h.get? b=some {cls:= .type "tuple",data:= .seq a}):NL h b:=⟨_,q,⋯,λv z=>by cases z⟩
def NL.obj(n:NL h b):∃o,h.get? b=some o/\∀v,o.data≠ .cell v:=let ⟨o,e,_,v⟩:=n;⟨o,e,v⟩
def NL.ex(n:NL h b):∃o,h.get? b=some o:=let ⟨o,e,_⟩:=n;⟨o,e⟩
def NL.lt(n:NL h b):b<h.objs.size:=let ⟨_,e⟩:=n.ex;Zt e
def NL.apart{X:Cx}{H:Hp}{s:Shared}(n:NL s.heap b)(I:Inv X pins σ H s)(hn:H b=none)(hq:SqL X.K H l ys):l≠b:=λe=>by
 subst e;rcases hq with(hq | ⟨_,hq⟩) | ⟨o',its,k,hk,hc',_⟩
 .rw[hn]at hq;cases hq
 .rw[hn]at hq;cases hq
 .obtain⟨o,ho,hc,_⟩:=n;rw[I.kIn l o' hk]at ho;exact hc (Option.some.inj ho▸hc')
def QrQ{P:Program}{w:World}{K:Fgg}{es:List Expr}{tk:Nat}{tpos:Pos}(a e it:Addr)(hne:e≠it):Turn P w K (.Tuple es tk tpos) (Ite K a) [e,it] e (λi h=>∃old,IsEnum h e it (i:Int) old/\h.IsListIter it a i) where
 mem:=mm0
 obj:=λi h st b hb=>by
  obtain⟨old,he,hi⟩:=st;exact(fa1 (p:=NL h) ⟨_,he,⋯,λv z=>by cases z⟩ (fa1 (.it hi) (List.forall_mem_nil _)) b hb).obj
 keep:=λi h h' st k=>by
  obtain⟨old,he,hi⟩:=st;exact⟨old,k e mm0 _ he,hi.at (k it mm1)⟩
 item:=by
  intro X hP hw hK hc i pins s σ H E I hf st hg;subst hP hw hK;obtain⟨old,he,hi⟩:=st;obtain⟨xs,x,hq,hx⟩:=hg;obtain⟨its,rv,p,hz⟩:=I.list hq;obtain⟨u,hu,ru⟩:=rv.get hx;refine wpAny_pyNext_enum_item he hi p.isList (x:=u) (by simpa using hu) hne λh1 heo hi1 ht1 hz1 hk1=>?_;refine⟨.ref s.heap.objs.size,rfl,wpAny_letOwnedTupleGo_enum heo λh2 he2 hs2=>?_⟩
  replace hs2:Heap.SameBut e h1 h2:=hs2
  have helt:e<s.heap.objs.size:=Zt he;have hilt:it<s.heap.objs.size:=by obtain⟨o,ho,_⟩:=hi;exact Zt ho
  have ht2:IsTup h2 s.heap.objs.size [Value.int i s.toks,u].toArray:=⟨_,(hs2.2 _ (Zbq helt)).trans ht1,rfl,_,rfl⟩;have hi2:h2.IsListIter it a (i+1):=hi1.extBut hs2.extBut (Ne.symm hne);have kk:∀b o,b∉[e,it]->s.heap.get? b=some o->h2.get? b=some o:=λb o hb q=>by
   have h1:b≠e:=λz=>hb (by simp[z]);have h2:b≠it:=λz=>hb (by simp[z]);exact hs2.extBut b o h1 (hk1 b o h1 h2 q)
  refine⟨.ref s.heap.objs.size,upd H s.heap.objs.size (.tup [.int i,x]),I.Qqq (t':=s.toks+1) hf kk (λb hb=>?_) (Zd _) ⟨by show 2<=sizeLine;decide,_,.cons ⟨_,rfl⟩ (.cons ru .nil),ht2⟩,rfl,
   ⟨_,x,rfl,I.hok.fresh (Zd _),rfl,λys hy=>by rw[I.Qb2 hy hq];exact hx⟩,⟨u,?_,hi2⟩,λb hb=>?_⟩
  .have hb:b=e∨b=it:=by simpa using hb
   rcases hb with rfl | rfl
   .exact⟨_,he2⟩
   .obtain⟨o,ho,_⟩:=hi2;exact⟨o,ho⟩
  .have:((i+1:Nat):Int)=(i:Int)+1:=by push_cast;rfl
   rw[this];exact he2
  .have hb':b=e∨b=it:=by simpa using hb
   have:b≠s.heap.objs.size:=by
    rcases hb' with rfl | rfl
    .exact ZJ helt
    .exact ZJ hilt
   rw[QA this];exact(hf b hb).1
 done:=by
  intro X hP hw hK hc i pins s σ H E I hf st hg;subst hP hw hK;obtain⟨old,he,hi⟩:=st;obtain⟨xs,hq,hx⟩:=hg;obtain⟨its,rv,p,hz⟩:=I.list hq;have hl:=rv.length;refine wpAny_pyNext_enum_end (I.ok.hd hc) he hi p.isList (by simp;lia) λh1 eb=>⟨rfl,?_⟩;exact I.turns (t':=s.toks) hf λb o hb q=>eb b o (λz=>hb (by simp[z])) q
 self:=λ_ _ _ _ _ st h=>by
  obtain⟨old,he,hi⟩:=st;exact wpAny_pyIter_enum he h
section
noncomputable def QAR(K:Fgg)(ta:TA):TI:=λσ H R=>ta σ H λvs H1=>∃a,vs=[.ref a]/\(∃xs,SqL K H1 a xs)/\R (Ite K a) H1
def QxY{a:Expr}{ta:TA}{p pos:Pos}{es:List Expr}{tk:Nat}{tpos:Pos}(hg:Gl X "enumerate")(hm:X.mg "enumerate" =none)(ha:PA X [a] ta)(hs:starEach [a] X.env=[(false,eval a X.env)]):
  PI X (.Tuple es tk tpos) (.Call (.Name "enumerate" p) [a] [] pos) (QAR X.K ta):=by
 intro pins s σ H R I h;refine Call_ (QcI I hg hm PyProof.Rows.boot_enumerate (Zaj (thn (ha pos pins s σ H _ I h) λus s1 ⟨vs,H1,I1,r1,q1⟩=>?_) hs rfl));obtain⟨l,e,⟨xs,hq⟩,q⟩:=q1;subst e;obtain⟨u,rfl,ru⟩:=vals1 r1;cases ru;obtain⟨its,rv,pl,hz⟩:=I1.list hq;refine call_enumerate_list pl.isList λh2 he2 hi2 hz2 hk2=>?_;have I2:Inv X pins σ H1 {s1 with heap:=h2}:=I1.kept (t':=s1.toks) hk2;refine wpAny_pyIter_enum he2 ⟨_,[s1.heap.objs.size+1,s1.heap.objs.size],_,_,H1,rfl,I2,QrQ l _ _ (Nat.succ_ne_self _),⟨_,he2,hi2⟩,λb hb=>?_,q⟩;have hb:b=s1.heap.objs.size+1∨b=s1.heap.objs.size:=by simpa using hb
 have hle:s1.heap.objs.size<=b:=by rcases hb with rfl | rfl<;>lia
 exact I1.Qji hle (I1.hok.fresh hle)
end
noncomputable def Itz(K:Fgg)(a b:Addr):It:=
 ⟨λi H=>∃xs ys x y,SqL K H a xs/\SqL K H b ys/\xs[i]? =some x/\ys[i]? =some y,λi H v H'=>∃p x y,v= .ref p/\H p=none/\H'=upd H p (.tup [x,y])/\(∀xs,SqL K H a xs->xs[i]? =some x)/\∀ys,SqL K H b ys->ys[i]? =some y,
  λi H=>∃xs ys,SqL K H a xs/\SqL K H b ys/\(xs.length<=i∨ys.length<=i)⟩
structure Qp1 (z TI TO i1 i2:Addr):Prop where
 a:TI≠z
 b:TO≠z
 c:i1≠z
 d:i2≠z
 e:TI≠TO
 f:TI≠i1
 g:TI≠i2
 h:TO≠i1
 i:TO≠i2
 j:i1≠i2
def Qke{h:Heap}(hz:IsZip h z T1 T2 x)(hA:IsPair h T1 a b)(hB:IsPair h T2 c d)(h1:h.IsListIter i1 l1 k)(h2:h.IsListIter i2 l2 k):∀b∈[z,T1,T2,i1,i2],NL h b:=
 fa1 (.zip hz) (fa1 (.tup hA) (fa1 (.tup hB) (fa1 (.it h1) (fa1 (.it h2) λ_ h=>nomatch h))))
def Qrx{X:Cx}{s:Shared}(D:Qp1 z T1 T2 i1 i2)(I:Inv X pins σ H s)(hf:∀b∈[z,T1,T2,i1,i2],Qc6 X pins H b)(O:∀b∈[z,T1,T2,i1,i2],NL s.heap b)(hq1:SqL X.K H l1 xs)(hq2:SqL X.K H l2 ys):ZipApart z T1 T2 i1 i2 l1 l2:=by
 have A1:=λb hb=>(O b hb).apart I (hf b hb).1 hq1;have A2:=λb hb=>(O b hb).apart I (hf b hb).1 hq2;exact⟨D.a,D.b,D.c,D.d,D.e,D.f,D.g,D.h,D.i,D.j,A1 z mm0,A1 T2 mm2,A1 i1 mm3,A1 i2 mm4,A2 z mm0,A2 T2 mm2,A2 i1 mm3,A2 i2 mm4⟩
def Qt3{P:Program}{w:World}{K:Fgg}{es:List Expr}{tk:Nat}{tpos:Pos}(l1 l2 z TI TO i1 i2:Addr)(D:Qp1 z TI TO i1 i2):
  Turn P w K (.Tuple es tk tpos) (Itz K l1 l2) [z,TI,TO,i1,i2] z (λi h=>IsZip h z TI TO .none/\IsPair h TI (.ref i1) (.ref i2)/\(∃a b,IsPair h TO a b)/\h.IsListIter i1 l1 i/\h.IsListIter i2 l2 i) where
 mem:=mm0
 obj:=λi h st b hb=>by
  obtain⟨hz,hTI,⟨p,q,hTO⟩,h1,h2⟩:=st;exact(Qke hz hTI hTO h1 h2 b hb).obj
 keep:=λi h h' st k=>by
  obtain⟨hz,hTI,⟨p,q,hTO⟩,h1,h2⟩:=st;exact⟨k z mm0 _ hz,k TI mm1 _ hTI,⟨p,q,k TO mm2 _ hTO⟩,h1.at (k i1 mm3),h2.at (k i2 mm4)⟩
 item:=by
  intro X hP hw hK hc i pins s σ H E I hf st hg;subst hP hw hK;obtain⟨hz,hTI,⟨a0,b0,hTO⟩,h1,h2⟩:=st;obtain⟨xs,ys,x,y,hq1,hq2,hx,hy⟩:=hg;obtain⟨its,rv,p,hzz⟩:=I.list hq1;obtain⟨its2,rv2,p2,hzz2⟩:=I.list hq2;obtain⟨u,hu,ru⟩:=rv.get hx;obtain⟨u2,hu2,ru2⟩:=rv2.get hy;have O:=Qke hz hTI hTO h1 h2;refine wpAny_pyNext_zip_item (Qrx D I hf O hq1 hq2) hz hTI hTO h1 h2 p.isList p2.isList (x:=u) (y:=u2) (by simpa using hu) (by simpa using hu2) λh3 z3 TO3 a3 b3 T3 sz3 k3=>?_;refine⟨.ref s.heap.objs.size,rfl,wpAny_letOwnedTupleGo_zip z3 λh4 z4 hs4=>?_⟩
  replace hs4:Heap.SameBut z h3 h4:=hs4
  have kk:∀b o,b∉[z,TI,TO,i1,i2]->s.heap.get? b=some o->h4.get? b=some o:=λb o hb q=>
   hs4.extBut b o (nmm hb mm0) (k3 b o (nmm hb mm0) (nmm hb mm2) (nmm hb mm3) (nmm hb mm4) q)
  have TI4:IsPair h4 TI (.ref i1) (.ref i2):=hs4.extBut _ _ D.a (k3 _ _ D.a D.e D.f D.g hTI);have TO4:IsPair h4 TO u u2:=hs4.extBut _ _ D.b TO3;have a4:h4.IsListIter i1 l1 (i+1):=a3.extBut hs4.extBut D.c;have b4:h4.IsListIter i2 l2 (i+1):=b3.extBut hs4.extBut D.d
  exact⟨.ref s.heap.objs.size,upd H s.heap.objs.size (.tup [x,y]),I.Qqq (t':=s.toks) hf kk (λb hb=>(Qke z4 TI4 TO4 a4 b4 b hb).ex) (Zd _) ⟨by show 2<=sizeLine;decide,_,.cons ru (.cons ru2 .nil),_,(hs4.2 _ (Zbq (O z mm0).lt)).trans T3,rfl,_,rfl⟩,rfl,
   ⟨_,x,y,rfl,I.hok.fresh (Zd _),rfl,λzs hy'=>by rw[I.Qb2 hy' hq1];exact hx,λzs hy'=>by rw[I.Qb2 hy' hq2];exact hy⟩,⟨z4,TI4,⟨_,_,TO4⟩,a4,b4⟩,λb hb=>by rw[QA (ZJ (O b hb).lt)];exact(hf b hb).1⟩
 done:=by
  intro X hP hw hK hc i pins s σ H E I hf st hg;subst hP hw hK;obtain⟨hz,hTI,⟨a0,b0,hTO⟩,h1,h2⟩:=st;obtain⟨xs,ys,hq1,hq2,hx⟩:=hg;obtain⟨its,rv,p,hzz⟩:=I.list hq1;obtain⟨its2,rv2,p2,hzz2⟩:=I.list hq2;have hl:=rv.length;have hl2:=rv2.length;refine wpAny_pyNext_zip_end (I.ok.hd hc) (Qrx D I hf (Qke hz hTI hTO h1 h2) hq1 hq2) hz hTI hTO h1 h2 p.isList p2.isList (by rcases hx with hx | hx;(left;simp;lia);(right;simp;lia)) λh3 k3=>⟨rfl,?_⟩;exact I.turns (t':=s.toks) hf λb o hb q=>k3 b o (nmm hb mm0) (nmm hb mm2) (nmm hb mm3) (nmm hb mm4) q
 self:=λ_ _ _ _ _ st h=>wpAny_pyIter_zip st.1 h
section
noncomputable def QCs(K:Fgg)(ta:TA):TI:=λσ H R=>ta σ H λvs H1=>∃a b,vs=[.ref a,.ref b]/\(∃xs,SqL K H1 a xs)/\(∃ys,SqL K H1 b ys)/\R (Itz K a b) H1
def Qyd{a b:Expr}{ta:TA}{p pos:Pos}{es:List Expr}{tk:Nat}{tpos:Pos}(hg:Gl X "zip")(hm:X.mg "zip" =none)(ha:PA X [a,b] ta)(hs:starEach [a,b] X.env=[(false,eval a X.env),(false,eval b X.env)])(hs2:starEach [b] X.env=[(false,eval b X.env)]):
  PI X (.Tuple es tk tpos) (.Call (.Name "zip" p) [a,b] [] pos) (QCs X.K ta):=by
 intro pins s σ H R I h;refine Call_ (QcI I hg hm PyProof.Rows.boot_zip (Zaj (thn (ha pos pins s σ H _ I h) λus s1 ⟨vs,H1,I1,r1,q1⟩=>?_) (by rw[hs,hs2]) (by rw[hs2];rfl)));obtain⟨l,l2,e,⟨xs,hq⟩,⟨ys,hq2⟩,q⟩:=q1;subst e;obtain⟨u,u2,rfl,ru,ru2⟩:=vals2 r1;cases ru;cases ru2;obtain⟨its,rv,pl,hz⟩:=I1.list hq;obtain⟨its2,rv2,pl2,hz2⟩:=I1.list hq2;refine call_zip_2 pl.isList pl2.isList λh2 hz hTI hTO h1 h2' hsz hk2=>?_;have I2:Inv X pins σ H1 {s1 with heap:=h2}:=I1.kept (t':=s1.toks) hk2;refine wpAny_pyIter_zip hz ⟨_,[s1.heap.objs.size+4,s1.heap.objs.size+2,s1.heap.objs.size+3,s1.heap.objs.size,s1.heap.objs.size+1],_,_,H1,rfl,I2,Qt3 l l2 _ _ _ _ _ ⟨?_,?_,?_,?_,?_,?_,?_,?_,?_,?_⟩,⟨hz,hTI,⟨_,_,hTO⟩,h1,h2'⟩,λb hb=>?_,q⟩
 iterate 10 (exact(by intro e;first | (have e':(s1.heap.objs.size:Nat)+_=_:=e;lia) | (have e':(s1.heap.objs.size:Nat)=_:=e;lia)))
 have hle:s1.heap.objs.size<=b:=by
  simp only[Zm,List.not_mem_nil,or_false]at hb;rcases hb with rfl | rfl | rfl | rfl | rfl<;>first | exact Zd _ | exact Zbc _ _
 exact I1.Qji hle (I1.hok.fresh hle)
end
end L2
namespace L2
open PySem PySem.Spec
def QlF(a b c:Value):checkTypeCall "zip" ⟨[a,b,c],[]⟩=pure ():=by kernel_rfl
def Qms(a b c:Value):checkBuiltinCall "zip.__new__" ⟨[.type "zip",a,b,c],[]⟩=pure ():=by kernel_rfl
def Qhk(a b c d:Value):argsOk "object.__init__" ⟨[a,b,c,d],[]⟩:=by
 unfold argsOk;rw[signature?_of (n:=['_','_','t','i','n','i','_','_']) (by kernel_rfl) F.owner_object];kernel_rfl
abbrev Qag(h:Heap)(T:Addr)(a b c:Value):Prop:=h.get? T=some {cls:= .type "tuple",data:= .seq #[a,b,c]}
section
variable {prog:Program}{w:World}{A:Around}{E:Value->Shared->Prop}{s:Shared}
def QdD(hT:Qag s.heap T a b c)
  (h:∀h',h'.get? T=some {cls:= .type "tuple",data:= .seq ((#[a,b,c]:Array Value).setIfInBounds k x)}->Heap.SameBut T s.heap h'->Q () {s with heap:=h'}):
  wpAny (model prog w) A (updateSeq T (·.setIfInBounds k x)) Q E s:=by
 refine wpAny_updateSeq hT rfl (h _ ?_ (Heap.SameBut.update ..));rw[Heap.get?_update_self _ hT rfl];simp[Obj.mapSeq]
structure Six (z TI TO i1 i2 i3:Addr):Prop where
 TIz:TI≠z
 TOz:TO≠z
 i1z:i1≠z
 i2z:i2≠z
 i3z:i3≠z
 TITO:TI≠TO
 TIi1:TI≠i1
 TIi2:TI≠i2
 TIi3:TI≠i3
 TOi1:TO≠i1
 TOi2:TO≠i2
 TOi3:TO≠i3
 i12:i1≠i2
 i13:i1≠i3
 i23:i2≠i3
def Off(z TO i1 i2 i3 l:Addr):Prop:=l≠z/\l≠TO/\l≠i1/\l≠i2/\l≠i3
def Qsa{z TI TO i1 i2 i3 l1 l2 l3:Addr}{k:Nat}{xs ys zs:Array Value}{x y u a b c:Value}{Q:Value->Shared->Prop}(D:Six z TI TO i1 i2 i3)(O1:Off z TO i1 i2 i3 l1)(O2:Off z TO i1 i2 i3 l2)(O3:Off z TO i1 i2 i3 l3)
  (hz:IsZip s.heap z TI TO .none) (hTI:Qag s.heap TI (.ref i1) (.ref i2) (.ref i3)) (hTO:Qag s.heap TO a b c)
  (h1:s.heap.IsListIter i1 l1 k) (h2:s.heap.IsListIter i2 l2 k) (h3:s.heap.IsListIter i3 l3 k) (hl1:s.heap.IsList l1 xs) (hl2:s.heap.IsList l2 ys) (hl3:s.heap.IsList l3 zs) (hx:xs[k]? =some x) (hy:ys[k]? =some y) (hu:zs[k]? =some u)
  (hQ:∀h',IsZip h' z TI TO (rawInt s.heap.objs.size)->Qag h' TO x y u->h'.IsListIter i1 l1 (k+1)->h'.IsListIter i2 l2 (k+1)->h'.IsListIter i3 l3 (k+1)->Qag h' s.heap.objs.size x y u->h'.objs.size=s.heap.objs.size+1→
   (∀c o,c≠z->c≠TO->c≠i1->c≠i2->c≠i3->s.heap.get? c=some o->h'.get? c=some o)->Q (.ref s.heap.objs.size) {s with heap:=h'}):
  wpAny (model prog w) A (Builtin.«zip.__next__» ⟨[.ref z],[]⟩) (λfin s'=>∃v,fin= .done (.ret v)/\Q v s') E s:=by
 show wpAny _ _ (field (.ref z) 2 >>= _) _ _ _;refine wpAny_bind (wpAny_field hz rfl rfl ?_);show wpAny _ _ (field (.ref z) 3 >>= _) _ _ _;refine wpAny_bind (wpAny_field hz rfl rfl ?_);refine wpAny_bind (wpAny_seqItems hTI rfl ?_);show wpAny _ _ (Builtin.SmallTypes.ownedTupleIsFree (.ref z) >>= _) _ _ _;refine wpAny_bind ?_;unfold Builtin.SmallTypes.ownedTupleIsFree;refine wpAny_bind (wpAny_field hz rfl rfl (wpAny_pure ?_));simp only[if_true];refine wpAny_bind (wpAny_rule ?_);refine wpAny_bind (wpAny_field hz rfl rfl ?_);refine wpAny_bind (wpAny_setField_rec hz ⋯ λg1 hz1 s1=>?_)
 replace hz1:IsZip g1 z TI TO .ellipsis:=hz1
 refine wpAny_bind ?_;simp only[Zch,List.zipIdx_nil,ZbP,ZcB];refine wpAny_bind (wpAny_bind (wpAny_onRaise ?_));show wpAny _ _ (Builtin.SmallTypes.nextOf (.ref i1) >>= _) _ _ _;have k1:∀e o,e≠z->s.heap.get? e=some o->g1.get? e=some o:=λe o a1 q=>s1.extBut _ _ a1 q;refine wpAny_bind (wpAny_nextOf_list_item (h1.at λo e=>k1 _ o D.i1z e) (hl1.at λo e=>k1 _ o O1.1 e) hx λg2 m1 s2=>wpAny_pure ?_);have k2:∀e o,e≠z->e≠i1->s.heap.get? e=some o->g2.get? e=some o:=λe o a1 a3 q=>s2.extBut _ _ a3 (k1 e o a1 q);have t2:Qag g2 TO a b c:=k2 _ _ D.TOz D.TOi1 hTO;refine wpAny_bind (wpAny_seqItems t2 rfl ?_);refine wpAny_bind (QdD t2 λg3 t3 s3=>?_)
 replace t3:Qag g3 TO x b c:=t3
 have k3:∀e o,e≠z->e≠TO->e≠i1->s.heap.get? e=some o->g3.get? e=some o:=λe o a1 a2 a3 q=>s3.extBut _ _ a2 (k2 e o a1 a3 q);refine wpAny_bind (wpAny_letGo (wpAny_pure ?_));refine wpAny_bind (wpAny_bind (wpAny_onRaise ?_));show wpAny _ _ (Builtin.SmallTypes.nextOf (.ref i2) >>= _) _ _ _;refine wpAny_bind (wpAny_nextOf_list_item (h2.at λo e=>k3 _ o D.i2z D.TOi2.symm D.i12.symm e) (hl2.at λo e=>k3 _ o O2.1 O2.2.1 O2.2.2.1 e) hy λg4 m2 s4=>wpAny_pure ?_);have k4:∀e o,e≠z->e≠TO->e≠i1->e≠i2->s.heap.get? e=some o->g4.get? e=some o:=λe o a1 a2 a3 a4 q=>s4.extBut _ _ a4 (k3 e o a1 a2 a3 q);have t4:Qag g4 TO x b c:=s4.extBut _ _ D.TOi2 t3;refine wpAny_bind (wpAny_seqItems t4 rfl ?_);refine wpAny_bind (QdD t4 λg5 t5 s5=>?_)
 replace t5:Qag g5 TO x y c:=t5
 have k5:∀e o,e≠z->e≠TO->e≠i1->e≠i2->s.heap.get? e=some o->g5.get? e=some o:=λe o a1 a2 a3 a4 q=>s5.extBut _ _ a2 (k4 e o a1 a2 a3 a4 q);refine wpAny_bind (wpAny_letGo (wpAny_pure ?_));refine wpAny_bind (wpAny_bind (wpAny_onRaise ?_));show wpAny _ _ (Builtin.SmallTypes.nextOf (.ref i3) >>= _) _ _ _;refine wpAny_bind (wpAny_nextOf_list_item (h3.at λo e=>k5 _ o D.i3z D.TOi3.symm D.i13.symm D.i23.symm e) (hl3.at λo e=>k5 _ o O3.1 O3.2.1 O3.2.2.1 O3.2.2.2.1 e) hu λg6 m3 s6=>wpAny_pure ?_);have k6:∀e o,e≠z->e≠TO->e≠i1->e≠i2->e≠i3->s.heap.get? e=some o->g6.get? e=some o:=λe o a1 a2 a3 a4 a5 q=>s6.extBut _ _ a5 (k5 e o a1 a2 a3 a4 q);have t6:Qag g6 TO x y c:=s6.extBut _ _ D.TOi3 t5;refine wpAny_bind (wpAny_seqItems t6 rfl ?_);refine wpAny_bind (QdD t6 λg7 t7 s7=>?_)
 replace t7:Qag g7 TO x y u:=t7
 have k7:∀e o,e≠z->e≠TO->e≠i1->e≠i2->e≠i3->s.heap.get? e=some o->g7.get? e=some o:=λe o a1 a2 a3 a4 a5 q=>s7.extBut _ _ a2 (k6 e o a1 a2 a3 a4 a5 q);refine wpAny_bind (wpAny_letGo (wpAny_pure (wpAny_pure ?_)));refine wpAny_bind (wpAny_seqItems t7 rfl ?_);refine wpAny_bind (wpAny_newTuple ?_);have hsz:g7.objs.size=s.heap.objs.size:=by rw[s7.1,s6.1,s5.1,s4.1,s3.1,s2.1,s1.1]
 have hz7:IsZip g7 z TI TO .ellipsis:=s7.extBut _ _ D.TOz.symm (s6.extBut _ _ D.i3z.symm (s5.extBut _ _ D.TOz.symm (s4.extBut _ _ D.i2z.symm (s3.extBut _ _ D.TOz.symm (s2.extBut _ _ D.i1z.symm hz1)))));have n1:g7.IsListIter i1 l1 (k+1):=((((m1.extBut s3.extBut D.TOi1.symm).extBut s4.extBut D.i12).extBut s5.extBut D.TOi1.symm).extBut s6.extBut D.i13).extBut s7.extBut D.TOi1.symm;have n2:g7.IsListIter i2 l2 (k+1):=((m2.extBut s5.extBut D.TOi2.symm).extBut s6.extBut D.i23).extBut s7.extBut D.TOi2.symm;have n3:g7.IsListIter i3 l3 (k+1):=m3.extBut s7.extBut D.TOi3.symm;have hzlt:z<g7.objs.size:=Zt hz7;show wpAny _ _ (Builtin.SmallTypes.ownedTupleHandOut (.ref z) (.ref g7.objs.size) >>= _) _ _ _;refine wpAny_bind ?_;unfold Builtin.SmallTypes.ownedTupleHandOut;have hz8:IsZip (g7.push {cls:= .type "tuple",data:= .seq #[x,y,u]}) z TI TO .ellipsis:=Zc _ hz7;refine wpAny_bind (wpAny_setField_rec hz8 ⋯ λg9 hz9 s9=>?_)
 replace hz9:IsZip g9 z TI TO (rawInt g7.objs.size):=hz9
 refine wpAny_setField_rec hz9 ⋯ λg10 hz10 s10=>?_
 replace hz10:IsZip g10 z TI TO (rawInt g7.objs.size):=hz10
 have up:∀c o,c≠z->g7.get? c=some o->g10.get? c=some o:=λc o c1 e=>s10.extBut _ _ c1 (s9.extBut _ _ c1 (Zc _ e));have hT:Qag g10 g7.objs.size x y u:=s10.extBut _ _ (Zbq hzlt) (s9.extBut _ _ (Zbq hzlt) (ZD _ rfl));have hz':g10.objs.size=g7.objs.size+1:=by rw[s10.1,s9.1,ZaB]
 rw[hsz]at hz10 hT hz';refine wpAny_pure ⟨_,rfl,?_⟩;show Q (.ref g7.objs.size) _;rw[hsz];exact hQ g10 hz10 (up _ _ D.TOz t7) (n1.at λo e=>up _ o D.i1z e) (n2.at λo e=>up _ o D.i2z e) (n3.at λo e=>up _ o D.i3z e) hT hz' λc o c1 c2 c3 c4 c5 e=>up c o c1 (k7 c o c1 c2 c3 c4 c5 e)
def QtT{z TI TO i1 i2 i3 l1:Addr}{k:Nat}{xs:Array Value}{Q:Fin->Shared->Prop}(hh:A.handled=none)(D:Six z TI TO i1 i2 i3)(O1:l1≠z)
  (hz:IsZip s.heap z TI TO .none) (hTI:Qag s.heap TI (.ref i1) (.ref i2) (.ref i3)) (h1:s.heap.IsListIter i1 l1 k) (hl1:s.heap.IsList l1 xs) (hx:xs[k]? =none)
  (hE:∀h' e,(∀c o,c≠z->c≠i1->s.heap.get? c=some o->h'.get? c=some o)->(∃o,h'.get? e=some o/\o.cls= .type "StopIteration")->E (.ref e) {s with heap:=h'}):
  wpAny (model prog w) A (Builtin.«zip.__next__» ⟨[.ref z],[]⟩) Q E s:=by
 show wpAny _ _ (field (.ref z) 2 >>= _) _ _ _;refine wpAny_bind (wpAny_field hz rfl rfl ?_);show wpAny _ _ (field (.ref z) 3 >>= _) _ _ _;refine wpAny_bind (wpAny_field hz rfl rfl ?_);refine wpAny_bind (wpAny_seqItems hTI rfl ?_);show wpAny _ _ (Builtin.SmallTypes.ownedTupleIsFree (.ref z) >>= _) _ _ _;refine wpAny_bind ?_;unfold Builtin.SmallTypes.ownedTupleIsFree;refine wpAny_bind (wpAny_field hz rfl rfl (wpAny_pure ?_));simp only[if_true];refine wpAny_bind (wpAny_rule ?_);refine wpAny_bind (wpAny_field hz rfl rfl ?_);refine wpAny_bind (wpAny_setField_rec hz ⋯ λg1 hz1 s1=>?_)
 replace hz1:IsZip g1 z TI TO .ellipsis:=hz1
 refine wpAny_bind ?_;simp only[Zch,List.zipIdx_nil,ZbP,ZcB];refine wpAny_bind (wpAny_bind (wpAny_onRaise ?_));show wpAny _ _ (Builtin.SmallTypes.nextOf (.ref i1) >>= _) _ _ _;refine wpAny_bind (wpAny_nextOf_list_end hh (h1.extBut s1.extBut D.i1z) (hl1.extBut s1.extBut O1) hx λg2 e s2 he=>?_);obtain⟨oe,hoe,hce⟩:=he;have hz2:IsZip g2 z TI TO .ellipsis:=s2 _ _ D.i1z.symm hz1;have hez:e≠z:=λx=>by subst x;rw[hz2]at hoe;cases hoe;simp at hce
 refine wpAny_setField_rec hz2 ⋯ λg3 _ s3=>hE g3 e (λc o c1 c3 x=>s3.extBut _ _ c1 (s2 _ _ c3 (s1.extBut _ _ c1 x))) ⟨oe,s3.extBut _ _ hez hoe,hce⟩
def QoN{z TI TO i1 i2 i3 l1 l2 l3:Addr}{k:Nat}{xs ys zs:Array Value}{x y u a b c:Value}{Q:Option Value->Shared->Prop}(D:Six z TI TO i1 i2 i3)(O1:Off z TO i1 i2 i3 l1)(O2:Off z TO i1 i2 i3 l2)(O3:Off z TO i1 i2 i3 l3)
  (hz:IsZip s.heap z TI TO .none) (hTI:Qag s.heap TI (.ref i1) (.ref i2) (.ref i3)) (hTO:Qag s.heap TO a b c)
  (h1:s.heap.IsListIter i1 l1 k) (h2:s.heap.IsListIter i2 l2 k) (h3:s.heap.IsListIter i3 l3 k) (hl1:s.heap.IsList l1 xs) (hl2:s.heap.IsList l2 ys) (hl3:s.heap.IsList l3 zs) (hx:xs[k]? =some x) (hy:ys[k]? =some y) (hu:zs[k]? =some u)
  (hQ:∀h',IsZip h' z TI TO (rawInt s.heap.objs.size)->Qag h' TO x y u->h'.IsListIter i1 l1 (k+1)->h'.IsListIter i2 l2 (k+1)->h'.IsListIter i3 l3 (k+1)->Qag h' s.heap.objs.size x y u->h'.objs.size=s.heap.objs.size+1→
   (∀c o,c≠z->c≠TO->c≠i1->c≠i2->c≠i3->s.heap.get? c=some o->h'.get? c=some o)->Q (some (.ref s.heap.objs.size)) {s with heap:=h'}):
  wpAny (model prog w) A (pyNext (.ref z)) Q E s:=by
 have hT:s.TypeIs (.ref z) "zip" :=⟨_,hz,rfl⟩;unfold pyNext
 exact wpAny_bind (wpAny_attempt (wpAny_callSpecial?_slot hT ZbQ
  (wpAny_call_entry ZbQ hT F.entry_zip_next
   (Qsa D O1 O2 O3 hz hTI hTO h1 h2 h3 hl1 hl2 hl3 hx hy hu λh' a1 a2 a3 a4 a5 a6 a7 a8=>wpAny_pure (hQ h' a1 a2 a3 a4 a5 a6 a7 a8)) (F.args_zip_next_1 _))))
def Qkn{z TI TO i1 i2 i3 l1:Addr}{k:Nat}{xs:Array Value}{Q:Option Value->Shared->Prop}(hh:A.handled=none)(D:Six z TI TO i1 i2 i3)(O1:l1≠z)
  (hz:IsZip s.heap z TI TO .none) (hTI:Qag s.heap TI (.ref i1) (.ref i2) (.ref i3)) (h1:s.heap.IsListIter i1 l1 k) (hl1:s.heap.IsList l1 xs) (hx:xs[k]? =none)
  (hQ:∀h',(∀c o,c≠z->c≠i1->s.heap.get? c=some o->h'.get? c=some o)->Q none {s with heap:=h'}):wpAny (model prog w) A (pyNext (.ref z)) Q E s:=by
 have hT:s.TypeIs (.ref z) "zip" :=⟨_,hz,rfl⟩;unfold pyNext
 refine wpAny_bind (wpAny_attempt (wpAny_callSpecial?_slot hT ZbQ
  (wpAny_call_entry ZbQ hT F.entry_zip_next (QtT hh D O1 hz hTI h1 hl1 hx λh' e hk he=>?_) (F.args_zip_next_1 _))))
 obtain⟨o,ho,hc⟩:=he;refine wpAny_bind (wpAny_isInstance ⟨o,ho,hc⟩ isSubtype_stop ?_);exact wpAny_pure (hQ _ hk)
end
noncomputable abbrev zA(h:Heap)(l1:Addr):Heap:=h.push {cls:= .type "list_iterator",data:= .fields #[.ref l1,.int 0 0]}
noncomputable abbrev zB(h:Heap)(l1 l2:Addr):Heap:=(zA h l1).push {cls:= .type "list_iterator",data:= .fields #[.ref l2,.int 0 0]}
noncomputable abbrev zC(h:Heap)(l1 l2 l3:Addr):Heap:=(zB h l1 l2).push {cls:= .type "list_iterator",data:= .fields #[.ref l3,.int 0 0]}
noncomputable abbrev zD(h:Heap)(l1 l2 l3:Addr):Heap:=(zC h l1 l2 l3).push {cls:= .type "tuple",data:= .seq #[.ref h.objs.size,.ref (zA h l1).objs.size,.ref (zB h l1 l2).objs.size]}
noncomputable abbrev zE(h:Heap)(l1 l2 l3:Addr):Heap:=(zD h l1 l2 l3).push {cls:= .type "tuple",data:= .seq #[.none,.none,.none]}
noncomputable abbrev zF(h:Heap)(l1 l2 l3:Addr):Heap:=(zE h l1 l2 l3).push {cls:= .type "zip",data:= .fields #[.none,.bool false,.bool false,.ref (zC h l1 l2 l3).objs.size,.ref (zD h l1 l2 l3).objs.size]}
def Qlw(l1 l2 l3:Addr)(xs ys zs:Array Value):
  Meets (Builtin.«zip.__new__» ⟨[.type "zip",.ref l1,.ref l2,.ref l3],[]⟩) (λ_ R s=>s.heap.IsList l1 xs/\s.heap.IsList l2 ys/\s.heap.IsList l3 zs∧
   R (.ok (.ret (.ref (zE s.heap l1 l2 l3).objs.size))) {s with heap:=zF s.heap l1 l2 l3}):=
 .of_wp λprog w A R s h=>by
  obtain⟨hp,g,d,tk,os⟩:=s;obtain⟨hl1,hl2,hl3,h⟩:=h;have hsub:=sub_zip;have hL1:Heap.IsList (Shared.heap ⟨hp,g,d,tk,os⟩) l1 xs:=hl1;have hL2:Heap.IsList (Shared.heap ⟨hp.push {cls:= .type "list_iterator",data:= .fields #[.ref l1,.int 0 0]},g,d,tk,os⟩) l2 ys:=Zci hl2 _;have hL3:Heap.IsList (Shared.heap ⟨(hp.push {cls:= .type "list_iterator",data:= .fields #[.ref l1,.int 0 0]}).push {cls:= .type "list_iterator",data:= .fields #[.ref l2,.int 0 0]},g,d,tk,os⟩) l3 zs:=Zci (Zci hl3 _) _
  wp_walk using wpAny_pyIter_list hL1,wpAny_pyIter_list hL2,wpAny_pyIter_list hL3
  exact⟨_,rfl,h⟩
section
variable {prog:Program}{w:World}{A:Around}{E:Value->Shared->Prop}{s:Shared}
def Qql(hl1:s.heap.IsList l1 xs)(hl2:s.heap.IsList l2 ys)(hl3:s.heap.IsList l3 zs)
  (h:∀h',IsZip h' (s.heap.objs.size+5) (s.heap.objs.size+3) (s.heap.objs.size+4) .none->Qag h' (s.heap.objs.size+3) (.ref s.heap.objs.size) (.ref (s.heap.objs.size+1)) (.ref (s.heap.objs.size+2))→
   Qag h' (s.heap.objs.size+4) .none .none .none->h'.IsListIter s.heap.objs.size l1 0->h'.IsListIter (s.heap.objs.size+1) l2 0->h'.IsListIter (s.heap.objs.size+2) l3 0→
   (∀c o,s.heap.get? c=some o->h'.get? c=some o)->Q (.ref (s.heap.objs.size+5)) {s with heap:=h'}):
  wpAny (model prog w) A (call (.type "zip") [.ref l1,.ref l2,.ref l3]) Q E s:=by
 refine callType_new F.called_zip ∅ (QlF _ _ _) (Qms _ _ _) (λobj=>Qhk obj _ _ _) F.entry_zip_new
  (Qlw l1 l2 l3 xs ys zs) ⟨hl1,hl2,hl3,?_⟩
 have z1:(zA s.heap l1).objs.size=s.heap.objs.size+1:=ZaB ..;have z2:(zB s.heap l1 l2).objs.size=s.heap.objs.size+2:=by rw[ZaB,z1]
 have z3:(zC s.heap l1 l2 l3).objs.size=s.heap.objs.size+3:=by rw[ZaB,z2]
 have z4:(zD s.heap l1 l2 l3).objs.size=s.heap.objs.size+4:=by rw[ZaB,z3]
 have z5:(zE s.heap l1 l2 l3).objs.size=s.heap.objs.size+5:=by rw[ZaB,z4]
 have g6:(zF s.heap l1 l2 l3).get? (zE s.heap l1 l2 l3).objs.size=some _:=ZD _ rfl;have g5:(zF s.heap l1 l2 l3).get? (zD s.heap l1 l2 l3).objs.size=some _:=Zc _ (ZD _ rfl);have g4:(zF s.heap l1 l2 l3).get? (zC s.heap l1 l2 l3).objs.size=some _:=Zc _ (Zc _ (ZD _ rfl));have g3:(zF s.heap l1 l2 l3).get? (zB s.heap l1 l2).objs.size=some _:=Zc _ (Zc _ (Zc _ (ZD _ rfl)));have g2:(zF s.heap l1 l2 l3).get? (zA s.heap l1).objs.size=some _:=Zc _ (Zc _ (Zc _ (Zc _ (ZD _ rfl))));have g1:(zF s.heap l1 l2 l3).get? s.heap.objs.size=some _:=Zc _ (Zc _ (Zc _ (Zc _ (Zc _ (ZD _ rfl)))));show _/\_;rw[z3,z4,z5]at g6;rw[z1,z2,z3]at g4;rw[z4]at g5;rw[z2]at g3;rw[z1]at g2;rw[z5];exact⟨⟨_,g6,rfl⟩,h _ g6 g4 g5 ⟨_,g1,rfl,rfl⟩ ⟨_,g2,rfl,rfl⟩ ⟨_,g3,rfl,rfl⟩ λc o x=>
  Zc _ (Zc _ (Zc _ (Zc _ (Zc _ (Zc _ x)))))⟩
end
open PyProof.Rows
noncomputable def QuD(K:Fgg)(a b c:Addr):It:=
 ⟨λi H=>∃xs ys zs x y z,SqL K H a xs/\SqL K H b ys/\SqL K H c zs/\xs[i]? =some x/\ys[i]? =some y/\zs[i]? =some z,λi H v H'=>∃p x y z,v= .ref p/\H p=none/\H'=upd H p (.tup [x,y,z])/\(∀xs,SqL K H a xs->xs[i]? =some x)/\(∀ys,SqL K H b ys->ys[i]? =some y)/\∀zs,SqL K H c zs->zs[i]? =some z,
  λi H=>∃xs,SqL K H a xs/\xs.length<=i⟩
def mm5{a b c d e f:Addr}{l:LAd}:a∈b::c::d::e::f::a::l:= .tail _ mm4
def QlG{h:Heap}(hz:IsZip h z T1 T2 x)(hA:Qag h T1 a b c)(hB:Qag h T2 d e f)(h1:h.IsListIter i1 l1 k)(h2:h.IsListIter i2 l2 k)(h3:h.IsListIter i3 l3 k):∀b∈[z,T1,T2,i1,i2,i3],NL h b:=
 fa1 (.zip hz) (fa1 (.tup hA) (fa1 (.tup hB) (fa1 (.it h1) (fa1 (.it h2) (fa1 (.it h3) λ_ h=>nomatch h)))))
def Qrm{P:Program}{w:World}{K:Fgg}{es:List Expr}{tk:Nat}{tpos:Pos}(l1 l2 l3 z TI TO i1 i2 i3:Addr)(D:Six z TI TO i1 i2 i3):
  Turn P w K (.Tuple es tk tpos) (QuD K l1 l2 l3) [z,TI,TO,i1,i2,i3] z (λi h=>IsZip h z TI TO .none/\Qag h TI (.ref i1) (.ref i2) (.ref i3)/\(∃a b c,Qag h TO a b c)/\h.IsListIter i1 l1 i/\h.IsListIter i2 l2 i/\h.IsListIter i3 l3 i) where
 mem:=mm0
 obj:=λi h st b hb=>by
  obtain⟨hz,hTI,⟨p,q,r,hTO⟩,h1,h2,h3⟩:=st;exact(QlG hz hTI hTO h1 h2 h3 b hb).obj
 keep:=λi h h' st k=>by
  obtain⟨hz,hTI,⟨p,q,r,hTO⟩,h1,h2,h3⟩:=st;exact⟨k z mm0 _ hz,k TI mm1 _ hTI,⟨p,q,r,k TO mm2 _ hTO⟩,h1.at (k i1 mm3),h2.at (k i2 mm4),h3.at (k i3 mm5)⟩
 item:=by
  intro X hP hw hK hc i pins s σ H E I hf st hg;subst hP hw hK;obtain⟨hz,hTI,⟨a0,b0,c0,hTO⟩,h1,h2,h3⟩:=st;obtain⟨xs,ys,zs,x,y,u,hq1,hq2,hq3,hx,hy,hu⟩:=hg;obtain⟨its,rv,p,hzz⟩:=I.list hq1;obtain⟨its2,rv2,p2,hzz2⟩:=I.list hq2;obtain⟨its3,rv3,p3,hzz3⟩:=I.list hq3;obtain⟨v1,hv1,r1⟩:=rv.get hx;obtain⟨v2,hv2,r2⟩:=rv2.get hy;obtain⟨v3,hv3,r3⟩:=rv3.get hu;have O:=QlG hz hTI hTO h1 h2 h3;have A:=λb hb l ys (hq:SqL X.K H l ys)=>(O b hb).apart I (hf b hb).1 hq;have off:∀l ys,SqL X.K H l ys->Off z TO i1 i2 i3 l:=λl ys hq=>⟨A z mm0 l ys hq,A TO mm2 l ys hq,A i1 mm3 l ys hq,A i2 mm4 l ys hq,A i3 mm5 l ys hq⟩;refine QoN D (off l1 xs hq1) (off l2 ys hq2) (off l3 zs hq3) hz hTI hTO h1 h2 h3 p.isList p2.isList p3.isList (by simpa using hv1) (by simpa using hv2) (by simpa using hv3) λg3 z3 TO3 a3 b3 c3 T3 sz3 k3=>?_;refine⟨.ref s.heap.objs.size,rfl,wpAny_letOwnedTupleGo_zip z3 λg4 z4 hs4=>?_⟩
  replace hs4:Heap.SameBut z g3 g4:=hs4
  have kk:∀b o,b∉[z,TI,TO,i1,i2,i3]->s.heap.get? b=some o->g4.get? b=some o:=λb o hb q=>
   hs4.extBut b o (nmm hb mm0) (k3 b o (nmm hb mm0) (nmm hb mm2) (nmm hb mm3) (nmm hb mm4) (nmm hb mm5) q)
  have TI4:Qag g4 TI (.ref i1) (.ref i2) (.ref i3):=hs4.extBut _ _ D.TIz (k3 _ _ D.TIz D.TITO D.TIi1 D.TIi2 D.TIi3 hTI);have TO4:Qag g4 TO v1 v2 v3:=hs4.extBut _ _ D.TOz TO3;have a4:g4.IsListIter i1 l1 (i+1):=a3.extBut hs4.extBut D.i1z;have b4:g4.IsListIter i2 l2 (i+1):=b3.extBut hs4.extBut D.i2z;have c4:g4.IsListIter i3 l3 (i+1):=c3.extBut hs4.extBut D.i3z
  exact⟨.ref s.heap.objs.size,upd H s.heap.objs.size (.tup [x,y,u]),I.Qqq (t':=s.toks) hf kk (λb hb=>(QlG z4 TI4 TO4 a4 b4 c4 b hb).ex) (Zd _) ⟨by show 3<=sizeLine;decide,_,.cons r1 (.cons r2 (.cons r3 .nil)),_,(hs4.2 _ (Zbq (O z mm0).lt)).trans T3,rfl,_,rfl⟩,rfl,
   ⟨_,x,y,u,rfl,I.hok.fresh (Zd _),rfl,λws hy'=>by rw[I.Qb2 hy' hq1];exact hx,λws hy'=>by rw[I.Qb2 hy' hq2];exact hy,λws hy'=>by rw[I.Qb2 hy' hq3];exact hu⟩,⟨z4,TI4,⟨_,_,_,TO4⟩,a4,b4,c4⟩,λb hb=>by rw[QA (ZJ (O b hb).lt)];exact(hf b hb).1⟩
 done:=by
  intro X hP hw hK hc i pins s σ H E I hf st hg;subst hP hw hK;obtain⟨hz,hTI,⟨a0,b0,c0,hTO⟩,h1,h2,h3⟩:=st;obtain⟨xs,hq1,hx⟩:=hg;obtain⟨its,rv,p,hzz⟩:=I.list hq1;have hl:=rv.length;refine Qkn (I.ok.hd hc) D ((NL.zip hz).apart I (hf z mm0).1 hq1) hz hTI h1 p.isList (by simp;lia) λg3 k3=>⟨rfl,?_⟩;exact I.turns (t':=s.toks) hf λb o hb q=>k3 b o (nmm hb mm0) (nmm hb mm3) q
 self:=λ_ _ _ _ _ st h=>wpAny_pyIter_zip st.1 h
def vals3(r:Qz [x,y,z] us):∃u v w',us=[u,v,w']/\RelV x u/\RelV y v/\RelV z w':=by
 cases r with
 | cons r1 r2=>
  obtain⟨v,w',rfl,h1,h2⟩:=vals2 r2;exact⟨_,_,_,rfl,r1,h1,h2⟩
section
noncomputable def QA1(K:Fgg)(ta:TA):TI:=λσ H R=>ta σ H λvs H1=>∃a b c,vs=[.ref a,.ref b,.ref c]/\(∃xs,SqL K H1 a xs)/\(∃ys,SqL K H1 b ys)/\(∃zs,SqL K H1 c zs)/\R (QuD K a b c) H1
def QxA{a b c:Expr}{ta:TA}{p pos:Pos}{es:List Expr}{tk:Nat}{tpos:Pos}(hg:Gl X "zip")(hm:X.mg "zip" =none)(ha:PA X [a,b,c] ta)(hs:starEach [a,b,c] X.env=(false,eval a X.env)::starEach [b,c] X.env)(hs2:(backTo pos (starEach [b,c] X.env)).any (·.1)=false):
  PI X (.Tuple es tk tpos) (.Call (.Name "zip" p) [a,b,c] [] pos) (QA1 X.K ta):=by
 intro pins s σ H R I h;refine Call_ (QcI I hg hm PyProof.Rows.boot_zip (Zaj (thn (ha pos pins s σ H _ I h) λus s1 ⟨vs,H1,I1,r1,q1⟩=>?_) hs hs2));obtain⟨l,l2,l3,e,⟨xs,hq⟩,⟨ys,hq2⟩,⟨zs,hq3⟩,q⟩:=q1;subst e;obtain⟨u,u2,u3,rfl,ru,ru2,ru3⟩:=vals3 r1;cases ru;cases ru2;cases ru3;obtain⟨its,rv,pl,hz⟩:=I1.list hq;obtain⟨its2,rv2,pl2,hz2⟩:=I1.list hq2;obtain⟨its3,rv3,pl3,hz3⟩:=I1.list hq3;refine Qql pl.isList pl2.isList pl3.isList λh2 hz hTI hTO h1 h2' h3' hk2=>?_;have I2:Inv X pins σ H1 {s1 with heap:=h2}:=I1.kept (t':=s1.toks) hk2;refine wpAny_pyIter_zip hz ⟨_,[s1.heap.objs.size+5,s1.heap.objs.size+3,s1.heap.objs.size+4,s1.heap.objs.size,s1.heap.objs.size+1,s1.heap.objs.size+2],_,_,H1,rfl,I2,Qrm l l2 l3 _ _ _ _ _ _ ⟨?_,?_,?_,?_,?_,?_,?_,?_,?_,?_,?_,?_,?_,?_,?_⟩,⟨hz,hTI,⟨_,_,_,hTO⟩,h1,h2',h3'⟩,λb hb=>?_,q⟩
 iterate 15 (exact(by intro e;first | (have e':(s1.heap.objs.size:Nat)+_=_:=e;lia) | (have e':(s1.heap.objs.size:Nat)=_:=e;lia)))
 have hle:s1.heap.objs.size<=b:=by
  simp only[Zm,List.not_mem_nil,or_false]at hb;rcases hb with rfl | rfl | rfl | rfl | rfl | rfl<;>first | exact Zd _ | exact Zbc _ _
 exact I1.Qji hle (I1.hok.fresh hle)
end
end L2
namespace HS
open PySem PySem.Spec PyProof.Rows L2
inductive D where
 | non | bl (b:Bool) | int (i:Int) | str (x:Str) | tup (xs:List D) | lst (xs:List D) | exc (x:Str) | dk (ks:List (List Int))
mutual
noncomputable def D.flat:D->Bool
 | .lst _=>false
 | .tup xs=>Q7 xs
 | .non=>true
 | .bl _=>true
 | .int _=>true
 | .str _=>true
 | .exc _=>true
 | .dk _=>false
noncomputable def Q7:List D->Bool
 | []=>true
 | d::ds=>d.flat && Q7 ds
end
mutual
noncomputable def D.nl:D->Nat
 | .lst xs=>nls xs+1
 | .tup xs=>nls xs
 | .non=>0
 | .bl _=>0
 | .int _=>0
 | .str _=>0
 | .exc _=>0
 | .dk _=>1
noncomputable def nls:List D->Nat
 | []=>0
 | d::ds=>d.nl+nls ds
end
mutual
def QdK:∀(d:D),d.flat=true->d.nl=0
 | .non,_=>rfl
 | .bl _,_=>rfl
 | .int _,_=>rfl
 | .str _,_=>rfl
 | .exc _,_=>rfl
 | .dk _,h=>by simp[D.flat]at h
 | .tup xs,h=>by simp only[D.nl];simp only[D.flat]at h;exact QjE xs h
 | .lst xs,h=>by simp[D.flat]at h
def QjE:∀(ds:List D),Q7 ds=true->nls ds=0
 | [],_=>rfl
 | d::ds,h=>by simp only[Q7,Zk]at h;simp only[nls,QdK d h.1,QjE ds h.2]
end
def Fix(K:Fgg)(H:Hp)(a:Addr)(vs:List V):Prop:=
 (∃o,H a=some (.frz o (.lst vs)))∨
  ∃(its:List Value) (n:Nat),K.lookup a=some {cls:= .type "list",data:= .seq its.toArray n}/\vs.length<=sizeLine/\Qz vs its
def QcX(a C:Addr)(h:Heap):Prop:=∃o vs,h.get? a=some o/\o.cls= .ref C/\o.data= .fields vs
def ExcAt(K:Fgg)(H:Hp)(a:Addr)(x:Str):Prop:=∃C,PySem.W.nsIn K mainGlobals x=some (some (.ref C))/\H a=some (.ext (QcX a C))
def QqV{K:Fgg}{H H':Hp}{a:Addr}{x:Str}(s:QN H H')(h:ExcAt K H a x):ExcAt K H' a x:=by
 obtain⟨C,h1,h2⟩:=h;exact⟨C,h1,s _ _ h2⟩
def QrL{K:Fgg}{H:Hp}{a p:Addr}{x:Str}{zs ys:List V}(hp:H p=some (.lst zs))(h:ExcAt K H a x):ExcAt K (upd H p (.lst ys)) a x:=by
 obtain⟨C,h1,h2⟩:=h;exact⟨C,h1,by rw[QA (QdS h2 hp (by intro z;cases z))];exact h2⟩
noncomputable def dkC(ks:List (List Int)):List (List Key×V):=ks.map λk=>(k.map Sum.inl,V.bl true)
mutual
def Rp(K:Fgg)(H:Hp):D->V->List Addr->Prop
 | .non,v,F=>v= .non/\F=[]
 | .bl b,v,F=>v= .bl b/\F=[]
 | .int i,v,F=>v= .int i/\F=[]
 | .str x,v,F=>v= .str x/\F=[]
 | .exc x,v,F=>(∃a,v= .ref a/\ExcAt K H a x)/\F=[]
 | .dk ks,v,F=>∃a,v= .ref a/\F=[a]/\H a=some (.dT (dkC ks))
 | .tup ds,v,F=>∃a vs,v= .ref a/\SqT K H a vs/\Rps K H ds vs F
 | .lst ds,v,F=>ds.length<=sizeLine/\∃a vs,v= .ref a/\((∃G,F=a::G/\H a=some (.lst vs)/\Rps K H ds vs G)∨(Fix K H a vs/\Rps K H ds vs F))
def Rps(K:Fgg)(H:Hp):List D->List V->List Addr->Prop
 | [],vs,F=>vs=[]/\F=[]
 | d::ds,vs,F=>∃v ws F1 F2,vs=v::ws/\F=F1++F2/\Rp K H d v F1/\Rps K H ds ws F2
end
def QnU{K:Fgg}{H H':Hp}{a:Addr}{vs:List V}(s:QN H H')(h:SqT K H a vs):SqT K H' a vs:=by
 rcases h with(h | ⟨o,h⟩) | h
 .exact .inl (.inl (s _ _ h))
 .exact .inl (.inr ⟨o,s _ _ h⟩)
 .exact .inr h
def Qnn{K:Fgg}{H H':Hp}{a:Addr}{vs:List V}(s:QN H H')(h:Fix K H a vs):Fix K H' a vs:=by
 rcases h with⟨o,h⟩ | h
 .exact .inl ⟨o,s _ _ h⟩
 .exact .inr h
def Qpm{K:Fgg}{H:Hp}{a p:Addr}{vs zs ys:List V}(hp:H p=some (.lst zs))(h:SqT K H a vs):SqT K (upd H p (.lst ys)) a vs:=by
 rcases h with(h | ⟨o,h⟩) | h
 .exact .inl (.inl (by rw[QA (QdS h hp (by intro z;cases z))];exact h))
 .exact .inl (.inr ⟨o,by rw[QA (QdS h hp (by intro z;cases z))];exact h⟩)
 .exact .inr h
def Qwu{K:Fgg}{H:Hp}{a p:Addr}{vs zs ys:List V}(hp:H p=some (.lst zs))(h:Fix K H a vs):Fix K (upd H p (.lst ys)) a vs:=by
 rcases h with⟨o,h⟩ | h
 .exact .inl ⟨o,by rw[QA (QdS h hp (by intro z;cases z))];exact h⟩
 .exact .inr h
section
variable {K:Fgg}{H H':Hp}
mutual
def Rp.same(s:QN H H'):∀{d:D}{v:V}{F:LAd},Rp K H d v F->Rp K H' d v F
 | .exc _,_,_,h=>by
  simp only[Rp]at h ⊢;obtain⟨⟨a,e,q⟩,z⟩:=h;exact⟨⟨a,e,QqV s q⟩,z⟩
 | .dk _,_,_,h=>by
  simp only[Rp]at h ⊢;obtain⟨a,e,eF,q⟩:=h;exact⟨a,e,eF,s _ _ q⟩
 | .non,_,_,h=>h
 | .bl _,_,_,h=>h
 | .int _,_,_,h=>h
 | .str _,_,_,h=>h
 | .tup ds,_,_,h=>by
  simp only[Rp]at h ⊢;obtain⟨a,vs,e,q,r⟩:=h;exact⟨a,vs,e,QnU s q,Rps.same s r⟩
 | .lst ds,_,_,h=>by
  simp only[Rp]at h ⊢;obtain⟨hz,a,vs,e,⟨G,eF,q,r⟩ | ⟨q,r⟩⟩:=h
  .exact⟨hz,a,vs,e,.inl ⟨G,eF,s _ _ q,Rps.same s r⟩⟩
  .exact⟨hz,a,vs,e,.inr ⟨Qnn s q,Rps.same s r⟩⟩
def Rps.same(s:QN H H'):∀{ds:List D}{vs:List V}{F:LAd},Rps K H ds vs F->Rps K H' ds vs F
 | [],_,_,h=>h
 | d::ds,_,_,h=>by
  simp only[Rps]at h ⊢;obtain⟨v,ws,F1,F2,e,eF,r,q⟩:=h;exact⟨v,ws,F1,F2,e,eF,Rp.same s r,Rps.same s q⟩
end
mutual
def Rp.upd{p:Addr}{zs ys:List V}(hp:H p=some (.lst zs)):∀{d:D}{v:V}{F:LAd},Rp K H d v F->p∉F->Rp K (upd H p (.lst ys)) d v F
 | .exc _,_,_,h,_=>by
  simp only[Rp]at h ⊢;obtain⟨⟨a,e,q⟩,z⟩:=h;exact⟨⟨a,e,QrL hp q⟩,z⟩
 | .dk _,_,_,h,hn=>by
  simp only[Rp]at h ⊢;obtain⟨a,e,eF,q⟩:=h;subst eF;exact⟨a,e,rfl,by rw[QA (λz=>hn (by rw[z];exact Ze))];exact q⟩
 | .non,_,_,h,_=>h
 | .bl _,_,_,h,_=>h
 | .int _,_,_,h,_=>h
 | .str _,_,_,h,_=>h
 | .tup ds,_,_,h,hn=>by
  simp only[Rp]at h ⊢;obtain⟨a,vs,e,q,r⟩:=h;exact⟨a,vs,e,Qpm hp q,Rps.upd hp r hn⟩
 | .lst ds,_,_,h,hn=>by
  simp only[Rp]at h ⊢;obtain⟨hz,a,vs,e,⟨G,eF,q,r⟩ | ⟨q,r⟩⟩:=h
  .subst eF;have h1:a≠p:=λz=>hn (by rw[z];exact Ze);exact⟨hz,a,vs,e,.inl ⟨G,rfl,by rw[QA h1];exact q,Rps.upd hp r λz=>hn (Zb _ z)⟩⟩
  .exact⟨hz,a,vs,e,.inr ⟨Qwu hp q,Rps.upd hp r hn⟩⟩
def Rps.upd{p:Addr}{zs ys:List V}(hp:H p=some (.lst zs)):∀{ds:List D}{vs:List V}{F:LAd},Rps K H ds vs F->p∉F->Rps K (upd H p (.lst ys)) ds vs F
 | [],_,_,h,_=>h
 | d::ds,_,_,h,hn=>by
  simp only[Rps]at h ⊢;obtain⟨v,ws,F1,F2,e,eF,r,q⟩:=h;subst eF;exact⟨v,ws,F1,F2,e,rfl,Rp.upd hp r λz=>hn (Zg _ z),Rps.upd hp q λz=>hn (Zf _ z)⟩
end
mutual
def Rp.mem:∀{d:D}{v:V}{F:LAd},Rp K H d v F->∀a∈F,∃u,H a=some u
 | .non,_,_,h,a,ha=>by simp only[Rp]at h;rw[h.2]at ha;simp at ha
 | .bl _,_,_,h,a,ha=>by simp only[Rp]at h;rw[h.2]at ha;simp at ha
 | .int _,_,_,h,a,ha=>by simp only[Rp]at h;rw[h.2]at ha;simp at ha
 | .str _,_,_,h,a,ha=>by simp only[Rp]at h;rw[h.2]at ha;simp at ha
 | .exc _,_,_,h,a,ha=>by simp only[Rp]at h;rw[h.2]at ha;simp at ha
 | .dk _,_,_,h,a,ha=>by simp only[Rp]at h;obtain⟨b,e,eF,q⟩:=h;subst eF;rw[Zo.mp ha];exact⟨_,q⟩
 | .tup ds,_,_,h,a,ha=>by
  simp only[Rp]at h;obtain⟨_,vs,e,q,r⟩:=h;exact Rps.mem r a ha
 | .lst ds,_,_,h,a,ha=>by
  simp only[Rp]at h;obtain⟨_,b,vs,e,⟨G,eF,q,r⟩ | ⟨q,r⟩⟩:=h
  .subst eF;rcases Zm.mp ha with z | z
   .exact⟨_,by rw[z];exact q⟩
   .exact Rps.mem r a z
  .exact Rps.mem r a ha
def Rps.mem:∀{ds:List D}{vs:List V}{F:LAd},Rps K H ds vs F->∀a∈F,∃u,H a=some u
 | [],_,_,h,a,ha=>by simp only[Rps]at h;rw[h.2]at ha;simp at ha
 | d::ds,_,_,h,a,ha=>by
  simp only[Rps]at h;obtain⟨v,ws,F1,F2,e,eF,r,q⟩:=h;subst eF;rcases Zr.mp ha with z | z
  .exact Rp.mem r a z
  .exact Rps.mem q a z
end
mutual
def Rp.QbW:∀{d:D}{v:V}{F:LAd},Rp K H d v F->d.flat=true->F=[]
 | .non,_,_,h,_=>by simp only[Rp]at h;exact h.2
 | .bl _,_,_,h,_=>by simp only[Rp]at h;exact h.2
 | .int _,_,_,h,_=>by simp only[Rp]at h;exact h.2
 | .str _,_,_,h,_=>by simp only[Rp]at h;exact h.2
 | .exc _,_,_,h,_=>by simp only[Rp]at h;exact h.2
 | .dk _,_,_,h,hf=>by simp[D.flat]at hf
 | .tup ds,_,_,h,hf=>by
  simp only[Rp]at h;simp only[D.flat]at hf;obtain⟨_,vs,e,q,r⟩:=h;exact Rps.QbW r hf
 | .lst ds,_,_,h,hf=>by simp[D.flat]at hf
def Rps.QbW:∀{ds:List D}{vs:List V}{F:LAd},Rps K H ds vs F->Q7 ds=true->F=[]
 | [],_,_,h,_=>by simp only[Rps]at h;exact h.2
 | d::ds,_,_,h,hf=>by
  simp only[Rps]at h;simp only[Q7,Zk]at hf;obtain⟨v,ws,F1,F2,e,eF,r,q⟩:=h;rw[eF,Rp.QbW r hf.1,Rps.QbW q hf.2];rfl
end
mutual
def Rp.QaI:∀{d:D}{v:V}{F:LAd},Rp K H d v F->F.length<=d.nl
 | .non,_,_,h=>by simp only[Rp]at h;rw[h.2];exact ZF _
 | .bl _,_,_,h=>by simp only[Rp]at h;rw[h.2];exact ZF _
 | .int _,_,_,h=>by simp only[Rp]at h;rw[h.2];exact ZF _
 | .str _,_,_,h=>by simp only[Rp]at h;rw[h.2];exact ZF _
 | .exc _,_,_,h=>by simp only[Rp]at h;rw[h.2];exact ZF _
 | .dk _,_,_,h=>by simp only[Rp]at h;obtain⟨b,e,eF,q⟩:=h;subst eF;exact Zd _
 | .tup ds,_,_,h=>by
  simp only[Rp]at h;obtain⟨_,vs,e,q,r⟩:=h;simp only[D.nl];exact Rps.QaI r
 | .lst ds,_,_,h=>by
  simp only[Rp]at h;simp only[D.nl];obtain⟨_,b,vs,e,⟨G,eF,q,r⟩ | ⟨q,r⟩⟩:=h
  .rw[eF,ZI];have:=Rps.QaI r;lia
  .have:=Rps.QaI r;lia
def Rps.QaI:∀{ds:List D}{vs:List V}{F:LAd},Rps K H ds vs F->F.length<=nls ds
 | [],_,_,h=>by simp only[Rps]at h;rw[h.2];exact ZF _
 | d::ds,_,_,h=>by
  simp only[Rps]at h;obtain⟨v,ws,F1,F2,e,eF,r,q⟩:=h;simp only[nls];rw[eF,Zn];have:=Rp.QaI r;have:=Rps.QaI q;lia
end
def Rps.length:∀{ds:List D}{vs:List V}{F:LAd},Rps K H ds vs F->ds.length=vs.length
 | [],_,_,h=>by simp only[Rps]at h;rw[h.1];rfl
 | d::ds,_,_,h=>by
  simp only[Rps]at h;obtain⟨v,ws,F1,F2,e,eF,r,q⟩:=h;rw[e,ZI,ZI,Rps.length q]
def Rps.append:∀{ds es:List D}{vs ws:List V}{F G:LAd},Rps K H ds vs F->Rps K H es ws G->Rps K H (ds++es) (vs++ws) (F++G)
 | [],_,_,_,_,_,h,g=>by simp only[Rps]at h;rw[h.1,h.2];exact g
 | d::ds,_,_,_,_,_,h,g=>by
  simp only[Rps,Zcj]at h ⊢;obtain⟨v,ws,F1,F2,e,eF,r,q⟩:=h;subst e eF;exact⟨v,_,F1,_,rfl,by rw[ZG],r,Rps.append q g⟩
def Rps.get:∀{ds:List D}{vs:List V}{F:LAd}{i:Nat}{d:D},Rps K H ds vs F->ds[i]? =some d->∃v F1 G F2,vs[i]? =some v/\F=F1++(G++F2)/\Rp K H d v G/\(F.length=nls ds->G.length=d.nl)
 | [],_,_,_,_,_,e=>by simp at e
 | d::ds,_,_,0,_,h,e=>by
  simp only[Rps]at h;obtain⟨v,ws,F1,F2,e1,eF,r,q⟩:=h;simp at e;subst e e1 eF;refine⟨v,[],F1,F2,⋯,rfl,r,λhl=>?_⟩;simp only[nls,Zn]at hl;have:=Rp.QaI r;have:=Rps.QaI q;lia
 | d::ds,_,_,i+1,_,h,e=>by
  simp only[Rps]at h;obtain⟨v,ws,F1,F2,e1,eF,r,q⟩:=h;obtain⟨v',G1,G,G2,h1,h2,h3,h4⟩:=Rps.get q (by simpa using e);have l1:=Rp.QaI r;have l2:=Rps.QaI q;subst e1 eF;refine⟨v',F1++G1,G,G2,by simpa using h1,by rw[h2,ZG],h3,λhl=>h4 ?_⟩;simp only[nls,Zn]at hl;lia
def Fix.sq{K:Fgg}{H:Hp}{a:Addr}{vs:List V}(h:Fix K H a vs):SqL K H a vs:=by
 rcases h with⟨o,h⟩ | ⟨its,n,h,hz,r⟩
 .exact .inl (.inr ⟨o,h⟩)
 .exact .inr ⟨_,its.toArray,n,h,rfl,rfl,rfl,by rw[Zy,← r.length];exact hz,by simpa using r⟩
def _root_.L2.Inv.Qob(I:Inv X pins σ H s)(h:H a=some (.lst vs)∨Fix X.K H a vs):
  vs.length<=sizeLine/\∃(its:List Value) (n:Nat),Qz vs its/\vs.length=its.length/\s.heap.get? a=some {cls:= .type "list",data:= .seq its.toArray n}:=by
 rcases h with h | ⟨o,h⟩ | ⟨its,n,h,hz,r⟩
 .exact I.Qu6 h
 .obtain⟨e,hz,its,n,r,e2⟩:=I.hok a _ h;exact⟨hz,its,n,r,r.length,e2⟩
 .exact⟨hz,its,n,r,r.length,I.kIn _ _ h⟩
def Rp.lst_inv{K:Fgg}{H:Hp}{ds:List D}{v:V}{F:LAd}(h:Rp K H (.lst ds) v F):
  ∃a vs G,v= .ref a/\(H a=some (.lst vs)∨Fix K H a vs)/\Rps K H ds vs G/\ds.length<=sizeLine/\(F=a::G∨F=G):=by
 simp only[Rp]at h;obtain⟨hz,a,vs,e,⟨G,eF,q,r⟩ | ⟨q,r⟩⟩:=h
 .exact⟨a,vs,G,e,.inl q,r,hz,.inl eF⟩
 .exact⟨a,vs,F,e,.inr q,r,hz,.inr rfl⟩
def QT{K:Fgg}{H:Hp}{a:Addr}{vs:List V}(h:H a=some (.lst vs)∨Fix K H a vs):SqL K H a vs:=h.elim (λh=>SqL.of h) Fix.sq
def Rp.QaP{K:Fgg}{H:Hp}{ds:List D}{v:V}{F:LAd}(h:Rp K H (.tup ds) v F):∃a vs,v= .ref a/\SqT K H a vs/\Rps K H ds vs F:=by
 simp only[Rp]at h;exact h
def Rp.QdX{K:Fgg}{H:Hp}{ds:List D}{a:Addr}{vs:List V}{G:LAd}(h:H a=some (.lst vs))(r:Rps K H ds vs G)(hz:ds.length<=sizeLine):Rp K H (.lst ds) (.ref a) (a::G):=by
 simp only[Rp];exact⟨hz,a,vs,rfl,.inl ⟨G,rfl,h,r⟩⟩
def Rp.Qhs{K:Fgg}{H:Hp}{ds:List D}{a:Addr}{vs:List V}{G:LAd}(h:H a=some (.tup vs))(r:Rps K H ds vs G):Rp K H (.tup ds) (.ref a) G:=by
 simp only[Rp];exact⟨a,vs,rfl,SqT.of h,r⟩
def Rp.int_inv{K:Fgg}{H:Hp}{i:Int}{v:V}{F:LAd}(h:Rp K H (.int i) v F):v= .int i:=by simp only[Rp]at h;exact h.1
def Rp.QeF{K:Fgg}{H:Hp}{i:Bool}{v:V}{F:LAd}(h:Rp K H (.bl i) v F):v= .bl i:=by simp only[Rp]at h;exact h.1
def Rp.QkZ{K:Fgg}{H:Hp}{v:V}{F:LAd}(h:Rp K H .non v F):v= .non:=by simp only[Rp]at h;exact h.1
def Rp.str_inv{K:Fgg}{H:Hp}{i:Str}{v:V}{F:LAd}(h:Rp K H (.str i) v F):v= .str i:=by simp only[Rp]at h;exact h.1
def Rp.int_mk{K:Fgg}{H:Hp}{i:Int}:Rp K H (.int i) (.int i) []:=by simp[Rp]
def Rp.Qbs{K:Fgg}{H:Hp}{i:Bool}:Rp K H (.bl i) (.bl i) []:=by simp[Rp]
def Rp.QkN{K:Fgg}{H:Hp}:Rp K H .non .non []:=by simp[Rp]
def Rp.str_mk{K:Fgg}{H:Hp}{i:Str}:Rp K H (.str i) (.str i) []:=by simp[Rp]
def Qap(h:H p=none):QN H (L2.upd H p o):=λb u e=>by rw[QA (Qbp e h)];exact e
end
end HS
namespace HS
open PySem PySem.Spec L2
noncomputable abbrev En:=List (Option (D×Bool))
noncomputable abbrev slT(d:D):Option (D×Bool):=some (d,true)
noncomputable abbrev slF(d:D):Option (D×Bool):=some (d,false)
noncomputable abbrev slI(i:Int):Option (D×Bool):=some (.int i,true)
def nn{α:Type}{x:α}{C:Prop}(h:(none:Option α)=some x):C:=nomatch h
structure R where
 d:D
 fr:Bool
 M:List Nat
noncomputable abbrev reT(d:D):R:=⟨d,true,[]⟩
noncomputable abbrev reF(d:D):R:=⟨d,false,[]⟩
noncomputable abbrev reI(i:Int):R:=⟨.int i,true,[]⟩
structure RA where
 ds:List D
 fr:Bool
 M:List Nat
noncomputable abbrev DE:=En->Option R
noncomputable abbrev DA:=En->Option RA
noncomputable abbrev DT:=En->Option Bool
structure Rel (K:Fgg) (H0:Hp) (A0:LAd) (hs:List (V×D×List Addr)) (U:En) (F:Nat->List Addr) (σ:St) (H:Hp):Prop where
 len:U.length=σ.length
 val:∀(i:Nat) d b,U[i]? =some (some (d,b))->∃v,σ[i]? =some (some v)/\Rp K H d v (F i)
 own:∀(i:Nat) d,U[i]? =some (some (d,true))->(F i).length=d.nl/\(F i).Nodup/\(∀a∈F i,H0 a=none)/\(∀(j:Nat) d' b',j≠i->U[j]? =some (some (d',b'))->∀a∈F i,a∉F j)/\∀t∈hs,∀a∈F i,a∉t.2.2
 src:∀(i:Nat) d b,U[i]? =some (some (d,b))->∀a∈F i,H0 a=none∨a∈A0
 held:∀t∈hs,Rp K H t.2.1 t.1 t.2.2/\∀a∈t.2.2,H0 a=none∨a∈A0
 same:QN H0 H
def Src(U:En)(F:Nat->List Addr)(H:Hp)(M:List Nat)(G:LAd):Prop:=
 ∀a∈G,H a=none∨∃(i:Nat) (d:D) (b:Bool),U[i]? =some (some (d,b))/\a∈F i/\(b=true->i∈M)
noncomputable def nw(H:Hp)(a:Addr):Nat:=match H a with | none=>1 | some _=>0
def Cnt(F:Nat->List Addr)(H:Hp)(M:List Nat)(G:LAd):Prop:=
 ∀a,G.count a<=nw H a+((M.map F).flatten).count a
def Qbe(U:En)(M:List Nat):Prop:=∀i∈M,∃d,U[i]? =some (some (d,true))
structure Qaa (K:Fgg) (U:En) (F:Nat->List Addr) (H H':Hp) (r:R) (v:V) (G:LAd):Prop where
 same:QN H H'
 rp:Rp K H' r.d v G
 src:Src U F H r.M G
 cnt:r.fr=true->Cnt F H r.M G/\G.length=r.d.nl
 own:Qbe U r.M
structure Qqz (K:Fgg) (U:En) (F:Nat->List Addr) (H H':Hp) (r:RA) (vs:List V) (G:LAd):Prop where
 same:QN H H'
 rp:Rps K H' r.ds vs G
 src:Src U F H r.M G
 cnt:r.fr=true->Cnt F H r.M G/\G.length=nls r.ds
 own:Qbe U r.M
noncomputable def tV(K:Fgg)(H0:Hp)(A0:LAd)(f:DE):TE:=λσ H Q=>∃U hs F r,Rel K H0 A0 hs U F σ H/\f U=some r/\∀v H' G,Qaa K U F H H' r v G->Q v H'
noncomputable def tVA(K:Fgg)(H0:Hp)(A0:LAd)(f:DA):TA:=λσ H Q=>∃U hs F r,Rel K H0 A0 hs U F σ H/\f U=some r/\∀v H' G,Qqz K U F H H' r v G->Q v H'
noncomputable def tVT(K:Fgg)(H0:Hp)(A0:LAd)(f:DT):TT:=λσ H Q=>∃U hs F b,Rel K H0 A0 hs U F σ H/\f U=some b/\∀H',QN H H'->Q b H'
def SE(X:Cx)(e:Expr)(f:DE):Prop:=∀H0 A0,PE X e (tV X.K H0 A0 f)
def SA(X:Cx)(es:List Expr)(f:DA):Prop:=∀H0 A0,PA X es (tVA X.K H0 A0 f)
def ST(X:Cx)(e:Expr)(f:DT):Prop:=∀H0 A0,PT X e (tVT X.K H0 A0 f)
def _root_.L2.PE.mono(h:PE X e t)(m:∀σ H Q,t' σ H Q->t σ H Q):PE X e t':=λpins s σ H Q I q=>h pins s σ H Q I (m σ H Q q)
def _root_.L2.PT.mono(h:PT X e t)(m:∀σ H Q,t' σ H Q->t σ H Q):PT X e t':=λpins s σ H Q I q=>h pins s σ H Q I (m σ H Q q)
def _root_.L2.PA.mono(h:PA X e t)(m:∀σ H Q,t' σ H Q->t σ H Q):PA X e t':=λpos pins s σ H Q I q=>h pos pins s σ H Q I (m σ H Q q)
section
def Rel.ext(r:Rel K H0 A0 hs U F σ H)(s:QN H H'):Rel K H0 A0 hs U F σ H' where
 len:=r.len
 val:=λi d b e=>let ⟨v,h1,h2⟩:=r.val i d b e;⟨v,h1,h2.same s⟩
 own:=r.own
 src:=r.src
 held:=λt ht=>⟨(r.held t ht).1.same s,(r.held t ht).2⟩
 same:=r.same.trans s
def Rel.mem(r:Rel K H0 A0 hs U F σ H)(e:U[i]? =some (some (d,b)))(h:a∈F i):∃u,H a=some u:=
 let ⟨_,_,h2⟩:=r.val i d b e;h2.mem a h
def Qdz(h:H a=some o):nw H a=0:=by simp[nw,h]
def QaK(h:H a=none):nw H a=1:=by simp[nw,h]
def Rel.fl0(r:Rel K H0 A0 hs U F σ H)(ow:Qbe U M)(h:H a=none):((M.map F).flatten).count a=0:=by
 rw[ZX];intro hm;obtain⟨l,hl,ha⟩:=ZbK.mp hm;obtain⟨i,hi,rfl⟩:=ZK.mp hl;obtain⟨d,e⟩:=ow i hi;obtain⟨vs,q⟩:=r.mem e ha;rw[h]at q;cases q
def Cnt.append(r:Rel K H0 A0 hs U F σ H)(c1:Cnt F H M1 G1)(c2:Cnt F H1 M2 G2)(s:QN H H1)(m1:∀a∈G1,∃u,H1 a=some u):Cnt F H (M1++M2) (G1++G2):=λa=>by
 rw[Zaz,Zap,List.flatten_append,Zaz];have h1:=c1 a;have h2:=c2 a;cases q:H1 a with
 | some o=>rw[Qdz q]at h2;lia
 | none=>
  rw[QaK q]at h2;have h3:H a=none:=s.free q;rw[QaK h3]at h1 ⊢;have h4:G1.count a=0:=ZX.mpr λhm=>by obtain⟨vs,z⟩:=m1 a hm;rw[q]at z;cases z
  lia
def Src.append(c1:Src U F H M1 G1)(c2:Src U F H1 M2 G2)(s:QN H H1):Src U F H (M1++M2) (G1++G2):=λa ha=>by
 rcases Zr.mp ha with h | h
 .rcases c1 a h with z | ⟨i,d,b,e,m,w⟩
  .exact .inl z
  .exact .inr ⟨i,d,b,e,m,λhb=>Zg _ (w hb)⟩
 .rcases c2 a h with z | ⟨i,d,b,e,m,w⟩
  .exact .inl (s.free z)
  .exact .inr ⟨i,d,b,e,m,λhb=>Zf _ (w hb)⟩
def Qbe.append(h1:Qbe U M1)(h2:Qbe U M2):Qbe U (M1++M2):=λi hi=>(Zr.mp hi).elim (h1 i) (h2 i)
def Qbe.nil:Qbe U []:=λi hi=>by simp at hi
def Src.nil:Src U F H M []:=λa ha=>by simp at ha
def Cnt.nil:Cnt F H M []:=λa=>by simp
def Qaa.flat(s:QN H H')(r:Rp K H' d v [])(hf:d.flat=true:=by rfl):Qaa K U F H H' ⟨d,true,[]⟩ v []:=⟨s,r,Src.nil,λ_=>⟨Cnt.nil,(QdK d hf).symm⟩,Qbe.nil⟩
def Qaa.sub(p:Qaa K U F H H1 r v G)(rp:Rp K H1 d u G')(hs:∀a,G'.count a<=G.count a)(hn:G.length=r.d.nl->G'.length=d.nl):Qaa K U F H H1 ⟨d,r.fr,r.M⟩ u G' where
 same:=p.same
 rp:=rp
 src:=λa ha=>p.src a (by
  have:=hs a;have h1:0<G'.count a:=ZaH.mpr ha;exact ZaH.mp ⋯)
 cnt:=λh=>⟨λa=>Zw (hs a) ((p.cnt h).1 a),hn (p.cnt h).2⟩
 own:=p.own
noncomputable def R.norm(r:R):R:=if r.d.flat then⟨r.d,true,[]⟩else r
def R.Qdm(r:R):r.norm.d=r.d:=by unfold R.norm;split<;>rfl
def Qaa.norm(p:Qaa K U F H H' r v G):Qaa K U F H H' r.norm v G:=by
 unfold R.norm;split
 .rename_i h;have:=p.rp.QbW h;subst this;exact .flat p.same p.rp h
 .exact p
end
noncomputable def Qf(i:Nat):DE:=λU=>match U[i]? with
 | some (some (d,b))=>if d.flat then some ⟨d,true,[]⟩else if b then some ⟨d,true,[i]⟩else some ⟨d,false,[]⟩
 | _=>none
noncomputable def dC(d:D):DE:=λ_=>some ⟨d,true,[]⟩
noncomputable abbrev vv0:DE:=Qf 0
noncomputable abbrev vv1:DE:=Qf 1
noncomputable abbrev vv2:DE:=Qf 2
noncomputable abbrev vv3:DE:=Qf 3
noncomputable abbrev vv4:DE:=Qf 4
noncomputable abbrev vv5:DE:=Qf 5
noncomputable abbrev vv6:DE:=Qf 6
noncomputable abbrev vv7:DE:=Qf 7
noncomputable abbrev vv8:DE:=Qf 8
noncomputable abbrev vv9:DE:=Qf 9
noncomputable abbrev kk0:DE:=dC (.int 0)
noncomputable abbrev kk1:DE:=dC (.int 1)
noncomputable abbrev kk2:DE:=dC (.int 2)
noncomputable abbrev kk3:DE:=dC (.int 3)
noncomputable abbrev kk4:DE:=dC (.int 4)
noncomputable abbrev kk5:DE:=dC (.int 5)
noncomputable abbrev kk6:DE:=dC (.int 6)
noncomputable abbrev kk7:DE:=dC (.int 7)
noncomputable abbrev kk8:DE:=dC (.int 8)
noncomputable abbrev kk9:DE:=dC (.int 9)
noncomputable abbrev QB5:DE:=dC (.int 11)
noncomputable abbrev QBF:DE:=dC (.int 12)
noncomputable abbrev QB7:DE:=dC (.int 16)
noncomputable abbrev QBC:DE:=dC (.int 17)
noncomputable abbrev QB4:DE:=dC (.int 19)
noncomputable abbrev QBM:DE:=dC (.int 40)
noncomputable abbrev QB2:DE:=dC (.int 64)
noncomputable abbrev QBE:DE:=dC (.int 72)
noncomputable abbrev QBS:DE:=dC (.int 76)
noncomputable abbrev QkL:DE:=dC (.int 300)
noncomputable abbrev QsW:DE:=dC (.int 7919)
noncomputable abbrev QlO:DE:=dC (.int 48271)
noncomputable abbrev QxD:DE:=dC (.int 69621)
noncomputable abbrev QrM:DE:=dC (.int 1000003)
noncomputable abbrev Qnu:DE:=dC (.int 2147483629)
noncomputable abbrev Qdd:DE:=dC (.int 2147483647)
section
def QrD(h:PE X (.Name x pos) (QnP i)):SE X (.Name x pos) (Qf i):=λH0 A0=>h.mono λσ H Q=>exK λU hs F r rel e q=>by
 unfold Qf at e;split at e
 .rename_i d b q1;obtain⟨v,h1,h2⟩:=rel.val i d b q1;refine⟨v,h1,q v H (F i) ?_⟩;split at e
  .rename_i hf;cases e;have:=h2.QbW hf;rw[this]at h2 ⊢;exact .flat (QN.refl _) h2 hf
  .split at e
   .rename_i hb;cases e;subst hb;exact⟨QN.refl _,h2,λa ha=> .inr ⟨i,d,true,q1,ha,λ_=>⋯⟩,λ_=>⟨λa=>⋯,(rel.own i d q1).1⟩,λj hj=>by simp at hj;subst hj;exact⟨d,q1⟩⟩
   .rename_i hb;cases e;simp at hb;subst hb;exact⟨QN.refl _,h2,λa ha=> .inr ⟨i,d,false,q1,ha,λz=>by cases z⟩,λz=>(by cases z),Qbe.nil⟩
 .cases e
def QhA(h:PE X e (tC v))(r:∀K H,Rp K H d v [])(hf:d.flat=true):SE X e (dC d):=λH0 A0=>h.mono λσ H Q=>exK λU hs F r' rel e q=>by
 cases e;exact q v H [] (.flat (QN.refl _) (r _ _) hf)
def two{K:Fgg}{H0:Hp}{A0:LAd}{fa fb:DE}{σ:St}{H:Hp}{hs:List (V×D×List Addr)}{U:En}{F:Nat->List Addr}{ra rb:R}{Rr:V->V->Hp->Prop}(rel:Rel K H0 A0 hs U F σ H)(ea:fa U=some ra)(eb:fb U=some rb)
  (k:∀x y H1 H2 G1 G2,Qaa K U F H H1 ra x G1->Qaa K U F H1 H2 rb y G2->Rr x y H2):tV K H0 A0 fa σ H λx H1=>tV K H0 A0 fb σ H1 λy H2=>Rr x y H2:=
 ⟨U,hs,F,ra,rel,ea,λx H1 G1 p1=>⟨U,hs,F,rb,rel.ext p1.same,eb,λy H2 G2 p2=>k x y H1 H2 G1 G2 p1 p2⟩⟩
noncomputable def dOp(g:D->D->Option D)(fa fb:DE):DE:=λU=>(fa U).bind λra=>(fb U).bind λrb=>(g ra.d rb.d).map λd=>⟨d,true,[]⟩
def QkW(e:dOp g fa fb U=some r):∃ra rb d,fa U=some ra/\fb U=some rb/\g ra.d rb.d=some d/\r=⟨d,true,[]⟩:=by
 unfold dOp at e;cases h1:fa U with
 | none=>rw[h1]at e;cases e
 | some ra=>
  cases h2:fb U with
  | none=>rw[h1,h2]at e;cases e
  | some rb=>
   rw[h1,h2]at e;cases h3:g ra.d rb.d with
   | none=>simp[h3]at e
   | some d=>simp[h3]at e;exact⟨ra,rb,d,rfl,rfl,h3,e.symm⟩
def QbB(K:Fgg)(g:D->D->Option D)(r:R2):Prop:=∀a b d,g a b=some d->d.flat=true/\∀H x y F G (Q:VK),Rp K H a x F->Rp K H b y G->(∀v,(∀H',Rp K H' d v [])->Q v H)->r x y H Q
def QmG(ho:OpR X (binaryOp op) r)(hg:QbB X.K g r)(ha:SE X a fa)(hb:SE X b fb):SE X (.BinOp a op b pos) (dOp g fa fb):=λH0 A0=>
 (Qq1 ho (ha H0 A0) (hb H0 A0)).mono λσ H Q=>exK λU hs F r' rel e q=>by
  obtain⟨ra,rb,d,ea,eb,eg,rfl⟩:=QkW e;refine two rel ea eb λx y H1 H2 G1 G2 p1 p2=>(hg _ _ _ eg).2 H2 x y G1 G2 Q (p1.rp.same p2.same) p2.rp λv hv=>?_;exact q v H2 [] (.flat (p1.same.trans p2.same) (hv H2) (hg _ _ _ eg).1)
def QyS(ho:OpR X (compareOp op) r)(hg:QbB X.K g r)(ha:SE X a fa)(hb:SE X b fb)(hm:behindInMarks op b=false):SE X (.Compare a [op] [b] pos) (dOp g fa fb):=λH0 A0=>
 (Qxu ho (ha H0 A0) (hb H0 A0) hm).mono λσ H Q=>exK λU hs F r' rel e q=>by
  obtain⟨ra,rb,d,ea,eb,eg,rfl⟩:=QkW e;refine two rel ea eb λx y H1 H2 G1 G2 p1 p2=>(hg _ _ _ eg).2 H2 x y G1 G2 Q (p1.rp.same p2.same) p2.rp λv hv=>?_;exact q v H2 [] (.flat (p1.same.trans p2.same) (hv H2) (hg _ _ _ eg).1)
end
noncomputable def Qdb(i j:Int):Int:=if 0<=j then i / j else i.fdiv j
noncomputable def QcZ(i j:Int):Int:=if 0<=j then i % j else i.fmod j
def Qk1(i j:Int):Qdb i j=i.fdiv j:=by
 unfold Qdb;split
 .rw[ZbZ _ (by assumption)]
 .rfl
def Qlx(i j:Int):QcZ i j=i.fmod j:=by
 unfold QcZ;split
 .rw[Int.fmod_eq_emod_of_nonneg _ (by assumption)]
 .rfl
noncomputable def Qc8(i j:Int):Bool:=decide (i.natAbs<2^64) || decide (j.natAbs<2^64) || (decide (Builtin.Int.intBits i<=2^20) && decide (Builtin.Int.intBits j<=2^20))
noncomputable def QbE(j:Int):Bool:=decide (j≠0) && decide (j.natAbs<2^8000)
noncomputable def gI(f:Int->Int->Option D)(a b:D):Option D:=match a,b with
 | .int i,.int j=>f i j
 | _,_=>none
noncomputable def QaS:=gI λi j=>some (.int (i-j))
noncomputable def Qbc:=gI λi j=>if QbE j then some (.int (Qdb i j))else none
noncomputable def Qad:=gI λi j=>if j≠0 then some (.int (QcZ i j))else none
noncomputable def QoA:=gI λi j=>if 0<=j then some (.int (i / 2^j.toNat))else none
noncomputable def D.Qv4:D->Option Int
 | .int i=>some i
 | _=>none
noncomputable def Qb5:List D->Option (List Int)
 | []=>some []
 | d::ds=>(d.Qv4).bind λi=>(Qb5 ds).map λr=>i::r
noncomputable def Qz4(a b:D):Option D:=match a,b with
 | .lst xs,.lst ys=>(Qb5 xs).bind λns=>(Qb5 ys).bind λms=>some (.bl (HT.lexLt ns ms))
 | _,_=>none
noncomputable def gLt(a b:D):Option D:=match a with
 | .lst _=>Qz4 a b
 | _=>gI (λi j=>some (.bl (decide (i<j)))) a b
noncomputable def gLe:=gI λi j=>some (.bl (decide (i<=j)))
noncomputable def gGt:=gI λi j=>some (.bl (decide (j<i)))
noncomputable def gGe:=gI λi j=>some (.bl (decide (j<=i)))
def Qoc(h:gI f a b=some d):∃i j,a= .int i/\b= .int j/\f i j=some d:=by
 unfold gI at h;split at h
 .exact⟨_,_,rfl,rfl,h⟩
 .cases h
section
def QgP(hf:∀i j d,f i j=some d->d.flat=true)(h:∀i j d,f i j=some d->∀H (Q:VK),(∀v,(∀H',Rp K H' d v [])->Q v H)->r (.int i) (.int j) H Q):QbB K (gI f) r:=λa b d e=>by
 obtain⟨i,j,rfl,rfl,ef⟩:=Qoc e;refine⟨hf i j d ef,λH x y F G Q ha hb q=>?_⟩;rw[ha.int_inv,hb.int_inv];exact h i j d ef H Q q
def QrE:QbB K QaS (rI0 λi j=> .int (i-j)):=QgP (λi j d e=>by cases e;rfl) λi j d e H Q q=>by cases e;exact⟨i,j,rfl,rfl,q _ λ_=> .int_mk⟩
def QuY(h:Qc8 i j=true):IntMulOk i j:=by
 have small:∀k:Int,k.natAbs<2^64->Builtin.Int.intBits k<=64:=λk hk=>by
  unfold Builtin.Int.intBits;split
  .lia
  .rename_i h0;have h0':k.natAbs≠0:=λz=>by simp_all
   have:=(Nat.log2_lt h0').mpr hk;lia
 unfold Qc8 at h;simp only[Zcx,Zk,decide_eq_true_eq]at h;rcases h with(h | h) | ⟨h1,h2⟩
 .exact .of_left (small i h)
 .exact .of_right (small j h)
 .exact .of_bits h1 h2
def Qxs:OpR X (binaryOp .Mult) (rI (λi j=>Qc8 i j=true) λi j=> .int (i*j)):=opI λ_ _ _ _ _ _ _ hc q=>PyProof.Rows.mul_int q (QuY hc)
def Qwq:OpR X (binaryOp .FloorDiv) (rI (λi j=>QbE j=true) λi j=> .int (Qdb i j)):=opI λi j _ _ _ _ _ hc q=>by
 unfold QbE at hc;simp only[Zk,decide_eq_true_eq]at hc;rw[Qk1]at q;refine PyProof.Rows.floordiv_int hc.1 q (.inl (Zcf ?_));have h0:j.natAbs≠0:= ⋯
 exact Zcq ((Nat.log2_lt h0).mpr hc.2) ∅
def Qwd:OpR X (binaryOp .Mod) (rI (λi j=>j≠0) λi j=> .int (QcZ i j)):=opI λi j _ _ _ _ _ hc q=>by
 rw[Qlx]at q;exact PyProof.Rows.mod_int' hc q
def QzA:QbB K Qbc (rI (λi j=>QbE j=true) λi j=> .int (Qdb i j)):=QgP (λi j d e=>by split at e<;>cases e;rfl) λi j d e H Q q=>by
 split at e
 .cases e;exact⟨i,j,rfl,rfl,by assumption,q _ λ_=> .int_mk⟩
 .cases e
def Qyx:QbB K Qad (rI (λi j=>j≠0) λi j=> .int (QcZ i j)):=QgP (λi j d e=>by split at e<;>cases e;rfl) λi j d e H Q q=>by
 split at e
 .cases e;exact⟨i,j,rfl,rfl,by assumption,q _ λ_=> .int_mk⟩
 .cases e
def Qyv:QbB K QoA (rI (λ_ j=>0<=j) λi j=> .int (i / 2^j.toNat)):=QgP (λi j d e=>by split at e<;>cases e;rfl) λi j d e H Q q=>by
 split at e
 .cases e;exact⟨i,j,rfl,rfl,by assumption,q _ λ_=> .int_mk⟩
 .cases e
def Qy4:QbB K (gI λi j=>some (.bl (decide (i<j)))) (rI0 λi j=> .bl (decide (i<j))):=QgP (λi j d e=>by cases e;rfl) λi j d e H Q q=>by cases e;exact⟨i,j,rfl,rfl,q _ λ_=> .Qbs⟩
def QAT:QbB K gLe (rI0 λi j=> .bl (decide (i<=j))):=QgP (λi j d e=>by cases e;rfl) λi j d e H Q q=>by cases e;exact⟨i,j,rfl,rfl,q _ λ_=> .Qbs⟩
def QAi:QbB K gGt (rI0 λi j=> .bl (decide (j<i))):=QgP (λi j d e=>by cases e;rfl) λi j d e H Q q=>by cases e;exact⟨i,j,rfl,rfl,q _ λ_=> .Qbs⟩
def QBo:QbB K gGe (rI0 λi j=> .bl (decide (j<=i))):=QgP (λi j d e=>by cases e;rfl) λi j d e H Q q=>by cases e;exact⟨i,j,rfl,rfl,q _ λ_=> .Qbs⟩
end
def Qci:∀(xs ys:List D),Q7 (xs++ys)=(Q7 xs && Q7 ys)
 | [],ys=>by simp[Q7]
 | x::xs,ys=>by simp[Q7,Qci xs ys,Bool.and_assoc]
noncomputable def QaA(ds:List D)(M:List Nat):R:=if Q7 ds then⟨.lst ds,true,[]⟩else⟨.lst ds,false,M⟩
section
variable {K:Fgg}{H0 H H':Hp}{A0:LAd}{hs:List (V×D×List Addr)}{U:En}{F:Nat->List Addr}{σ:L2.St}
def Qaa.QaA(s:QN H H1)(hp:H1 p=none)(r:Rps K H1 ds vs G)(hz:ds.length<=sizeLine)(src:Src U F H M G)(ow:Qbe U M):
  Qaa K U F H (upd H1 p (.lst vs)) (QaA ds M) (.ref p) (p::G):=by
 have s2:QN H1 (upd H1 p (.lst vs)):=Qap hp;have rp:Rp K (upd H1 p (.lst vs)) (.lst ds) (.ref p) (p::G):=Rp.QdX Q4 (r.same s2) hz;have hH:H p=none:=s.free hp;unfold HS.QaA;split
 .rename_i hf;have:=r.QbW hf;subst this;refine⟨s.trans s2,rp,λa ha=>?_,λ_=>⟨λa=>?_,by simp only[D.nl,QjE ds hf];rfl⟩,Qbe.nil⟩
  .have:a=p:=by simpa using ha
   subst this;exact .inl hH
  .rw[ZbO];split
   .rename_i e;have e':p=a:=by simpa using e
    subst e';rw[QaK hH];lia
   .lia
 .refine⟨s.trans s2,rp,λa ha=>?_,λz=>(by cases z),ow⟩;rcases Zm.mp ha with rfl | h
  .exact .inl hH
  .exact src a h
end
noncomputable def QC(fa fb:DE):DE:=λU=>(fa U).bind λra=>(fb U).bind λrb=>match ra.d,rb.d with
 | .int i,.int j=>some ⟨.int (i+j),true,[]⟩
 | .lst xs,.lst ys=>if xs.length+ys.length<=sizeLine then some (QaA (xs++ys) (ra.M++rb.M))else none
 | _,_=>none
noncomputable def Q3(fa fb:DE):DE:=λU=>(fa U).bind λra=>(fb U).bind λrb=>match ra.d,rb.d with
 | .int i,.int j=>if Qc8 i j then some ⟨.int (i*j),true,[]⟩else none
 | .lst xs,.int j=>if xs.length*j.toNat<=sizeLine/\ -(2^63)<=j/\j<2^63/\Q7 xs=true then some ⟨.lst (List.replicate j.toNat xs).flatten,true,[]⟩else none
 | _,_=>none
def Qra{fa fb:DE}{U:En}{k:R->R->Option R}{r:R}(e:((fa U).bind λra=>(fb U).bind λrb=>k ra rb)=some r):∃ra rb,fa U=some ra/\fb U=some rb/\k ra rb=some r:=by
 cases h1:fa U with
 | none=>rw[h1]at e;cases e
 | some ra=>
  cases h2:fb U with
  | none=>rw[h1,h2]at e;cases e
  | some rb=>rw[h1,h2]at e;exact⟨ra,rb,rfl,rfl,e⟩
def bind1{α β:Type}{x:Option α}{k:α->Option β}{r:β}(e:x.bind k=some r):∃a,x=some a/\k a=some r:=by
 cases x with
 | none=>cases e
 | some a=>exact⟨a,rfl,e⟩
section
noncomputable def QAL(K:Fgg):R2:=λx y H Q=>∃l c xs zs,x= .ref l/\y= .ref c/\(H l=some (.lst xs)∨Fix K H l xs)/\(H c=some (.lst zs)∨Fix K H c zs)/\xs.length+zs.length<=sizeLine/\∀p,H p=none->Q (.ref p) (upd H p (.lst (xs++zs)))
def mapR{α γ:Type}{x:Option α}{f:α->γ}{r:γ}{M:γ->Prop}(e:x.map f=some r)(g:∀a,x=some a->M (f a)):M r:=by
 obtain⟨a,h,rfl⟩:=Zh.mp e;exact g a h
def Qg{α β:Type}{x:Option α}{k:α->Option β}{r:β}{G:Prop}(e:x.bind k=some r)(g:∀a,x=some a->k a=some r->G):G:=let ⟨a,h1,h2⟩:=bind1 e;g a h1 h2
def Qwi:OpR X (binaryOp .Add) (QAL X.K):=by
 intro pins s σ H x y v u Q I rx ry h;obtain⟨l,c,xs,zs,rfl,rfl,hH,hB,hz,q⟩:=h;cases rx;cases ry;obtain⟨z,its,n,r,hl,e⟩:=I.Qob hH;obtain⟨z2,its2,n2,r2,hl2,e2⟩:=I.Qob hB;refine PySem.P.add_list e e2 ?_ (by rw[Zy,Zy];lia);have ea:its.toArray++its2.toArray=(its++its2).toArray:= ⋯
 rw[ea];exact⟨.ref _,_,I.QyJ (t':=s.toks) (r.append r2) (by rw[Zn];lia),rfl,q _ I.fresh⟩
def QzP(ha:SE X a fa)(hb:SE X b fb):SE X (.BinOp a .Add b pos) (QC fa fb):=λH0 A0=>
 (Qq1 (Qzd.or Qwi) (ha H0 A0) (hb H0 A0)).mono λσ H Q=>exK λU hs F r' rel e q=>by
  obtain⟨ra,rb,ea,eb,ek⟩:=Qra e;refine two rel ea eb λx y H1 H2 G1 G2 p1 p2=>?_;have p1':=p1.rp.same p2.same;have p2':=p2.rp;have c1:=p1.src.append p2.src p1.same;have o1:=p1.own.append p2.own;revert ek;revert p1' p2';cases ra.d<;>cases rb.d<;>intro p1' p2' ek<;>first | (cases ek;done) | skip
  .cases ek;rw[p1'.int_inv,p2'.int_inv];exact .inl ⟨_,_,rfl,rfl,q _ H2 [] (.flat (p1.same.trans p2.same) .int_mk)⟩
  .rename_i xs ys;dsimp only at ek;split at ek
   .rename_i hz;cases ek;obtain⟨l,vs,L1,rfl,hl,rl,zl,el⟩:=p1'.lst_inv;obtain⟨c,ws,L2',rfl,hc,rc,zc,ec⟩:=p2'.lst_inv;have n1:=rl.length;have n2:=rc.length;refine .inr ⟨l,c,vs,ws,rfl,rfl,hl,hc,⋯,λp hp=>?_⟩;refine q _ _ (p::(L1++L2')) (Qaa.QaA (p1.same.trans p2.same) hp (rl.append rc) (by rw[Zn];exact hz) (λa ha=>c1 a ?_) o1);rcases Zr.mp ha with h | h
    .refine Zg _ ?_;rcases el with rfl | rfl
     .exact Zb _ h
     .exact h
    .refine Zf _ ?_;rcases ec with rfl | rfl
     .exact Zb _ h
     .exact h
   .cases ek
noncomputable def QBg(K:Fgg):R2:=λx y H Q=>∃l k xs,x= .ref l/\y= .int k/\(H l=some (.lst xs)∨Fix K H l xs)/\ -(2^63)<=k/\k<2^63/\xs.length*k.toNat<=sizeLine∧
 ∀p,H p=none->Q (.ref p) (upd H p (.lst (List.replicate k.toNat xs).flatten))
def QxN:OpR X (binaryOp .Mult) (QBg X.K):=by
 intro pins s σ H x y v u Q I rx ry h;obtain⟨l,k,xs,rfl,rfl,hH,h1,h2,hz,q⟩:=h;cases rx;obtain⟨t,rfl⟩:=ry;obtain⟨z,its,n,r,hl,e⟩:=I.Qob hH;have hlen:its.toArray.size*k.toNat<=sizeLine:=by rw[Zy,← hl];exact hz
 have hcap:¬its.toArray.size*k.toNat>(2^63-1) / 8:=by
  have:(sizeLine:Nat)<=(2^63-1) / 8:= ∅
  lia
 have hfit:¬(!Builtin.List.listFitsIndex k)=true:=by
  rw[fitsIndex_both h1 h2];exact Zac
 have hlong:¬Builtin.List.listTooLong (its.toArray.size*k.toNat)=true:=by
  rw[QuF hlen];exact Zac
 have hnew:List.foldl (λx1 x2=>x1++x2) #[] (List.replicate (if its.toArray.isEmpty=true then 0 else k.toNat) its.toArray)=(List.replicate k.toNat its).flatten.toArray:=by
  have f0:∀m:Nat,List.foldl (λx1 x2=>x1++x2) #[] (List.replicate m its.toArray)=(List.replicate m its).flatten.toArray:=λm=>by
   have:=foldl_rep its m [];rw[ZbR]at this;exact this
  rw[f0];cases its with
  | nil=>simp
  | cons a r'=>rw[if_neg ⋯]
 open PyProof.Rows in
 refine wpAny_binaryOp_repeat_ref ∅ ⟨_,e,rfl⟩ (λs'=>typeIs_int s' k t) noFill_list_mul F.fills_int_mul F.slot_int_rmul repeat_list F.slot_int_index.lookup
  (call_meets F.slot_int_rmul (typeIs_int s k t) F.entry_int_rmul (F.args_int_rmul_2 _ _) (int___rmul___int_list k t l its.toArray n)
   ⟨e,rfl,⟨_,e,rfl⟩,call_meets F.slot_list_mul ⟨_,e,rfl⟩ F.entry_list_mul (F.args_list_mul_2 _ _) (AutoListH.list___mul___list_int_3 l its.toArray n k t hfit hcap hlong) ⟨e,?_⟩⟩)
 rw[hnew];exact⟨.ref _,_,I.QyJ (t':=s.toks) (r.rep k.toNat) (by rw[len_rep,Nat.mul_comm];exact hz),rfl,q _ I.fresh⟩
def QlY(h:Q7 xs=true):∀n:Nat,Q7 (List.replicate n xs).flatten=true
 | 0=>by simp[Q7]
 | n+1=>by rw[Zae,Zam,Qci,h,QlY h n];rfl
def Rps.rep(h:Rps K H ds vs []):∀n:Nat,Rps K H (List.replicate n ds).flatten (List.replicate n vs).flatten []
 | 0=>by simp[Rps]
 | n+1=>by rw[Zae,Zam,Zae,Zam];exact h.append (Rps.rep h n)
def Qzy(ha:SE X a fa)(hb:SE X b fb):SE X (.BinOp a .Mult b pos) (Q3 fa fb):=λH0 A0=>
 (Qq1 (Qxs.or QxN) (ha H0 A0) (hb H0 A0)).mono λσ H Q=>exK λU hs F r' rel e q=>by
  obtain⟨ra,rb,ea,eb,ek⟩:=Qra e;refine two rel ea eb λx y H1 H2 G1 G2 p1 p2=>?_;have p1':=p1.rp.same p2.same;have p2':=p2.rp;revert ek;revert p1' p2';cases ra.d<;>cases rb.d<;>intro p1' p2' ek<;>first | (cases ek;done) | skip
  .dsimp only at ek;split at ek
   .rename_i hm;cases ek;rw[p1'.int_inv,p2'.int_inv];exact .inl ⟨_,_,rfl,rfl,hm,q _ H2 [] (.flat (p1.same.trans p2.same) .int_mk)⟩
   .cases ek
  .rename_i xs j;dsimp only at ek;split at ek
   .rename_i hz;cases ek;obtain⟨hz1,hz2,hz3,hf⟩:=hz;obtain⟨l,vs,L1,rfl,hl,rl,zl,el⟩:=p1'.lst_inv;have n1:=rl.length;have e0:=rl.QbW hf;subst e0;rw[p2'.int_inv];refine .inr ⟨l,j,vs,rfl,rfl,hl,hz2,hz3,by rw[← n1];exact hz1,λp hp=>?_⟩;have w:HS.QaA (List.replicate j.toNat xs).flatten []=⟨.lst (List.replicate j.toNat xs).flatten,true,[]⟩:=by
     unfold HS.QaA;rw[if_pos (QlY hf _)]
    rw[← w]at q;exact q _ _ (p::[]) (Qaa.QaA (p1.same.trans p2.same) hp (rl.rep _) (by rw[len_rep,Nat.mul_comm];exact hz1) Src.nil Qbe.nil)
   .cases ek
end
noncomputable def Qd:DA:=λ_=>some ⟨[],true,[]⟩
noncomputable def Qa(fa:DE)(fr:DA):DA:=λU=>(fa U).bind λr=>(fr U).bind λrs=>some ⟨r.d::rs.ds,r.fr && rs.fr,r.M++rs.M⟩
noncomputable def Qav(fa:DA):DE:=λU=>(fa U).bind λr=>if r.ds.length<=64 then some ⟨.tup r.ds,r.fr,r.M⟩else none
noncomputable def Qah(fa:DA):DE:=λU=>(fa U).bind λr=>if r.ds.length<=64 then some ⟨.lst r.ds,r.fr,r.M⟩else none
section
variable {X:Cx}{a b e:Expr}{es:List Expr}{fa fb:DE}{fs:DA}{pos:Pos}
def Qhm:SA X [] Qd:=λH0 A0=>QcM.mono λσ H Q=>exK λU hs F r' rel e q=>by
 cases e;exact q [] H [] ⟨QN.refl _,by simp[Rps],Src.nil,λ_=>⟨Cnt.nil,rfl⟩,Qbe.nil⟩
def Qex(ha:SE X e fa)(hr:SA X es fs)(hs:starEach (e::es) X.env=(false,eval e X.env)::starEach es X.env):SA X (e::es) (Qa fa fs):=λH0 A0=>
 (Qax (ha H0 A0) (hr H0 A0) hs).mono λσ H Q=>exK λU hs F r' rel e q=>by
  refine Qg e λr e1 e=>?_;refine Qg e λrs e2 e=>?_;cases e;refine⟨U,hs,F,r,rel,e1,λx H1 G1 p1=>⟨U,hs,F,rs,rel.ext p1.same,e2,λxs H2 G2 p2=>?_⟩⟩;refine q _ H2 (G1++G2) ⟨p1.same.trans p2.same,?_,p1.src.append p2.src p1.same,λh=>?_,p1.own.append p2.own⟩
  .simp only[Rps];exact⟨x,xs,G1,G2,rfl,rfl,p1.rp.same p2.same,p2.rp⟩
  .simp only[Zk]at h;exact⟨(p1.cnt h.1).1.append rel (p2.cnt h.2).1 p1.same p1.rp.mem,by simp only[nls,Zn,(p1.cnt h.1).2,(p2.cnt h.2).2]⟩
def QgS{n:Nat}(h:n<=64):n<=sizeLine:=Zw h ∅
def Qz1{k:Nat}(ha:SA X es fs):SE X (.Tuple es k pos) (Qav fs):=λH0 A0=>
 (QzC (ha H0 A0)).mono λσ H Q=>exK λU hs F r' rel e q=>by
  refine Qg e λr e1 e=>?_;split at e
  .rename_i hz;cases e;refine⟨U,hs,F,r,rel,e1,λxs H1 G p=>⟨by rw[← p.rp.length];exact QgS hz,λc hc=>q _ _ G ⟨p.same.trans (Qap hc),Rp.Qhs Q4 (p.rp.same (Qap hc)),p.src,λh=>⟨(p.cnt h).1,by simp only[D.nl];exact(p.cnt h).2⟩,p.own⟩⟩⟩
  .cases e
def QAb(ha:SA X es fs):SE X (.List es pos) (Qah fs):=λH0 A0=>
 (QzV (ha H0 A0)).mono λσ H Q=>exK λU hs F r' rel e q=>by
  refine Qg e λr e1 e=>?_;split at e
  .rename_i hz;cases e;refine⟨U,hs,F,r,rel,e1,λxs H1 G p=>⟨by rw[← p.rp.length];exact QgS hz,λc hc=>?_⟩⟩;have hH:H c=none:=p.same.free hc;refine q _ _ (c::G) ⟨p.same.trans (Qap hc),Rp.QdX Q4 (p.rp.same (Qap hc)) (QgS hz),λz hz'=>?_,λh=>⟨λz=>?_,by simp only[D.nl,ZI,(p.cnt h).2]⟩,p.own⟩
   .rcases Zm.mp hz' with rfl | h
    .exact .inl hH
    .exact p.src z h
   .rw[ZaN];have:=(p.cnt h).1 z;split
    .rename_i e';have e':c=z:=by simpa using e'
     subst e';have h0:G.count c=0:=ZX.mpr λhm=>by obtain⟨vs,w⟩:=p.rp.mem c hm;rw[hc]at w;cases w
     rw[QaK hH];lia
    .exact this
  .cases e
noncomputable def D.items:D->Option (List D)
 | .lst xs=>some xs
 | .tup xs=>some xs
 | _=>none
noncomputable def Qm(fa fb:DE):DE:=λU=>(fa U).bind λra=>(fb U).bind λrb=>match rb.d with
 | .int i=>(ra.d.items).bind λxs=>(atI xs i).map λd=>(R.norm ⟨d,ra.fr,ra.M⟩)
 | _=>none
def QxJ{α β:Type}{xs:List α}{i:Int}{d:α}(h:atI xs i=some d):∃j:Nat,xs[j]? =some d/\∀(ys:List β),ys.length=xs.length->∀y,ys[j]? =some y->atI ys i=some y:=by
 unfold atI at h;cases e:ixN xs.length i with
 | none=>rw[e]at h;cases h
 | some j=>
  rw[e]at h;refine⟨j,h,λys hl y hy=>?_⟩;unfold atI;rw[hl,e];exact hy
def Qy9(ha:SE X a fa)(hb:SE X b fb)(hs:Qia b):SE X (.Subscript a b pos) (Qm fa fb):=λH0 A0=>
 (QvV (QpL.or QsF) (ha H0 A0) (hb H0 A0) hs).mono λσ H Q=>exK λU hs F r' rel e q=>by
  obtain⟨ra,rb,ea,eb,ek⟩:=Qra e;refine two rel ea eb λx y H1 H2 G1 G2 p1 p2=>?_;have p1':=p1.rp.same p2.same;have p2':=p2.rp;have pp:Qaa X.K U F H H2 ra x G1:=⟨p1.same.trans p2.same,p1',p1.src,p1.cnt,p1.own⟩;cases hb':rb.d with
  | int i=>
   rw[hb']at ek p2';rw[p2'.int_inv];refine Qg ek λxs ex ek=>?_;obtain⟨d,ed,ek⟩:=Zh.mp ek;subst ek;obtain⟨j,hj,hm⟩:=QxJ ed;have fin:∀(L:LAd) (vs:List V),Rps X.K H2 xs vs L->(∀z,L.count z<=G1.count z)->(G1.length=ra.d.nl->L.length=nls xs)->∃v,atI vs i=some v/\Q v H2:=λL vs rl hc hn=>by
    obtain⟨v,F1,G,F2,hv,eF,rv,hx⟩:=rl.get hj;refine⟨v,hm vs rl.length.symm v hv,q v H2 G (Qaa.norm (Qaa.sub pp rv (λz=>Zw ?_ (hc z)) λz=>hx (hn z)))⟩;rw[eF,Zaz,Zaz];lia
   cases hra:ra.d with
   | lst ys=>
    rw[hra]at ex p1';cases ex;obtain⟨l,vs,L,rfl,hl,rl,zl,el⟩:=p1'.lst_inv;have hn:G1.length=ra.d.nl->L.length=nls xs:=λhz=>by
     have:=rl.QaI;simp only[hra,D.nl]at hz;rcases el with rfl | rfl
     .rw[ZI]at hz;lia
     .lia
    have hc:∀z,L.count z<=G1.count z:=λz=>by
     rcases el with rfl | rfl
     .rw[ZaN];lia
     .exact Zd _
    obtain⟨v,h1,h2⟩:=fin L vs rl hc hn;exact .inl ⟨l,vs,i,v,rfl,rfl,QT hl,h1,h2⟩
   | tup ys=>
    rw[hra]at ex p1';cases ex;obtain⟨l,vs,rfl,hl,rl⟩:=p1'.QaP;obtain⟨v,h1,h2⟩:=fin G1 vs rl (λz=>Zd _) λz=>(by simpa only[hra,D.nl]using z);exact .inr ⟨l,vs,i,v,rfl,rfl,hl,h1,h2⟩
   | _=>rw[hra]at ex;cases ex
  | _=>rw[hb']at ek;cases ek
noncomputable abbrev DO:=En->Option (Option Int)
noncomputable def Qbx:DO:=λ_=>some none
noncomputable def Qbw(f:DE):DO:=λU=>(f U).bind λr=>match r.d with
 | .int i=>some (some i)
 | _=>none
noncomputable def tVO(K:Fgg)(H0:Hp)(A0:LAd)(f:DO):TO:=λσ H Q=>∃U hs F o,Rel K H0 A0 hs U F σ H/\f U=some o/\∀H',QN H H'->Q o H'
def SO(X:Cx)(e:Option Expr)(f:DO):Prop:=∀H0 A0,PO X e (tVO X.K H0 A0 f)
def _root_.L2.PO.mono{X:Cx}{e:Option Expr}{t t':TO}(h:PO X e t)(m:∀σ H Q,t' σ H Q->t σ H Q):PO X e t':=by
 intro pins s σ H Q I q;exact h pins s σ H Q I (m σ H Q q)
def Qxm:SO X none Qbx:=λH0 A0=>QxC.mono λσ H Q=>exK λU hs F o rel e q=>by
 cases e;exact q H (QN.refl _)
def QwV(h:SE X a fa):SO X (some a) (Qbw fa):=λH0 A0=>(Qx4 (h H0 A0)).mono λσ H Q=>exK λU hs F o rel e q=>by
 refine Qg e λr e1 e=>?_;refine⟨U,hs,F,r,rel,e1,λv H1 G p=>?_⟩;have rp:=p.rp;cases hr:r.d with
 | int i=>
  rw[hr]at e rp;cases e;exact⟨i,rp.int_inv,q H1 p.same⟩
 | _=>rw[hr]at e;cases e
noncomputable def cutD(xs:List D)(lo hi:Option Int):List D:=(xs.drop (HT.sIx xs.length 0 lo)).take (HT.sIx xs.length xs.length hi-HT.sIx xs.length 0 lo)
noncomputable def Qch(fa:DE)(lo hi:DO):DE:=λU=>(fa U).bind λra=>(lo U).bind λl=>(hi U).bind λh=>match ra.d with
 | .lst xs=>some (QaA (cutD xs l h) ra.M)
 | _=>none
def Rps.drop:∀{ds:List D}{vs:List V}{F:LAd}{K:Fgg}{H:Hp}(n:Nat),Rps K H ds vs F->∃G,Rps K H (ds.drop n) (vs.drop n) G/\∀a∈G,a∈F
 | [],vs,F,K,H,n,h=>by simp only[Rps]at h;rw[h.1,h.2];exact⟨[],by simp[Rps],λ_ h=>h⟩
 | d::ds,vs,F,K,H,0,h=>⟨F,by simpa using h,λ_ h=>h⟩
 | d::ds,vs,F,K,H,n+1,h=>by
  simp only[Rps]at h;obtain⟨v,ws,F1,F2,e,eF,r,q⟩:=h;subst e eF;obtain⟨G,h1,h2⟩:=Rps.drop n q;exact⟨G,by simpa using h1,λa ha=>Zf _ (h2 a ha)⟩
def Rps.take:∀{ds:List D}{vs:List V}{F:LAd}{K:Fgg}{H:Hp}(n:Nat),Rps K H ds vs F->∃G,Rps K H (ds.take n) (vs.take n) G/\∀a∈G,a∈F
 | [],vs,F,K,H,n,h=>by simp only[Rps]at h;rw[h.1,h.2];exact⟨[],by simp[Rps],λ_ h=>h⟩
 | d::ds,vs,F,K,H,0,h=>⟨[],by simp[Rps],λ_ h=>by simp at h⟩
 | d::ds,vs,F,K,H,n+1,h=>by
  simp only[Rps]at h;obtain⟨v,ws,F1,F2,e,eF,r,q⟩:=h;subst e eF;obtain⟨G,h1,h2⟩:=Rps.take n q;refine⟨F1++G,?_,λa ha=>?_⟩
  .simp only[List.take_succ_cons,Rps];exact⟨v,_,F1,G,rfl,rfl,r,h1⟩
  .rcases Zr.mp ha with h | h
   .exact Zg _ h
   .exact Zf _ (h2 a h)
def Qz7{lo hi:Option Expr}{fl fh:DO}{p2:Pos}(ha:SE X a fa)(hl:SO X lo fl)(hh:SO X hi fh):SE X (.Subscript a (.Slice lo hi none p2) pos) (Qch fa fl fh):=λH0 A0=>
 (Quf Qwv (ha H0 A0) (hl H0 A0) (hh H0 A0)).mono λσ H Q=>exK λU hs F r' rel e q=>by
  refine Qg e λra e1 e=>?_;refine Qg e λl e2 e=>?_;refine Qg e λh e3 e=>?_;refine⟨U,hs,F,ra,rel,e1,λx H1 G1 p1=>⟨U,hs,F,l,rel.ext p1.same,e2,λH2 s2=>⟨U,hs,F,h,(rel.ext p1.same).ext s2,e3,λH3 s3=>?_⟩⟩⟩;have rp:=p1.rp.same (s2.trans s3);cases hra:ra.d with
  | lst xs=>
   rw[hra]at e rp;cases e;obtain⟨c,vs,L,rfl,hc,rl,zl,el⟩:=rp.lst_inv;refine⟨c,vs,rfl,QT hc,λp hp=>?_⟩;obtain⟨G2,h2,m2⟩:=rl.drop (HT.sIx xs.length 0 l);obtain⟨G3,h3,m3⟩:=h2.take (HT.sIx xs.length xs.length h-HT.sIx xs.length 0 l);have n1:=rl.length;rw[show Qk5 vs l h=(vs.drop (HT.sIx xs.length 0 l)).take (HT.sIx xs.length xs.length h-HT.sIx xs.length 0 l) by unfold Qk5;rw[n1]];refine q _ _ (p::G3) (Qaa.QaA (p1.same.trans (s2.trans s3)) hp h3 ?_ (λz hz=>p1.src z ?_) p1.own)
   .unfold cutD;rw[ZS,Zab];lia
   .have:=m2 z (m3 z hz);rcases el with rfl | rfl
    .exact Zb _ this
    .exact this
  | _=>rw[hra]at e;cases e
noncomputable def dBf(g:List D->Option D)(fs:DA):DE:=λU=>(fs U).bind λr=>(g r.ds).map λd=>⟨d,true,[]⟩
def QeL(K:Fgg)(g:List D->Option D)(r:List V->Hp->VK->Prop):Prop:=∀ds d,g ds=some d->d.flat=true/\∀H vs F (Q:VK),Rps K H ds vs F->(∀v,(∀H',Rp K H' d v [])->Q v H)->r vs H Q
def Qh9{x:Str}{id:String}{g:List D->Option D}{r:List V->Hp->VK->Prop}{p:Pos}(hc:Qb6 X (.builtin id) r)(hk:QeL X.K g r)(hg:Gl X x)(hm:X.mg x=none)(hv:bootBuiltins x=some (.builtin id))(ha:SA X (e::es) fs)(hn:x≠ "__name__")(hdb:(x == ("__debug__" :Str))=false)
  (he:starEach (e::es) X.env=(false,eval e X.env)::starEach es X.env) (hpl:(backTo pos (starEach es X.env)).any (·.1)=false):SE X (.Call (.Name x p) (e::es) [] pos) (dBf g fs):=λH0 A0=>
 (QgE hc hg hm hv (ha H0 A0) hn hdb he hpl).mono λσ H Q=>exK λU hs F r' rel e q=>by
  refine Qg e λra e1 e=>?_;obtain⟨d,ed,e⟩:=Zh.mp e;subst e;exact⟨U,hs,F,ra,rel,e1,λvs H1 G p1=>(hk _ _ ed).2 H1 vs G Q p1.rp λv hv=>q v H1 [] (.flat p1.same (hv _) (hk _ _ ed).1)⟩
def Rps.one{K:Fgg}{H:Hp}{d:D}{vs:List V}{F:LAd}(h:Rps K H [d] vs F):∃v,vs=[v]/\Rp K H d v F:=by
 simp only[Rps]at h;obtain⟨v,ws,F1,F2,rfl,rfl,r,rfl,rfl⟩:=h;exact⟨v,rfl,by simpa using r⟩
def Rps.two{K:Fgg}{H:Hp}{d e:D}{vs:List V}{F:LAd}(h:Rps K H [d,e] vs F):∃v w F1 F2,vs=[v,w]/\Rp K H d v F1/\Rp K H e w F2:=by
 simp only[Rps]at h;obtain⟨v,ws,F1,F2,rfl,rfl,r,w,ws',F3,F4,rfl,rfl,r2,rfl,rfl⟩:=h;exact⟨v,w,F1,F3,rfl,r,r2⟩
noncomputable def Qao:List D->Option D
 | [.lst xs]=>some (.int xs.length)
 | [.tup xs]=>some (.int xs.length)
 | _=>none
def Qv5(K:Fgg):List V->Hp->VK->Prop:=λxs H Q=>∃p ys,xs=[.ref p]/\(SqL K H p ys∨SqT K H p ys)/\Q (.int ys.length) H
def Qr4{X:Cx}:Qb6 X (.builtin "len") (Qv5 X.K):=QnR
def Qyz{K:Fgg}:QeL K Qao (Qv5 K):=λds d e=>by
 unfold Qao at e;split at e
 .cases e;refine⟨rfl,λH vs F Q r q=>?_⟩;obtain⟨v,rfl,rp⟩:=r.one;obtain⟨l,ws,L,rfl,hl,rl,zl,el⟩:=rp.lst_inv;exact⟨l,ws,rfl,.inl (QT hl),by rw[← rl.length];exact q _ λ_=> .int_mk⟩
 .cases e;refine⟨rfl,λH vs F Q r q=>?_⟩;obtain⟨v,rfl,rp⟩:=r.one;obtain⟨l,ws,rfl,hl,rl⟩:=rp.QaP;exact⟨l,ws,rfl,.inr hl,by rw[← rl.length];exact q _ λ_=> .int_mk⟩
 .cases e
noncomputable def Qkt:List D->Option D
 | [.int i,.int j]=>some (.int (if j<i then j else i))
 | _=>none
noncomputable def QjR:List D->Option D
 | [.int i,.int j]=>some (.int (if j>i then j else i))
 | _=>none
noncomputable def Qrj:List D->Option D
 | [.int i]=>some (.int (if i<0 then-i else i))
 | _=>none
def QwC{K:Fgg}:QeL K Qkt (λxs H Q=>∃i j,xs=[.int i,.int j]/\Q (.int (if j<i then j else i)) H):=λds d e=>by
 unfold Qkt at e;split at e
 .cases e;refine⟨rfl,λH vs F Q r q=>?_⟩;obtain⟨v,w,F1,F2,rfl,r1,r2⟩:=r.two;exact⟨_,_,by rw[r1.int_inv,r2.int_inv],q _ λ_=> .int_mk⟩
 .cases e
def Qxt{K:Fgg}:QeL K QjR (λxs H Q=>∃i j,xs=[.int i,.int j]/\Q (.int (if j>i then j else i)) H):=λds d e=>by
 unfold QjR at e;split at e
 .cases e;refine⟨rfl,λH vs F Q r q=>?_⟩;obtain⟨v,w,F1,F2,rfl,r1,r2⟩:=r.two;exact⟨_,_,by rw[r1.int_inv,r2.int_inv],q _ λ_=> .int_mk⟩
 .cases e
def Qzr{K:Fgg}:QeL K Qrj (λxs H Q=>∃i,xs=[.int i]/\Q (.int (if i<0 then-i else i)) H):=λds d e=>by
 unfold Qrj at e;split at e
 .cases e;refine⟨rfl,λH vs F Q r q=>?_⟩;obtain⟨v,rfl,r1⟩:=r.one;exact⟨_,by rw[r1.int_inv],q _ λ_=> .int_mk⟩
 .cases e
noncomputable def dList(fs:DA):DE:=λU=>(fs U).bind λr=>match r.ds with
 | [.lst xs]=>some (QaA xs r.M)
 | [.tup xs]=>if xs.length<=sizeLine then some (QaA xs r.M)else none
 | _=>none
end
end HS
namespace HS
open PySem PySem.Spec L2 PyProof.Rows
noncomputable def intsOf:List D->Option (List Int)
 | []=>some []
 | d::ds=>match d with
  | .int i=>(intsOf ds).map (i:: ·)
  | _=>none
def QgG{K:Fgg}{H:Hp}:∀{ds:List D}{vs:List V}{F:LAd}{k:List Int},Rps K H ds vs F->intsOf ds=some k->vs=k.map .int/\F=[]
 | [],vs,F,k,h,e=>by simp only[Rps]at h;cases e;exact h
 | d::ds,vs,F,k,h,e=>by
  simp only[Rps]at h;obtain⟨v,ws,F1,F2,rfl,rfl,r,q⟩:=h;unfold intsOf at e;split at e
  .obtain⟨k',e1,rfl⟩:=Zh.mp e;obtain⟨rfl,rfl⟩:=QgG q e1;simp only[Rp]at r;obtain⟨rfl,rfl⟩:=r;exact⟨rfl,rfl⟩
  .cases e
def QlN:∀{a b:List Int},a.map (Sum.inl:Int->Key)=b.map Sum.inl->a=b
 | [],[],_=>rfl
 | [],_::_,e=>by simp at e
 | _::_,[],e=>by simp at e
 | x::xs,y::ys,e=>by
  simp only[ZA,List.cons.injEq,Sum.inl.injEq]at e;rw[e.1,QlN e.2]
def QjF(k:List Int):∀ks:List (List Int),(Qg0 (dkC ks) (k.map Sum.inl)).isSome=ks.contains k
 | []=>rfl
 | x::ks=>by
  show(Qg0 ((x.map Sum.inl,V.bl true)::dkC ks) _).isSome=_;rw[List.contains_cons];by_cases h:x=k
  .subst h;rw[Qjf rfl];simp
  .rw[Qi2 (λe=>h (QlN e)),QjF k ks];have:(k == x)=false:=by simpa using λe=>h e.symm
   rw[this,Bool.false_or]
noncomputable def gDk(neg:Bool)(a b:D):Option D:=match a,b with
 | .tup ds,.dk ks=>(intsOf ds).map λk=> .bl (ks.contains k != neg)
 | _,_=>none
noncomputable def rDk(K:Fgg)(neg:Bool):R2:=λx y H Q=>∃(a b:Addr) (k:List Int) (ks:List (List Int)),x= .ref b/\y= .ref a/\SqT K H b (k.map .int)/\H a=some (.dT (dkC ks))/\Q (.bl (ks.contains k != neg)) H
def QAz{K:Fgg}{neg:Bool}:QbB K (gDk neg) (rDk K neg):=λa b d e=>by
 unfold gDk at e;split at e
 .rename_i ds ks;obtain⟨k,e1,rfl⟩:=Zh.mp e;refine⟨rfl,λH x y F G Q ha hb q=>?_⟩;obtain⟨c,vs,rfl,hq,r⟩:=ha.QaP;obtain⟨rfl,_⟩:=QgG r e1;simp only[Rp]at hb;obtain⟨a,rfl,_,hb⟩:=hb;exact⟨a,c,k,ks,rfl,rfl,hq,hb,q _ λ_=> .Qbs⟩
 .cases e
def Qry{X:Cx}{pins:List (Addr×Obj)}{σ:L2.St}{H:Hp}{s:Shared}{b:Addr}{k:List Int}(I:Inv X pins σ H s)(h:SqT X.K H b (k.map .int)):
  (tupleKind (QaE X.prog X.w)).is s.heap (k.map Sum.inl) b:=by
 obtain⟨its,r,⟨o,h1,h2,n,h3⟩,_⟩:=I.tuple h;refine⟨o,its.toArray,n,h1,h2,h3,?_⟩;have e:k.map V.int=(k.map Sum.inl).map kV:=by rw[ZZ];rfl
 rw[e]at r;simpa using Qha r
def Qw4{X:Cx}(hu:X.A.units+1<cLine):OpR X (compareOp .In) (rDk X.K false):=by
 intro pins s σ H x y v u Q I rx ry ⟨a,b,k,ks,ex,ey,hb,ha,q⟩;subst ex ey;cases(show v=Value.ref b from rx);cases(show u=Value.ref a from ry);obtain⟨z,hd,xs,rel,dd⟩:=Qrh I.hok (.inl ha);refine wpAny_in_heap (tupleKind_room_in1 hu) (Qry I hb) hd dd ?_;have w:=(rel.val (k.map Sum.inl)).Qhr;rw[Option.isSome_map,QjF]at w;rw[← w];exact⟨.bl (ks.contains k),H,I.tok _,rfl,by rw[Bool.bne_false]at q;exact q⟩
def QqH{X:Cx}(hu:X.A.units+1<cLine):OpR X (compareOp .NotIn) (rDk X.K true):=by
 intro pins s σ H x y v u Q I rx ry ⟨a,b,k,ks,ex,ey,hb,ha,q⟩;subst ex ey;cases(show v=Value.ref b from rx);cases(show u=Value.ref a from ry);obtain⟨z,hd,xs,rel,dd⟩:=Qrh I.hok (.inl ha);refine wpAny_notIn_heap (tupleKind_room_in1 hu) (Qry I hb) hd dd ?_;have w:=(rel.val (k.map Sum.inl)).Qhr;rw[Option.isSome_map,QjF]at w;rw[← w];exact⟨.bl (!ks.contains k),H,I.tok _,rfl,by rw[Bool.bne_true]at q;exact q⟩
noncomputable def Qqh:DE:=λ_=>some ⟨.dk [],true,[]⟩
def Qx3{X:Cx}{pos:Pos}:SE X (.Dict [] [] pos) Qqh:=λH0 A0=>Qvc.mono λσ H Q=>exK λU hs F r rel e q=>by
 cases e;intro p hp;refine q (.ref p) _ [p] ⟨Qap hp,by simp only[Rp];exact⟨p,rfl,rfl,Q4⟩,λa ha=> .inl (by rw[Zo.mp ha];exact hp),λ_=>⟨λa=>?_,rfl⟩,λi hi=>by cases hi⟩;rw[ZbO];split
 .rename_i h;have h:p=a:=by simpa using h
  subst h;rw[QaK hp];lia
 .exact ZF _
end HS
namespace HS
open PySem PySem.Spec L2
mutual
noncomputable def D.py:D->PyData
 | .non=> .none
 | .bl b=> .bool b
 | .int i=> .int i
 | .str x=> .str x
 | .tup xs=> .tuple (pys xs)
 | .lst xs=> .list (pys xs)
 | .exc _=> .none
 | .dk _=> .none
noncomputable def pys:List D->List PyData
 | []=>[]
 | d::ds=>d.py::pys ds
end
def QpI:∀ds:List D,pys ds=ds.map D.py
 | []=>rfl
 | d::ds=>by simp[pys,QpI ds]
noncomputable def D.sim:Nat->D->Bool
 | _,.non=>true
 | _,.bl _=>true
 | _,.int _=>true
 | _,.str x=>PyData.canLay0 (.str x)
 | 0,.tup xs=>xs.isEmpty
 | 0,.lst xs=>xs.isEmpty
 | n+1,.tup xs=>xs.all (D.sim n)
 | n+1,.lst xs=>xs.all (D.sim n)
 | _,.exc _=>false
 | _,.dk _=>false
def Qe2:∀{ds:List D},(∀d∈ds,d.py.canLay0=true)->PyData.canLayAll0 (pys ds)=true
 | [],_=>rfl
 | d::ds,h=>by
  simp only[pys,PyData.canLayAll0,Zk];exact⟨h d Ze,Qe2 λe he=>h e (Zb _ he)⟩
def QfA:∀{ds:List D},(∀d∈ds,d.py.depth<=n)->PyData.depthAll (pys ds)<=n
 | [],_=>ZF _
 | d::ds,h=>by
  simp only[pys,PyData.depthAll];exact Nat.max_le.mpr ⟨h d Ze,QfA λe he=>h e (Zb _ he)⟩
def QbJ:∀(n:Nat) (d:D),d.sim n=true->d.py.canLay0=true/\d.py.depth<=n+1
 | n,.exc _,h=>by cases n<;>cases h
 | n,.dk _,h=>by cases n<;>cases h
 | n,.non,_=>by simp[D.py,PyData.canLay0,PyData.depth]
 | n,.bl _,_=>by simp[D.py,PyData.canLay0,PyData.depth]
 | n,.int _,_=>by simp[D.py,PyData.canLay0,PyData.depth]
 | n,.str x,h=>by
  simp only[D.py,PyData.depth];refine⟨?_,ZF _⟩;cases n<;>exact h
 | 0,.tup xs,h=>by
  have:xs=[]:=by simpa[D.sim]using h
  subst this;simp[D.py,pys,PyData.canLay0,PyData.canLayAll0,PyData.depth,PyData.depthAll]
 | 0,.lst xs,h=>by
  have:xs=[]:=by simpa[D.sim]using h
  subst this;simp[D.py,pys,PyData.canLay0,PyData.canLayAll0,PyData.depth,PyData.depthAll]
 | n+1,.tup xs,h=>by
  simp only[D.sim,Zat]at h;simp only[D.py,PyData.canLay0,PyData.depth];exact⟨Qe2 λd hd=>(QbJ n d (h d hd)).1,Zbo (QfA λd hd=>(QbJ n d (h d hd)).2) 1⟩
 | n+1,.lst xs,h=>by
  simp only[D.sim,Zat]at h;simp only[D.py,PyData.canLay0,PyData.depth];exact⟨Qe2 λd hd=>(QbJ n d (h d hd)).1,Zbo (QfA λd hd=>(QbJ n d (h d hd)).2) 1⟩
noncomputable def deq(a b:D):Bool:=PyData.eqv a.py b.py
def QnA(h:d.sim n=true):deq d d=true:=SeqAt.eqv_refl _ (QbJ n d h).1
mutual
noncomputable def D.noX:D->Bool
 | .exc _=>false
 | .dk _=>false
 | .tup xs=>Qjh xs
 | .lst xs=>Qjh xs
 | .non=>true
 | .bl _=>true
 | .int _=>true
 | .str _=>true
noncomputable def Qjh:List D->Bool
 | []=>true
 | d::ds=>d.noX && Qjh ds
end
def QlQ:∀{ds:List D},(∀d∈ds,d.noX=true)->Qjh ds=true
 | [],_=>rfl
 | d::ds,h=>by
  simp only[Qjh,Zk];exact⟨h d Ze,QlQ λe he=>h e (Zb _ he)⟩
def Qcb:∀(n:Nat) (d:D),d.sim n=true->d.noX=true
 | n,.exc _,h=>by cases n<;>cases h
 | n,.dk _,h=>by cases n<;>cases h
 | n,.non,_=>rfl
 | n,.bl _,_=>rfl
 | n,.int _,_=>rfl
 | n,.str x,_=>rfl
 | 0,.tup xs,h=>by
  have:xs=[]:=by simpa[D.sim]using h
  subst this;rfl
 | 0,.lst xs,h=>by
  have:xs=[]:=by simpa[D.sim]using h
  subst this;rfl
 | n+1,.tup xs,h=>by
  simp only[D.sim,Zat]at h;simp only[D.noX];exact QlQ λd hd=>Qcb n d (h d hd)
 | n+1,.lst xs,h=>by
  simp only[D.sim,Zat]at h;simp only[D.noX];exact QlQ λd hd=>Qcb n d (h d hd)
section
variable {X:Cx}{pins:List (Addr×Obj)}{σ:L2.St}{H:Hp}{s:Shared}
mutual
def Rp.reads(I:Inv X pins σ H s):∀{d:D}{v:V}{F:LAd}{u:Value},d.noX=true->Rp X.K H d v F->RelV v u->∃as,Reads s.heap u d.py as
 | .exc _,v,_,u,hx,h,r=>by cases hx
 | .dk _,v,_,u,hx,h,r=>by cases hx
 | .non,v,_,u,hx,h,r=>by
  rw[h.QkZ]at r;cases(show u=Value.none from r);exact⟨_,.none⟩
 | .bl b,v,_,u,hx,h,r=>by
  rw[h.QeF]at r;cases(show u=Value.bool b from r);exact⟨_,.bool b⟩
 | .int i,v,_,u,hx,h,r=>by
  rw[h.int_inv]at r;obtain⟨t,rfl⟩:=(show ∃t,u=Value.int i t from r);exact⟨_,.int i t⟩
 | .str i,v,_,u,hx,h,r=>by
  rw[h.str_inv]at r;obtain⟨t,rfl⟩:=(show ∃t,u=Value.str i t from r);exact⟨_,.str i t⟩
 | .tup ds,v,_,u,hx,h,r=>by
  obtain⟨a,vs,rfl,hq,rs⟩:=h.QaP;cases(show u=Value.ref a from r);obtain⟨its,rv,⟨o,h1,h2,n,h3⟩,_⟩:=I.tuple hq;obtain⟨as,ra⟩:=Rps.reads I (by simpa only[D.noX]using hx) rs rv;exact⟨_,.tuple h1 h2 h3 (by simpa using ra)⟩
 | .lst ds,v,_,u,hx,h,r=>by
  simp only[Rp]at h;obtain⟨hz,a,vs,rfl,h⟩:=h;have key:∃G,(H a=some (.lst vs)∨Fix X.K H a vs)/\Rps X.K H ds vs G:=by
   rcases h with⟨G,_,q,rs⟩ | ⟨q,rs⟩
   .exact⟨G,.inl q,rs⟩
   .exact⟨_,.inr q,rs⟩
  obtain⟨G,hq,rs⟩:=key;cases(show u=Value.ref a from r);obtain⟨_,its,n,rv,_,e⟩:=I.Qob hq;obtain⟨as,ra⟩:=Rps.reads I (by simpa only[D.noX]using hx) rs rv;exact⟨_,.list e rfl rfl (by simpa using ra)⟩
def Rps.reads(I:Inv X pins σ H s):∀{ds:List D}{vs:List V}{F:LAd}{us:List Value},Qjh ds=true->Rps X.K H ds vs F->Qz vs us->∃as,ReadsAll s.heap us (pys ds) as
 | [],vs,_,us,_,h,r=>by
  simp only[Rps]at h;rw[h.1]at r;cases r;exact⟨_,.nil⟩
 | d::ds,vs,_,us,hx,h,r=>by
  simp only[Qjh,Zk]at hx;simp only[Rps]at h;obtain⟨v,ws,F1,F2,rfl,rfl,h1,h2⟩:=h;cases r with
  | cons r rr=>
   obtain⟨as,ra⟩:=Rp.reads I hx.1 h1 r;obtain⟨bs,rb⟩:=Rps.reads I hx.2 h2 rr;exact⟨_,.cons ra rb⟩
end
end
noncomputable def gEq(a b:D):Option D:=if a.sim 8 && b.sim 8 then some (.bl (deq a b))else none
noncomputable def gNe(a b:D):Option D:=if a.sim 8 && b.sim 8 then some (.bl (!deq a b))else none
noncomputable def gIn(neg:Bool)(a b:D):Option D:=match b with
 | .lst xs=>if a.sim 8 && b.sim 8 then some (.bl (if neg then !(xs.any λy=>deq y a)else xs.any λy=>deq y a))else none
 | .tup xs=>if a.sim 8 && b.sim 8 then some (.bl (if neg then !(xs.any λy=>deq y a)else xs.any λy=>deq y a))else none
 | .dk _=>gDk neg a b
 | _=>none
def Qtc{neg:Bool}:∀a b d,gIn neg a b=some d->∃k,d= .bl k:=λa b d h=>by
 unfold gIn at h;split at h
 .split at h<;>cases h;exact⟨_,rfl⟩
 .split at h<;>cases h;exact⟨_,rfl⟩
 .unfold gDk at h;split at h;(obtain⟨_,_,rfl⟩:=Zh.mp h;exact⟨_,rfl⟩);cases h
 .cases h
noncomputable def Qye(K:Fgg):R2:=λx y H Q=>∃a b F G,Rp K H a x F/\Rp K H b y G/\a.sim 8=true/\b.sim 8=true/\Q (.bl (deq a b)) H
noncomputable def QzY(K:Fgg):R2:=λx y H Q=>∃a b F G,Rp K H a x F/\Rp K H b y G/\a.sim 8=true/\b.sim 8=true/\Q (.bl (!deq a b)) H
section
variable {X:Cx}
def Qya(hu:X.A.units+64<cLine):OpR X (compareOp .Eq) (Qye X.K):=by
 intro pins s σ H x y v u Q I rx ry h;obtain⟨a,b,F,G,ha,hb,sa,sb,q⟩:=h;obtain⟨as,ra⟩:=Rp.reads I (Qcb 8 _ sa) ha rx;obtain⟨bs,rb⟩:=Rp.reads I (Qcb 8 _ sb) hb ry;have h1:=QbJ 8 a sa;have h2:=QbJ 8 b sb;exact SeqAt.compareEq_reads ra rb h1.1 h2.1 (by have:=Zcy a.py.depth b.py.depth;lia) ⟨.bl _,H,I,rfl,q⟩
def QAd(hu:X.A.units+64<cLine):OpR X (compareOp .NotEq) (QzY X.K):=by
 intro pins s σ H x y v u Q I rx ry h;obtain⟨a,b,F,G,ha,hb,sa,sb,q⟩:=h;obtain⟨as,ra⟩:=Rp.reads I (Qcb 8 _ sa) ha rx;obtain⟨bs,rb⟩:=Rp.reads I (Qcb 8 _ sb) hb ry;have h1:=QbJ 8 a sa;have h2:=QbJ 8 b sb;exact SeqAt.compareNe_reads ra rb h1.1 h2.1 (by have:=Zcy a.py.depth b.py.depth;lia) ⟨.bl _,H,I,rfl,q⟩
def QAX:QbB K gEq (Qye K):=λa b d e=>by
 unfold gEq at e;split at e
 .rename_i h;simp only[Zk]at h;cases e;exact⟨rfl,λH x y F G Q ha hb q=>⟨a,b,F,G,ha,hb,h.1,h.2,q _ λ_=> .Qbs⟩⟩
 .cases e
def QAu:QbB K gNe (QzY K):=λa b d e=>by
 unfold gNe at e;split at e
 .rename_i h;simp only[Zk]at h;cases e;exact⟨rfl,λH x y F G Q ha hb q=>⟨a,b,F,G,ha,hb,h.1,h.2,q _ λ_=> .Qbs⟩⟩
 .cases e
noncomputable def Qvh(K:Fgg)(neg:Bool):R2:=λx y H Q=>∃a b F G xs,Rp K H a x F/\Rp K H b y G/\a.sim 8=true/\b.sim 8=true/\(b= .lst xs∨b= .tup xs)/\Q (.bl (if neg then !(xs.any λy=>deq y a)else xs.any λy=>deq y a)) H
noncomputable def Qk9(K:Fgg)(neg:Bool):R2:=λx y H Q=>Qvh K neg x y H Q
 ∨rDk K neg x y H Q
def inS{K:Fgg}{neg:Bool}{x y:V}{H:Hp}{Q:VK}(h:Qvh K neg x y H Q):Qk9 K neg x y H Q:=by first | exact h | exact .inl h
def Qsj{K:Fgg}{neg:Bool}{x y:V}{H:Hp}{Q:VK}{P:Prop}(h:Qk9 K neg x y H Q)(h1:Qvh K neg x y H Q->P)
 (h2:rDk K neg x y H Q->P)
 :P:=by
 unfold Qk9 at h
 first
  | exact h1 h
  | exact h.elim h1 h2
def QsY(xs:List D)(a:D):((pys xs).any λy=>PyData.eqv y a.py)=xs.any λy=>deq y a:=by
 rw[QpI,List.any_map];rfl
def QzE(hu:X.A.units+64<cLine):OpR X (compareOp .In) (Qk9 X.K false):=by
 intro pins s σ H x y v u Q I rx ry h
 refine Qsj h (λh=>?_)
  (Qw4 ⋯ pins s σ H x y v u Q I rx ry)
 obtain⟨a,b,F,G,xs,ha,hb,sa,sb,hk,q⟩:=h;obtain⟨as,ra⟩:=Rp.reads I (Qcb 8 _ sa) ha rx;obtain⟨bs,rb⟩:=Rp.reads I (Qcb 8 _ sb) hb ry;have h1:=QbJ 8 a sa;have h2:=QbJ 8 b sb;have q':Q (.bl ((pys xs).any λy=>PyData.eqv y a.py)) H:=by rw[QsY];exact q
 rcases hk with rfl | rfl
 .exact SeqAt.in_list_reads rb ra h2.1 h1.1 (by have:=Zbr (PyData.depthAll (pys xs)) a.py.depth;lia) ⟨.bl _,H,I,rfl,q'⟩
 .exact SeqAt.in_tuple_reads rb ra h2.1 h1.1 (by have:=Zbr (PyData.depthAll (pys xs)) a.py.depth;lia) ⟨.bl _,H,I,rfl,q'⟩
def Qrz(hu:X.A.units+64<cLine):OpR X (compareOp .NotIn) (Qk9 X.K true):=by
 intro pins s σ H x y v u Q I rx ry h
 refine Qsj h (λh=>?_)
  (QqH ⋯ pins s σ H x y v u Q I rx ry)
 obtain⟨a,b,F,G,xs,ha,hb,sa,sb,hk,q⟩:=h;obtain⟨as,ra⟩:=Rp.reads I (Qcb 8 _ sa) ha rx;obtain⟨bs,rb⟩:=Rp.reads I (Qcb 8 _ sb) hb ry;have h1:=QbJ 8 a sa;have h2:=QbJ 8 b sb;have q':Q (.bl (!(pys xs).any λy=>PyData.eqv y a.py)) H:=by rw[QsY];exact q
 rcases hk with rfl | rfl
 .exact SeqAt.notIn_list_reads rb ra h2.1 h1.1 (by have:=Zbr (PyData.depthAll (pys xs)) a.py.depth;lia) ⟨.bl _,H,I,rfl,q'⟩
 .exact SeqAt.notIn_tuple_reads rb ra h2.1 h1.1 (by have:=Zbr (PyData.depthAll (pys xs)) a.py.depth;lia) ⟨.bl _,H,I,rfl,q'⟩
def Qv6:QbB K (gIn neg) (Qk9 K neg):=λa b d e=>by
 unfold gIn at e;split at e
 .split at e
  .rename_i h;simp only[Zk]at h;cases e;exact⟨rfl,λH x y F G Q ha hb q=>inS ⟨a,_,F,G,_,ha,hb,h.1,h.2,.inl rfl,q _ λ_=> .Qbs⟩⟩
  .cases e
 .split at e
  .rename_i h;simp only[Zk]at h;cases e;exact⟨rfl,λH x y F G Q ha hb q=>inS ⟨a,_,F,G,_,ha,hb,h.1,h.2,.inr rfl,q _ λ_=> .Qbs⟩⟩
  .cases e
 .obtain⟨h1,h2⟩:=QAz (K:=K) _ _ _ e;exact⟨h1,λH x y F G Q ha hb q=>by have:=h2 H x y F G Q ha hb q;first | exact .inr this | exact .inr (.inl this)⟩
 .cases e
noncomputable def D.tyN:D->String
 | .non=> "NoneType" | .bl _=> "bool" | .int _=> "int" | .str _=> "str" | .tup _=> "tuple" | .lst _=> "list" | .exc _=> "?" | .dk _=> "?"
noncomputable def D.isE:D->Bool
 | .exc _=>true
 | .dk _=>true
 | _=>false
noncomputable def D.isa(T:String)(d:D):Option Bool:=if(T == "int" || T == "bool" || T == "list" || T == "tuple" || T == "str") && !d.isE then some (d.tyN == T || (d.tyN == "bool" && T == "int"))else none
def Qyb(I:Inv X pins σ H s)(rp:Rp X.K H d v F)(rx:RelV v u)(e:d.isa T=some b)(h:∀tk,Q (.bool b) {s with toks:=tk}):
  wpAny (model X.prog X.w) A (call (.builtin "isinstance") [u,.type T]) Q E s:=by
 have kit:PySem.W.kitOne X.K (.type d.tyN) (.type T)=some b:=by
  unfold D.isa at e;split at e
  .rename_i hT;cases e;simp only[Zk,Zcx,beq_iff_eq]at hT;obtain⟨hT,hE⟩:=hT;rcases hT with(((rfl | rfl) | rfl) | rfl) | rfl<;>cases d<;>first | rfl | (cases hE)
  .cases e
 cases d with
 | exc x=>unfold D.isa at e;split at e;(rename_i hT;exfalso;simp only[Zk]at hT;exact nomatch hT.2);cases e
 | dk x=>unfold D.isa at e;split at e;(rename_i hT;exfalso;simp only[Zk]at hT;exact nomatch hT.2);cases e
 | non=>rw[rp.QkZ]at rx;cases(show u=Value.none from rx);exact ZaY PySem.W.kitx_none I.kIn True.intro kit (λz=>nomatch z) h
 | bl y=>rw[rp.QeF]at rx;cases(show u=Value.bool y from rx);exact ZaY PySem.W.kitx_bool I.kIn True.intro kit (λz=>nomatch z) h
 | int i=>rw[rp.int_inv]at rx;obtain⟨t,q⟩:=(show ∃t,u=Value.int i t from rx);cases q;exact ZaY PySem.W.kitx_int I.kIn True.intro kit (λz=>nomatch z) h
 | str y=>rw[rp.str_inv]at rx;obtain⟨t,q⟩:=(show ∃t,u=Value.str y t from rx);cases q;exact ZaY PySem.W.kitx_str I.kIn True.intro kit (λz=>nomatch z) h
 | tup ds=>
  obtain⟨a,vs,rfl,hq,_⟩:=rp.QaP;cases(show u=Value.ref a from rx);obtain⟨its,rv,⟨o,h1,h2,n,h3⟩,_⟩:=I.tuple hq;exact ZaY PySem.W.kitx_tuple I.kIn ⟨o,h1,h2⟩ kit (λz=>nomatch z) h
 | lst ds=>
  obtain⟨a,vs,G,rfl,hq,_⟩:=rp.lst_inv;cases(show u=Value.ref a from rx);obtain⟨_,its,n,rv,_,e1⟩:=I.Qob hq;exact ZaY PySem.W.kitx_list I.kIn ⟨_,e1,rfl⟩ kit (λz=>nomatch z) h
def QCn(K:Fgg):List V->Hp->VK->Prop:=λxs H Q=>∃x T d F b,xs=[x,.ty T]/\Rp K H d x F/\d.isa T=some b/\Q (.bl b) H
def Qt4:Qb6 X (.builtin "isinstance") (QCn X.K):=by
 intro pins s σ H xs us Q I r h;obtain⟨x,T,d,F,b,rfl,rp,e,q⟩:=h;obtain⟨u,w,rfl,ru,rw'⟩:=vals2 r;cases(show w=Value.type T from rw');exact Qyb I rp ru e λtk=>⟨.bl b,H,I.tok _,rfl,q⟩
noncomputable def Qjt(T:String)(fa:DE):DE:=λU=>(fa U).bind λr=>(r.d.isa T).map λb=>⟨.bl b,true,[]⟩
def QyW(hg:Gl X "isinstance")(hm:X.mg "isinstance" =none)(ha:SE X a fa)(hT:PE X (.Name x p2) (tC (.ty T)))
  (he:starEach [a,.Name x p2] X.env=(false,eval a X.env)::starEach [.Name x p2] X.env):SE X (.Call (.Name "isinstance" p) [a,.Name x p2] [] pos) (Qjt T fa):=λH0 A0=>
 (QgE Qt4 hg hm ZbS (Qax (ha H0 A0) (Qax hT QcM) he) ∅ ∅ he (by rfl)).mono λσ H Q=>exK λU hs F r' rel e q=>by
  refine Qg e λr e1 e=>?_;obtain⟨b,eb,e⟩:=Zh.mp e;subst e;exact⟨U,hs,F,r,rel,e1,λv H1 G p=>⟨v,T,r.d,G,b,rfl,p.rp,eb,q _ H1 [] (.flat p.same .Qbs)⟩⟩
noncomputable def D.tru:D->Option Bool
 | .non=>some false
 | .bl b=>some b
 | .int i=>some (i != 0)
 | .lst xs=>some (!xs.isEmpty)
 | .tup xs=>some (!xs.isEmpty)
 | .str _=>none
 | .exc _=>none
 | .dk _=>none
def QmH(h:Rp K H d v F)(e:d.tru=some b):QtN K v H b:=by
 have emp:∀{ds:List D}{vs:List V}{G:LAd},Rps K H ds vs G->(!ds.isEmpty)= !vs.isEmpty:=λ{ds vs G} r=>by
  have:=r.length;cases ds<;>cases vs<;>simp_all
 cases d with
 | non=>rw[h.QkZ];cases e;exact rfl
 | bl c=>rw[h.QeF];cases e;exact rfl
 | int i=>rw[h.int_inv];cases e;exact rfl
 | str i=>cases e
 | exc i=>cases e
 | dk i=>cases e
 | tup ds=>cases e;obtain⟨a,vs,rfl,hq,r⟩:=h.QaP;exact .inr (.inl ⟨vs,hq,emp r⟩)
 | lst ds=>cases e;obtain⟨a,vs,G,rfl,hq,r,_⟩:=h.lst_inv;exact .inl ⟨vs,QT hq,emp r⟩
noncomputable def QG(fa:DE):DT:=λU=>(fa U).bind λr=>r.d.tru
noncomputable def Qdf(f g:DT):DT:=λU=>(f U).bind λb=>if b=true then g U else some false
noncomputable def bOr(f g:DT):DT:=λU=>(f U).bind λb=>if b=true then some true else g U
noncomputable def Qcm(f:DT):DT:=λU=>(f U).bind λb=>some (!b)
def SW(X:Cx)(e:Expr)(f:DT):Prop:=∀H0 A0,PW X e (tVT X.K H0 A0 f)
def _root_.L2.PW.mono(h:PW X e t)(m:∀σ H Q,t' σ H Q->t σ H Q):PW X e t':=λwh pins s σ H Q I q=>h wh pins s σ H Q I (m σ H Q q)
variable {a b e:Expr}{fa fb:DE}{ga gb gc:DT}{pos:Pos}{rest:List Expr}
def Qzx(ha:SE X a fa)(he:∀whole,isTrue a X.env whole=(do let v ← whole;standAt a.pos;holding [v] (truthy v))):ST X a (QG fa):=λH0 A0=>
 (Qt1 (ha H0 A0) he).mono λσ H Q=>exK λU hs F b rel e q=>by
  refine Qg e λr e1 e=>?_;exact⟨U,hs,F,r,rel,e1,λv H1 G p=>⟨b,QmH p.rp e,q H1 p.same⟩⟩
def QyX(ho:OpR X (compareOp op) r)(hg:QbB X.K g r)(hbl:∀a b d,g a b=some d->∃k,d= .bl k)(ha:SE X a fa)(hb:SE X b fb)(hm:behindInMarks op b=false):ST X (.Compare a [op] [b] pos) (QG (dOp g fa fb)):=λH0 A0=>
 (Qwc ho (ha H0 A0) (hb H0 A0) hm).mono λσ H Q=>exK λU hs F k rel e q=>by
  refine Qg e λr' e0 e=>?_;obtain⟨ra,rb,d,ea,eb,eg,rfl⟩:=QkW e0;obtain⟨k',rfl⟩:=hbl _ _ _ eg;cases e;refine two rel ea eb λx y H1 H2 G1 G2 p1 p2=>(hg _ _ _ eg).2 H2 x y G1 G2 _ (p1.rp.same p2.same) p2.rp λv hv=>?_;exact⟨_,(hv H2).QeF,q H2 (p1.same.trans p2.same)⟩
def Qzm(ha:ST X a ga):ST X (.UnaryOp .Not a pos) (Qcm ga):=λH0 A0=>
 (Qyl (ha H0 A0)).mono λσ H Q=>exK λU hs F b rel e q=>by
  refine Qg e λc e1 e=>?_;cases e;exact⟨U,hs,F,c,rel,e1,λH1 s1=>q H1 s1⟩
def QwS(ha:ST X a ga):SW X (.BoolOp .And [a] pos) ga:=λH0 A0=>Qwx (ha H0 A0)
def Qyg(ha:ST X a ga):SW X (.BoolOp .Or [a] pos) ga:=λH0 A0=>Qzq (ha H0 A0)
def Qzp(ha:ST X a ga)(hb:SW X (.BoolOp .And (b::rest) pos) gb):SW X (.BoolOp .And (a::b::rest) pos) (Qdf ga gb):=λH0 A0=>
 (QAc (ha H0 A0) (hb H0 A0)).mono λσ H Q=>exK λU hs F c rel e q=>by
  refine Qg e λd e1 e=>?_;refine⟨U,hs,F,d,rel,e1,λH1 s1=>?_⟩;cases d with
  | true=>exact⟨U,hs,F,c,rel.ext s1,e,λH2 s2=>q H2 (s1.trans s2)⟩
  | false=>cases e;exact q H1 s1
def QBf(ha:ST X a ga)(hb:SW X (.BoolOp .Or (b::rest) pos) gb):SW X (.BoolOp .Or (a::b::rest) pos) (bOr ga gb):=λH0 A0=>
 (QAo (ha H0 A0) (hb H0 A0)).mono λσ H Q=>exK λU hs F c rel e q=>by
  refine Qg e λd e1 e=>?_;refine⟨U,hs,F,d,rel,e1,λH1 s1=>?_⟩;cases d with
  | true=>cases e;exact q H1 s1
  | false=>exact⟨U,hs,F,c,rel.ext s1,e,λH2 s2=>q H2 (s1.trans s2)⟩
def SW.st(h:SW X e ga):ST X e ga:=λH0 A0=>(h H0 A0).pt
noncomputable def Qb0(fa fb:DE):DE:=λU=>(fa U).bind λra=>(ra.d.tru).bind λb=>if b=true then fb U else some ra
noncomputable def dOr(fa fb:DE):DE:=λU=>(fa U).bind λra=>(ra.d.tru).bind λb=>if b=true then some ra else fb U
noncomputable def QhM(fa:DE):DE:=λU=>(fa U).bind λra=>(ra.d.tru).bind λb=>some ⟨.bl (!b),true,[]⟩
noncomputable def dIf(g:DT)(fa fb:DE):DE:=λU=>(g U).bind λb=>if b=true then fa U else fb U
def Qot{op}(h:SE X a fa):SE X (.BoolOp op [a] pos) fa:=λH0 A0=>QyF (h H0 A0)
def Qaa.ext(s:QN H H1)(p:Qaa K U F H1 H2 r v G)(rel:Rel K H0 A0 hs U F σ H):Qaa K U F H H2 r v G where
 same:=s.trans p.same
 rp:=p.rp
 src:=λa ha=>(p.src a ha).elim (λz=> .inl (s.free z)) .inr
 cnt:=λh=>⟨λa=>Zw ((p.cnt h).1 a) (Zbo (by
  cases q:H1 a with
  | none=>rw[QaK q,QaK (s.free q)];exact Zd _
  | some o=>rw[Qdz q];exact ZF _) _),(p.cnt h).2⟩
 own:=p.own
def Qrs(ha:SE X a fa)(hb:SE X (.BoolOp .And (b::rest) pos) fb):SE X (.BoolOp .And (a::b::rest) pos) (Qb0 fa fb):=λH0 A0=>by
 intro pins s σ H Q I ⟨U,hs,F,r,rel,e,q⟩;refine Qg e λra e1 e=>?_;refine Qg e λc e2 e=>?_;refine PyProof.Rows.BoolOp_and (thn (ha H0 A0 pins s σ H _ I ⟨U,hs,F,ra,rel,e1,λv H' G p=>(⟨G,p⟩:∃G,Qaa X.K U F H H' ra v G)⟩) λv s1 Z=>?_);obtain⟨x,H1,I1,r1,G,p⟩:=Z;refine thn (QkI pins s1 σ H1 x v (λk H2=>k=c/\H2=H1) I1 r1 ⟨c,QmH p.rp e2,rfl,rfl⟩) λk s2 Z=>?_;obtain⟨H2,I2,e3,e4⟩:=Z;subst e3 e4;cases k with
 | true=>exact hb H0 A0 pins s2 σ _ Q I2 ⟨U,hs,F,r,rel.ext p.same,e,λw H3 G3 p3=>q w H3 G3 (p3.ext p.same rel)⟩
 | false=>cases e;exact⟨x,_,I2,r1,q x _ G p⟩
def QAm(ha:SE X a fa)(hb:SE X (.BoolOp .Or (b::rest) pos) fb):SE X (.BoolOp .Or (a::b::rest) pos) (dOr fa fb):=λH0 A0=>by
 intro pins s σ H Q I ⟨U,hs,F,r,rel,e,q⟩;refine Qg e λra e1 e=>?_;refine Qg e λc e2 e=>?_;refine PyProof.Rows.BoolOp_or (thn (ha H0 A0 pins s σ H _ I ⟨U,hs,F,ra,rel,e1,λv H' G p=>(⟨G,p⟩:∃G,Qaa X.K U F H H' ra v G)⟩) λv s1 Z=>?_);obtain⟨x,H1,I1,r1,G,p⟩:=Z;refine thn (QkI pins s1 σ H1 x v (λk H2=>k=c/\H2=H1) I1 r1 ⟨c,QmH p.rp e2,rfl,rfl⟩) λk s2 Z=>?_;obtain⟨H2,I2,e3,e4⟩:=Z;subst e3 e4;cases k with
 | false=>exact hb H0 A0 pins s2 σ _ Q I2 ⟨U,hs,F,r,rel.ext p.same,e,λw H3 G3 p3=>q w H3 G3 (p3.ext p.same rel)⟩
 | true=>cases e;exact⟨x,_,I2,r1,q x _ G p⟩
def Qst(ha:SE X a fa):SE X (.UnaryOp .Not a pos) (QhM fa):=λH0 A0=>by
 intro pins s σ H Q I ⟨U,hs,F,r,rel,e,q⟩;refine Qg e λra e1 e=>?_;refine Qg e λc e2 e=>?_;cases e;refine PyProof.Rows.UnaryOp_ (thn (ha H0 A0 pins s σ H _ I ⟨U,hs,F,ra,rel,e1,λv H' G p=>(⟨G,p⟩:∃G,Qaa X.K U F H H' ra v G)⟩) λv s1 Z=>?_);obtain⟨x,H1,I1,r1,G,p⟩:=Z;refine PyProof.Rows.not_of (thn (QkI pins s1 σ H1 x v (λk H2=>k=c/\H2=H1) I1 r1 ⟨c,QmH p.rp e2,rfl,rfl⟩) λk s2 Z=>?_);obtain⟨H2,I2,e3,e4⟩:=Z;subst e3 e4;exact⟨.bl (!k),_,I2,rfl,q _ _ [] (.flat p.same .Qbs)⟩
def QBm(hc:ST X c gc)(ha:SE X a fa)(hb:SE X b fb):SE X (.IfExp c a b pos) (dIf gc fa fb):=λH0 A0=>
 (QtG (hc H0 A0) (ha H0 A0) (hb H0 A0)).mono λσ H Q=>exK λU hs F r rel e q=>by
  refine Qg e λc e1 e=>?_;refine⟨U,hs,F,c,rel,e1,λH1 s1=>?_⟩;cases c with
  | true=>exact⟨U,hs,F,r,rel.ext s1,e,λv H2 G p=>q v H2 G (p.ext s1 rel)⟩
  | false=>exact⟨U,hs,F,r,rel.ext s1,e,λv H2 G p=>q v H2 G (p.ext s1 rel)⟩
noncomputable def Qls(fa:DE):DE:=λU=>(fa U).bind λra=>match ra.d with
 | .int i=>some ⟨.int (-i),true,[]⟩
 | _=>none
def QzZ(ha:SE X a fa):SE X (.UnaryOp .USub a pos) (Qls fa):=λH0 A0=>
 (QAJ Qz0 (ha H0 A0)).mono λσ H Q=>exK λU hs F r rel e q=>by
  refine Qg e λra e1 e=>?_;refine⟨U,hs,F,ra,rel,e1,λv H1 G p=>?_⟩;have rp:=p.rp;cases hr:ra.d with
  | int i=>
   rw[hr]at e rp;cases e;exact⟨i,rp.int_inv,q _ H1 [] (.flat p.same .int_mk)⟩
  | _=>rw[hr]at e;cases e
end
end HS
namespace HS
open PySem PySem.Spec L2
section
def Qcg(U U':En):Prop:=U'.length=U.length/\∀(i:Nat) d b,U'[i]? =some (some (d,b))->∃b',U[i]? =some (some (d,b'))/\(b=true->b'=true)
def Qcg.refl:Qcg U U:=⟨rfl,λi d b h=>⟨b,h,id⟩⟩
def Qcg.trans(a:Qcg U U')(b:Qcg U' U''):Qcg U U'':=⟨b.1.trans a.1,λi d c h=>by
 obtain⟨c',h1,h2⟩:=b.2 i d c h;obtain⟨c'',h3,h4⟩:=a.2 i d c' h1;exact⟨c'',h3,λz=>h4 (h2 z)⟩⟩
def Rel.weak(r:Rel K H0 A0 hs U F σ H)(w:Qcg U U'):Rel K H0 A0 hs U' F σ H where
 len:=w.1.trans r.len
 val:=λi d b e=>let ⟨b',h,_⟩:=w.2 i d b e;r.val i d b' h
 own:=λi d e=>by
  obtain⟨b',h,hb⟩:=w.2 i d true e;have:b'=true:=hb rfl;subst this;obtain⟨h1,h2,h3,h4,h5⟩:=r.own i d h;exact⟨h1,h2,h3,λj d' b' hj e'=>let ⟨b'',h',_⟩:=w.2 j d' b' e';h4 j d' b'' hj h',h5⟩
 src:=λi d b e=>let ⟨b',h,_⟩:=w.2 i d b e;r.src i d b' h
 held:=r.held
 same:=r.same
noncomputable def kill:List Nat->En->En
 | [],U=>U
 | i::M,U=>kill M (U.set i none)
noncomputable def QbG:List Nat->En->En
 | [],U=>U
 | i::M,U=>QbG M (match U[i]? with
  | some (some (d,_))=>U.set i (some (d,false))
  | _=>U)
def QlV(i:Nat):Qcg U (U.set i none):=⟨⋯,λj d b h=>by
 by_cases hj:i=j
 .subst hj;by_cases hl:i<U.length
  .rw[Zx hl]at h;cases h
  .rw[Zs (by simp;lia)]at h;cases h
 .rw[Zl hj]at h;exact⟨b,h,id⟩⟩
def Qcp:∀(M:List Nat) (U:En),Qcg U (kill M U)
 | [],U=> .refl
 | i::M,U=>(QlV i).trans (Qcp M _)
def Qhp:∀(M:List Nat) (U:En) (i:Nat) (d:D) (b:Bool),i∈M->(kill M U)[i]? =some (some (d,b))->False
 | [],U,i,d,b,h,_=>by simp at h
 | j::M,U,i,d,b,h,e=>by
  rcases Zm.mp h with rfl | h
  .obtain⟨b',e',_⟩:=(Qcp M (U.set i none)).2 i d b e;by_cases hl:i<U.length
   .rw[Zx hl]at e';cases e'
   .rw[Zs (by simp;lia)]at e';cases e'
  .exact Qhp M _ i d b h e
def QtY(i:Nat):Qcg U (match U[i]? with
  | some (some (d,_))=>U.set i (some (d,false))
  | _=>U):=by
 split
 .rename_i d b e;refine⟨⋯,λj d' b' h=>?_⟩;by_cases hj:i=j
  .subst hj;have hl:i<U.length:=(Zi.mp e).1;rw[Zx hl]at h;cases h;exact⟨b,e,λz=>by cases z⟩
  .rw[Zl hj]at h;exact⟨b',h,id⟩
 .exact .refl
def Qb8:∀(M:List Nat) (U:En),Qcg U (QbG M U)
 | [],U=> .refl
 | i::M,U=>(QtY i).trans (Qb8 M _)
def QjK:∀(M:List Nat) (U:En) (i:Nat) (d:D),i∈M->(QbG M U)[i]? =some (some (d,true))->False
 | [],U,i,d,h,_=>by simp at h
 | j::M,U,i,d,h,e=>by
  rcases Zm.mp h with rfl | h
  .obtain⟨b',e',hb⟩:=(Qb8 M _).2 i d true e;have:b'=true:=hb rfl;subst this;split at e'
   .rename_i d' b e1;have hl:i<U.length:=(Zi.mp e1).1;rw[Zx hl]at e';cases e'
   .rename_i h1;exact h1 d true e'
  .exact QjK M _ i d h e
def Shr(H0:Hp)(A0:LAd)(U:En)(F:Nat->List Addr)(G:LAd):Prop:=
 ∀a∈G,(H0 a=none∨a∈A0)/\∀(i:Nat) d,U[i]? =some (some (d,true))->a∉F i
def Shr.of(r:Rel K H0 A0 hs U F σ H)(s:Src U F H M G):Shr H0 A0 (QbG M U) F G:=λa ha=>by
 have w:=Qb8 M U;rcases s a ha with h | ⟨i,d,b,e,m,hm⟩
 .refine⟨.inl (r.same.free h),λj d' e' hj=>?_⟩;obtain⟨b',e2,_⟩:=w.2 j d' true e';obtain⟨vs,q⟩:=r.mem e2 hj;rw[h]at q;cases q
 .refine⟨r.src i d b e a m,λj d' e' hj=>?_⟩;obtain⟨b',e2,hb⟩:=w.2 j d' true e';have:b'=true:=hb rfl;subst this;by_cases hij:i=j
  .subst hij;rw[e]at e2;cases e2;exact QjK M U i _ (hm rfl) e'
  .exact(r.own j d' e2).2.2.2.1 i d b hij e a hj m
def Rel.Qqu(r:Rel K H0 A0 hs U F σ H)(rp:Rp K H d v G)(sh:Shr H0 A0 U F G):
  Rel K H0 A0 hs (U.set i (some (d,d.flat))) (λj=>if j=i then G else F j) (σ.set i (some v)) H where
 len:=by simp[r.len]
 val:=λj d' b e=>by
  by_cases hj:j=i
  .subst hj;have hl:j<U.length:=by
    by_cases hl:j<U.length
    .exact hl
    .rw[Zs (by simp;lia)]at e;cases e
   rw[Zx hl]at e;cases e;exact⟨v,by rw[Zx (by rw[← r.len];exact hl)],by rw[if_pos rfl];exact rp⟩
  .rw[Zl (Ne.symm hj)]at e;obtain⟨w,h1,h2⟩:=r.val j d' b e;exact⟨w,by rw[Zl (Ne.symm hj)];exact h1,by rw[if_neg hj];exact h2⟩
 own:=λj d' e=>by
  by_cases hj:j=i
  .subst hj;have hl:j<U.length:=by
    by_cases hl:j<U.length
    .exact hl
    .rw[Zs (by simp;lia)]at e;cases e
   rw[Zx hl]at e;have e1:=Option.some.inj (Option.some.inj e);have ed:d=d':=congrArg Prod.fst e1;have ef:d.flat=true:=congrArg Prod.snd e1;subst ed;have:=rp.QbW ef;subst this;rw[if_pos rfl];exact⟨(QdK d ef).symm,ZaJ,λa ha=>by simp at ha,λ_ _ _ _ _ a ha=>by simp at ha,λ_ _ a ha=>by simp at ha⟩
  .rw[Zl (Ne.symm hj)]at e;obtain⟨h1,h2,h3,h4,h5⟩:=r.own j d' e;rw[if_neg hj];refine⟨h1,h2,h3,λk d'' b hk ek a ha=>?_,h5⟩;by_cases hki:k=i
   .subst hki;rw[if_pos rfl];exact λhG=>(sh a hG).2 j d' e ha
   .rw[Zl (Ne.symm hki)]at ek;rw[if_neg hki];exact h4 k d'' b hk ek a ha
 src:=λj d' b e a ha=>by
  by_cases hj:j=i
  .subst hj;rw[if_pos rfl]at ha;exact(sh a ha).1
  .rw[Zl (Ne.symm hj)]at e;rw[if_neg hj]at ha;exact r.src j d' b e a ha
 held:=r.held
 same:=r.same
def QAn(r:Rel K H0 A0 hs U F σ H)(ow:Qbe U M)(nd:M.Nodup)(a:Addr):((M.map F).flatten).count a<=1:=by
 induction M with
 | nil=>simp
 | cons i M ih=>
  rw[ZA,Zam,Zaz];obtain⟨h1,h2⟩:=ZaW.mp nd;have ih':=ih (λj hj=>ow j (Zb _ hj)) h2;obtain⟨d,e⟩:=ow i Ze;obtain⟨_,nd1,_,apart,_⟩:=r.own i d e;by_cases ha:a∈F i
  .have c1:(F i).count a<=1:=ZaL.mp nd1 a;have c2:((M.map F).flatten).count a=0:=ZX.mpr λhm=>by
    obtain⟨l,hl,hal⟩:=ZbK.mp hm;obtain⟨j,hj,rfl⟩:=ZK.mp hl;obtain⟨d',e'⟩:=ow j (Zb _ hj);exact apart j d' true (λz=>h1 (z▸hj)) e' a ha hal
   lia
  .have:(F i).count a=0:=ZX.mpr ha;lia
def Qaa.fresh(r:Rel K H0 A0 hs U F σ H)(p:Qaa K U F H H' rr v G)(hf:rr.fr=true)(nd:rr.M.Nodup):
  G.Nodup/\∀a∈G,H0 a=none/\(H a=none∨∃i d,i∈rr.M/\U[i]? =some (some (d,true))/\a∈F i):=by
 obtain⟨c,_⟩:=p.cnt hf;refine⟨ZaL.mpr λa=>?_,λa ha=>?_⟩
 .have h1:=c a;have h2:=QAn r p.own nd a;cases q:H a with
  | none=>rw[QaK q,r.fl0 p.own q]at h1;lia
  | some o=>rw[Qdz q]at h1;lia
 .cases q:H a with
  | none=>exact⟨r.same.free q,.inl rfl⟩
  | some o=>
   have h1:=c a;rw[Qdz q]at h1;have h2:0<G.count a:=ZaH.mpr ha;obtain⟨l,hl,hal⟩:=ZbK.mp (ZaH.mp (by lia:0<((rr.M.map F).flatten).count a));obtain⟨i,hi,rfl⟩:=ZK.mp hl;obtain⟨d,e⟩:=p.own i hi;exact⟨(r.own i d e).2.2.1 a hal,.inr ⟨i,d,hi,e,hal⟩⟩
def Rel.QCh(r:Rel K H0 A0 hs U F σ H)(p:Qaa K U F H H' rr v G)(hf:rr.fr=true)(nd:rr.M.Nodup):
  Rel K H0 A0 hs ((kill rr.M U).set i (some (rr.d,true))) (λj=>if j=i then G else F j) (σ.set i (some v)) H':=by
 have r1:=(r.ext p.same).weak (Qcp rr.M U);obtain⟨gn,gs⟩:=p.fresh r hf nd;have gl:=(p.cnt hf).2;have apart:∀(j:Nat) d b,(kill rr.M U)[j]? =some (some (d,b))->∀a∈G,a∉F j:=λj d b e a ha hj=>by
  obtain⟨b',e',_⟩:=(Qcp rr.M U).2 j d b e;rcases(gs a ha).2 with q | ⟨k,d',hk,ek,hak⟩
  .obtain⟨vs,w⟩:=r.mem e' hj;rw[q]at w;cases w
  .have hjk:j≠k:=λz=>by subst z;exact Qhp rr.M U j d b hk e
   exact(r.own k d' ek).2.2.2.1 j d b' hjk e' a hak hj
 have apartH:∀t∈hs,∀a∈G,a∉t.2.2:=λt ht a ha hj=>by
  rcases(gs a ha).2 with q | ⟨k,d',hk,ek,hak⟩
  .obtain⟨vs,w⟩:=(r.held t ht).1.mem a hj;rw[q]at w;cases w
  .exact(r.own k d' ek).2.2.2.2 t ht a hak hj
 have lt:∀{j:Nat}{x:Option (D×Bool)}{y:D×Bool},((kill rr.M U).set j x)[j]? =some (some y)->j<(kill rr.M U).length:=λ{j x y} e=>by
  by_cases hl:j<(kill rr.M U).length
  .exact hl
  .rw[Zs (by simp;lia)]at e;cases e
 refine⟨by simp[r1.len],λj d b e=>?_,λj d e=>?_,λj d b e a ha=>?_,r1.held,r1.same⟩
 .by_cases hj:j=i
  .subst hj;have hl:=lt e;rw[Zx hl]at e;cases e;exact⟨v,by rw[Zx (by rw[← r1.len];exact hl)],by rw[if_pos rfl];exact p.rp⟩
  .rw[Zl (Ne.symm hj)]at e;obtain⟨w,h1,h2⟩:=r1.val j d b e;exact⟨w,by rw[Zl (Ne.symm hj)];exact h1,by rw[if_neg hj];exact h2⟩
 .by_cases hj:j=i
  .subst hj;have hl:=lt e;rw[Zx hl]at e;cases e;rw[if_pos rfl];refine⟨gl,gn,λa ha=>(gs a ha).1,λk d' b hk ek a ha=>?_,apartH⟩;rw[Zl (Ne.symm hk)]at ek;rw[if_neg hk];exact apart k d' b ek a ha
  .rw[Zl (Ne.symm hj)]at e;obtain⟨h1,h2,h3,h4,h5⟩:=r1.own j d e;rw[if_neg hj];refine⟨h1,h2,h3,λk d' b hk ek a ha=>?_,h5⟩;by_cases hki:k=i
   .subst hki;rw[if_pos rfl];exact λhG=>apart j d true e a hG ha
   .rw[Zl (Ne.symm hki)]at ek;rw[if_neg hki];exact h4 k d' b hk ek a ha
 .by_cases hj:j=i
  .subst hj;rw[if_pos rfl]at ha;exact .inl (gs a ha).1
  .rw[Zl (Ne.symm hj)]at e;rw[if_neg hj]at ha;exact r1.src j d b e a ha
noncomputable def asg(i:Nat)(r:R)(U:En):En:=
 if r.norm.fr && decide r.norm.M.Nodup then(kill r.norm.M U).set i (some (r.d,true))else(QbG r.norm.M U).set i (some (r.d,r.d.flat))
def Rel.asg(r:Rel K H0 A0 hs U F σ H)(p:Qaa K U F H H' rr v G):∃F',Rel K H0 A0 hs (asg i rr U) F' (σ.set i (some v)) H':=by
 have p':=p.norm;unfold HS.asg;split
 .rename_i h;simp only[Zk,decide_eq_true_eq]at h;have:=r.QCh (i:=i) p' h.1 h.2;rw[rr.Qdm]at this;exact⟨_,this⟩
 .have r1:=(r.ext p'.same).weak (Qb8 rr.norm.M U);have rp:=p'.rp;rw[rr.Qdm]at rp;have sh:=Shr.of r p'.src;exact⟨_,r1.Qqu rp sh⟩
def Rel.hold(r:Rel K H0 A0 hs U F σ H)(h:∀t∈ts,Rp K H t.2.1 t.1 t.2.2/\Shr H0 A0 U F t.2.2):Rel K H0 A0 (ts++hs) U F σ H where
 len:=r.len
 val:=r.val
 own:=λi d e=>by
  obtain⟨h1,h2,h3,h4,h5⟩:=r.own i d e;refine⟨h1,h2,h3,h4,λt ht a ha hm=>?_⟩;rcases Zr.mp ht with z | z
  .exact((h t z).2 a hm).2 i d e ha
  .exact h5 t z a ha hm
 src:=r.src
 held:=λt ht=>by
  rcases Zr.mp ht with z | z
  .exact⟨(h t z).1,λa ha=>((h t z).2 a ha).1⟩
  .exact r.held t z
 same:=r.same
def Rel.QrU(r:Rel K H0 A0 (ts++hs) U F σ H):Rel K H0 A0 hs U F σ H where
 len:=r.len
 val:=r.val
 own:=λi d e=>let ⟨h1,h2,h3,h4,h5⟩:=r.own i d e;⟨h1,h2,h3,h4,λt ht=>h5 t (Zf _ ht)⟩
 src:=r.src
 held:=λt ht=>r.held t (Zf _ ht)
 same:=r.same
end
structure Ret (K:Fgg) (H0:Hp) (A0:LAd) (d:D) (fr:Bool) (v:V) (H':Hp) (G:LAd):Prop where
 same:QN H0 H'
 rp:Rp K H' d v G
 src:∀a∈G,H0 a=none∨a∈A0
 cnt:fr=true->G.Nodup/\G.length=d.nl/\∀a∈G,H0 a=none
noncomputable abbrev Den:=List D->Option (D×Bool)
noncomputable def spV(K:Fgg)(n:Nat)(den:Den):Sp:=λvs H Q _=>∃ds F d fr,Rps K H ds vs F/\ds.length=n/\den ds=some (d,fr)/\∀v H' G,Ret K H F d fr v H' G->Q v H'
def Qpn{K:Fgg}{n:Nat}{den:Den}{ps:List Str}(hn:ps.length=n):∀vs H Q E,spV K n den vs H Q E->vs.length=ps.length:=λvs H Q E ⟨ds,F,d,fr,r,hl,_⟩=>by rw[hn,← hl,r.length]
noncomputable def Qo(n:Nat)(den:Den)(dfl:List D)(fs:DA):DE:=λU=>(fs U).bind λr=>if r.ds.length+dfl.length=n then(den (r.ds++dfl)).map λq=>if q.2=true then⟨q.1,true,[]⟩else R.norm ⟨q.1,false,r.M⟩else none
section
variable {X:Cx}{e:Expr}{es:List Expr}{fs:DA}{pos p:Pos}{x:Str}{n k:Nat}{f:Addr}{fd:FuncData}{ps:List Str}{den:Den}{dfl:List D}{dvs:List V}{ds:List Value}
def Qmn{σ:L2.St}{H H0:Hp}{A0:LAd}{Q:VK}(hdf:∀H,Rps X.K H dfl dvs []):tV X.K H0 A0 (Qo n den dfl fs) σ H Q->QqA (spV X.K n den) dvs E0 (tVA X.K H0 A0 fs) σ H Q:=exK λU hs F r rel e q=>by
 refine Qg e λra e1 e=>?_;split at e
 .rename_i hl;obtain⟨⟨d,fr⟩,e2,e⟩:=Zh.mp e;refine⟨U,hs,F,ra,rel,e1,λvs H1 G p1=>⟨ra.ds++dfl,G++[],d,fr,p1.rp.append (hdf H1),by rw[Zn];exact hl,e2,λv H2 G2 rt=>?_⟩⟩;subst e;have src:Src U F H ra.M G2:=λa ha=>by
   rcases rt.src a ha with z | z
   .exact .inl (p1.same.free z)
   .rw[Zas]at z;exact p1.src a z
  split at q
  .rename_i hf;have hf:fr=true:=hf;obtain⟨nd,hn,fresh⟩:=rt.cnt hf;have hH:∀a∈G2,H a=none:=λa ha=>p1.same.free (fresh a ha);refine q v H2 G2 ⟨p1.same.trans rt.same,rt.rp,λa ha=> .inl (hH a ha),λ_=>⟨λa=>?_,hn⟩,Qbe.nil⟩;by_cases ha:a∈G2
   .rw[QaK (hH a ha)];have:=ZaL.mp nd a;lia
   .rw[ZX.mpr ha];exact ZF _
  .refine q v H2 G2 (Qaa.norm ⟨p1.same.trans rt.same,rt.rp,src,λz=>(by cases z),p1.own⟩)
 .cases e
def Qxw(Fk:QbL X.prog X.w X.K X.mg X.base CX0 k f fd ps (spV X.K n den))(hr:QaQ k X.A)(hg:Gl X x)(hm:X.mg x=some (.ref f))(hk:PySem.W.keepIn X.K (.ref f)=true)(hb:Binds X.K fd ps ds)(hd:Qz dvs ds)(hdf:∀H,Rps X.K H dfl dvs [])
  (ha:SA X (e::es) fs) (hdb:(x == ("__debug__" :Str))=false) (he:starEach (e::es) X.env=(false,eval e X.env)::starEach es X.env) (hpl:(backTo pos (starEach es X.env)).any (·.1)=false):
  SE X (.Call (.Name x p) (e::es) [] pos) (Qo n den dfl fs):=λH0 A0=>
 (Qwe Fk hr hg hm hk hb hd QvL (ha H0 A0) hdb he hpl).mono λσ H Q h=>Qmn hdf h
def Qua(Fk:QbL X.prog X.w X.K X.mg X.base CX0 k f fd ps (spV X.K n den))(hr:QaQ k X.A)(hg:Gl X x)(hm:X.mg x=some (.ref f))(hk:PySem.W.keepIn X.K (.ref f)=true)(hb:Binds X.K fd ps ds)(hd:Qz dvs ds)(hdf:∀H,Rps X.K H dfl dvs [])
  (hdb:(x == ("__debug__" :Str))=false):SE X (.Call (.Name x p) [] [] pos) (Qo n den dfl Qd):=λH0 A0=>
 (Qut Fk hr hg hm hk hb hd QvL hdb).mono λσ H Q h=>by
  have h':=Qmn hdf h;obtain⟨U,hs,F,r,rel,e,q⟩:=h';cases e;exact q [] H [] ⟨QN.refl _,by simp[Rps],Src.nil,λ_=>⟨Cnt.nil,rfl⟩,Qbe.nil⟩
end
structure IR where
 items:List D
 M:List Nat
noncomputable abbrev DI:=En->Option IR
def QkX(K:Fgg)(H:Hp)(ts:List (V×D×List Addr)):Prop:=∀t∈ts,Rp K H t.2.1 t.1 t.2.2
structure Walk (K:Fgg) (J:It) (ts:List (V×D×List Addr)) (ds:List D):Prop where
 stop:∀H,QkX K H ts->J.stop ds.length H
 go:∀i H,i<ds.length->QkX K H ts->J.go i H
 yld:∀(i:Nat) d H x H',ds[i]? =some d->QkX K H ts->J.yld i H x H'->QN H H'/\∃G,Rp K H' d x G/\∀a∈G,∃t∈ts,a∈t.2.2
noncomputable def tI(K:Fgg)(H0:Hp)(A0:LAd)(f:DI):TI:=λσ H Rr=>∃U hs F ir,Rel K H0 A0 hs U F σ H/\f U=some ir∧
 ∀J H1 ts,QN H H1->Walk K J ts ir.items->(∀t∈ts,Rp K H1 t.2.1 t.1 t.2.2/\Src U F H ir.M t.2.2)->Qbe U ir.M->ir.items.length<=sizeLine->Rr J H1
def SI(X:Cx)(tg e:Expr)(f:DI):Prop:=∀H0 A0,PI X tg e (tI X.K H0 A0 f)
def _root_.L2.PI.mono(h:PI X tg e t)(m:∀σ H Q,t' σ H Q->t σ H Q):PI X tg e t':=λpins s σ H Q I q=>h pins s σ H Q I (m σ H Q q)
section
variable {X:Cx}{tg a b:Expr}{fa fb:DE}{fs:DA}{pos p:Pos}
def Rps.nth{K:Fgg}{H:Hp}{ds:List D}{vs:List V}{F:LAd}{i:Nat}{d:D}(h:Rps K H ds vs F)(e:ds[i]? =some d):∃v G,vs[i]? =some v/\Rp K H d v G/\∀a∈G,a∈F:=by
 obtain⟨v,F1,G,F2,h1,h2,h3,_⟩:=h.get e;exact⟨v,G,h1,h3,λa ha=>by rw[h2];exact Zf _ (Zg _ ha)⟩
noncomputable def QBZ(K:Fgg)(tl:TE):TI:=λσ H Rr=>tl σ H λx H1=>(∃a,x= .ref a/\(∃xs,SqL K H1 a xs)/\Rr (Itl K a) H1)∨(∃a,x= .ref a/\(∃xs,SqT K H1 a xs)/\Rr (Itt K a) H1)
def QAe(hl:PE X l tl):PI X tg l (QBZ X.K tl):=by
 intro pins s σ H Rr I h;refine thn (hl pins s σ H _ I h) λv s1=>exJ λx H1 I1 r1 q1=>?_;rcases q1 with⟨a,e,⟨xs,hq⟩,q⟩ | ⟨a,e,⟨xs,hq⟩,q⟩
 .subst e;cases r1;obtain⟨its,rv,pl,hz⟩:=I1.list hq;refine wpAny_pyIter_list pl.isList ⟨s1.heap.objs.size,[s1.heap.objs.size],_,_,H1,rfl,I1.kept (t':=s1.toks) λb o e=>Zc _ e,Qsb a _,⟨_,ZD _ rfl,rfl,rfl⟩,λb hb=>?_,q⟩;have e:b=s1.heap.objs.size:=by simpa using hb
  subst e;exact I1.Qji (Zd _) (I1.hok.fresh (Zd _))
 .subst e;cases r1;obtain⟨its,rv,pl,hz⟩:=I1.tuple hq;refine wpAny_pyIter_tuple (show s1.heap.IsTuple a its.toArray from pl) ⟨s1.heap.objs.size,[s1.heap.objs.size],_,_,H1,rfl,I1.kept (t':=s1.toks) λb o e=>Zc _ e,Qrk a _,⟨_,ZD _ rfl,rfl,rfl⟩,λb hb=>?_,q⟩;have e:b=s1.heap.objs.size:=by simpa using hb
  subst e;exact I1.Qji (Zd _) (I1.hok.fresh (Zd _))
noncomputable def Qab(fa:DE):DI:=λU=>(fa U).bind λr=>match r.d with
 | .lst xs=>some ⟨xs,r.M⟩
 | .tup xs=>if xs.length<=sizeLine then some ⟨xs,r.M⟩else none
 | _=>none
def Qsx{K:Fgg}{c:Addr}{ds:List D}{G:LAd}:Walk K (Itl K c) [(.ref c,.lst ds,G)] ds where
 stop:=λH h=>by
  obtain⟨l,vs,L,e,hl,rl,zl,el⟩:=(h _ (Zo.mpr rfl)).lst_inv;cases e;exact⟨vs,QT hl,by rw[rl.length];exact Zd _⟩
 go:=λi H hi h=>by
  obtain⟨l,vs,L,e,hl,rl,zl,el⟩:=(h _ (Zo.mpr rfl)).lst_inv;cases e;have:i<vs.length:=by rw[← rl.length];exact hi
  exact⟨vs,vs[i],QT hl,by simp[this]⟩
 yld:=λi d H x H' e h y=>by
  obtain⟨l,vs,L,e1,hl,rl,zl,el⟩:=(h _ (Zo.mpr rfl)).lst_inv;cases e1;obtain⟨rfl,y⟩:=y;obtain⟨v,G',h1,h2,h3⟩:=rl.nth e;have:=y vs (QT hl);rw[h1]at this;cases this;refine⟨QN.refl _,G',h2,λz hz=>⟨_,Zo.mpr rfl,?_⟩⟩;have:=h3 z hz;rcases el with rfl | rfl
  .exact Zb _ this
  .exact this
def QvH{K:Fgg}{c:Addr}{ds:List D}{G:LAd}:Walk K (Itt K c) [(.ref c,.tup ds,G)] ds where
 stop:=λH h=>by
  obtain⟨l,vs,e,hl,rl⟩:=(h _ (Zo.mpr rfl)).QaP;cases e;exact⟨vs,hl,by rw[rl.length];exact Zd _⟩
 go:=λi H hi h=>by
  obtain⟨l,vs,e,hl,rl⟩:=(h _ (Zo.mpr rfl)).QaP;cases e;have:i<vs.length:=by rw[← rl.length];exact hi
  exact⟨vs,vs[i],hl,by simp[this]⟩
 yld:=λi d H x H' e h y=>by
  obtain⟨l,vs,e1,hl,rl⟩:=(h _ (Zo.mpr rfl)).QaP;cases e1;obtain⟨rfl,y⟩:=y;obtain⟨v,G',h1,h2,h3⟩:=rl.nth e;have:=y vs hl;rw[h1]at this;cases this;exact⟨QN.refl _,G',h2,λz hz=>⟨_,Zo.mpr rfl,h3 z hz⟩⟩
def Qyf(ha:SE X a fa):SI X tg a (Qab fa):=λH0 A0=>
 (QAe (ha H0 A0)).mono λσ H Rr=>exK λU hs F ir rel e q=>by
 refine Qg e λr e1 e=>?_;refine⟨U,hs,F,r,rel,e1,λv H1 G p=>?_⟩;have rp:=p.rp;cases hr:r.d with
 | lst xs=>
  rw[hr]at e rp;cases e;obtain⟨c,vs,L,rfl,hl,rl,zl,el⟩:=rp.lst_inv;refine .inl ⟨c,rfl,⟨vs,QT hl⟩,q _ H1 [(.ref c,.lst xs,G)] p.same Qsx (λt ht=>?_) p.own zl⟩;rw[Zo.mp ht];exact⟨rp,p.src⟩
 | tup xs=>
  rw[hr]at e rp;dsimp only at e;split at e
  .rename_i hz;cases e;obtain⟨c,vs,rfl,hl,rl⟩:=rp.QaP;refine .inr ⟨c,rfl,⟨vs,hl⟩,q _ H1 [(.ref c,.tup xs,G)] p.same QvH (λt ht=>?_) p.own hz⟩;rw[Zo.mp ht];exact⟨rp,p.src⟩
  .cases e
 | _=>rw[hr]at e;cases e
noncomputable def Qhw(lo:Int)(n:Nat):List D:=(List.range n).map λ(k:Nat)=> .int (lo+(k:Int))
def Qgy:(Qhw lo n).length=n:=by simp[Qhw]
def QtX(h:(Qhw lo n)[i]? =some d):i<n/\d= .int (lo+i):=by
 unfold Qhw at h;rw[Zp]at h;cases q:(List.range n)[i]? with
 | none=>rw[q]at h;cases h
 | some k=>
  rw[q]at h;obtain⟨h1,h2⟩:=Zi.mp q;simp at h1 h2;subst h2;exact⟨h1,(Option.some.inj h).symm⟩
def QjP:Walk K (Itr lo n) [] (Qhw lo n) where
 stop:=λH _=>by rw[Qgy];exact Zd _
 go:=λi H hi _=>by rw[Qgy]at hi;exact hi
 yld:=λi d H x H' e _ y=>by
  obtain⟨h1,rfl⟩:=QtX e;obtain⟨rfl,rfl⟩:=y;exact⟨QN.refl _,[],.int_mk,λz hz=>by simp at hz⟩
noncomputable def Qaz(fa:DE):DI:=λU=>(fa U).bind λr=>match r.d with
 | .int j=>if j<=16777216/\ -(2^62)<=j then some ⟨Qhw 0 j.toNat,[]⟩else none
 | _=>none
noncomputable def Qet(fa fb:DE):DI:=λU=>(fa U).bind λr=>(fb U).bind λr'=>match r.d,r'.d with
 | .int i,.int j=>if j-i<=16777216/\ -(2^62)<=i/\i<2^62/\ -(2^62)<=j/\j<2^62 then some ⟨Qhw i (j-i).toNat,[]⟩else none
 | _,_=>none
def Qle:(sizeLine:Nat)=16777216:=sizeLine_eq
def Qs1(hg:Gl X "range")(hm:X.mg "range" =none)(ha:SE X a fa)(hs:starEach [a] X.env=[(false,eval a X.env)]):SI X tg (.Call (.Name "range" p) [a] [] pos) (Qaz fa):=λH0 A0=>
 (QrJ hg hm (Qax (ha H0 A0) QcM hs) hs).mono λσ H Rr=>exK λU hs F ir rel e q=>by
  refine Qg e λr e1 e=>?_;refine⟨U,hs,F,r,rel,e1,λv H1 G pp=>?_⟩;have rp:=pp.rp;cases hr:r.d with
  | int j=>
   rw[hr]at e rp;dsimp only at e;split at e
   .rename_i hz;cases e;rw[rp.int_inv];refine⟨j,rfl,hz.2,⋯,q _ H1 [] pp.same QjP (λt ht=>by simp at ht) Qbe.nil ?_⟩;rw[Qgy,Qle];lia
   .cases e
  | _=>rw[hr]at e;cases e
def Qtd(hg:Gl X "range")(hm:X.mg "range" =none)(ha:SE X a fa)(hb:SE X b fb)(hs:starEach [a,b] X.env=[(false,eval a X.env),(false,eval b X.env)])(hs2:starEach [b] X.env=[(false,eval b X.env)]):
  SI X tg (.Call (.Name "range" p) [a,b] [] pos) (Qet fa fb):=λH0 A0=>
 (QrH hg hm (Qax (ha H0 A0) (Qax (hb H0 A0) QcM hs2) (by rw[hs,hs2])) hs hs2).mono λσ H Rr=>exK λU hs F ir rel e q=>by
  refine Qg e λr e1 e=>?_;refine Qg e λr' e2 e=>?_;refine⟨U,hs,F,r,rel,e1,λv H1 G pp=>⟨U,hs,F,r',rel.ext pp.same,e2,λv' H2 G' pp'=>?_⟩⟩;have rp:=pp.rp.same pp'.same;have rp':=pp'.rp;cases hr:r.d with
  | int i=>
   cases hr':r'.d with
   | int j=>
    rw[hr,hr']at e;rw[hr]at rp;rw[hr']at rp';dsimp only at e;split at e
    .rename_i hz;cases e;rw[rp.int_inv,rp'.int_inv];refine⟨i,j,rfl,hz.2,q _ H2 [] (pp.same.trans pp'.same) QjP (λt ht=>by simp at ht) Qbe.nil ?_⟩;rw[Qgy,Qle];lia
    .cases e
   | _=>rw[hr,hr']at e;cases e
  | _=>rw[hr]at e;cases e
noncomputable def Qeq(ds:List D):List D:=ds.zipIdx.map λq=> .tup [.int q.2,q.1]
def QhJ:(Qeq ds).length=ds.length:=by simp[Qeq]
def QsA{ds:List D}{i:Nat}{d:D}(h:(Qeq ds)[i]? =some d):∃e,ds[i]? =some e/\d= .tup [.int i,e]:=by
 unfold Qeq at h;rw[Zp,List.getElem?_zipIdx]at h;cases q:ds[i]? with
 | none=>rw[q]at h;cases h
 | some e=>rw[q]at h;simp at h;exact⟨e,rfl,h.symm⟩
def Qto{K:Fgg}{c:Addr}{ds:List D}{G:LAd}:Walk K (Ite K c) [(.ref c,.lst ds,G)] (Qeq ds) where
 stop:=λH h=>by
  obtain⟨l,vs,L,e,hl,rl,zl,el⟩:=(h _ (Zo.mpr rfl)).lst_inv;cases e;exact⟨vs,QT hl,by rw[QhJ,rl.length];exact Zd _⟩
 go:=λi H hi h=>by
  obtain⟨l,vs,L,e,hl,rl,zl,el⟩:=(h _ (Zo.mpr rfl)).lst_inv;cases e;rw[QhJ]at hi;have:i<vs.length:=by rw[← rl.length];exact hi
  exact⟨vs,vs[i],QT hl,by simp[this]⟩
 yld:=λi d H x H' e h y=>by
  obtain⟨l,vs,L,e1,hl,rl,zl,el⟩:=(h _ (Zo.mpr rfl)).lst_inv;cases e1;obtain⟨d',e',rfl⟩:=QsA e;obtain⟨pp,u,rfl,hp,rfl,y⟩:=y;obtain⟨v,G',h1,h2,h3⟩:=rl.nth e';have:=y vs (QT hl);rw[h1]at this;cases this;have s:=Qap (o:= .tup [.int i,u]) hp;refine⟨s,G',Rp.Qhs Q4 ?_,λz hz=>⟨_,Zo.mpr rfl,?_⟩⟩
  .simp only[Rps];exact⟨.int i,[u],[],G',rfl,rfl,.int_mk,u,[],G',[],rfl,⋯,h2.same s,rfl,rfl⟩
  .have:=h3 z hz;rcases el with rfl | rfl
   .exact Zb _ this
   .exact this
noncomputable def Qhx(fa:DE):DI:=λU=>(fa U).bind λr=>match r.d with
 | .lst xs=>some ⟨Qeq xs,r.M⟩
 | _=>none
def QxX(hg:Gl X "enumerate")(hm:X.mg "enumerate" =none)(ha:SE X a fa)(hs:starEach [a] X.env=[(false,eval a X.env)]):SI X (.Tuple es tk tpos) (.Call (.Name "enumerate" p) [a] [] pos) (Qhx fa):=λH0 A0=>
 (QxY hg hm (Qax (ha H0 A0) QcM hs) hs).mono λσ H Rr=>exK λU hs F ir rel e q=>by
  refine Qg e λr e1 e=>?_;refine⟨U,hs,F,r,rel,e1,λv H1 G pp=>?_⟩;have rp:=pp.rp;cases hr:r.d with
  | lst xs=>
   rw[hr]at e rp;cases e;obtain⟨c,vs,L,rfl,hl,rl,zl,el⟩:=rp.lst_inv;refine⟨c,rfl,⟨vs,QT hl⟩,q _ H1 [(.ref c,.lst xs,G)] pp.same Qto (λt ht=>?_) pp.own (by rw[QhJ];exact zl)⟩;rw[Zo.mp ht];exact⟨rp,pp.src⟩
  | _=>rw[hr]at e;cases e
noncomputable def Qhg(xs ys:List D):List D:=(xs.zip ys).map λq=> .tup [q.1,q.2]
def Qi8:(Qhg xs ys).length=min xs.length ys.length:=by simp[Qhg]
def QuU{xs ys:List D}{i:Nat}{d:D}(h:(Qhg xs ys)[i]? =some d):∃e f,xs[i]? =some e/\ys[i]? =some f/\d= .tup [e,f]:=by
 unfold Qhg at h;rw[Zp]at h;cases q:(xs.zip ys)[i]? with
 | none=>rw[q]at h;cases h
 | some e=>
  rw[q]at h;obtain⟨h1,h2⟩:=ZaG.mp q;exact⟨e.1,e.2,h1,h2,(Option.some.inj h).symm⟩
def Qu4{K:Fgg}{c c':Addr}{xs ys:List D}{G G':LAd}:Walk K (Itz K c c') [(.ref c,.lst xs,G),(.ref c',.lst ys,G')] (Qhg xs ys) where
 stop:=λH h=>by
  obtain⟨l,vs,L,e,hl,rl,zl,el⟩:=(h _ (Ze)).lst_inv;obtain⟨l',vs',L',e',hl',rl',zl',el'⟩:=(h _ (Zb _ Ze)).lst_inv;cases e;cases e';refine⟨vs,vs',QT hl,QT hl',?_⟩;rw[Qi8,← rl.length,← rl'.length];lia
 go:=λi H hi h=>by
  obtain⟨l,vs,L,e,hl,rl,zl,el⟩:=(h _ (Ze)).lst_inv;obtain⟨l',vs',L',e',hl',rl',zl',el'⟩:=(h _ (Zb _ Ze)).lst_inv;cases e;cases e';rw[Qi8]at hi;have h1:i<vs.length:=by rw[← rl.length];lia
  have h2:i<vs'.length:=by rw[← rl'.length];lia
  exact⟨vs,vs',vs[i],vs'[i],QT hl,QT hl',by simp[h1],by simp[h2]⟩
 yld:=λi d H x H' e h y=>by
  obtain⟨l,vs,L,e1,hl,rl,zl,el⟩:=(h _ (Ze)).lst_inv;obtain⟨l',vs',L',e1',hl',rl',zl',el'⟩:=(h _ (Zb _ Ze)).lst_inv;cases e1;cases e1';obtain⟨d1,d2,ea,eb,rfl⟩:=QuU e;obtain⟨pp,u,u',rfl,hp,rfl,y,y'⟩:=y;obtain⟨v,G1,h1,h2,h3⟩:=rl.nth ea;obtain⟨v',G2,h1',h2',h3'⟩:=rl'.nth eb;have:=y vs (QT hl);rw[h1]at this;cases this;have:=y' vs' (QT hl');rw[h1']at this;cases this;have s:=Qap (o:= .tup [u,u']) hp;refine⟨s,G1++G2,Rp.Qhs Q4 ?_,λz hz=>?_⟩
  .simp only[Rps];exact⟨u,[u'],G1,G2,rfl,rfl,h2.same s,u',[],G2,[],rfl,⋯,h2'.same s,rfl,rfl⟩
  .rcases Zr.mp hz with hz | hz
   .refine⟨_,Ze,?_⟩;have:=h3 z hz;rcases el with rfl | rfl
    .exact Zb _ this
    .exact this
   .refine⟨_,Zb _ Ze,?_⟩;have:=h3' z hz;rcases el' with rfl | rfl
    .exact Zb _ this
    .exact this
noncomputable def Qa2(fa fb:DE):DI:=λU=>(fa U).bind λr=>(fb U).bind λr'=>match r.d,r'.d with
 | .lst xs,.lst ys=>some ⟨Qhg xs ys,r.M++r'.M⟩
 | _,_=>none
def QyK(hg:Gl X "zip")(hm:X.mg "zip" =none)(ha:SE X a fa)(hb:SE X b fb)(hs:starEach [a,b] X.env=[(false,eval a X.env),(false,eval b X.env)])(hs2:starEach [b] X.env=[(false,eval b X.env)]):
  SI X (.Tuple es tk tpos) (.Call (.Name "zip" p) [a,b] [] pos) (Qa2 fa fb):=λH0 A0=>
 (Qyd hg hm (Qax (ha H0 A0) (Qax (hb H0 A0) QcM hs2) (by rw[hs,hs2])) hs hs2).mono λσ H Rr=>exK λU hs F ir rel e q=>by
  refine Qg e λr e1 e=>?_;refine Qg e λr' e2 e=>?_;refine⟨U,hs,F,r,rel,e1,λv H1 G pp=>⟨U,hs,F,r',rel.ext pp.same,e2,λv' H2 G' pp'=>?_⟩⟩;have rp:=pp.rp.same pp'.same;have rp':=pp'.rp;cases hr:r.d with
  | lst xs=>
   cases hr':r'.d with
   | lst ys=>
    rw[hr,hr']at e;rw[hr]at rp;rw[hr']at rp';cases e;obtain⟨c,vs,L,rfl,hl,rl,zl,el⟩:=rp.lst_inv;obtain⟨c',vs',L',rfl,hl',rl',zl',el'⟩:=rp'.lst_inv;refine⟨c,c',rfl,⟨vs,QT hl⟩,⟨vs',QT hl'⟩,q _ H2 [(.ref c,.lst xs,G),(.ref c',.lst ys,G')] (pp.same.trans pp'.same) Qu4 (λt ht=>?_) (pp.own.append pp'.own) (by rw[Qi8];lia)⟩;have sa:=pp.src.append pp'.src pp.same;rcases Zm.mp ht with rfl | ht
    .exact⟨rp,λz hz=>sa z (Zg _ hz)⟩
    .rw[Zo.mp ht];exact⟨rp',λz hz=>sa z (Zf _ hz)⟩
   | _=>rw[hr,hr']at e;cases e
  | _=>rw[hr]at e;cases e
end
end HS
namespace HS
open PySem L2
noncomputable def Qfk(xs ys zs:List D):List D:=(xs.zip (ys.zip zs)).map λq=> .tup [q.1,q.2.1,q.2.2]
def QsJ{xs ys zs:List D}{i:Nat}{d:D}(h:(Qfk xs ys zs)[i]? =some d):∃e f g,xs[i]? =some e/\ys[i]? =some f/\zs[i]? =some g/\d= .tup [e,f,g]:=by
 unfold Qfk at h;rw[Zp]at h;cases q:(xs.zip (ys.zip zs))[i]? with
 | none=>rw[q]at h;cases h
 | some e=>
  rw[q]at h;obtain⟨h1,h2⟩:=ZaG.mp q;obtain⟨h3,h4⟩:=ZaG.mp h2;exact⟨e.1,e.2.1,e.2.2,h1,h3,h4,(Option.some.inj h).symm⟩
def Qhl(h1:xs.length=ys.length)(h2:ys.length=zs.length):(Qfk xs ys zs).length=xs.length:=by
 simp[Qfk];lia
def Qs0{K:Fgg}{c c' c'':Addr}{xs ys zs:List D}{G G' G'':LAd}(n1:xs.length=ys.length)(n2:ys.length=zs.length):Walk K (QuD K c c' c'') [(.ref c,.lst xs,G),(.ref c',.lst ys,G'),(.ref c'',.lst zs,G'')] (Qfk xs ys zs):=by
 have inv:∀H,QkX K H [(.ref c,.lst xs,G),(.ref c',.lst ys,G'),(.ref c'',.lst zs,G'')]->(∃vs L,SqL K H c vs/\Rps K H xs vs L/\∀a∈L,a∈G)/\(∃vs L,SqL K H c' vs/\Rps K H ys vs L/\∀a∈L,a∈G')/\∃vs L,SqL K H c'' vs/\Rps K H zs vs L/\∀a∈L,a∈G'':=λH h=>by
  have one:∀{p:Addr}{ds:List D}{G:LAd},Rp K H (.lst ds) (.ref p) G->∃vs L,SqL K H p vs/\Rps K H ds vs L/\∀a∈L,a∈G:=λ{p ds G} r=>by
   obtain⟨l,vs,L,e,hl,rl,zl,el⟩:=r.lst_inv;cases e;refine⟨vs,L,QT hl,rl,λa ha=>?_⟩;rcases el with rfl | rfl
   .exact Zb _ ha
   .exact ha
  exact⟨one (h _ Ze),one (h _ (Zb _ Ze)),one (h _ (Zb _ (Zb _ Ze)))⟩
 refine⟨λH h=>?_,λi H hi h=>?_,λi d H x H' e h y=>?_⟩
 .obtain⟨⟨vs,L,hl,rl,el⟩,_⟩:=inv H h;exact⟨vs,hl,by rw[Qhl n1 n2,← rl.length];lia⟩
 .obtain⟨⟨vs,L,hl,rl,el⟩,⟨vs',L',hl',rl',el'⟩,⟨vs'',L'',hl'',rl'',el''⟩⟩:=inv H h;rw[Qhl n1 n2]at hi;have h1:i<vs.length:=by rw[← rl.length];lia
  have h2:i<vs'.length:=by rw[← rl'.length];lia
  have h3:i<vs''.length:=by rw[← rl''.length];lia
  exact⟨vs,vs',vs'',vs[i],vs'[i],vs''[i],hl,hl',hl'',by simp[h1],by simp[h2],by simp[h3]⟩
 .obtain⟨⟨vs,L,hl,rl,el⟩,⟨vs',L',hl',rl',el'⟩,⟨vs'',L'',hl'',rl'',el''⟩⟩:=inv H h;obtain⟨d1,d2,d3,ea,eb,ec,rfl⟩:=QsJ e;obtain⟨pp,u,u',u'',rfl,hp,rfl,y,y',y''⟩:=y;obtain⟨v,G1,h1,h2,h3⟩:=rl.nth ea;obtain⟨v',G2,h1',h2',h3'⟩:=rl'.nth eb;obtain⟨v'',G3,h1'',h2'',h3''⟩:=rl''.nth ec;have q:=y vs hl;rw[h1]at q;cases q;have q:=y' vs' hl';rw[h1']at q;cases q;have q:=y'' vs'' hl'';rw[h1'']at q;cases q;have s:=Qap (o:= .tup [u,u',u'']) hp;refine⟨s,G1++(G2++G3),Rp.Qhs Q4 ?_,λz hz=>?_⟩
  .simp only[Rps];exact⟨u,[u',u''],G1,G2++G3,rfl,rfl,h2.same s,u',[u''],G2,G3,rfl,rfl,h2'.same s,u'',[],G3,[],rfl,⋯,h2''.same s,rfl,rfl⟩
  .rcases Zr.mp hz with hz | hz
   .exact⟨_,Ze,el _ (h3 z hz)⟩
   .rcases Zr.mp hz with hz | hz
    .exact⟨_,Zb _ Ze,el' _ (h3' z hz)⟩
    .exact⟨_,Zb _ (Zb _ Ze),el'' _ (h3'' z hz)⟩
noncomputable def Qgj(fa fb fc:DE):DI:=λU=>(fa U).bind λr=>(fb U).bind λr'=>(fc U).bind λr''=>match r.d,r'.d,r''.d with
 | .lst xs,.lst ys,.lst zs=>if xs.length=ys.length/\ys.length=zs.length then some ⟨Qfk xs ys zs,r.M++(r'.M++r''.M)⟩else none
 | _,_,_=>none
section
def QwR(hg:Gl X "zip")(hm:X.mg "zip" =none)(ha:SE X a fa)(hb:SE X b fb)(hc:SE X c fc)(hs:starEach [a,b,c] X.env=(false,eval a X.env)::starEach [b,c] X.env)(hs2:starEach [b,c] X.env=(false,eval b X.env)::starEach [c] X.env)(hs3:starEach [c] X.env=[(false,eval c X.env)]):
  SI X (.Tuple es tk tpos) (.Call (.Name "zip" p) [a,b,c] [] pos) (Qgj fa fb fc):=λH0 A0=>
 (QxA hg hm (Qax (ha H0 A0) (Qax (hb H0 A0) (Qax (hc H0 A0) QcM hs3) hs2) hs) hs (by rw[hs2,hs3];rfl)).mono λσ H Rr=>exK λU hs F ir rel e q=>by
  refine Qg e λr e1 e=>?_;refine Qg e λr' e2 e=>?_;refine Qg e λr'' e3 e=>?_;refine⟨U,hs,F,r,rel,e1,λv H1 G pp=>⟨U,hs,F,r',rel.ext pp.same,e2,λv' H2 G' pp'=>⟨U,hs,F,r'',(rel.ext pp.same).ext pp'.same,e3,λv'' H3 G'' pp''=>?_⟩⟩⟩;have rp:=(pp.rp.same pp'.same).same pp''.same;have rp':=pp'.rp.same pp''.same;have rp'':=pp''.rp;cases hr:r.d with
  | lst xs=>
   cases hr':r'.d with
   | lst ys=>
    cases hr'':r''.d with
    | lst zs=>
     rw[hr,hr',hr'']at e;rw[hr]at rp;rw[hr']at rp';rw[hr'']at rp'';dsimp only at e;split at e
     .rename_i hn;cases e;obtain⟨c1,vs,L,rfl,hl,rl,zl,el⟩:=rp.lst_inv;obtain⟨c2,vs',L',rfl,hl',rl',zl',el'⟩:=rp'.lst_inv;obtain⟨c3,vs'',L'',rfl,hl'',rl'',zl'',el''⟩:=rp''.lst_inv;refine⟨c1,c2,c3,rfl,⟨vs,QT hl⟩,⟨vs',QT hl'⟩,⟨vs'',QT hl''⟩,q _ H3 [(.ref c1,.lst xs,G),(.ref c2,.lst ys,G'),(.ref c3,.lst zs,G'')] ((pp.same.trans pp'.same).trans pp''.same) (Qs0 hn.1 hn.2) (λt ht=>?_) (pp.own.append (pp'.own.append pp''.own)) (by rw[Qhl hn.1 hn.2];exact zl)⟩;have sb:=pp'.src.append pp''.src pp'.same;have sa:=pp.src.append sb pp.same;rcases Zm.mp ht with rfl | ht
      .exact⟨rp,λz hz=>sa z (Zg _ hz)⟩
      .rcases Zm.mp ht with rfl | ht
       .exact⟨rp',λz hz=>sa z (Zf _ (Zg _ hz))⟩
       .rw[Zo.mp ht];exact⟨rp'',λz hz=>sa z (Zf _ (Zf _ hz))⟩
     .cases e
    | _=>rw[hr,hr',hr'']at e;cases e
   | _=>rw[hr,hr']at e;cases e
  | _=>rw[hr]at e;cases e
end
end HS
namespace HS
open PySem PySem.Spec L2
inductive Tg where
 | nm (i:Nat)
 | tp (is:List Nat)
noncomputable def Tg.slots:Tg->List Nat
 | .nm i=>[i]
 | .tp is=>is
noncomputable def Qdn:List Nat->List D->En->En
 | i::is,d::ds,U=>Qdn is ds (U.set i (some (d,d.flat)))
 | _,_,U=>U
noncomputable def QbY:Tg->D->En->Option En
 | .nm i,d,U=>some (U.set i (some (d,d.flat)))
 | .tp is,.tup xs,U=>if xs.length=is.length then some (Qdn is xs U)else none
 | .tp is,.lst xs,U=>if xs.length=is.length then some (Qdn is xs U)else none
 | .tp _,_,_=>none
noncomputable def tG(K:Fgg)(H0:Hp)(A0:LAd)(t:Tg):TG:=λv σ H Q=>∃U hs F d G U',Rel K H0 A0 hs U F σ H/\Rp K H d v G/\Shr H0 A0 U F G/\QbY t d U=some U'∧
 ∀σ' F',Rel K H0 A0 hs U' F' σ' H->(∀j,j∉t.slots->σ'[j]? =σ[j]?)->(∀j a,a∈F' j->a∈F j∨a∈G)->Q σ' H
def SG(X:Cx)(tg:Expr)(t:Tg):Prop:=∀H0 A0,PG X tg (tG X.K H0 A0 t)
def _root_.L2.PG.mono{X:Cx}{tg:Expr}{t t':TG}(h:PG X tg t)(m:∀v σ H Q,t' v σ H Q->t v σ H Q):PG X tg t':=λpins s σ H v u Q I r q=>h pins s σ H v u Q I r (m v σ H Q q)
noncomputable def Qj4:List Nat->TGs
 | []=>QyH
 | i::is=>QvQ (Qil i) (Qj4 is)
def Shr.set{H0:Hp}{A0:LAd}{U:En}{F:Nat->List Addr}{G G1:LAd}{i:Nat}{d:D}(h:Shr H0 A0 U F G)(hf:d.flat=true->G1=[]):Shr H0 A0 (U.set i (some (d,d.flat))) (λj=>if j=i then G1 else F j) G:=λa ha=>by
 refine⟨(h a ha).1,λj d' e=>?_⟩;by_cases hj:j=i
 .subst hj;show ¬a∈(if j=j then G1 else F j);rw[if_pos rfl];have hl:j<U.length:=by
   by_cases hl:j<U.length
   .exact hl
   .rw[Zs (by simp;lia)]at e;cases e
  rw[Zx hl]at e;have e1:=Option.some.inj (Option.some.inj e);rw[hf (congrArg Prod.snd e1)];simp
 .rw[Zl (Ne.symm hj)]at e;show ¬a∈(if j=i then G1 else F j);rw[if_neg hj];exact(h a ha).2 j d' e
def QiZ{K:Fgg}{H0:Hp}{A0:LAd}{hs:List (V×D×List Addr)}:∀(is:List Nat) (ds:List D) (vs:List V) (U:En) (F:Nat->List Addr) (σ:L2.St) (H:Hp) (G:LAd) (Q:L2.St->Hp->Prop),
  Rel K H0 A0 hs U F σ H->Rps K H ds vs G->Shr H0 A0 U F G->ds.length=is.length→
  (∀σ' F',Rel K H0 A0 hs (Qdn is ds U) F' σ' H->(∀j,j∉is->σ'[j]? =σ[j]?)->(∀j a,a∈F' j->a∈F j∨a∈G)->Q σ' H)->Qj4 is vs σ H Q
 | [],ds,vs,U,F,σ,H,G,Q,rel,rp,sh,hl,q=>by
  have:ds=[]:=by simpa using hl
  subst this;simp only[Rps]at rp;exact⟨rp.1,q σ F rel (λ_ _=>rfl) λ_ _ h=> .inl h⟩
 | i::is,[],vs,U,F,σ,H,G,Q,rel,rp,sh,hl,q=>by simp at hl
 | i::is,d::ds,vs,U,F,σ,H,G,Q,rel,rp,sh,hl,q=>by
  simp only[Rps]at rp;obtain⟨v,ws,G1,G2,rfl,rfl,r1,r2⟩:=rp;refine⟨v,ws,rfl,?_⟩;have sh1:Shr H0 A0 U F G1:=λa ha=>sh a (Zg _ ha);have sh2:Shr H0 A0 U F G2:=λa ha=>sh a (Zf _ ha);refine QiZ is ds ws _ _ _ H G2 Q (rel.Qqu r1 sh1) r2 (sh2.set r1.QbW) (by simpa using hl) λσ' F' rel' k m=>q σ' F' rel' (λj hj=>?_) λj a ha=>?_
  .have h1:j≠i:=λz=>hj (by rw[z];exact Ze);rw[k j λz=>hj (Zb _ z),Zl (Ne.symm h1)]
  .rcases m j a ha with z | z
   .by_cases hj:j=i
    .rw[if_pos hj]at z;exact .inr (Zg _ z)
    .rw[if_neg hj]at z;exact .inl z
   .exact .inr (Zf _ z)
section
variable {X:Cx}{tg:Expr}{pos:Pos}
def Qxe{i:Nat}{x:Str}(h:PG X (.Name x pos) (Qil i)):SG X (.Name x pos) (.nm i):=λH0 A0=>h.mono λv σ H Q Z=>by
 obtain⟨U,hs,F,d,G,U',rel,rp,sh,e,q⟩:=Z;cases e;refine q _ _ (rel.Qqu rp sh) (λj hj=>?_) λj a ha=>?_
 .have:j≠i:=λz=>hj (by simp[Tg.slots,z]);rw[Zl (Ne.symm this)]
 .by_cases hj:j=i
  .rw[if_pos hj]at ha;exact .inr ha
  .rw[if_neg hj]at ha;exact .inl ha
def Qxk{es:List Expr}{k:Nat}{t:TGs}{n:Nat}(hc:X.calm=true)(h:PGs X es t)
  (hn:(assignEach es X.env).length=n) (hst:(assignEach es X.env).findIdx? (·.1)=none):PG X (.Tuple es k pos) (λv σ H Q=>∃a xs,v= .ref a/\SqL X.K H a xs/\xs.length=n/\t xs σ H Q):=by
 intro pins s σ H v u Q I r hw;obtain⟨a,xs,e1,hq,hl,hw⟩:=hw;subst e1;cases r;obtain⟨its,rv,ht,hz⟩:=I.list hq;rw[PyProof.Rows.assign_Tuple];refine wpAny_bind (wpAny_standAt ?_);unfold unpack;rw[hn,hst,show n=its.toArray.size by simp[← hl,rv.length]];refine wpAny_bind (wpAny_holding (PySem.W.kun_itemsOf (I.ok.hd hc) ht.isList λh' hx=>?_));have I1:Inv X pins σ H {s with heap:=h'}:=I.kept (t':=s.toks) λb o e=>hx b o (ZJ (Zt e)) e;exact h pins _ σ H xs _ Q I1 (by simpa using rv) hw
def QzJ{es:List Expr}{k:Nat}{is:List Nat}(hc:X.calm=true)(h:PGs X es (Qj4 is))(hn:(assignEach es X.env).length=is.length)(hst:(assignEach es X.env).findIdx? (·.1)=none):SG X (.Tuple es k pos) (.tp is):=λH0 A0=>
 λpins s σ H v u Q I r Z=>by
  obtain⟨U,hs,F,d,G,U',rel,rp,sh,e,q⟩:=Z;cases d with
  | tup xs=>
   simp only[QbY]at e;split at e
   .rename_i hl;cases e;obtain⟨a,vs,rfl,hq,rs⟩:=rp.QaP;exact QzR hc h hn hst pins s σ H _ u Q I r ⟨a,vs,rfl,hq,by rw[← rs.length];exact hl,QiZ is xs vs U F σ H G Q rel rs sh hl q⟩
   .cases e
  | lst xs=>
   simp only[QbY]at e;split at e
   .rename_i hl;cases e;obtain⟨a,vs,L,rfl,hq,rs,_,eG⟩:=rp.lst_inv;have sub:∀b∈L,b∈G:=λb hb=>by
     rcases eG with rfl | rfl
     .exact Zb _ hb
     .exact hb
    exact Qxk hc h hn hst pins s σ H _ u Q I r ⟨a,vs,rfl,QT hq,by rw[← rs.length];exact hl,QiZ is xs vs U F σ H L Q rel rs (λb hb=>sh b (sub b hb)) hl λσ' F' rel' k m=>q σ' F' rel' k λj b hb=>(m j b hb).imp id (sub b)⟩
   .cases e
  | _=>simp only[QbY]at e;cases e
end
noncomputable def Qep(cap:List (Option Nat))(U:En):En:=cap.map λo=>o.bind λi=>match U[i]? with
 | some (some (d,_))=>some (d,d.flat)
 | _=>none
noncomputable def Qrd(cap:List (Option Nat))(U:En):List Nat:=cap.filterMap λo=>o.bind λi=>match U[i]? with
 | some (some (d,b))=>if b && !d.flat then some i else none
 | _=>none
noncomputable def Qfl(t:Tg)(ft:DT)(fe:DE)(Uc:En)(acc:List D×Bool)(d:D):Option (List D×Bool):=
 (QbY t d Uc).bind λU1=>(ft U1).bind λc=>if c=true then(fe U1).map λr=>(acc.1++[r.d],acc.2 && r.norm.fr)else some acc
noncomputable def QL(fi:DI)(t:Tg)(cap:List (Option Nat))(ft:DT)(fe:DE):DE:=λU=>(fi U).bind λir=>
 (ir.items.foldlM (Qfl t ft fe (Qep cap U)) ([],true)).map λq=>if q.2=true then⟨.lst q.1,true,[]⟩else⟨.lst q.1,false,ir.M++Qrd cap U⟩
def Qcw(U:En):Prop:=∀(j:Nat) d,U[j]? =some (some (d,true))->d.flat=true
def Qcw.set{U:En}(h:Qcw U)(i:Nat)(d:D):Qcw (U.set i (some (d,d.flat))):=λj d' e=>by
 by_cases hj:j=i
 .subst hj;have hl:j<U.length:=by
   by_cases hl:j<U.length
   .exact hl
   .rw[Zs (by simp;lia)]at e;cases e
  rw[Zx hl]at e;have e1:=Option.some.inj (Option.some.inj e);have h1:d=d':=congrArg Prod.fst e1;have h2:d.flat=true:=congrArg Prod.snd e1;rw[← h1];exact h2
 .rw[Zl (Ne.symm hj)]at e;exact h j d' e
def Qcw.Qdn:∀(is:List Nat) (ds:List D) {U:En},Qcw U->Qcw (Qdn is ds U)
 | [],_,_,h=>h
 | _::_,[],_,h=>h
 | i::is,d::ds,_,h=>Qcw.Qdn is ds (h.set i d)
def Qcw.bind{t:Tg}{d:D}{U U':En}(h:Qcw U)(e:QbY t d U=some U'):Qcw U':=by
 cases t with
 | nm i=>cases e;exact h.set i d
 | tp is=>
  cases d with
  | tup xs=>
   simp only[QbY]at e;split at e
   .cases e;exact h.Qdn is xs
   .cases e
  | lst xs=>
   simp only[QbY]at e;split at e
   .cases e;exact h.Qdn is xs
   .cases e
  | _=>simp only[QbY]at e;cases e
def QjC(cap:List (Option Nat))(U:En):Qcw (Qep cap U):=λj d e=>by
 unfold Qep at e;rw[Zp]at e;cases q:cap[j]? with
 | none=>rw[q]at e;cases e
 | some o=>
  rw[q]at e;cases o with
  | none=>cases e
  | some i=>
   simp only[Zai,Za,Option.some.injEq]at e;split at e
   .have e1:=Option.some.inj e;have h1:=congrArg Prod.fst e1;have h2:=congrArg Prod.snd e1;dsimp only at h1 h2;rw[← h1];exact h2
   .cases e
def Qmo{cap:List (Option Nat)}{U:En}{j:Nat}{d:D}{b:Bool}(e:(Qep cap U)[j]? =some (some (d,b))):∃i b',cap[j]? =some (some i)/\U[i]? =some (some (d,b')):=by
 unfold Qep at e;rw[Zp]at e;cases q:cap[j]? with
 | none=>rw[q]at e;cases e
 | some o=>
  rw[q]at e;cases o with
  | none=>cases e
  | some i=>
   simp only[Zai,Za,Option.some.injEq]at e;split at e
   .rename_i d' b' hi;have e1:=Option.some.inj e;have h1:d'=d:=congrArg Prod.fst e1;subst h1;exact⟨i,b',rfl,hi⟩
   .cases e
def Qou(X:Cx)(ifs:List Expr)(f:DT):Prop:=∀H0 A0,PTs X ifs (tVT X.K H0 A0 f)
noncomputable def QW:DT:=λ_=>some true
def Qvq{X:Cx}:Qou X [] QW:=λH0 A0 pins s σ H Q I=>exK λU hs F b rel e q=>by
 cases e;exact Qwn pins s σ H Q I (q H (QN.refl _))
def QtO{X:Cx}{c:Expr}{f:DT}(h:ST X c f):Qou X [c] f:=λH0 A0=>Qws (h H0 A0)
structure QmC (X:Cx) (N':List Str) (scope:Scope) (cap:List (Option Nat)) (tgs:List Nat):Prop where
 len:cap.length=N'.length
 get:∀(j i:Nat),cap[j]? =some (some i)->∃x,N'[j]? =some x/\scope.names.lookup x=some .free/\X.N[i]? =some x/\(X.env.kindOf x=some .cell∨X.env.kindOf x=some .free)
 apart:∀(j i:Nat),cap[j]? =some (some i)->j∉tgs
def join_some{α:Type}{o:Option (Option α)}{v:α}(h:o.join=some v):o=some (some v):=by
 cases o with
 | none=>cases h
 | some p=>cases p with
  | none=>cases h
  | some x=>exact h▸rfl
def Ql6{X:Cx}{N':List Str}{scope:Scope}{fi:DI}{t:Tg}{cap:List (Option Nat)}{ft:DT}{fe:DE}{H0:Hp}{A0:LAd}{σ:L2.St}{H:Hp}{Q:VK}(hc:QmC X N' scope cap t.slots):
  tV X.K H0 A0 (QL fi t cap ft fe) σ H Q->Qmz (tI X.K H0 A0 fi) (QkF X N' scope) (tG X.K (λ_=>none) [] t) (tVT X.K (λ_=>none) [] ft) (tV X.K (λ_=>none) [] fe) σ H Q:=exK λU hs F r rel e q=>by
 refine Qg e λir e1 e=>?_;obtain⟨⟨xs,f⟩,ef,e⟩:=Zh.mp e;subst e;refine⟨U,hs,F,ir,rel,e1,λJ H1 ts s1 wk hts ow hz=>?_⟩;refine⟨cap.map λo=>o.bind λi=>σ[i]?.join,⟨by simp[hc.len],λj x v hN hv=>?_⟩,λDl hD=>?_⟩
 .rw[Zp]at hv;cases qc:cap[j]? with
  | none=>rw[qc]at hv;cases hv
  | some o=>
   rw[qc]at hv;cases o with
   | none=>cases hv
   | some i=>
    simp only[Zai,Za,Option.some.injEq]at hv;obtain⟨y,h1,h2,h3,h4⟩:=hc.get j i qc;rw[hN]at h1;cases h1;exact⟨h2,i,h3,join_some hv,h4⟩
 generalize hσc:(cap.map λo=>o.bind λi=>σ[i]?.join)=σc;generalize hUc:Qep cap U=Uc at ef
 have hF0:∃Fc:Nat->List Addr,Fc=λj=>match cap[j]? with
  | some (some i)=>(match U[i]? with
   | some (some _)=>F i
   | _=>[])
  | _=>[]:=⟨_,rfl⟩
 obtain⟨Fc,hFc⟩:=hF0;have rel1:=rel.ext s1;have relC:∀H2,QN H1 H2->Rel X.K (λ_=>none) [] [] Uc Fc σc H2:=λH2 s2=>by
  refine⟨by rw[← hUc,← hσc];simp[Qep],λj d b e=>?_,λj d e=>?_,λj d b e a ha=> .inl rfl,λt ht=>(by simp at ht),λb o z=>(by cases z)⟩
  .rw[← hUc]at e;obtain⟨i,b',h1,h2⟩:=Qmo e;obtain⟨v,h3,h4⟩:=(rel1.ext s2).val i d b' h2;refine⟨v,?_,?_⟩
   .rw[← hσc,Zp,h1];simp only[Zai,Za,h3,Option.join_some]
   .rw[hFc];simp only[h1,h2];exact h4
  .have hf:d.flat=true:=QjC cap U j d (by rw[hUc];exact e);have:Fc j=[]:=by
    rw[← hUc]at e;obtain⟨i,b',h1,h2⟩:=Qmo e;obtain⟨v,h3,h4⟩:=rel1.val i d b' h2;rw[hFc];simp only[h1,h2];exact h4.QbW hf
   rw[this];exact⟨(QdK d hf).symm,ZaJ,λa ha=>(by simp at ha),λ_ _ _ _ _ a ha=>(by simp at ha),λt ht=>(by simp at ht)⟩
 have shC:∀G,Shr (λ_=>none) [] Uc Fc G:=λG a ha=>⟨.inl rfl,λj d e hj=>by
  have h0:=(relC H1 (QN.refl _)).own j d e;have hf:d.flat=true:=QjC cap U j d (by rw[hUc];exact e);have:(Fc j).length=0:=by rw[h0.1,QdK d hf]
  rw[ZV this]at hj;simp at hj⟩
 have hSh:Qcw Uc:=by rw[← hUc];exact QjC cap U
 have heldOf:∀H2,QN H1 H2->QkX X.K H2 ts:=λH2 s2 t ht=>(hts t ht).1.same s2;have oldOf:∀a,((∃t∈ts,a∈t.2.2)∨∃j,a∈Fc j)->(∃u,H1 a=some u)/\(H a=none∨∃(i:Nat) (d:D) (b:Bool),U[i]? =some (some (d,b))/\a∈F i/\(b=true->i∈ir.M++Qrd cap U)):=λa ha=>by
  rcases ha with⟨t,ht,ha⟩ | ⟨j,ha⟩
  .refine⟨(hts t ht).1.mem a ha,?_⟩;rcases(hts t ht).2 a ha with z | ⟨i,d,b,e,m,w⟩
   .exact .inl z
   .exact .inr ⟨i,d,b,e,m,λhb=>Zg _ (w hb)⟩
  .have ha0:=ha;rw[hFc]at ha;dsimp only at ha;split at ha
   .rename_i i hi;split at ha
    .rename_i db hdb;obtain⟨d,b⟩:=db;obtain⟨v,h3,h4⟩:=rel1.val i d b hdb;refine⟨h4.mem a ha,.inr ⟨i,d,b,hdb,ha,λhb=>Zf _ ?_⟩⟩;unfold Qrd;refine Zbh.mpr ⟨some i,Zao hi,?_⟩;simp only[Za,hdb];have hnf:d.flat=false:=by
      cases hf:d.flat with
      | false=>rfl
      | true=>rw[h4.QbW hf]at ha;simp at ha
     rw[hb,hnf];rfl
    .simp at ha
   .simp at ha
 have fresh5:∀H2,QN H1 H2->∀a,H2 a=none->H1 a=none:=λH2 s2 a h=>s2.free h
 refine⟨λi m acc H2=>m=ir.items.length-i/\i<=ir.items.length/\QN H1 H2/\H2 Dl=some (.lst acc)/\∃(ys:List D) (g:Bool) (G:LAd),(ir.items.drop i).foldlM (Qfl t ft fe Uc) (ys,g)=some (xs,f)/\Rps X.K H2 ys acc G/\ys.length<=i∧
  (∀a∈G,a≠Dl/\(H1 a=none∨(∃t∈ts,a∈t.2.2)∨∃j,a∈Fc j))/\(g=true->G.length=nls ys/\∀a,G.count a<=nw H1 a),⟨ir.items.length,rfl,ZF _,Qap hD,Q4,[],true,[],by simpa using ef,by simp[Rps],Zd _,λa ha=>(by simp at ha),λ_=>⟨rfl,λa=>⋯⟩⟩,?_⟩
 rintro i m acc H2 ⟨rfl,hi,s2,eD,ys,g,G,hfold,rps,hlen,hG,hcnt⟩;by_cases hlt:i<ir.items.length
 .refine .inr ⟨wk.go i H2 hlt (heldOf H2 s2),λx H3 hy=>?_⟩;obtain⟨s3,G0,rp0,hG0⟩:=wk.yld i ir.items[i] H2 x H3 (by simp[hlt]) (heldOf H2 s2) hy;rw[Zaf hlt,Zck]at hfold;refine Qg hfold λacc1 hstep hrest=>?_;unfold Qfl at hstep;refine Qg hstep λU1 eb hstep=>?_;refine Qg hstep λc ec hstep=>?_;have sh1:Qcw U1:=hSh.bind eb;refine⟨Uc,[],Fc,ir.items[i],G0,U1,relC H3 (s2.trans s3),rp0,shC G0,eb,λσ2 F2 rel2 keep mem2=>⟨λj v hv=>?_,U1,[],F2,c,rel2,ec,λH5 s5=>?_⟩⟩
  .have hj:j∉t.slots:=λhj=>by
    rw[← hσc,Zp]at hv;cases qc:cap[j]? with
    | none=>rw[qc]at hv;cases hv
    | some o=>
     cases o with
     | none=>rw[qc]at hv;cases hv
     | some k=>exact hc.apart j k qc hj
   rw[keep j hj];exact hv
  have s15:QN H1 H5:=(s2.trans s3).trans s5;have eD5:H5 Dl=some (.lst acc):=s5 _ _ (s3 _ _ eD);cases c with
  | false=>
   rw[if_neg Zac]at hstep;refine QqQ ?_;cases hstep;exact⟨_,⋯,rfl,hlt,s15,eD5,ys,g,G,hrest,rps.same (s3.trans s5),⋯,hG,hcnt⟩
  | true=>
   rw[if_pos rfl]at hstep;refine Qrb ?_;obtain⟨rr,er,hstep⟩:=Zh.mp hstep;subst hstep;refine⟨U1,[],F2,rr,rel2.ext s5,er,λy H6 Ge pe=>?_⟩;have eD6:H6 Dl=some (.lst acc):=pe.same _ _ eD5;have s16:=s15.trans pe.same;refine⟨eD6,?_,_,⋯,rfl,hlt,?_⟩
   .rw[← rps.length];exact ZaS hlen (Zu hlt hz)
   have hGe:∀a∈Ge,a≠Dl/\(H1 a=none∨(∃t∈ts,a∈t.2.2)∨∃j,a∈Fc j):=λa ha=>by
    rcases pe.src a ha with z | ⟨j,d,b,ej,hj,_⟩
    .exact⟨λw=>(by rw[w,eD5]at z;cases z),.inl (s15.free z)⟩
    .have h1:(∃t∈ts,a∈t.2.2)∨∃j,a∈Fc j:=by
      rcases mem2 j a hj with w | w
      .exact .inr ⟨j,w⟩
      .exact .inl (hG0 a w)
     obtain⟨⟨vs,w⟩,_⟩:=oldOf a h1;exact⟨λw'=>(by rw[w',hD]at w;cases w),.inr h1⟩
   have nD:Dl∉G:=λh=>(hG _ h).1 rfl;have nDe:Dl∉Ge:=λh=>(hGe _ h).1 rfl;have sU:QN H1 (L2.upd H6 Dl (.lst (acc++[y]))):=λb o hb=>by rw[QA (Qbp hb hD)];exact s16 b o hb
   refine⟨sU,Q4,ys++[rr.d],g && rr.norm.fr,G++Ge,hrest,?_,by rw[Zn,ZbH];lia,λa ha=>?_,λhg=>?_⟩
   .refine Rps.append ((rps.same ((s3.trans s5).trans pe.same)).upd eD6 nD) ?_;simp only[Rps];exact⟨y,[],Ge,[],rfl,⋯,pe.rp.upd eD6 nDe,rfl,rfl⟩
   .rcases Zr.mp ha with h | h
    .exact hG a h
    .exact hGe a h
   .simp only[Zk]at hg;obtain⟨l1,c1⟩:=hcnt hg.1;have pn:=pe.norm;obtain⟨c2,l2⟩:=pn.cnt hg.2;rw[rr.Qdm]at l2;have nlapp:∀(as bs:List D),nls (as++bs)=nls as+nls bs:=λas bs=>by
     induction as with
     | nil=>simp[nls]
     | cons a as ih=>simp only[Zcj,nls,ih];lia
    refine⟨by rw[Zn,l1,l2,nlapp];simp[nls],λa=>?_⟩;have fl:((rr.norm.M.map F2).flatten).count a=0:=by
     rw[ZX];intro hm;obtain⟨l,hl,hal⟩:=ZbK.mp hm;obtain⟨j,hj,rfl⟩:=ZK.mp hl;obtain⟨d,ej⟩:=pn.own j hj;have hf:=sh1 j d ej;obtain⟨v,_,rv⟩:=rel2.val j d true ej;rw[rv.QbW hf]at hal;simp at hal
    have h1:=c1 a;have h2:=c2 a;rw[fl]at h2;rw[Zaz];cases q5:H5 a with
    | some o=>rw[Qdz q5]at h2;lia
    | none=>
     rw[QaK q5]at h2;have h0:G.count a=0:=ZX.mpr λhm=>by
      obtain⟨vs,w⟩:=rps.mem a hm;rw[s5 _ _ (s3 _ _ w)]at q5;cases q5
     rw[QaK (s15.free q5)];lia
 .have hn:i=ir.items.length:= ⋯
  subst hn;refine .inl ⟨wk.stop H2 (heldOf H2 s2),?_⟩;rw[List.drop_length]at hfold;have:(ys,g)=(xs,f):=Option.some.inj hfold;cases this;have rp:Rp X.K H2 (.lst xs) (.ref Dl) (Dl::G):=Rp.QdX eD rps (Zw hlen hz);have hHD:H Dl=none:=s1.free hD;split at q
  .rename_i hg;have hg:f=true:=hg;obtain⟨l1,c1⟩:=hcnt hg;have hn:∀a∈G,H1 a=none:=λa ha=>by
    have:=c1 a;have h2:0<G.count a:=ZaH.mpr ha;cases w:H1 a with
    | none=>rfl
    | some o=>rw[Qdz w]at this;lia
   refine q _ H2 (Dl::G) ⟨s1.trans s2,rp,λa ha=>?_,λ_=>⟨λa=>?_,by simp only[D.nl,ZI,l1]⟩,Qbe.nil⟩
   .rcases Zm.mp ha with rfl | h
    .exact .inl hHD
    .exact .inl (s1.free (hn a h))
   .rw[ZaN];have h1:=c1 a;split
    .rename_i w;have w:Dl=a:=by simpa using w
     subst w;have h0:G.count Dl=0:=ZX.mpr λh=>(hG _ h).1 rfl;rw[QaK hHD];lia
    .cases w:H1 a with
     | none=>rw[QaK w]at h1;rw[QaK (s1.free w)];lia
     | some o=>rw[Qdz w]at h1;lia
  .refine q _ H2 (Dl::G) ⟨s1.trans s2,rp,λa ha=>?_,λz=>(by cases z),?_⟩
   .rcases Zm.mp ha with rfl | h
    .exact .inl hHD
    .rcases(hG a h).2 with z | z
     .exact .inl (s1.free z)
     .exact(oldOf a z).2
   .refine ow.append λi hi=>?_;unfold Qrd at hi;obtain⟨o,_,ho⟩:=Zbh.mp hi;cases o with
    | none=>cases ho
    | some k=>
     simp only[Za]at ho;split at ho
     .rename_i d b hk;split at ho
      .rename_i hb;cases ho;simp only[Zk]at hb;rw[hb.1]at hk;exact⟨d,hk⟩
      .cases ho
     .cases ho
section
variable {X:Cx}{tg iter elt:Expr}{ifs:List Expr}{scope:Scope}{N':List Str}{pos:Pos}{fi:DI}{t:Tg}{cap:List (Option Nat)}{ft:DT}{fe:DE}
def QxW(hcalm:X.calm=true)(S:QdY X N' scope)(hi:SI X tg iter fi)(hcap:QmC X N' scope cap t.slots)
  (hin:∀cl C fp s3 H3,SG (cxc X N' scope cl C fp s3 H3) tg t/\Qou (cxc X N' scope cl C fp s3 H3) ifs ft/\SE (cxc X N' scope cl C fp s3 H3) elt fe) (hs:∀x,foldedSetIterable iter X.env x=pure x):
  SE X (.ListComp elt [⟨tg,iter,ifs,0⟩] scope pos) (QL fi t cap ft fe):=λH0 A0=>
 (QpQ hcalm S (hi H0 A0) (λcl C fp s3 H3=>⟨(hin cl C fp s3 H3).1 _ _,(hin cl C fp s3 H3).2.1 _ _,(hin cl C fp s3 H3).2.2 _ _⟩) hs).mono λσ H Q h=>Ql6 hcap h
end
inductive Out where
 | nx (U:En)
 | bk (U:En)
 | ct (U:En)
 | rt (d:D) (fr:Bool)
noncomputable abbrev DS:=En->Option Out
def Fits(K:Fgg)(H0:Hp)(A0:LAd)(hs:List (V×D×List Addr))(E:Ends):Out->Prop
 | .nx U=>∀σ H F,Rel K H0 A0 hs U F σ H->E.nx σ H
 | .bk U=>∀σ H F,Rel K H0 A0 hs U F σ H->E.bk σ H
 | .ct U=>∀σ H F,Rel K H0 A0 hs U F σ H->E.ct σ H
 | .rt d fr=>∀v H G,Ret K H0 A0 d fr v H G->E.rt v H
noncomputable def tS(K:Fgg)(H0:Hp)(A0:LAd)(f:DS):TS:=λE σ H=>∃U hs F o,Rel K H0 A0 hs U F σ H/\f U=some o/\Fits K H0 A0 hs E o
def S1(X:Cx)(st:Stmt)(f:DS):Prop:=∀H0 A0,PS X st (tS X.K H0 A0 f)
def SS(X:Cx)(sts:List Stmt)(f:DS):Prop:=∀H0 A0,PSs X sts (tS X.K H0 A0 f)
def _root_.L2.PS.mono(h:PS X st t)(m:∀D σ H,t' D σ H->t D σ H):PS X st t':=λpins s σ H D I q=>h pins s σ H D I (m D σ H q)
def _root_.L2.PSs.mono(h:PSs X st t)(m:∀D σ H,t' D σ H->t D σ H):PSs X st t':=λpins s σ H D I q=>h pins s σ H D I (m D σ H q)
noncomputable def Qh:DS:=λU=>some (.nx U)
noncomputable def Qb(f g:DS):DS:=λU=>(f U).bind λo=>match o with
 | .nx U'=>g U'
 | .bk U'=>some (.bk U')
 | .ct U'=>some (.ct U')
 | .rt d fr=>some (.rt d fr)
noncomputable def Qu8:DS:=λU=>some (.bk U)
noncomputable def QuB:DS:=λU=>some (.ct U)
noncomputable def Qp(i:Nat)(fa:DE):DS:=λU=>(fa U).bind λr=>some (.nx (asg i r U))
noncomputable def Qbq(fa:DE):DE:=λU=>(fa U).map λr=>⟨r.d,false,r.M⟩
noncomputable def QO(fa:DE):DS:=λU=>(fa U).bind λr=>some (.rt r.d (r.norm.fr && decide r.norm.M.Nodup))
noncomputable def Qbm(fa:DE):DS:=λU=>(fa U).bind λ_=>some (.nx U)
noncomputable def sIf(g:DT)(f1 f2:DS):DS:=λU=>(g U).bind λb=>if b=true then f1 U else f2 U
noncomputable def QcO(t:Tg)(fb:DS):List D->DS
 | [],U=>some (.nx U)
 | d::ds,U=>(QbY t d U).bind λU1=>(fb U1).bind λo=>match o with
  | .nx U2=>QcO t fb ds U2
  | .ct U2=>QcO t fb ds U2
  | .bk U2=>some (.nx U2)
  | .rt d fr=>some (.rt d fr)
noncomputable def QaX(fi:DI)(t:Tg)(fb:DS):DS:=λU=>(fi U).bind λir=>QcO t fb ir.items (QbG ir.M U)
noncomputable def QaW(g:DT)(fb:DS):Nat->DS
 | 0,_=>none
 | n+1,U=>(g U).bind λb=>if b=true then(fb U).bind λo=>match o with
  | .nx U2=>QaW g fb n U2
  | .ct U2=>QaW g fb n U2
  | .bk U2=>some (.nx U2)
  | .rt d fr=>some (.rt d fr)
  else some (.nx U)
noncomputable def Qg5(g:D->D->Option D)(i:Nat)(fa:DE):DS:=λU=>match U[i]? with
 | some (some (d,_))=>(fa U).bind λr=>(g d r.d).map λd'=> .nx (U.set i (some (d',true)))
 | _=>none
section
def Qrt:SS X [] Qh:=λH0 A0=>Qxf.mono λE σ H=>exK λU hs F o rel e q=>by
 cases e;exact q σ H F rel
def Qpq(h1:S1 X st f)(h2:SS X sts g):SS X (st::sts) (Qb f g):=λH0 A0=>(Qnm (h1 H0 A0) (h2 H0 A0)).mono λE σ H=>exK λU hs F o rel e q=>by
 refine Qg e λo1 e1 e=>?_;refine⟨U,hs,F,o1,rel,e1,?_⟩;cases o1 with
 | nx U'=>exact λσ' H' F' rel'=>⟨U',hs,F',o,rel',e,q⟩
 | bk U'=>cases e;exact q
 | ct U'=>cases e;exact q
 | rt d fr=>cases e;exact q
def QwA:S1 X (.Pass pos) Qh:=λH0 A0=>Qxv.mono λE σ H=>exK λU hs F o rel e q=>by
 cases e;exact q σ H F rel
def QuX:S1 X (.Break pos) Qu8:=λH0 A0=>QtH.mono λE σ H=>exK λU hs F o rel e q=>by
 cases e;exact q σ H F rel
def Qwg:S1 X (.Continue pos) QuB:=λH0 A0=>Qo5.mono λE σ H=>exK λU hs F o rel e q=>by
 cases e;exact q σ H F rel
def Qvl(h:SE X e fa):SE X e (Qbq fa):=λH0 A0=>(h H0 A0).mono λσ H Q=>exK λU hs F r rel e q=>by
 obtain⟨r',e1,rfl⟩:=Zh.mp e;exact⟨U,hs,F,r',rel,e1,λv H' G p=>q v H' G ⟨p.same,p.rp,p.src,λz=>(by cases z),p.own⟩⟩
def Qky(h:∀H0 A0,PS X st (QmN (tV X.K H0 A0 fa) (Qil i))):S1 X st (Qp i fa):=λH0 A0=>(h H0 A0).mono λE σ H=>exK λU hs F o rel e q=>by
 refine Qg e λr e1 e=>?_;cases e;refine⟨U,hs,F,r,rel,e1,λv H' G p=>?_⟩;obtain⟨F',rel'⟩:=rel.asg (i:=i) p;exact q _ _ F' rel'
def Qw9(h:PS X st (QmI (tV X.K H0 A0 fa))):PS X st (tS X.K H0 A0 (Qbm fa)):=h.mono λE σ H=>exK λU hs F o rel e q=>by
 refine Qg e λr e1 e=>?_;cases e;exact⟨U,hs,F,r,rel,e1,λv H' G p=>q σ H' F (rel.ext p.same)⟩
def Rel.ret(rel:Rel K H0 A0 hs U F σ H)(p:Qaa K U F H H' r v G):Ret K H0 A0 r.d (r.norm.fr && decide r.norm.M.Nodup) v H' G where
 same:=rel.same.trans p.same
 rp:=p.rp
 src:=λa ha=>by
  rcases p.src a ha with z | ⟨i,d,b,e,m,_⟩
  .exact .inl (rel.same.free z)
  .exact rel.src i d b e a m
 cnt:=λh=>by
  simp only[Zk,decide_eq_true_eq]at h;have p':=p.norm;obtain⟨h1,h2⟩:=p'.fresh rel h.1 h.2;have h3:=(p'.cnt h.1).2;rw[r.Qdm]at h3;exact⟨h1,h3,λa ha=>(h2 a ha).1⟩
def Qzz(he:SE X e fa):S1 X (.Return (some e) pos) (QO fa):=λH0 A0=>(QAf (he H0 A0)).mono λE σ H=>exK λU hs F o rel e q=>by
 refine Qg e λr e1 e=>?_;cases e;exact⟨U,hs,F,r,rel,e1,λv H' G p=>q v H' G (rel.ret p)⟩
def QAw(hc:ST X c gc)(ha:SS X a f)(hb:SS X b g):S1 X (.If c a b pos) (sIf gc f g):=λH0 A0=>(QvJ (hc H0 A0) (ha H0 A0) (hb H0 A0)).mono λE σ H=>exK λU hs F o rel e q=>by
 refine Qg e λc e1 e=>?_;refine⟨U,hs,F,c,rel,e1,λH1 s1=>?_⟩;cases c with
 | true=>exact Qrb ⟨U,hs,F,o,rel.ext s1,e,q⟩
 | false=>exact QqQ ⟨U,hs,F,o,rel.ext s1,e,q⟩
def QyL(hp:PassesOwn (model X.prog X.w) X.A X.env X.xe)(hc:X.calm=true)(hi:SI X tg iter fi)(hg:SG X tg t)(hb:SS X body f)(hs:∀x,foldedSetIterable iter X.env x=pure x):
  S1 X (.For tg iter body [] pos) (QaX fi t f):=λH0 A0=>(Qyu hp hc (hi H0 A0) (hg H0 A0) (hb H0 A0) hs).mono λE σ H=>exK λU hs F o rel e q=>by
 refine Qg e λir e1 e=>?_;refine⟨U,hs,F,ir,rel,e1,λJ H1 ts s1 wk hts ow hz=>?_⟩;have rel1:Rel X.K H0 A0 (ts++hs) (QbG ir.M U) F σ H1:=((rel.ext s1).weak (Qb8 ir.M U)).hold λt ht=>⟨(hts t ht).1,Shr.of rel (hts t ht).2⟩;refine⟨λi m σ' H'=>m=ir.items.length-i/\i<=ir.items.length/\∃Ui Fi,Rel X.K H0 A0 (ts++hs) Ui Fi σ' H'/\QcO t f (ir.items.drop i) Ui=some o,⟨_,rfl,ZF _,_,F,rel1,by simpa using e⟩,?_⟩;rintro i m σ' H' ⟨rfl,hi',Ui,Fi,reli,ei⟩;have held:QkX X.K H' ts:=λt ht=>(reli.held t (Zg _ ht)).1;by_cases hlt:i<ir.items.length
 .rw[Zaf hlt]at ei;unfold QcO at ei;refine Qg ei λU1 eb ei=>?_;refine Qg ei λo1 eo ei=>?_;refine .inr ⟨wk.go i H' hlt held,λσ2 H2=>∃U2 F2,Rel X.K H0 A0 (ts++hs) U2 F2 σ2 H2/\QcO t f (ir.items.drop (i+1)) U2=some o,λσ2 H2 ⟨U2,F2,rel2,e2⟩=>⟨_,⋯,rfl,hlt,U2,F2,rel2,e2⟩,λx H2 hy=>?_⟩;obtain⟨s2,G0,rp0,hG0⟩:=wk.yld i ir.items[i] H' x H2 (by simp[hlt]) held hy;have shr:Shr H0 A0 Ui Fi G0:=λa ha=>by
   obtain⟨t,ht,hat⟩:=hG0 a ha;exact⟨(reli.held t (Zg _ ht)).2 a hat,λj d ej hj=>(reli.own j d ej).2.2.2.2 t (Zg _ ht) a hj hat⟩
  refine⟨Ui,ts++hs,Fi,ir.items[i],G0,U1,reli.ext s2,rp0,shr,eb,λσ3 F3 rel3 _ _=>⟨U1,ts++hs,F3,o1,rel3,eo,?_⟩⟩;cases o1 with
  | nx U2=>exact λσ4 H4 F4 rel4=>⟨U2,F4,rel4,ei⟩
  | ct U2=>exact λσ4 H4 F4 rel4=>⟨U2,F4,rel4,ei⟩
  | bk U2=>cases ei;exact λσ4 H4 F4 rel4=>q σ4 H4 F4 rel4.QrU
  | rt d fr=>cases ei;exact q
 .have hn:i=ir.items.length:= ⋯
  subst hn;rw[List.drop_length]at ei;cases ei;exact .inl ⟨wk.stop H' held,q σ' H' Fi reli.QrU⟩
def QtK(hp:PassesOwn (model X.prog X.w) X.A X.env X.xe)(hc:ST X c gc)(hb:SS X body f):S1 X (.While c body [] pos) (QaW gc f n):=λH0 A0=>(QtP hp (hc H0 A0) (hb H0 A0)).mono λE σ H=>exK λU hs F o rel e q=>by
 refine⟨λm σ' H'=>∃Ui Fi,Rel X.K H0 A0 hs Ui Fi σ' H'/\QaW gc f m Ui=some o,⟨n,U,F,rel,e⟩,?_⟩;rintro m σ' H' ⟨Ui,Fi,reli,ei⟩;cases m with
 | zero=>cases ei
 | succ m=>
  unfold QaW at ei;refine Qg ei λb eb ei=>?_;refine⟨Ui,hs,Fi,b,reli,eb,λH1 s1=>?_⟩;cases b with
  | false=>
   rw[if_neg Zac]at ei;cases ei;exact QqQ (q σ' H1 Fi (reli.ext s1))
  | true=>
   rw[if_pos rfl]at ei;refine Qg ei λo1 eo ei=>?_;refine Qrb ⟨λσ2 H2=>∃U2 F2,Rel X.K H0 A0 hs U2 F2 σ2 H2/\QaW gc f m U2=some o,λσ2 H2 h=>⟨m,Zak _,h⟩,Ui,hs,Fi,o1,reli.ext s1,eo,?_⟩;cases o1 with
   | nx U2=>exact λσ4 H4 F4 rel4=>⟨U2,F4,rel4,ei⟩
   | ct U2=>exact λσ4 H4 F4 rel4=>⟨U2,F4,rel4,ei⟩
   | bk U2=>cases ei;exact λσ4 H4 F4 rel4=>q σ4 H4 F4 rel4
   | rt d fr=>cases ei;exact q
def Rel.QyQ(rel:Rel K H0 A0 hs U F σ H)(rp:Rp K H d v [])(hf:d.flat=true):
  ∃F',Rel K H0 A0 hs (U.set i (some (d,true))) F' (σ.set i (some v)) H:=by
 have:=rel.Qqu (i:=i) rp (λa ha=>by simp at ha);rw[hf]at this;exact⟨_,this⟩
def QyA(ho:OpR X (inplaceOp op) r)(hg:QbB X.K g r)(h:∀te ti,PE X e te->PIp X op ti->PS X (.AugAssign (.Name x pos') op e pos) (Qzv i te ti))(he:SE X e fa):S1 X (.AugAssign (.Name x pos') op e pos) (Qg5 g i fa):=λH0 A0=>
 (h _ _ (he H0 A0) (λpins s σ H x y v u Q I rx ry q=>QyD ho I rx ry q)).mono λE σ H=>exK λU hs F o rel e q=>by
  unfold Qg5 at e;split at e
  .rename_i d b hd;refine Qg e λr' e1 e=>?_;obtain⟨d',e2,e⟩:=Zh.mp e;subst e;obtain⟨v,h1,h2⟩:=rel.val i d b hd;refine⟨v,h1,U,hs,F,r',rel,e1,λy H1 G p=>(hg _ _ _ e2).2 H1 v y (F i) G _ (h2.same p.same) p.rp λw hw=>?_⟩;obtain⟨F',rel'⟩:=(rel.ext p.same).QyQ (i:=i) (hw H1) (hg _ _ _ e2).1;exact q _ _ F' rel'
  .cases e
end
end HS
namespace HS
open PySem PySem.Spec L2 PyProof.Rows
section
variable {K:Fgg}{H H':Hp}{p:Addr}{zs ys:List (List Key×V)}
def QtU{a:Addr}{vs:List V}(hp:H p=some (.dT zs))(h:SqT K H a vs):SqT K (L2.upd H p (.dT ys)) a vs:=by
 rcases h with(h | ⟨o,h⟩) | h
 .exact .inl (.inl (by rw[QA (QdS h hp (by intro z;cases z))];exact h))
 .exact .inl (.inr ⟨o,by rw[QA (QdS h hp (by intro z;cases z))];exact h⟩)
 .exact .inr h
def QtC{a:Addr}{vs:List V}(hp:H p=some (.dT zs))(h:Fix K H a vs):Fix K (L2.upd H p (.dT ys)) a vs:=by
 rcases h with⟨o,h⟩ | h
 .exact .inl ⟨o,by rw[QA (QdS h hp (by intro z;cases z))];exact h⟩
 .exact .inr h
mutual
def Rp.Qhb(hp:H p=some (.dT zs)):∀{d:D}{v:V}{F:LAd},Rp K H d v F->p∉F->Rp K (L2.upd H p (.dT ys)) d v F
 | .exc _,_,_,h,_=>by
  simp only[Rp]at h ⊢;obtain⟨⟨a,e,C,q1,q2⟩,z⟩:=h;exact⟨⟨a,e,C,q1,by rw[QA (QdS q2 hp (by intro z;cases z))];exact q2⟩,z⟩
 | .dk _,_,_,h,hn=>by
  simp only[Rp]at h ⊢;obtain⟨a,e,eF,q⟩:=h;subst eF;exact⟨a,e,rfl,by rw[QA (λz=>hn (by rw[z];exact Ze))];exact q⟩
 | .non,_,_,h,_=>h
 | .bl _,_,_,h,_=>h
 | .int _,_,_,h,_=>h
 | .str _,_,_,h,_=>h
 | .tup ds,_,_,h,hn=>by
  simp only[Rp]at h ⊢;obtain⟨a,vs,e,q,r⟩:=h;exact⟨a,vs,e,QtU hp q,Rps.Qhb hp r hn⟩
 | .lst ds,_,_,h,hn=>by
  simp only[Rp]at h ⊢;obtain⟨hz,a,vs,e,⟨G,eF,q,r⟩ | ⟨q,r⟩⟩:=h
  .subst eF;have h1:a≠p:=λz=>hn (by rw[z];exact Ze);exact⟨hz,a,vs,e,.inl ⟨G,rfl,by rw[QA h1];exact q,Rps.Qhb hp r λz=>hn (Zb _ z)⟩⟩
  .exact⟨hz,a,vs,e,.inr ⟨QtC hp q,Rps.Qhb hp r hn⟩⟩
def Rps.Qhb(hp:H p=some (.dT zs)):∀{ds:List D}{vs:List V}{F:LAd},Rps K H ds vs F->p∉F->Rps K (L2.upd H p (.dT ys)) ds vs F
 | [],_,_,h,_=>h
 | d::ds,_,_,h,hn=>by
  simp only[Rps]at h ⊢;obtain⟨v,ws,F1,F2,e,eF,r,q⟩:=h;subst eF;exact⟨v,ws,F1,F2,e,rfl,Rp.Qhb hp r λz=>hn (Zg _ z),Rps.Qhb hp q λz=>hn (Zf _ z)⟩
end
end
section
variable {K:Fgg}{H0 H:Hp}{A0:LAd}{hs:List (V×D×List Addr)}{U:En}{F:Nat->List Addr}{σ:L2.St}{x:Nat}{ks ks':List (List Int)}
def Rel.Qyq(rel:Rel K H0 A0 hs U F σ H)(hx:U[x]? =some (some (.dk ks,true))):∃a,σ[x]? =some (some (.ref a))/\H a=some (.dT (dkC ks))/\Rel K H0 A0 hs (U.set x (some (.dk ks',true))) F σ (L2.upd H a (.dT (dkC ks'))):=by
 obtain⟨v,h1,h2⟩:=rel.val x _ _ hx;simp only[Rp]at h2;obtain⟨a,rfl,eF,hp⟩:=h2;obtain⟨o1,o2,o3,o4,o5⟩:=rel.own x _ hx;have ha:a∈F x:=by rw[eF];exact Ze
 have hlx:x<U.length:=(Zi.mp hx).1;refine⟨a,h1,hp,?_⟩;have get:∀(i:Nat) d b,(U.set x (some (.dk ks',true)))[i]? =some (some (d,b))->(i=x/\d= .dk ks'/\b=true)∨(i≠x/\U[i]? =some (some (d,b))):=λi d b e=>by
  by_cases hi:i=x
  .subst hi;rw[Zx hlx]at e;cases e;exact .inl ⟨rfl,rfl,rfl⟩
  .rw[Zl (Ne.symm hi)]at e;exact .inr ⟨hi,e⟩
 refine⟨by rw[ZaX];exact rel.len,λi d b e=>?_,λi d e=>?_,λi d b e c hc=>?_,λt ht=>?_,λb u e=>?_⟩
 .rcases get i d b e with⟨rfl,rfl,rfl⟩ | ⟨hi,e⟩
  .exact⟨_,h1,by simp only[Rp];exact⟨a,rfl,eF,Q4⟩⟩
  .obtain⟨v,k1,k2⟩:=rel.val i d b e;exact⟨v,k1,k2.Qhb hp (o4 i d b hi e a ha)⟩
 .rcases get i d true e with⟨rfl,rfl,_⟩ | ⟨hi,e⟩
  .refine⟨o1,o2,o3,λj d' b' hj ej=>?_,o5⟩;rcases get j d' b' ej with⟨z,_⟩ | ⟨_,ej⟩
   .exact absurd z hj
   .exact o4 j d' b' hj ej
  .obtain⟨m1,m2,m3,m4,m5⟩:=rel.own i d e;refine⟨m1,m2,m3,λj d' b' hj ej=>?_,m5⟩;rcases get j d' b' ej with⟨rfl,_,_⟩ | ⟨_,ej⟩
   .exact m4 j _ _ hj hx
   .exact m4 j d' b' hj ej
 .rcases get i d b e with⟨rfl,_,_⟩ | ⟨hi,e⟩
  .exact rel.src _ _ _ hx c hc
  .exact rel.src i d b e c hc
 .exact⟨(rel.held t ht).1.Qhb hp (o5 t ht a ha),(rel.held t ht).2⟩
 .have hne:b≠a:=λz=>by rw[z,o3 a ha]at e;cases e
  rw[QA hne];exact rel.same b u e
def Qva(k:List Int):∀ks:List (List Int),putK (dkC ks) (k.map Sum.inl) (V.bl true)=dkC (if ks.contains k then ks else ks++[k]):=λks=>by
 have h:((dkC ks).any λkv=>decide (kv.1=k.map Sum.inl))=ks.contains k:=by
  unfold dkC;rw[List.any_map,List.contains_eq_any_beq];congr 1;funext x;simp only[Function.comp];rw[Bool.eq_iff_iff,decide_eq_true_iff,beq_iff_eq];exact⟨λe=>(QlN e).symm,λe=>by rw[e]⟩
 unfold putK;rw[h];cases hc:ks.contains k with
 | false=>simp[dkC]
 | true=>
  rw[if_pos rfl,if_pos rfl];unfold dkC;rw[ZZ];refine ZE λx _=>?_;simp only[Function.comp];split<;>rfl
noncomputable def Qfp(x:Nat)(fs:DA):DS:=λU=>match U[x]? with
 | some (some (.dk ks,true))=>(fs U).bind λr=>match r.ds with
  | [.lst ds]=>(intsOf ds).bind λk=>if ks.length<sizeLine then some (.nx (U.set x (some (.dk (if ks.contains k then ks else ks++[k]),true))))else none
  | _=>none
 | _=>none
end
section
variable {X:Cx}{x:Nat}{fs:DA}{o e value:Expr}{es:List Expr}{p pos pos' cpos:Pos}
def QwJ(hu:X.A.units+1<cLine)(ho:PE X o (QnP x))(hg:Gl X "tuple")(hm:X.mg "tuple" =none)(ha:SA X (e::es) fs)(he:starEach (e::es) X.env=(false,eval e X.env)::starEach es X.env)
  (hpl:(backTo cpos (starEach es X.env)).any (·.1)=false) (hv:SE X value (dC (.bl true))) (hs:swapsWith value (some (.Subscript o (.Call (.Name "tuple" p) (e::es) [] cpos) pos')) pos.line X.env=pure false):
  S1 X (.Assign [.Subscript o (.Call (.Name "tuple" p) (e::es) [] cpos) pos'] value pos) (Qfp x fs):=λH0 A0=>
 (QxK hu ho (Qfg Qed hg hm Zbd (ha H0 A0) ∅ ∅ he hpl) (hv H0 A0) hs).mono λE σ H=>exK λU hs F o' rel e q=>by
  unfold Qfp at e;split at e
  case h_2=>cases e
  rename_i ks hx;refine Qg e λr e1 e=>?_;refine⟨U,hs,F,⟨.bl true,true,[]⟩,rel,rfl,λv H1 G p1=>?_⟩;have rel1:=rel.ext p1.same;obtain⟨v',s1,_⟩:=rel1.val x _ _ hx;refine⟨v',s1,U,hs,F,r,rel1,e1,λvs H2 G2 p2=>?_⟩;split at e
  case h_2=>cases e
  rename_i ds hds;refine Qg e λk ek e=>?_;split at e
  case isFalse=>cases e
  rename_i hl;cases e;have rp:=p2.rp;rw[hds]at rp;obtain⟨v2,rfl,rq⟩:=rp.one;obtain⟨l,ws,L,rfl,hq,rl,zl,el⟩:=rq.lst_inv;obtain⟨rfl,_⟩:=QgG rl ek;refine⟨l,_,rfl,.inl ⟨QT hq,λc hc=>?_⟩⟩;have rel2:=(rel1.ext p2.same).ext (Qap (o:= .tup (k.map V.int)) hc);obtain⟨a,w1,w2,w3⟩:=rel2.Qyq (ks':=if ks.contains k then ks else ks++[k]) hx;rw[s1]at w1;cases w1;have hb:=p1.rp.QeF;subst hb;refine⟨a,_,rfl,?_,q _ _ _ w3⟩;rw[← Qva];refine QmO.t w2 ?_ (by unfold dkC;rw[Zj];exact hl);rw[Q4,ZZ];rfl
end
end HS
namespace HS
open PySem PySem.Spec L2 PyProof.Rows
noncomputable def Qyo(tk tv:TE):TE:=λσ H Q=>∀p,H p=none->tk σ (L2.upd H p (.dT [])) λy H1=>tv σ H1 λw H2=>
 ∃(b:Addr) (ks:List Key),y= .ref b/\H2 p=some (.dT [])/\H2 b=some (.tup (ks.map kV))/\Q (.ref p) (L2.upd H2 p (.dT [(ks,w)]))
def QtA{X:Cx}{k v:Expr}{pos:Pos}{tk tv:TE}(hu:X.A.units+1<cLine)(hk:PE X k tk)(hv:PE X v tv):PE X (.Dict [some k] [v] pos) (Qyo tk tv):=by
 intro pins s σ H Q I h;refine wpAny_Dict_any rfl rfl ⋯ ⋯ ?_;have hp:H s.heap.objs.size=none:=I.hok.fresh (Zd _);have I1:=I.laid (a:=s.heap.objs.size) (o:= .dT []) (h':=s.heap.push {cls:= .type "dict",data:= .dict #[]}) (t':=s.toks) (λ_ _ q=>Zc _ q) (Zd _) (Qnb s.heap I.big);refine pairTrees_cons_walk (thn (hk pins _ σ _ _ I1 (h _ hp)) λu s1 ⟨y,H1,I2,ry,q1⟩=>thn (hv pins s1 σ H1 _ I2 q1) λr s2 ⟨w,H2,I3,rw',b,ks,ey,e,eb,q2⟩=>pairTrees_nil_walk ?_);subst ey;cases(show u=Value.ref b from ry);obtain⟨z,hd,xs,rel,dd⟩:=QvY I3.hok e;have hz:xs.length<=sizeLine:=by rw[← ZbM rel];exact z
 unfold storeAll;simp only[ZbP,ZcB];refine wpAny_bind (wpAny_bind (wpAny_dictSet_heap (knd:=tupleKind (QaE X.prog X.w)) (hsz:=hz) (Nat.lt_of_succ_lt hu) (Qoq I3.hok eb) dd λh' dd' hs=>?_));obtain⟨q,es,ep,hq,h2,h3,h4,_,h5⟩:=dd';have I4:=Qlc (t':=s2.toks+(tupleKind (QaE X.prog X.w)).draws ks) (ob:= .dT [(ks,w)]) I3 (by rw[e];exact True.intro) hs ⟨q,hq⟩ ⟨by simp[sizeLine_eq],hd,_,(rel.put ks eb rw').keeps λc ys ec=>by
  rw[QA (QdS ec e (λz=>nomatch z))];exact ec,q,es,ep,hq,h2,h3,h4,h5⟩
 exact wpAny_pure (wpAny_pure ⟨.ref s.heap.objs.size,_,I4,rfl,q2⟩)
noncomputable def dD1(fs:DA):DE:=λU=>(fs U).bind λr=>match r.ds with
 | [.lst ds]=>(intsOf ds).map λk=>⟨.dk [k],true,[]⟩
 | _=>none
def QA5{X:Cx}{e value:Expr}{es:List Expr}{p pos cpos:Pos}{fs:DA}(hu:X.A.units+1<cLine)(hg:Gl X "tuple")(hm:X.mg "tuple" =none)(ha:SA X (e::es) fs)(he:starEach (e::es) X.env=(false,eval e X.env)::starEach es X.env)
  (hpl:(backTo cpos (starEach es X.env)).any (·.1)=false) (hv:SE X value (dC (.bl true))):SE X (.Dict [some (.Call (.Name "tuple" p) (e::es) [] cpos)] [value] pos) (dD1 fs):=λH0 A0=>
 (QtA hu (Qfg Qed hg hm Zbd (ha H0 A0) ∅ ∅ he hpl) (hv H0 A0)).mono λσ H Q=>exK λU hs F r' rel e q=>by
  refine Qg e λr e1 e=>?_;intro d hd;have rel1:=rel.ext (Qap (o:= .dT []) hd);refine⟨U,hs,F,r,rel1,e1,λvs H2 G2 p2=>?_⟩;split at e
  case h_2=>cases e
  rename_i ds hds;obtain⟨k,ek,rfl⟩:=Zh.mp e;have rp:=p2.rp;rw[hds]at rp;obtain⟨v2,rfl,rq⟩:=rp.one;obtain⟨l,ws,L,rfl,hq,rl,zl,el⟩:=rq.lst_inv;obtain⟨rfl,_⟩:=QgG rl ek;refine⟨l,_,rfl,.inl ⟨QT hq,λc hc=>?_⟩⟩;have rel2:=(rel1.ext p2.same).ext (Qap (o:= .tup (k.map V.int)) hc);refine⟨U,hs,F,⟨.bl true,true,[]⟩,rel2,rfl,λv H3 G3 p3=>?_⟩;have hb:=p3.rp.QeF;subst hb;have s3:QN (L2.upd H d (.dT [])) H3:=(p2.same.trans (Qap hc)).trans p3.same;have e3:H3 d=some (.dT []):=s3 _ _ Q4;have ec:H3 c=some (.tup ((k.map Sum.inl).map kV)):=by
   rw[ZZ];exact p3.same _ _ Q4
  refine⟨c,k.map Sum.inl,rfl,e3,ec,q (.ref d) _ [d] ⟨λb u eb=>?_,by simp only[Rp];exact⟨d,rfl,rfl,Q4⟩,λa ha=> .inl (by rw[Zo.mp ha];exact hd),λ_=>⟨λa=>?_,rfl⟩,λi hi=>by cases hi⟩⟩
  .have hne:b≠d:=λz=>by rw[z,hd]at eb;cases eb
   rw[QA hne];exact s3 _ _ (by rw[QA hne];exact eb)
  .rw[ZbO];split
   .rename_i h;have h:d=a:=by simpa using h
    subst h;rw[QaK hd];lia
   .exact ZF _
end HS
namespace HS
open PySem PySem.Spec L2
section
variable {K:Fgg}{H H':Hp}
def Rps.split:∀{ds:List D}{vs:List V}{F:LAd}{j:Nat}{d:D},Rps K H ds vs F->ds[j]? =some d→
  ∃F1 G F2 v,F=F1++(G++F2)/\vs[j]? =some v/\Rps K H (ds.take j) (vs.take j) F1/\Rp K H d v G/\Rps K H (ds.drop (j+1)) (vs.drop (j+1)) F2
 | [],_,_,_,_,_,e=>by simp at e
 | d::ds,_,_,0,_,h,e=>by
  simp only[Rps]at h;obtain⟨v,ws,F1,F2,rfl,rfl,r,q⟩:=h;simp at e;subst e;exact⟨[],F1,F2,v,rfl,⋯,by simp[Rps],r,by simpa using q⟩
 | d::ds,_,_,j+1,_,h,e=>by
  simp only[Rps]at h;obtain⟨v,ws,F1,F2,rfl,rfl,r,q⟩:=h;obtain⟨G1,G,G2,v',h1,h2,h3,h4,h5⟩:=Rps.split q (by simpa using e);refine⟨F1++G1,G,G2,v',by rw[h1,ZG],by simpa using h2,?_,h4,by simpa using h5⟩;simp only[List.take_succ_cons,Rps];exact⟨v,_,F1,G1,rfl,rfl,r,h3⟩
def Rps.join{ds:List D}{vs:List V}{F1 G F2:LAd}{j:Nat}{d:D}{v:V}(h1:Rps K H (ds.take j) (vs.take j) F1)(hd:Rp K H d v G)(h2:Rps K H (ds.drop (j+1)) (vs.drop (j+1)) F2)(hj:j<ds.length)(hv:vs[j]? =some v):
  Rps K H (ds.set j d) vs (F1++(G++F2)):=by
 have e1:ds.set j d=ds.take j++d::ds.drop (j+1):=ZaU .. |>.trans (by rw[if_pos hj]);have hjv:j<vs.length:=(Zi.mp hv).1;have hve:vs[j]=v:=(Zi.mp hv).2;have e2:vs=vs.take j++v::vs.drop (j+1):=by
  rw[← hve,← Zaf hjv,ZN]
 rw[e1,e2];refine h1.append ?_;simp only[Rps];refine⟨v,_,G,F2,rfl,rfl,hd,h2⟩
def Rps.QvT{ds:List D}{vs:List V}{F1 G F2:LAd}{j:Nat}{d:D}{v:V}(h1:Rps K H (ds.take j) (vs.take j) F1)(hd:Rp K H d v G)(h2:Rps K H (ds.drop (j+1)) (vs.drop (j+1)) F2)(hj:j<ds.length)(hv:j<vs.length):
  Rps K H (ds.set j d) (vs.set j v) (F1++(G++F2)):=by
 have e1:ds.set j d=ds.take j++d::ds.drop (j+1):=ZaU .. |>.trans (by rw[if_pos hj]);have e2:vs.set j v=vs.take j++v::vs.drop (j+1):=ZaU .. |>.trans (by rw[if_pos hv]);rw[e1,e2];refine h1.append ?_;simp only[Rps];exact⟨v,_,G,F2,rfl,rfl,hd,h2⟩
def Focus(K:Fgg)(H:Hp):List Int->D->V->List Addr->D->V->List Addr->Prop
 | [],d,v,F,dm,w,Gm=>dm=d/\w=v/\Gm=F/\Rp K H d v F
 | i::is,d,v,F,dm,w,Gm=>∃(ds:List D) (a:Addr) (vs:List V) (j:Nat) (F1 G F2:LAd) (d':D) (v':V),v= .ref a/\ixN ds.length i=some j∧
   ((d= .lst ds/\ds.length<=sizeLine/\((F=a::(F1++(G++F2))/\H a=some (.lst vs))∨(F=F1++(G++F2)/\Fix K H a vs)))∨(d= .tup ds/\F=F1++(G++F2)/\SqT K H a vs))∧
   Rps K H (ds.take j) (vs.take j) F1/\Rps K H (ds.drop (j+1)) (vs.drop (j+1)) F2/\ds[j]? =some d'/\vs[j]? =some v'/\ds.length=vs.length/\Focus K H is d' v' G dm w Gm
def Focus.same(s:QN H H'):∀{is:List Int}{d:D}{v:V}{F:LAd}{dm:D}{w:V}{Gm:LAd},Focus K H is d v F dm w Gm->Focus K H' is d v F dm w Gm
 | [],_,_,_,_,_,_,h=>⟨h.1,h.2.1,h.2.2.1,h.2.2.2.same s⟩
 | i::is,_,_,_,_,_,_,h=>by
  obtain⟨ds,a,vs,j,F1,G,F2,d',v',h1,h2,h3,h4,h5,h6,h7,h8,h9⟩:=h;refine⟨ds,a,vs,j,F1,G,F2,d',v',h1,h2,?_,h4.same s,h5.same s,h6,h7,h8,h9.same s⟩;rcases h3 with⟨e,z,q⟩ | ⟨e,eF,q⟩
  .refine .inl ⟨e,z,?_⟩;rcases q with⟨eF,q⟩ | ⟨eF,q⟩
   .exact .inl ⟨eF,s _ _ q⟩
   .exact .inr ⟨eF,Qnn s q⟩
  .exact .inr ⟨e,eF,QnU s q⟩
def Focus.rp:∀{is:List Int}{d:D}{v:V}{F:LAd}{dm:D}{w:V}{Gm:LAd},Focus K H is d v F dm w Gm->Rp K H dm w Gm
 | [],_,_,_,_,_,_,h=>by
  obtain⟨rfl,rfl,rfl,r⟩:=h;exact r
 | i::is,_,_,_,_,_,_,h=>by
  obtain⟨ds,a,vs,j,F1,G,F2,d',v',h1,h2,h3,h4,h5,h6,h7,h8,h9⟩:=h;exact h9.rp
def Focus.Qr5:∀{is:List Int}{d:D}{v:V}{F:LAd}{dm:D}{w:V}{Gm:LAd},Focus K H is d v F dm w Gm->Rp K H d v F
 | [],_,_,_,_,_,_,h=>h.2.2.2
 | i::is,_,_,_,_,_,_,h=>by
  obtain⟨ds,a,vs,j,F1,G,F2,d',v',rfl,h2,h3,h4,h5,h6,h7,h8,h9⟩:=h;have hjl:j<ds.length:=(Zi.mp h6).1;have hdj:ds[j]=d':=(Zi.mp h6).2;have j1:=Rps.join h4 h9.Qr5 h5 hjl h7;rw[show ds.set j d'=ds by rw[← hdj];exact List.set_getElem_self hjl]at j1;rcases h3 with⟨rfl,hz,⟨rfl,q⟩ | ⟨rfl,q⟩⟩ | ⟨rfl,rfl,q⟩
  .exact Rp.QdX q j1 hz
  .simp only[Rp];exact⟨hz,a,vs,rfl,.inr ⟨q,j1⟩⟩
  .simp only[Rp];exact⟨a,vs,rfl,q,j1⟩
def Focus.one(r:Rp K H d v F)(hd:d.items=some ds)(hi:atI ds i=some d'):
  ∃a vs v' G,v= .ref a/\((d= .lst ds/\SqL K H a vs)∨(d= .tup ds/\SqT K H a vs))/\atI vs i=some v'/\Focus K H [i] d v F d' v' G:=by
 unfold atI at hi;cases hj:ixN ds.length i with
 | none=>rw[hj]at hi;cases hi
 | some j=>
  rw[hj]at hi;have hdj:ds[j]? =some d':=hi;have fin:∀(vs:List V) (L:LAd),Rps K H ds vs L->∃v' G F1 F2,L=F1++(G++F2)/\vs[j]? =some v'/\atI vs i=some v'/\Rps K H (ds.take j) (vs.take j) F1/\Rp K H d' v' G/\Rps K H (ds.drop (j+1)) (vs.drop (j+1)) F2/\ds.length=vs.length:=λvs L rl=>by
   obtain⟨F1,G,F2,v',h1,h2,h3,h4,h5⟩:=rl.split hdj;refine⟨v',G,F1,F2,h1,h2,?_,h3,h4,h5,rl.length⟩;unfold atI;rw[← rl.length,hj];exact h2
  cases d with
  | lst xs=>
   cases hd;simp only[Rp]at r;obtain⟨hz,a,vs,rfl,⟨L,rfl,q,rl⟩ | ⟨q,rl⟩⟩:=r
   .obtain⟨v',G,F1,F2,h1,h2,h3,h4,h5,h6,h7⟩:=fin vs L rl;exact⟨a,vs,v',G,rfl,.inl ⟨rfl,SqL.of q⟩,h3,ds,a,vs,j,F1,G,F2,d',v',rfl,hj,.inl ⟨rfl,hz,.inl ⟨by rw[h1],q⟩⟩,h4,h6,hdj,h2,h7,rfl,rfl,rfl,h5⟩
   .obtain⟨v',G,F1,F2,h1,h2,h3,h4,h5,h6,h7⟩:=fin vs _ rl;exact⟨a,vs,v',G,rfl,.inl ⟨rfl,q.sq⟩,h3,ds,a,vs,j,F1,G,F2,d',v',rfl,hj,.inl ⟨rfl,hz,.inr ⟨h1,q⟩⟩,h4,h6,hdj,h2,h7,rfl,rfl,rfl,h5⟩
  | tup xs=>
   cases hd;obtain⟨a,vs,rfl,q,rl⟩:=r.QaP;obtain⟨v',G,F1,F2,h1,h2,h3,h4,h5,h6,h7⟩:=fin vs _ rl;exact⟨a,vs,v',G,rfl,.inr ⟨rfl,q⟩,h3,ds,a,vs,j,F1,G,F2,d',v',rfl,hj,.inr ⟨rfl,h1,q⟩,h4,h6,hdj,h2,h7,rfl,rfl,rfl,h5⟩
  | _=>cases hd
def Focus.snoc:∀{is:List Int}{d:D}{v:V}{F:LAd}{dm:D}{w:V}{Gm:LAd}{i:Int}{d':D}{v':V}{G:LAd},Focus K H is d v F dm w Gm->Focus K H [i] dm w Gm d' v' G->Focus K H (is++[i]) d v F d' v' G
 | [],_,_,_,_,_,_,_,_,_,_,h,g=>by
  obtain⟨rfl,rfl,rfl,r⟩:=h;exact g
 | k::is,_,_,_,_,_,_,_,_,_,_,h,g=>by
  obtain⟨ds,a,vs,j,F1,G,F2,d',v',h1,h2,h3,h4,h5,h6,h7,h8,h9⟩:=h;exact⟨ds,a,vs,j,F1,G,F2,d',v',h1,h2,h3,h4,h5,h6,h7,h8,h9.snoc g⟩
noncomputable def Qa0:D->List Int->Option D
 | d,[]=>some d
 | d,i::is=>(d.items).bind λds=>(atI ds i).bind λd'=>Qa0 d' is
def Qkm:∀{is:List Int}{d:D}{i:Int}{d':D},Qa0 d (is++[i])=some d'->∃dm ds,Qa0 d is=some dm/\dm.items=some ds/\atI ds i=some d'
 | [],d,i,d',h=>by
  refine Qg h λds h1 h=>?_;refine Qg h λd'' h2 h=>?_;cases h;exact⟨d,ds,rfl,h1,h2⟩
 | k::is,d,i,d',h=>by
  refine Qg h λds h1 h=>?_;refine Qg h λd'' h2 h=>?_;obtain⟨dm,es,h3,h4,h5⟩:=Qkm h;refine⟨dm,es,?_,h4,h5⟩;simp only[Qa0,h1,h2,Za,h3]
noncomputable def QaL:List Int->D->D->D
 | [],_,new=>new
 | i::is,.lst ds,new=>match ixN ds.length i with
  | some j=> .lst (ds.set j (QaL is (ds.getD j .non) new))
  | none=> .lst ds
 | i::is,.tup ds,new=>match ixN ds.length i with
  | some j=> .tup (ds.set j (QaL is (ds.getD j .non) new))
  | none=> .tup ds
 | _::_,d,_=>d
def Qh5:∀{ds:List D}{j:Nat}{d e:D},ds[j]? =some d->nls (ds.set j e)+d.nl=nls ds+e.nl
 | [],_,_,_,h=>by simp at h
 | x::ds,0,d,e,h=>by simp at h;subst h;simp only[List.set_cons_zero,nls];lia
 | x::ds,j+1,d,e,h=>by
  have:=Qh5 (e:=e) (by simpa using h);simp only[List.set_cons_succ,nls];lia
def Qei:∀(as bs:List D),nls (as++bs)=nls as+nls bs
 | [],bs=>by simp[nls]
 | a::as,bs=>by simp only[Zcj,nls,Qei as bs];lia
def Focus.mut:∀{is:List Int}{d:D}{v:V}{F:LAd}{Gm:LAd},Focus K H is d v F (.lst dsm) (.ref p) Gm->F.Nodup->F.length=d.nl→
  ∃vsm Gp,H p=some (.lst vsm)/\Gm=p::Gp/\Rps K H dsm vsm Gp/\Gp.length=nls dsm/\p∈F/\(∀a∈Gp,a∈F)/\p∉Gp∧
   (Rps K (upd H p (.lst vs')) ds' vs' G'->ds'.length<=sizeLine->G'.length=nls ds'→
    ∃F',Rp K (upd H p (.lst vs')) (QaL is d (.lst ds')) v F'/\F'.length=(QaL is d (.lst ds')).nl/\∀a,F'.count a+Gp.count a=F.count a+G'.count a)
 | [],d,v,F,Gm,h,nd,hl=>by
  obtain⟨rfl,rfl,rfl,r⟩:=h;simp only[Rp]at r;obtain⟨hz,a,vs,e,h⟩:=r;cases e;rcases h with⟨L,rfl,q,rl⟩ | ⟨q,rl⟩
  .obtain⟨n1,n2⟩:=ZaW.mp nd;have hl':L.length=nls dsm:=by simp only[D.nl,ZI]at hl;lia
   refine⟨vs,L,q,rfl,rl,hl',Ze,λa ha=>Zb _ ha,n1,λr' hz' hl2=>⟨p::G',Rp.QdX Q4 r' hz',?_,λa=>?_⟩⟩
   .simp only[QaL,D.nl,ZI,hl2]
   .rw[ZaN,ZaN];lia
  .have:=rl.QaI;simp only[D.nl]at hl;lia
 | i::is,d,v,F,Gm,h,nd,hl=>by
  obtain⟨ds,a,vs,j,F1,G,F2,d',v',rfl,hj,h3,h4,h5,h6,h7,h8,h9⟩:=h;have hjl:j<ds.length:=(Zi.mp h6).1;have gd:ds.getD j .non=d':=by rw[Zal,h6];rfl
  have l1:=h4.QaI;have l2:=h5.QaI;have l3:=h9.Qr5.QaI;have nlsplit:nls (ds.take j)+(d'.nl+nls (ds.drop (j+1)))=nls ds:=by
   have e1:ds=ds.take j++d'::ds.drop (j+1):=by
    have:ds[j]=d':=(Zi.mp h6).2;rw[← this,← Zaf hjl,ZN]
   have e2:=congrArg nls e1;rw[Qei]at e2;simp only[nls]at e2;exact e2.symm
  have core:(F1++(G++F2)).Nodup->(F1++(G++F2)).length=nls ds->_:=λnd' hl'=>by
   simp only[Zn]at hl';have hG:G.length=d'.nl:= ⋯
   have ndG:G.Nodup:=(Zbl.mp (Zbl.mp nd').2.1).1;exact(h9.mut (vs':=vs') (ds':=ds') (G':=G') ndG hG)
  have apart:(F1++(G++F2)).Nodup->p∈G->p∉F1/\p∉F2:=λnd' hp=>by
   have n1:=Zbl.mp nd';have n2:=Zbl.mp n1.2.1;exact⟨λh=>n1.2.2 p h p (Zg _ hp) rfl,λh=>n2.2.2 p hp p h rfl⟩
  have cnt:∀(G'' Gp:LAd),(∀a,G''.count a+Gp.count a=G.count a+G'.count a)->∀a,(F1++(G''++F2)).count a+Gp.count a=(F1++(G++F2)).count a+G'.count a:=λG'' Gp hc a=>by
   have:=hc a;simp only[Zaz];lia
  rcases h3 with⟨rfl,hz,⟨rfl,q⟩ | ⟨rfl,q⟩⟩ | ⟨rfl,rfl,q⟩
  ·
   obtain⟨n1,n2⟩:=ZaW.mp nd;have hl':(F1++(G++F2)).length=nls ds:=by simp only[D.nl,ZI]at hl;lia
   obtain⟨vsm,Gp,e1,e2,e3,e4,e5,e6,e7,e8⟩:=core n2 hl';have ap:=apart n2 e5;have hap:a≠p:=λz=>n1 (by rw[z];exact Zf _ (Zg _ e5));refine⟨vsm,Gp,e1,e2,e3,e4,Zb _ (Zf _ (Zg _ e5)),λb hb=>Zb _ (Zf _ (Zg _ (e6 b hb))),e7,λr' hz' hl2=>?_⟩;obtain⟨G'',f1,f2,f3⟩:=e8 r' hz' hl2;have j1:=Rps.join (h4.upd e1 ap.1) f1 (h5.upd e1 ap.2) hjl h7;refine⟨a::(F1++(G''++F2)),?_,?_,λb=>?_⟩
   .simp only[QaL,hj,gd];exact Rp.QdX (by rw[QA hap];exact q) j1 (by rw[ZaX];exact hz)
   .have:=Qh5 (e:=QaL is d' (.lst ds')) h6;simp only[QaL,hj,gd,D.nl,ZI,Zn,f2]at hl' ⊢;lia
   .have:=cnt G'' Gp f3 b;rw[ZaN,ZaN];lia
  .have:(F1++(G++F2)).length<=nls ds:=by simp only[Zn];lia
   simp only[D.nl]at hl;lia
  ·
   have hl':(F1++(G++F2)).length=nls ds:=by simpa only[D.nl]using hl
   obtain⟨vsm,Gp,e1,e2,e3,e4,e5,e6,e7,e8⟩:=core nd hl';have ap:=apart nd e5;refine⟨vsm,Gp,e1,e2,e3,e4,Zf _ (Zg _ e5),λb hb=>Zf _ (Zg _ (e6 b hb)),e7,λr' hz' hl2=>?_⟩;obtain⟨G'',f1,f2,f3⟩:=e8 r' hz' hl2;have j1:=Rps.join (h4.upd e1 ap.1) f1 (h5.upd e1 ap.2) hjl h7;refine⟨F1++(G''++F2),?_,?_,cnt G'' Gp f3⟩
   .simp only[QaL,hj,gd,Rp];exact⟨a,vs,rfl,Qpm e1 q,j1⟩
   .have:=Qh5 (e:=QaL is d' (.lst ds')) h6;simp only[QaL,hj,gd,D.nl,Zn,f2]at hl' ⊢;lia
end
section
def Rel.mut(rel:Rel K H0 A0 hs U F σ H)(p:Qaa K U F H H1 r vn Gn)(hf:r.fr=true)(nd:r.M.Nodup)(s12:QN H1 H2)(hx:U[x]? =some (some (d,true)))(hxM:x∉r.M)(hv0:σ[x]? =some (some v0))
  {dnew:D}{q:Addr}{F':LAd}{vsm vs':List V}(e1:H2 q=some (.lst vsm)) (e5:q∈F x) (f1:Rp K (upd H2 q (.lst vs')) dnew v0 F') (f2:F'.length=dnew.nl) (cF:∀a,F'.count a<=(F x).count a+Gn.count a):
  ∃F',Rel K H0 A0 hs ((kill r.M U).set x (some (dnew,true))) F' σ (upd H2 q (.lst vs')):=by
 obtain⟨ol,on,o0,oap,oh⟩:=rel.own x d hx;obtain⟨gn,gs⟩:=p.fresh rel hf nd;have rel2:=(rel.ext p.same).ext s12;have relk:=rel2.weak (Qcp r.M U);have apn:∀a∈Gn,a∉F x:=λa ha hax=>by
  rcases(gs a ha).2 with z | ⟨k,d',hk,ek,hak⟩
  .obtain⟨vs,w⟩:=rel.mem hx hax;rw[z]at w;cases w
  .have:k≠x:=λz=>hxM (z▸hk);exact oap k d' true this ek a hax hak
 have memF:∀a∈F',a∈F x∨a∈Gn:=λa ha=>by
  have h1:=cF a;have h2:0<F'.count a:=ZaH.mpr ha;by_cases h:a∈F x
  .exact .inl h
  .rw[ZX.mpr h]at h1;exact .inr (ZaH.mp ⋯)
 have apart:∀(j:Nat) d' b,j≠x->(kill r.M U)[j]? =some (some (d',b))->∀a∈F',a∉F j:=λj d' b hj e a ha haj=>by
  obtain⟨b',e',_⟩:=(Qcp r.M U).2 j d' b e;rcases memF a ha with h | h
  .exact oap j d' b' hj e' a h haj
  .rcases(gs a h).2 with z | ⟨k,d'',hk,ek,hak⟩
   .obtain⟨vs,w⟩:=rel.mem e' haj;rw[z]at w;cases w
   .have hjk:j≠k:=λz=>by subst z;exact Qhp r.M U j d' b hk e
    exact(rel.own k d'' ek).2.2.2.1 j d' b' hjk e' a hak haj
 have apartH:∀t∈hs,∀a∈F',a∉t.2.2:=λt ht a ha hat=>by
  rcases memF a ha with h | h
  .exact oh t ht a h hat
  .rcases(gs a h).2 with z | ⟨k,d'',hk,ek,hak⟩
   .obtain⟨vs,w⟩:=(rel.held t ht).1.mem a hat
    rw[z]at w;cases w
   .exact(rel.own k d'' ek).2.2.2.2 t ht a hak hat
 have nqj:∀(j:Nat) d' b,j≠x->U[j]? =some (some (d',b))->q∉F j:=λj d' b hj e h=>oap j d' b hj e q e5 h;have nF':F'.Nodup:=ZaL.mpr λa=>by
  have h1:=cF a;have h2:=ZaL.mp on a;have h3:=ZaL.mp gn a;by_cases h:a∈Gn
  .rw[ZX.mpr (apn a h)]at h1;lia
  .rw[ZX.mpr h]at h1;lia
 have lt:∀{j:Nat}{z:Option (D×Bool)}{y:D×Bool},((kill r.M U).set j z)[j]? =some (some y)->j<(kill r.M U).length:=λ{j z y} e=>by
  by_cases hl:j<(kill r.M U).length
  .exact hl
  .rw[Zs (by simp;lia)]at e;cases e
 refine⟨λj=>if j=x then F' else F j,by simp[relk.len],λj d' b e=>?_,λj d' e=>?_,λj d' b e a ha=>?_,λt ht=>⟨(relk.held t ht).1.upd e1 λh=>oh t ht q e5 h,(relk.held t ht).2⟩,λb o hb=>?_⟩
 .by_cases hj:j=x
  .subst hj;have hl:=lt e;rw[Zx hl]at e;cases e;exact⟨v0,hv0,by rw[if_pos rfl];exact f1⟩
  .rw[Zl (Ne.symm hj)]at e;obtain⟨w,h1,h2⟩:=relk.val j d' b e;obtain⟨b',e',_⟩:=(Qcp r.M U).2 j d' b e;exact⟨w,h1,by rw[if_neg hj];exact h2.upd e1 (nqj j d' b' hj e')⟩
 .by_cases hj:j=x
  .subst hj;have hl:=lt e;rw[Zx hl]at e;cases e;rw[if_pos rfl];refine⟨f2,nF',λa ha=>?_,λk d'' b hk ek a ha=>?_,apartH⟩
   .rcases memF a ha with h | h
    .exact o0 a h
    .exact(gs a h).1
   .rw[Zl (Ne.symm hk)]at ek;rw[if_neg hk];exact apart k d'' b hk ek a ha
  .rw[Zl (Ne.symm hj)]at e;obtain⟨h1,h2,h3,h4,h5⟩:=relk.own j d' e;rw[if_neg hj];refine⟨h1,h2,h3,λk d'' b hk ek a ha=>?_,h5⟩;by_cases hki:k=x
   .subst hki;rw[if_pos rfl];exact λhG=>apart j d' true hj e a hG ha
   .rw[Zl (Ne.symm hki)]at ek;rw[if_neg hki];exact h4 k d'' b hk ek a ha
 .by_cases hj:j=x
  .subst hj;rw[if_pos rfl]at ha;rcases memF a ha with h | h
   .exact .inl (o0 a h)
   .exact .inl (gs a h).1
  .rw[Zl (Ne.symm hj)]at e;rw[if_neg hj]at ha;exact relk.src j d' b e a ha
 .have hbq:b≠q:=λz=>by rw[z,o0 q e5]at hb;cases hb
  rw[QA hbq];exact relk.same b o hb
end
noncomputable abbrev DP:=En->Option (List Int)
noncomputable def Qam:DP:=λ_=>some []
noncomputable def Qcr(p:DP)(fb:DE):DP:=λU=>(p U).bind λis=>(fb U).bind λr=>match r.d with
 | .int i=>some (is++[i])
 | _=>none
noncomputable def tP(K:Fgg)(H0:Hp)(A0:LAd)(x:Nat)(pf:DP):TE:=λσ H Q=>∃U hs F d b is dm,Rel K H0 A0 hs U F σ H/\U[x]? =some (some (d,b))/\pf U=some is/\Qa0 d is=some dm∧
 ∀v0 v H' Gm,QN H H'->σ[x]? =some (some v0)->Focus K H' is d v0 (F x) dm v Gm->Q v H'
def SPa(X:Cx)(e:Expr)(x:Nat)(pf:DP):Prop:=∀H0 A0,PE X e (tP X.K H0 A0 x pf)
section
def Qvy(h:PE X (.Name y pos) (QnP x)):SPa X (.Name y pos) x Qam:=λH0 A0=>h.mono λσ H Q Z=>by
 obtain⟨U,hs,F,d,b,is,dm,rel,hx,hp,hd,q⟩:=Z;cases hp;cases hd;obtain⟨v,h1,h2⟩:=rel.val x d b hx;exact⟨v,h1,q v v H (F x) (QN.refl _) h1 ⟨rfl,rfl,rfl,h2⟩⟩
def QxG(ha:SPa X a x pf)(hb:SE X b fb)(hs:Qia b):SPa X (.Subscript a b pos) x (Qcr pf fb):=λH0 A0=>
 (QvV (QpL.or QsF) (ha H0 A0) (hb H0 A0) hs).mono λσ H Q Z=>by
  obtain⟨U,hs,F,d,b',is,dm,rel,hx,hp,hd,q⟩:=Z;refine Qg hp λis' e1 hp=>?_;refine Qg hp λr e2 hp=>?_;cases hr:r.d with
  | int i=>
   rw[hr]at hp;cases hp;obtain⟨dn,ds,g1,g2,g3⟩:=Qkm hd;refine⟨U,hs,F,d,b',is',dn,rel,hx,e1,g1,λv0 w H1 Gm s1 hv fo=>⟨U,hs,F,r,rel.ext s1,e2,λu H2 G p2=>?_⟩⟩;have rp:=p2.rp;rw[hr]at rp;rw[rp.int_inv];have fo2:=fo.same p2.same;obtain⟨c,vs,v',G',rfl,hc,h3,h4⟩:=Focus.one fo2.rp g2 g3;have fin:=q v0 v' H2 G' (s1.trans p2.same) hv (fo2.snoc h4);rcases hc with⟨_,hc⟩ | ⟨_,hc⟩
   .exact .inl ⟨c,vs,i,v',rfl,rfl,hc,h3,fin⟩
   .exact .inr ⟨c,vs,i,v',rfl,rfl,hc,h3,fin⟩
  | _=>rw[hr]at hp;cases hp
noncomputable def QbF(x:Nat)(pf:DP)(fi fa:DE):DS:=λU=>(fa U).bind λr0=>match U[x]? with
 | some (some (d,true))=>(pf U).bind λis=>(fi U).bind λri=>match ri.d,Qa0 d is with
  | .int k,some (.lst ds)=>(ixN ds.length k).bind λj=>if r0.norm.fr && decide r0.norm.M.Nodup && !r0.norm.M.contains x then some (.nx ((kill r0.norm.M U).set x (some (QaL is d (.lst (ds.set j r0.d)),true))))else
   if is.isEmpty && !r0.norm.M.contains x then some (.nx ((QbG r0.norm.M U).set x (some (.lst (ds.set j r0.d),false))))else
   none
  | _,_=>none
 | _=>none
def set_mk(hq:H2 q=some (.lst vsm))(rs:Rps K H2 dsm vsm Gp)(hl:Gp.length=nls dsm)(nq:q∉Gp)(nqn:q∉Gn)(hn:Rp K H2 dn vn Gn)(hnl:Gn.length=dn.nl)(hj:j<dsm.length):
  ∃G',Rps K (upd H2 q (.lst (vsm.set j vn))) (dsm.set j dn) (vsm.set j vn) G'/\G'.length=nls (dsm.set j dn)/\∀a,G'.count a<=Gp.count a+Gn.count a:=by
 obtain⟨F1,G,F2,v,e1,e2,h1,h2,h3⟩:=rs.split (j:=j) (d:=dsm[j]) (by simp[hj]);subst e1;have hjv:j<vsm.length:=by rw[← rs.length];exact hj
 have n1:q∉F1:=λh=>nq (Zg _ h);have n2:q∉F2:=λh=>nq (Zf _ (Zf _ h));refine⟨F1++(Gn++F2),Rps.QvT (h1.upd hq n1) (hn.upd hq nqn) (h3.upd hq n2) hj hjv,?_,λa=>?_⟩
 .have:=Qh5 (ds:=dsm) (j:=j) (d:=dsm[j]) (e:=dn) (by simp[hj]);have l1:=h1.QaI;have l2:=h2.QaI;have l3:=h3.QaI;have e1:nls (dsm.take j)+((dsm[j]).nl+nls (dsm.drop (j+1)))=nls dsm:=by
   have e2:=congrArg nls (ZN j dsm);rw[Qei,Zaf hj]at e2;simpa only[nls]using e2
  simp only[Zn]at hl ⊢;lia
 .simp only[Zaz];lia
def Qaa.QmB(p:Qaa K U F H H1 r v G)(s:QN H1 H2):Qaa K U F H H2 r v G:=⟨p.same.trans s,p.rp.same s,p.src,p.cnt,p.own⟩
def QwB(hq:H2 q=some (.lst vsm))(rs:Rps K H2 dsm vsm Gp)(nq:q∉Gp)(nqn:q∉Gn)(hn:Rp K H2 dn vn Gn)(hj:j<dsm.length):
  ∃G',Rps K (upd H2 q (.lst (vsm.set j vn))) (dsm.set j dn) (vsm.set j vn) G'/\∀a∈G',a∈Gp∨a∈Gn:=by
 obtain⟨F1,G,F2,v,e1,e2,h1,h2,h3⟩:=rs.split (j:=j) (d:=dsm[j]) (by simp[hj]);subst e1;have hjv:j<vsm.length:=by rw[← rs.length];exact hj
 have n1:q∉F1:=λh=>nq (Zg _ h);have n2:q∉F2:=λh=>nq (Zf _ (Zf _ h));refine⟨F1++(Gn++F2),Rps.QvT (h1.upd hq n1) (hn.upd hq nqn) (h3.upd hq n2) hj hjv,λa ha=>?_⟩;rcases Zr.mp ha with h | h
 .exact .inl (Zg _ h)
 .rcases Zr.mp h with h | h
  .exact .inr h
  .exact .inl (Zf _ (Zf _ h))
def QiR:∀(M:List Nat) (U:En) (x:Nat),x∉M->(QbG M U)[x]? =U[x]?
 | [],U,x,_=>rfl
 | i::M,U,x,h=>by
  have hi:i≠x:=λe=>h (e▸Ze);unfold QbG;rw[QiR M _ x λe=>h (Zb _ e)];split
  .rw[Zl hi]
  .rfl
def Rel.QBD(rel:Rel K H0 A0 hs U F σ H)(hx:U[x]? =some (some (d,true)))(sh:Shr H0 A0 U F Gn)(hv0:σ[x]? =some (some v0))
  {dnew:D}{q:Addr}{G':LAd}{vsm vs':List V}(e1:H q=some (.lst vsm)) (e5:q∈F x) (f1:Rp K (upd H q (.lst vs')) dnew v0 G') (mem:∀a∈G',a∈F x∨a∈Gn):
  ∃F',Rel K H0 A0 hs (U.set x (some (dnew,false))) F' σ (upd H q (.lst vs')):=by
 obtain⟨ol,on,o0,oap,oh⟩:=rel.own x d hx;have lt:∀{j:Nat}{z:Option (D×Bool)}{y:D×Bool},(U.set j z)[j]? =some (some y)->j<U.length:=λ{j z y} e=>by
  by_cases hl:j<U.length
  .exact hl
  .rw[Zs (by simp;lia)]at e;cases e
 refine⟨λj=>if j=x then G' else F j,by simp[rel.len],λj d' b e=>?_,λj d' e=>?_,λj d' b e a ha=>?_,λt ht=>⟨(rel.held t ht).1.upd e1 λh=>oh t ht q e5 h,(rel.held t ht).2⟩,λb o hb=>?_⟩
 .by_cases hj:j=x
  .subst hj;have hl:=lt e;rw[Zx hl]at e;cases e;exact⟨v0,hv0,by rw[if_pos rfl];exact f1⟩
  .rw[Zl (Ne.symm hj)]at e;obtain⟨w,h1,h2⟩:=rel.val j d' b e;exact⟨w,h1,by rw[if_neg hj];exact h2.upd e1 λh=>oap j d' b hj e q e5 h⟩
 .by_cases hj:j=x
  .subst hj;have hl:=lt e;rw[Zx hl]at e;cases e
  .rw[Zl (Ne.symm hj)]at e;obtain⟨h1,h2,h3,h4,h5⟩:=rel.own j d' e;rw[if_neg hj];refine⟨h1,h2,h3,λk d'' b hk ek a ha=>?_,h5⟩;by_cases hki:k=x
   .subst hki;rw[if_pos rfl];intro hG;rcases mem a hG with h | h
    .exact h4 k d true (Ne.symm hj) hx a ha h
    .exact(sh a h).2 j d' e ha
   .rw[Zl (Ne.symm hki)]at ek;rw[if_neg hki];exact h4 k d'' b hk ek a ha
 .by_cases hj:j=x
  .subst hj;rw[if_pos rfl]at ha;rcases mem a ha with h | h
   .exact .inl (o0 a h)
   .exact(sh a h).1
  .rw[Zl (Ne.symm hj)]at e;rw[if_neg hj]at ha;exact rel.src j d' b e a ha
 .have hbq:b≠q:=λz=>by rw[z,o0 q e5]at hb;cases hb
  rw[QA hbq];exact rel.same b o hb
def Qyj(hv:SE X e fa)(ho:SPa X a x pf)(hi:SE X i fi)
  (h:∀te to ti,PE X e te->PE X a to->PE X i ti->PS X (.Assign [.Subscript a i pos'] e pos) (QmN te (L2.QaS to ti Qv7))):S1 X (.Assign [.Subscript a i pos'] e pos) (QbF x pf fi fa):=λH0 A0=>
 (h _ _ _ (hv H0 A0) (ho H0 A0) (hi H0 A0)).mono λE σ H=>exK λU hs F o rel e q=>by
  refine Qg e λr0 e1 e=>?_;split at e
  .rename_i d hx;refine Qg e λis e2 e=>?_;refine Qg e λri e3 e=>?_;split at e
   .rename_i k ds hk hp;refine Qg e λj e4 e=>?_;split at e
    .rename_i hc;cases e;simp only[Zk,decide_eq_true_eq,Zan]at hc;obtain⟨⟨c1,c2⟩,c3⟩:=hc;have c3:x∉r0.norm.M:=λh=>by rw[ZbI.mpr h]at c3;cases c3
     refine⟨U,hs,F,r0,rel,e1,λvn H1 Gn p=>⟨U,hs,F,d,true,is,.lst ds,rel.ext p.same,hx,e2,hp,λv0 w H2 Gm s2 hv0 fo=>⟨U,hs,F,ri,(rel.ext p.same).ext s2,e3,λu H3 Gi pi=>?_⟩⟩⟩;have p':=(p.norm.QmB s2).QmB pi.same;have fo3:=fo.same pi.same;have rpi:=pi.rp;rw[hk]at rpi;rw[rpi.int_inv];obtain⟨l,ws,L,rfl,_⟩:=fo3.rp.lst_inv;obtain⟨ol,on,_,oap,_⟩:=rel.own x d hx;have hjl:=(Qgl e4).2.1;obtain⟨gn,gs⟩:=p'.fresh rel c1 c2;have rn:=p'.rp;rw[r0.Qdm]at rn;have hnl:=(p'.cnt c1).2;rw[r0.Qdm]at hnl;obtain⟨vsm,_,f1,_⟩:=fo3.mut (vs':=[]) (ds':=[]) (G':=[]) on ol;obtain⟨_,_,_,_,_,_,zl,_⟩:=fo3.rp.lst_inv;have key:∃F',Rp X.K (upd H3 l (.lst (vsm.set j vn))) (QaL is d (.lst (ds.set j r0.d))) v0 F'/\F'.length=(QaL is d (.lst (ds.set j r0.d))).nl/\l∈F x/\ds.length=vsm.length/\∀a,F'.count a<=(F x).count a+Gn.count a:=by
      have own5:∀G',_:=λG'=>fo3.mut (vs':=vsm.set j vn) (ds':=ds.set j r0.d) (G':=G') on ol;obtain⟨vs1,Gp,g1,g2,g3,g4,g5,g6,g7,_⟩:=own5 [];rw[f1]at g1;cases g1;have hq:l∉Gn:=λh=>by
       rcases(gs l h).2 with z | ⟨k',d',hk',ek,hak⟩
       .obtain⟨vs,w⟩:=rel.mem hx g5;rw[z]at w;cases w
       .exact oap k' d' true (λz=>c3 (z▸hk')) ek l g5 hak
      obtain⟨G',m1,m2,m3⟩:=set_mk f1 g3 g4 g7 hq rn hnl hjl;obtain⟨vs2,Gp2,k1,k2,k3,k4,k5,k6,k7,k8⟩:=own5 G';have eG:Gp2=Gp:=by rw[g2]at k2;exact(List.cons.inj k2).2.symm
      subst eG;obtain⟨F',h1,h2,h3⟩:=k8 m1 (by rw[ZaX];exact zl) m2;exact⟨F',h1,h2,g5,g3.length,λa=>by have:=h3 a;have:=m3 a;lia⟩
     obtain⟨F',k1,k2,k3,k4,k5⟩:=key;refine⟨l,vsm,k,j,rfl,rfl,f1,by rw[← k4];exact e4,?_⟩;obtain⟨F'',rel'⟩:=rel.mut p' c1 c2 (QN.refl _) hx c3 hv0 f1 k3 k1 k2 k5;exact q _ _ F'' rel'
    ·
     split at e
     .rename_i hc;cases e;simp only[Zk,Zan,List.isEmpty_iff]at hc;obtain⟨rfl,c3⟩:=hc;have c3:x∉r0.norm.M:=λh=>by rw[ZbI.mpr h]at c3;cases c3
      refine⟨U,hs,F,r0,rel,e1,λvn H1 Gn p=>⟨U,hs,F,d,true,[],.lst ds,rel.ext p.same,hx,e2,hp,λv0 w H2 Gm s2 hv0 fo=>⟨U,hs,F,ri,(rel.ext p.same).ext s2,e3,λu H3 Gi pi=>?_⟩⟩⟩;have p':=(p.norm.QmB s2).QmB pi.same;have fo3:=fo.same pi.same;have rpi:=pi.rp;rw[hk]at rpi;rw[rpi.int_inv];obtain⟨l,ws,L,rfl,_⟩:=fo3.rp.lst_inv;obtain⟨ol,on,_,oap,_⟩:=rel.own x d hx;have hjl:=(Qgl e4).2.1;have rn:=p'.rp;rw[r0.Qdm]at rn;obtain⟨vsm,Gp,f1,g2,g3,g4,g5,g6,g7,_⟩:=fo3.mut (vs':=[]) (ds':=[]) (G':=[]) on ol;obtain⟨_,_,_,_,_,_,zl,_⟩:=fo3.rp.lst_inv;have sh:=Shr.of rel p'.src;have relD:=(rel.ext p'.same).weak (Qb8 r0.norm.M U);have hxD:(QbG r0.norm.M U)[x]? =some (some (d,true)):=by rw[QiR _ _ _ c3];exact hx
      have hq:l∉Gn:=λh=>(sh l h).2 x d hxD g5;obtain⟨G',m1,m3⟩:=QwB f1 g3 g7 hq rn hjl;have e0:v0= .ref l:=(fo3.2.1).symm;subst e0;refine⟨l,vsm,k,j,rfl,rfl,f1,by rw[← g3.length];exact e4,?_⟩;obtain⟨F'',rel'⟩:=relD.QBD (dnew:= .lst (ds.set j r0.d)) (G':=l::G') (vs':=vsm.set j vn) hxD sh hv0 f1 g5 (Rp.QdX Q4 m1 (by rw[ZaX];exact zl)) λa ha=>by
       rcases Zm.mp ha with h | h
       .exact .inl (h▸g5)
       .rcases m3 a h with h | h
        .exact .inl (g6 a h)
        .exact .inr h
      exact q _ _ F'' rel'
     ·
      cases e
   .cases e
  .cases e
end
section
variable {K:Fgg}{H0 H H1 H2 H3:Hp}{A0:LAd}{hs:List (V×D×List Addr)}{U:En}{F:Nat->List Addr}{σ:L2.St}
def Rel.write(rel:Rel K H0 A0 hs U F σ H)(p:Qaa K U F H H3 r vn Gn)(hf:r.fr=true)(nd:r.M.Nodup)(hx:U[x]? =some (some (d,true)))(hxM:x∉r.M)(hv0:σ[x]? =some (some v0))
  {is:List Int}{ds:List D}{Gm:LAd}(fo:Focus K H3 is d v0 (F x) (.lst ds) w Gm):
  ∃l vsm Gp,w= .ref l/\H3 l=some (.lst vsm)/\Rps K H3 ds vsm Gp/\Gp.length=nls ds/\l∉Gp/\l∉Gn/\ds.length<=sizeLine∧
   ∀ds' vs' G',Rps K (upd H3 l (.lst vs')) ds' vs' G'->ds'.length<=sizeLine->G'.length=nls ds'->(∀a,G'.count a<=Gp.count a+Gn.count a)→
    ∃F',Rel K H0 A0 hs ((kill r.M U).set x (some (QaL is d (.lst ds'),true))) F' σ (upd H3 l (.lst vs')):=by
 obtain⟨l,ws,L,rfl,_,_,zl,_⟩:=fo.rp.lst_inv;obtain⟨ol,on,_,oap,_⟩:=rel.own x d hx;obtain⟨gn,gs⟩:=p.fresh rel hf nd;obtain⟨vsm,Gp,g1,g2,g3,g4,g5,g6,g7,_⟩:=fo.mut (vs':=[]) (ds':=[]) (G':=[]) on ol;have hq:l∉Gn:=λh=>by
  rcases(gs l h).2 with z | ⟨k',d',hk',ek,hak⟩
  .obtain⟨vs,w⟩:=rel.mem hx g5;rw[z]at w;cases w
  .exact oap k' d' true (λz=>hxM (z▸hk')) ek l g5 hak
 refine⟨l,vsm,Gp,rfl,g1,g3,g4,g7,hq,zl,λds' vs' G' m1 m2 m3 m4=>?_⟩;obtain⟨vs2,Gp2,k1,k2,k3,k4,k5,k6,k7,k8⟩:=fo.mut (vs':=vs') (ds':=ds') (G':=G') on ol;have eG:Gp2=Gp:=by rw[g2]at k2;exact(List.cons.inj k2).2.symm
 subst eG;obtain⟨F',h1,h2,h3⟩:=k8 m1 m2 m3;exact rel.mut p hf nd (QN.refl _) hx hxM hv0 g1 g5 h1 h2 λa=>by have:=h3 a;have:=m4 a;lia
end
section
variable {X:Cx}{a b e:Expr}{fa fb:DE}{pf:DP}{x:Nat}{pos apos:Pos}
noncomputable def Qid(r:R)(x:Nat):Bool:=r.norm.fr && decide r.norm.M.Nodup && !r.norm.M.contains x
def Qs2(h:Qid r x=true):r.norm.fr=true/\r.norm.M.Nodup/\x∉r.norm.M:=by
 unfold Qid at h;simp only[Zk,decide_eq_true_eq,Zan]at h;exact⟨h.1.1,h.1.2,λz=>by rw[ZbI.mpr z]at h;cases h.2⟩
noncomputable def Qds(x:Nat)(pf:DP)(fa:DE):DS:=λU=>match U[x]? with
 | some (some (d,true))=>(pf U).bind λis=>(fa U).bind λr0=>match Qa0 d is with
  | some (.lst ds)=>if Qid r0 x && decide (ds.length<sizeLine)then some (.nx ((kill r0.norm.M U).set x (some (QaL is d (.lst (ds++[r0.d])),true))))else none
  | _=>none
 | _=>none
def QtZ{H0:Hp}{A0:LAd}{E:Ends}{σ:L2.St}{H:Hp}:tS X.K H0 A0 (Qds x pf fa) E σ H->QmI (tBM X.K "list" Qpz (tP X.K H0 A0 x pf) (QqL (tV X.K H0 A0 fa) Qrf)) E σ H:=exK λU hs F o rel e q=>by
 unfold Qds at e;split at e
 .rename_i d hx;refine Qg e λis e2 e=>?_;refine Qg e λr0 e1 e=>?_;split at e
  .rename_i ds hp;split at e
   .rename_i hc;simp only[Zk,decide_eq_true_eq]at hc;obtain⟨c1,c2,c3⟩:=Qs2 hc.1;cases e;refine⟨U,hs,F,d,true,is,.lst ds,rel,hx,e2,hp,λv0 w H2 Gm s2 hv0 fo=>?_⟩;have ty:tyV X.K "list" w H2:=by
     obtain⟨l,ws,L,rfl,hl,_⟩:=fo.rp.lst_inv;exact .inl ⟨rfl,ws,QT hl⟩
    refine⟨ty,U,hs,F,r0,rel.ext s2,e1,λvn H3 Gn p=>?_⟩;have p':=p.norm;obtain⟨l,vsm,Gp,rfl,g1,g2,g3,g4,g5,g6,g7⟩:=(rel.ext s2).write p' c1 c2 hx c3 hv0 (fo.same p.same);refine⟨l,vsm,vn,rfl,rfl,g1,by rw[← g2.length];exact hc.2,?_⟩;have rn:=p'.rp;rw[r0.Qdm]at rn;have hnl:=(p'.cnt c1).2;rw[r0.Qdm]at hnl;have rw1:Rps X.K (upd H3 l (.lst (vsm++[vn]))) [r0.d] [vn] Gn:=by
     simp only[Rps];exact⟨vn,[],Gn,[],rfl,⋯,rn.upd g1 g5,rfl,rfl⟩
    obtain⟨F',rel'⟩:=g7 (ds++[r0.d]) (vsm++[vn]) (Gp++Gn) ((g2.upd g1 g4).append rw1) (by rw[Zn,ZbH];lia) (by rw[Zn,Qei,g3,hnl];simp[nls]) (λa=>by rw[Zaz];lia);exact q _ _ F' rel'
   .cases e
  .cases e
 .cases e
open PyProof.Rows in
def Qs5:QzO X (Qzb X.K):=by
 intro pins s σ H o i ov iv Q I ro ri h;obtain⟨p,xs,k,v,rfl,rfl,hq,ha,q⟩:=h;cases ro;obtain⟨t,rfl⟩:=ri;obtain⟨its,r,pl,hz⟩:=I.list hq;obtain⟨j,h1,h2,h3,h4,h5⟩:=Qll ha;obtain⟨w,ew,rw'⟩:=r.get h2;have hl:=r.length;have hn:=Qgk;by_cases h0:0<=k
 .refine wpAny_getItem_list pl.isList h0 ⋯ (x:=w) ?_ ⟨v,H,I,rw',q⟩;have:k.toNat=j:=by
   rw[seqIndex_of h0 h5]at h1;exact Option.some.inj h1
  rw[this];simpa using ew
 .refine wpAny_getItem_list_neg pl.isList ⋯ (by rw[Zy]<;>lia) ⋯ (x:=w) ?_ ⟨v,H,I,rw',q⟩;have hj:(k+(its.toArray.size:Int)).toNat=j:=by
   rw[seqIndex_neg ⋯ h4]at h1;rw[Zy,← hl];exact Option.some.inj h1
  rw[hj];simpa using ew
noncomputable def Qdh(g:D->D->Option D)(x:Nat)(pf:DP)(fi fa:DE):DS:=λU=>match U[x]? with
 | some (some (d,true))=>(pf U).bind λis=>(fi U).bind λri=>match ri.d,Qa0 d is with
  | .int k,some (.lst ds)=>(ixN ds.length k).bind λj=>(ds[j]?).bind λold=>(fa U).bind λr=>(g old r.d).map λnew=> .nx (U.set x (some (QaL is d (.lst (ds.set j new)),true)))
  | _,_=>none
 | _=>none
def QwO(ho:OpR X (inplaceOp op) r)(hg:QbB X.K g r)(hv:SE X e fa)(hp:SPa X a x pf)(hi:SE X i fi)
  (ha:∀ov iv new,augStore i ov iv new=(do holding [new,ov,iv] (setItem ov iv new);release [new,ov,iv] [];pure .next)):S1 X (.AugAssign (.Subscript a i pos') op e pos) (Qdh g x pf fi fa):=λH0 A0=>
 (QwG (hp H0 A0) (hi H0 A0) Qs5 (hv H0 A0) (λpins s σ H x y v u Q I rx ry q=>QyD ho I rx ry q) set_list ha).mono λE σ H=>exK λU hs F o rel e q=>by
  unfold Qdh at e;split at e
  .rename_i d hx;refine Qg e λis e2 e=>?_;refine Qg e λri e3 e=>?_;split at e
   .rename_i k ds hk hp';refine Qg e λj e4 e=>?_;refine Qg e λold e5 e=>?_;refine Qg e λrv e6 e=>?_;obtain⟨new,e7,e⟩:=Zh.mp e;subst e;have hjl:=(Qgl e4).2.1;refine⟨U,hs,F,d,true,is,.lst ds,rel,hx,e2,hp',λv0 w H2 Gm s2 hv0 fo=>⟨U,hs,F,ri,rel.ext s2,e3,λu H3 Gi pi=>?_⟩⟩;have fo3:=fo.same pi.same;have rpi:=pi.rp;rw[hk]at rpi;rw[rpi.int_inv];have at3:atI ds k=some old:=by unfold atI;rw[e4];exact e5
    obtain⟨l,vs,v',Go,rfl,hc,h3,h4⟩:=Focus.one fo3.rp rfl at3;have hc:SqL X.K H3 l vs:=by
     rcases hc with⟨_,hc⟩ | ⟨hc,_⟩
     .exact hc
     .cases hc
    refine⟨l,vs,k,v',rfl,rfl,hc,h3,U,hs,F,rv,(rel.ext s2).ext pi.same,e6,λy H4 G4 p4=>?_⟩;have fo4:=fo3.same p4.same;have ro:=h4.rp.same p4.same;refine(hg _ _ _ e7).2 H4 v' y Go G4 _ ro p4.rp λz hz=>?_;have rel4:=((rel.ext s2).ext pi.same).ext p4.same;have pz:Qaa X.K U F H4 H4 ⟨new,true,[]⟩ z []:= .flat (QN.refl _) (hz H4) (hg _ _ _ e7).1;obtain⟨l',vsm,Gp,el,g1,g2,g3,g4,g5,g6,g7⟩:=rel4.write pz rfl ZaJ hx ⋯ hv0 fo4;cases el;refine⟨l,vsm,k,j,rfl,rfl,g1,by rw[← g2.length];exact e4,?_⟩;obtain⟨G',m1,m2,m3⟩:=set_mk g1 g2 g3 g4 g5 (hz H4) (QdK new (hg _ _ _ e7).1).symm hjl;obtain⟨F',rel'⟩:=g7 _ _ G' m1 (by rw[ZaX];exact g6) m2 m3;exact q _ _ F' rel'
   .cases e
  .cases e
end
end HS
namespace HS
open PySem PySem.Spec L2 PyProof.Rows
def QbT:∀{ds:List D}{ns:List Int},Qb5 ds=some ns->ds=ns.map .int
 | [],_,h=>by cases h;rfl
 | d::ds,ns,h=>by
  unfold Qb5 at h;refine Qg h λi h1 h=>?_;obtain⟨r,h2,rfl⟩:=Zh.mp h;cases d with
  | int j=>cases h1;rw[QbT h2];rfl
  | _=>cases h1
def QdL:∀(ns:List Int),Qb5 (ns.map D.int)=some ns
 | []=>rfl
 | n::ns=>by simp[Qb5,QdL ns,D.Qv4]
def Rps.ints{K:Fgg}{H:Hp}:∀{ns:List Int}{vs:List V}{F:LAd},Rps K H (ns.map .int) vs F->vs=ns.map .int
 | [],_,_,h=>by simp only[ZbC,Rps]at h;rw[h.1];rfl
 | n::ns,_,_,h=>by
  simp only[ZA,Rps]at h;obtain⟨v,ws,F1,F2,rfl,rfl,r,q⟩:=h;rw[r.int_inv,Rps.ints q];rfl
def QbU(h:Qz (ns.map V.int) us):IntsAre us ns:=intsAre_of h
section
variable {X:Cx}{a b e:Expr}{es:List Expr}{fa fb:DE}{fs:DA}{pos p2:Pos}
def Qzh(he:PE X e te)(hk:PE X k tk):PE X (.Subscript e (.Slice none none (some k) p2) pos)
  (λσ H Q=>te σ H λx H1=>tk σ H1 λy H2=>∃a xs,x= .ref a/\y= .int (-1)/\SqL X.K H2 a xs/\∀p,H2 p=none->Q (.ref p) (upd H2 p (.lst xs.reverse))):=by
 intro pins s σ H Q I h;refine PyProof.Rows.Subscript_ (thn (he pins s σ H _ I h) λv s1=>exJ λx H1 I1 r1 q1=>?_);refine wpAny_Slice ?_;rw[evalPart_none];refine wpAny_pure (wpAny_pure ?_);rw[evalPart_some];refine thn (hk pins s1 σ H1 _ I1 q1) λvk s3=>exJ λy H3 I3 r3 q3=>?_;obtain⟨c,xs,rfl,rfl,hq,q⟩:=q3;cases r1;obtain⟨t,rfl⟩:=r3;have I4:Inv X pins σ H3 {s3 with heap:=s3.heap.push {cls:= .type "slice",data:= .fields #[.none,.none,.int (-1) t]}}:=I3.kept (t':=s3.toks) λb ob q=>Zc _ q;obtain⟨its,r,ht,hz⟩:=I4.list hq;have hlen:=r.length;refine tail_any ht.isList.typeIs slot_list_getitem.lookup ?_ (by with_unfolding_all rfl);refine wpAny_getItem_list_slice ht.isList (Heap.IsSliceOf.new ..) .none .none (.int (-1) t) ⋯ ?_ (by rw[Zy]<;>lia);rw[PySem.W.krv_pick];refine⟨.ref _,_,I4.laid (t':=s3.toks) (λb ob q=>Zc _ q) (Zd _) ?_,rfl,q _ (I4.hok.fresh (Zd _))⟩;exact⟨by rw[ZbU];exact hz,its.reverse,0,r.reverse,ZD _ rfl⟩
def Rps.rev{K:Fgg}{H:Hp}:∀{ds:List D}{vs:List V}{F:LAd},Rps K H ds vs F->∃G,Rps K H ds.reverse vs.reverse G/\∀a∈G,a∈F
 | [],_,_,h=>by simp only[Rps]at h;rw[h.1,h.2];exact⟨[],by simp[Rps],λ_ h=>h⟩
 | d::ds,_,_,h=>by
  simp only[Rps]at h;obtain⟨v,ws,F1,F2,rfl,rfl,r,q⟩:=h;obtain⟨G,h1,h2⟩:=Rps.rev q;refine⟨G++F1,?_,λa ha=>?_⟩
  .rw[ZbE,ZbE];refine h1.append ?_;simp only[Rps];exact⟨v,[],F1,[],rfl,⋯,r,rfl,rfl⟩
  .rcases Zr.mp ha with z | z
   .exact Zf _ (h2 a z)
   .exact Zg _ z
noncomputable def QnZ(fa fk:DE):DE:=λU=>(fa U).bind λra=>(fk U).bind λrk=>match ra.d,rk.d with
 | .lst xs,.int (-1)=>some (QaA xs.reverse ra.M)
 | _,_=>none
def Qx7{k:Expr}{fk:DE}(ha:SE X a fa)(hk:SE X k fk):SE X (.Subscript a (.Slice none none (some k) p2) pos) (QnZ fa fk):=λH0 A0=>
 (Qzh (ha H0 A0) (hk H0 A0)).mono λσ H Q=>exK λU hs F r' rel e q=>by
  refine Qg e λra e1 e=>?_;refine Qg e λrk e2 e=>?_;refine two rel e1 e2 λx y H1 H2 G1 G2 p1 p2=>?_;split at e
  .rename_i xs hra hrk;cases e;have rp:=p1.rp.same p2.same;have rk':=p2.rp;rw[hra]at rp;rw[hrk]at rk';obtain⟨c,vs,L,rfl,hc,rl,zl,el⟩:=rp.lst_inv;refine⟨c,vs,rfl,rk'.int_inv,QT hc,λp hp=>?_⟩;obtain⟨G,h1,h2⟩:=rl.rev;refine q _ _ (p::G) (Qaa.QaA (p1.same.trans p2.same) hp h1 (by rw[ZbU];exact zl) (λz hz=>p1.src z ?_) p1.own);rcases el with rfl | rfl
   .exact Zb _ (h2 z hz)
   .exact h2 z hz
  .cases e
def Qqy(K:Fgg)(C:List Int->Int->Prop):List V->Hp->VK->Prop:=λxs H Q=>∃(p:Addr) (ns:List Int),xs=[.ref p]/\(SqL K H p (ns.map V.int)∨SqT K H p (ns.map V.int))/\ns≠[]/\∀M,C ns M->Q (.int M) H
def Qki(ns:List Int)(M:Int):Prop:=M∈ns/\∀a∈ns,M<=a
def isMax(ns:List Int)(M:Int):Prop:=M∈ns/\∀a∈ns,a<=M
def Qej(hi:IntsAre us ns):∃xs:Array (Int×Tok),us.toArray=intItems xs/\ns=xs.toList.map (·.1):=by
 obtain⟨xs,e⟩:=hi.allInts.items;exact⟨xs,e,by rw[← hi.numsOf,← nums_intItems,← e]⟩
def Qn0(hh:A.handled=none)(hl:s.heap.IsTuple l (intItems xs))(hne:0<xs.size)
  (h:∀v h' tk,(intItems xs)[argBest (λi j=>decide (numAt xs i<numAt xs j)) (xs.size-1)]? =some v->(∀b o,s.heap.get? b=some o->h'.get? b=some o)->Q v {s with heap:=h',toks:=tk}):
  wpAny (model prog w) A (call (.builtin "min") [.ref l]) Q E s:=by
 have hlt:l<s.heap.objs.size:=by obtain⟨_,e,_⟩:=hl;exact Zt e
 refine call_min_walk (wpAny_pyIter_tuple hl ?_);refine⟨_,[_,l],[_],_,_,_,_,rfl,Walks.tuple (A:=A.in1) hh _ l (ZJ hlt) (intItems xs),⟨⟨_,ZD _ rfl,rfl,rfl⟩,hl.push _⟩,λb hb=>?_,by simpa[intItems]using hne,CmpOf.ints_lt (numAt xs) (λ_ _=>intItems_at),λv h' tk hP hk=>?_⟩
 .show b<(s.heap.push _).objs.size;rw[ZaB];rcases Zm.mp hb with rfl | hb
  .exact Zak _
  .rcases Zm.mp hb with rfl | hb
   .exact Zay hlt
   .cases hb
 .refine h v h' tk (by simpa[intItems]using hP) λb o e=>?_;refine hk b o (λhm=>?_) (Zc _ e);rcases Zm.mp hm with e1 | hm
  .exact absurd (e1▸Zt e) (Zaa _)
  .cases hm
def Qsv(hc:X.calm=true):Qb6 X (.builtin "min") (Qqy X.K Qki):=by
 intro pins s σ H xs us Q I r h;obtain⟨p,ns,rfl,hq,hne,q⟩:=h;obtain⟨u,rfl,rx⟩:=vals1 r;cases rx;rcases hq with hq | hq
 .obtain⟨its,r',pl,hz⟩:=I.list hq;obtain⟨ys,e,hns⟩:=Qej (QbU r');have hl:=pl.isList;rw[e]at hl;have hsz:0<ys.size:=by
   rcases Zbz ys.size with z | z
   .exact absurd (by rw[hns,Zbw];exact ZV (by simpa using z)) hne
   .exact z
  refine min_intList (I.ok.hd hc) hl hsz λv h' tk hv hk=>?_;obtain⟨t,rfl⟩:=intItems_at hv;obtain⟨h1,h2⟩:=argBest_lt (numAt ys) (ys.size-1);refine⟨.int _,H,I.kept hk,⟨t,rfl⟩,q _ ⟨?_,λa ha=>?_⟩⟩
  .rw[hns,numAt_eq];exact getD_mem (by rw[Zj,Zv];lia)
  .rw[hns]at ha;obtain⟨j,hj,rfl⟩:=mem_getD ha;rw[Zj,Zv]at hj;rw[← numAt_eq];exact h2 j ⋯
 .obtain⟨its,r',pl,hz⟩:=I.tuple hq;obtain⟨ys,e,hns⟩:=Qej (QbU r');have hl:=pl;rw[e]at hl;have hsz:0<ys.size:=by
   rcases Zbz ys.size with z | z
   .exact absurd (by rw[hns,Zbw];exact ZV (by simpa using z)) hne
   .exact z
  refine Qn0 (I.ok.hd hc) hl hsz λv h' tk hv hk=>?_;obtain⟨t,rfl⟩:=intItems_at hv;obtain⟨h1,h2⟩:=argBest_lt (numAt ys) (ys.size-1);refine⟨.int _,H,I.kept hk,⟨t,rfl⟩,q _ ⟨?_,λa ha=>?_⟩⟩
  .rw[hns,numAt_eq];exact getD_mem (by rw[Zj,Zv];lia)
  .rw[hns]at ha;obtain⟨j,hj,rfl⟩:=mem_getD ha;rw[Zj,Zv]at hj;rw[← numAt_eq];exact h2 j ⋯
def QmQ(hh:A.handled=none)(hl:s.heap.IsTuple l (intItems xs))(hne:0<xs.size)
  (h:∀v h' tk,(intItems xs)[argBest (λi j=>decide (numAt xs i>numAt xs j)) (xs.size-1)]? =some v->(∀b o,s.heap.get? b=some o->h'.get? b=some o)->Q v {s with heap:=h',toks:=tk}):
  wpAny (model prog w) A (call (.builtin "max") [.ref l]) Q E s:=by
 have hlt:l<s.heap.objs.size:=by obtain⟨_,e,_⟩:=hl;exact Zt e
 refine call_max_walk (wpAny_pyIter_tuple hl ?_);refine⟨_,[_,l],[_],_,_,_,_,rfl,Walks.tuple (A:=A.in1) hh _ l (ZJ hlt) (intItems xs),⟨⟨_,ZD _ rfl,rfl,rfl⟩,hl.push _⟩,λb hb=>?_,by simpa[intItems]using hne,CmpOf.ints_gt (numAt xs) (λ_ _=>intItems_at),λv h' tk hP hk=>?_⟩
 .show b<(s.heap.push _).objs.size;rw[ZaB];rcases Zm.mp hb with rfl | hb
  .exact Zak _
  .rcases Zm.mp hb with rfl | hb
   .exact Zay hlt
   .cases hb
 .refine h v h' tk (by simpa[intItems]using hP) λb o e=>?_;refine hk b o (λhm=>?_) (Zc _ e);rcases Zm.mp hm with e1 | hm
  .exact absurd (e1▸Zt e) (Zaa _)
  .cases hm
def Qtg(hc:X.calm=true):Qb6 X (.builtin "max") (Qqy X.K isMax):=by
 intro pins s σ H xs us Q I r h;obtain⟨p,ns,rfl,hq,hne,q⟩:=h;obtain⟨u,rfl,rx⟩:=vals1 r;cases rx;rcases hq with hq | hq
 .obtain⟨its,r',pl,hz⟩:=I.list hq;obtain⟨ys,e,hns⟩:=Qej (QbU r');have hl:=pl.isList;rw[e]at hl;have hsz:0<ys.size:=by
   rcases Zbz ys.size with z | z
   .exact absurd (by rw[hns,Zbw];exact ZV (by simpa using z)) hne
   .exact z
  refine max_intList (I.ok.hd hc) hl hsz λv h' tk hv hk=>?_;obtain⟨t,rfl⟩:=intItems_at hv;obtain⟨h1,h2⟩:=argBest_gt (numAt ys) (ys.size-1);refine⟨.int _,H,I.kept hk,⟨t,rfl⟩,q _ ⟨?_,λa ha=>?_⟩⟩
  .rw[hns,numAt_eq];exact getD_mem (by rw[Zj,Zv];lia)
  .rw[hns]at ha;obtain⟨j,hj,rfl⟩:=mem_getD ha;rw[Zj,Zv]at hj;rw[← numAt_eq];exact h2 j ⋯
 .obtain⟨its,r',pl,hz⟩:=I.tuple hq;obtain⟨ys,e,hns⟩:=Qej (QbU r');have hl:=pl;rw[e]at hl;have hsz:0<ys.size:=by
   rcases Zbz ys.size with z | z
   .exact absurd (by rw[hns,Zbw];exact ZV (by simpa using z)) hne
   .exact z
  refine QmQ (I.ok.hd hc) hl hsz λv h' tk hv hk=>?_;obtain⟨t,rfl⟩:=intItems_at hv;obtain⟨h1,h2⟩:=argBest_gt (numAt ys) (ys.size-1);refine⟨.int _,H,I.kept hk,⟨t,rfl⟩,q _ ⟨?_,λa ha=>?_⟩⟩
  .rw[hns,numAt_eq];exact getD_mem (by rw[Zj,Zv];lia)
  .rw[hns]at ha;obtain⟨j,hj,rfl⟩:=mem_getD ha;rw[Zj,Zv]at hj;rw[← numAt_eq];exact h2 j ⋯
noncomputable def Qjm:List Int->Option Int
 | []=>none
 | [n]=>some n
 | n::r=>(Qjm r).map λm=>if m<n then m else n
noncomputable def Qja:List Int->Option Int
 | []=>none
 | [n]=>some n
 | n::r=>(Qja r).map λm=>if n<m then m else n
def QhY:∀{ns:List Int}{m:Int},Qjm ns=some m->Qki ns m
 | [],_,h=>by cases h
 | [n],_,h=>by cases h;exact⟨⋯,λa ha=>by simp at ha;lia⟩
 | n::k::r,m,h=>by
  simp only[Qjm]at h;obtain⟨m',h1,rfl⟩:=Zh.mp h;obtain⟨h2,h3⟩:=QhY h1;constructor
  .split
   .exact Zb _ h2
   .exact Ze
  .intro a ha;rcases Zm.mp ha with rfl | ha
   .split<;>lia
   .have:=h3 a ha;split<;>lia
def Qh8:∀{ns:List Int}{m:Int},Qja ns=some m->isMax ns m
 | [],_,h=>by cases h
 | [n],_,h=>by cases h;exact⟨⋯,λa ha=>by simp at ha;lia⟩
 | n::k::r,m,h=>by
  simp only[Qja]at h;obtain⟨m',h1,rfl⟩:=Zh.mp h;obtain⟨h2,h3⟩:=Qh8 h1;constructor
  .split
   .exact Zb _ h2
   .exact Ze
  .intro a ha;rcases Zm.mp ha with rfl | ha
   .split<;>lia
   .have:=h3 a ha;split<;>lia
def Ql7{ns:List Int}{a b:Int}(h:Qki ns a)(g:Qki ns b):a=b:=by have:=h.2 b g.1;have:=g.2 a h.1;lia
def Ql3{ns:List Int}{a b:Int}(h:isMax ns a)(g:isMax ns b):a=b:=by have:=h.2 b g.1;have:=g.2 a h.1;lia
noncomputable def Qib:List D->Option D
 | [.lst xs]=>(Qb5 xs).bind λns=>(Qjm ns).map .int
 | [.tup xs]=>(Qb5 xs).bind λns=>(Qjm ns).map .int
 | _=>none
noncomputable def QgV:List D->Option D
 | [.lst xs]=>(Qb5 xs).bind λns=>(Qja ns).map .int
 | [.tup xs]=>(Qb5 xs).bind λns=>(Qja ns).map .int
 | _=>none
def Qwj{K:Fgg}:QeL K Qib (Qqy K Qki):=λds d e=>by
 unfold Qib at e;split at e
 .refine Qg e λns h1 e=>?_;obtain⟨m,h2,rfl⟩:=Zh.mp e;refine⟨rfl,λH vs F Q r q=>?_⟩;obtain⟨v,rfl,rp⟩:=r.one;obtain⟨l,ws,L,rfl,hl,rl,zl,el⟩:=rp.lst_inv;rw[QbT h1]at rl;rw[rl.ints]at hl;exact⟨l,ns,rfl,.inl (QT hl),λz=>(by rw[z]at h2;cases h2),λM hM=>by rw[Ql7 hM (QhY h2)];exact q _ λ_=> .int_mk⟩
 .refine Qg e λns h1 e=>?_;obtain⟨m,h2,rfl⟩:=Zh.mp e;refine⟨rfl,λH vs F Q r q=>?_⟩;obtain⟨v,rfl,rp⟩:=r.one;obtain⟨l,ws,rfl,hl,rl⟩:=rp.QaP;rw[QbT h1]at rl;rw[rl.ints]at hl;exact⟨l,ns,rfl,.inr hl,λz=>(by rw[z]at h2;cases h2),λM hM=>by rw[Ql7 hM (QhY h2)];exact q _ λ_=> .int_mk⟩
 .cases e
def Qxr{K:Fgg}:QeL K QgV (Qqy K isMax):=λds d e=>by
 unfold QgV at e;split at e
 .refine Qg e λns h1 e=>?_;obtain⟨m,h2,rfl⟩:=Zh.mp e;refine⟨rfl,λH vs F Q r q=>?_⟩;obtain⟨v,rfl,rp⟩:=r.one;obtain⟨l,ws,L,rfl,hl,rl,zl,el⟩:=rp.lst_inv;rw[QbT h1]at rl;rw[rl.ints]at hl;exact⟨l,ns,rfl,.inl (QT hl),λz=>(by rw[z]at h2;cases h2),λM hM=>by rw[Ql3 hM (Qh8 h2)];exact q _ λ_=> .int_mk⟩
 .refine Qg e λns h1 e=>?_;obtain⟨m,h2,rfl⟩:=Zh.mp e;refine⟨rfl,λH vs F Q r q=>?_⟩;obtain⟨v,rfl,rp⟩:=r.one;obtain⟨l,ws,rfl,hl,rl⟩:=rp.QaP;rw[QbT h1]at rl;rw[rl.ints]at hl;exact⟨l,ns,rfl,.inr hl,λz=>(by rw[z]at h2;cases h2),λM hM=>by rw[Ql3 hM (Qh8 h2)];exact q _ λ_=> .int_mk⟩
 .cases e
end
section
variable {X:Cx}{a b c e tg:Expr}{es:List Expr}{fa fb fc:DE}{fs:DA}{pos p2:Pos}
def Qoo:∀ns:List Int,Q7 (ns.map .int)=true
 | []=>rfl
 | n::ns=>by simp[Q7,D.flat,Qoo ns]
noncomputable def Itd(hi:Int)(n:Nat):It:=⟨λi _=>i<n,λi H x H'=>H'=H/\x= .int (hi-i),λi _=>n<=i⟩
def QoU{P:Program}{w:World}{K:Fgg}{tg:Expr}(it:Addr)(lo:Int)(n:Nat):Turn P w K tg (Itd lo n) [it] it (λi h=>IsRangeIter h it (lo+(i:Nat)*(-1)) ((n:Int)-(i:Nat)) (-1)) where
 mem:= ⋯
 obj:=λi h st b hb=>by
  have e:b=it:=by simpa using hb
  subst e;exact⟨_,st,λv z=>by
   have z':Data.fields _=Data.cell v:=z;cases z'⟩
 keep:=λi h h' st k=>k it ⋯ _ st
 item:=by
  intro X hP hw hK hc i pins s σ H E I hf st hg;subst hP hw hK;obtain⟨f0,f1,f2,f3,f4,f5⟩:=hf it ⋯;have W:=Walks.range (prog:=X.prog) (w:=X.w) (I.ok.hd hc) it lo (-1) n;refine W.item i s _ _ hg st λv h' tk hv st' kk=>?_;obtain⟨t,rfl⟩:=hv;have I1:Inv X pins σ H {s with heap:=h',toks:=tk}:=I.turned (λb o hb e=>kk b o (by simpa using hb) e) f0 f1 f3 f4 f5;refine⟨_,rfl,Qmw st' rfl rfl ∅ ⟨.int (lo-i),H,I1,⟨t,?_⟩,⟨rfl,rfl⟩,st',λb hb=>(hf b hb).1⟩⟩;rw[show lo+(i:Int)* -1=lo-i by lia]
 done:=by
  intro X hP hw hK hc i pins s σ H E I hf st hg;subst hP hw hK;obtain⟨f0,f1,f2,f3,f4,f5⟩:=hf it ⋯;exact wpAny_pyNext_range_end (I.ok.hd hc) st (by have:n<=i:=hg;lia) λh' eb=>⟨rfl,I.turned (t':=s.toks) (λb o hb e=>eb b o hb e) f0 f1 f3 f4 f5⟩
 self:=λ_ _ _ _ _ st h=>wpAny_pyIter_rangeiter st h
def QlZ(lo hi:Int):Builtin.Range.rangeSize lo hi (-1)=if lo>hi then lo-hi else 0:=by
 unfold Builtin.Range.rangeSize;rw[if_neg ∅];split
 .rw[show(- -1:Int)=1 by decide,Int.ediv_one];lia
 .rfl
def small_down{lo hi:Int}(h1: -(2^62)<=lo)(h2:lo<2^62)(h3: -(2^62)<=hi)(h4:hi<2^62):Builtin.Range.small lo hi (-1)=true:=by
 unfold Builtin.Range.small;rw[QlZ];simp only[Builtin.Range.rangeFitsLong,Zk,Zcx,decide_eq_true_eq,beq_iff_eq,show ¬((-1:Int)>0) by decide,if_false];split<;>lia
def Qtm{pins:List (Addr×Obj)}{σ:L2.St}{H:Hp}{s:Shared}{R:It->Hp->Prop}{E:Value->Shared->Prop}{lo hi:Int}{t u v:Tok}{tk:Nat}(I:Inv X pins σ H s)(h1: -(2^62)<=lo)(h2:lo<2^62)(h3: -(2^62)<=hi)(h4:hi<2^62)
  (q:R (Itd lo (lo-hi).toNat) H):wpAny (model X.prog X.w) X.A (pyIter (.ref s.heap.objs.size)) (PIE X pins σ tg R) E {s with heap:=s.heap.push {cls:= .type "range",data:= .fields #[.int lo t,.int hi u,.int (-1) v]},toks:=tk}:=by
 refine wpAny_pyIter_range (IsRange.new ..) (small_down h1 h2 h3 h4) ?_;have I1:Inv X pins σ H {s with heap:=s.heap.push {cls:= .type "range",data:= .fields #[.int lo t,.int hi u,.int (-1) v]},toks:=tk}:=I.kept λb o e=>Zc _ e
 refine⟨(s.heap.push {cls:= .type "range",data:= .fields #[.int lo t,.int hi u,.int (-1) v]}).objs.size,[(s.heap.push {cls:= .type "range",data:= .fields #[.int lo t,.int hi u,.int (-1) v]}).objs.size],_,_,H,rfl,
  I1.kept (t':=tk) λb o e=>Zc _ e,QoU _ lo (lo-hi).toNat,?_,λb hb=>?_,q⟩
 .have e1:lo+((0:Nat):Int)*(-1)=lo:= ⋯
  have e2:(((lo-hi).toNat:Nat):Int)-((0:Nat):Int)=Builtin.Range.rangeSize lo hi (-1):=by rw[QlZ];split<;>lia
  show IsRangeIter _ _ (lo+((0:Nat):Int)*(-1)) ((((lo-hi).toNat:Nat):Int)-((0:Nat):Int)) (-1);rw[e1,e2];exact ZD _ rfl
 .have e:b=(s.heap.push {cls:= .type "range",data:= .fields #[.int lo t,.int hi u,.int (-1) v]}).objs.size:=by simpa using hb
  subst e;exact I1.Qji (Zd _) (I1.hok.fresh (Zd _))
noncomputable def QA3(ta:TA):TI:=λσ H R=>ta σ H λvs H1=>∃i j:Int,vs=[.int i,.int j,.int (-1)]/\(-(2^62)<=i/\i<2^62/\ -(2^62)<=j/\j<2^62)/\R (Itd i (i-j).toNat) H1
def Qr9(hg:Gl X "range")(hm:X.mg "range" =none)(ha:PA X [a,b,c] ta)(hs:starEach [a,b,c] X.env=(false,eval a X.env)::starEach [b,c] X.env)(hs2:(backTo pos (starEach [b,c] X.env)).any (·.1)=false):
  PI X tg (.Call (.Name "range" p) [a,b,c] [] pos) (QA3 ta):=by
 intro pins s σ H R I h;refine Call_ (QcI I hg hm boot_range (Zaj (thn (ha pos pins s σ H _ I h) λus s1 ⟨vs,H1,I1,r1,q1⟩=>?_) hs hs2));obtain⟨i,j,e,⟨q1,q2,q3,q4⟩,q⟩:=q1;subst e;cases r1 with
 | cons r rr=>
  cases rr with
  | cons r' rr=>
   cases rr with
   | cons r'' rr=>
    cases rr;obtain⟨t,rfl⟩:=r;obtain⟨t',rfl⟩:=r';obtain⟨t'',rfl⟩:=r'';exact call_range_3 ∅ (Qtm I1 q1 q2 q3 q4 q) (.inl (Zcf nofun))
noncomputable def QkS(hi:Int)(n:Nat):List D:=(List.range n).map λ(k:Nat)=> .int (hi-(k:Int))
def QuE{lo:Int}{n i:Nat}{d:D}(h:(QkS lo n)[i]? =some d):i<n/\d= .int (lo-i):=by
 unfold QkS at h;rw[Zp]at h;by_cases hi:i<n
 .rw[ZL hi]at h;cases h;exact⟨hi,rfl⟩
 .rw[Zs (by simp;lia)]at h;cases h
noncomputable def Qf3(fa fb fc:DE):DI:=λU=>(fa U).bind λr=>(fb U).bind λr'=>(fc U).bind λr''=>match r.d,r'.d,r''.d with
 | .int i,.int j,.int (-1)=>if i-j<=16777216/\ -(2^62)<=i/\i<2^62/\ -(2^62)<=j/\j<2^62 then some ⟨QkS i (i-j).toNat,[]⟩else none
 | _,_,_=>none
def QjH{lo:Int}{n:Nat}:(QkS lo n).length=n:=by simp[QkS]
def Qo3{K:Fgg}{lo:Int}{n:Nat}:Walk K (Itd lo n) [] (QkS lo n) where
 stop:=λH _=>by rw[QjH];exact Zd _
 go:=λi H hi _=>by rw[QjH]at hi;exact hi
 yld:=λi d H x H' e _ y=>by
  obtain⟨h1,rfl⟩:=QuE e;obtain⟨rfl,rfl⟩:=y;exact⟨QN.refl _,[],.int_mk,λz hz=>by simp at hz⟩
def Qsg(hg:Gl X "range")(hm:X.mg "range" =none)(ha:SE X a fa)(hb:SE X b fb)(hc:SE X c fc)(h1:starEach [a,b,c] X.env=(false,eval a X.env)::starEach [b,c] X.env)(h2:starEach [b,c] X.env=(false,eval b X.env)::starEach [c] X.env)(h3:starEach [c] X.env=(false,eval c X.env)::starEach [] X.env):
  SI X tg (.Call (.Name "range" p) [a,b,c] [] pos) (Qf3 fa fb fc):=λH0 A0=>
 (Qr9 hg hm (Qax (ha H0 A0) (Qax (hb H0 A0) (Qax (hc H0 A0) QcM h3) h2) h1) h1 (by rw[h2,h3];rfl)).mono λσ H Rr=>exK λU hs F ir rel e q=>by
  refine Qg e λr e1 e=>?_;refine Qg e λr' e2 e=>?_;refine Qg e λr'' e3 e=>?_;refine⟨U,hs,F,r,rel,e1,λv H1 G pp=>⟨U,hs,F,r',rel.ext pp.same,e2,λv' H2 G' pp'=>⟨U,hs,F,r'',(rel.ext pp.same).ext pp'.same,e3,λv'' H3 G'' pp''=>?_⟩⟩⟩;split at e
  .rename_i i j hr hr' hr'';split at e
   .rename_i hz;cases e;have rp:=(pp.rp.same pp'.same).same pp''.same;have rp':=pp'.rp.same pp''.same;have rp'':=pp''.rp;rw[hr]at rp;rw[hr']at rp';rw[hr'']at rp'';rw[rp.int_inv,rp'.int_inv,rp''.int_inv];refine⟨i,j,rfl,hz.2,q _ H3 [] ((pp.same.trans pp'.same).trans pp''.same) Qo3 (λt ht=>by simp at ht) Qbe.nil ?_⟩;rw[QjH,Qle];lia
   .cases e
  .cases e
def QwD:MtR X "int.bit_length" (λx vs H Q=>∃i,x= .int i/\vs=[]/\Q (.int (Builtin.Int.intBits i)) H):=by
 intro pins s σ H x vs v us Q I rx rv h;obtain⟨i,rfl,rfl,q⟩:=h;obtain⟨t,rfl⟩:=rx;have hus:=rv.zero;subst hus;exact call_int_bit_length ⟨.int _,H,I.tok _,⟨_,rfl⟩,q⟩
noncomputable def QmD(fa:DE):DE:=λU=>(fa U).bind λr=>match r.d with
 | .int i=>some ⟨.int (Builtin.Int.intBits i),true,[]⟩
 | _=>none
def Qxj(ha:SE X a fa)(hb:attributeBase a "bit_length" X.env (eval a X.env)=eval a X.env)(hl:(apos.endLine == cpos.line)=true):SE X (.Call (.Attribute a "bit_length" apos) [] [] cpos) (QmD fa):=λH0 A0=>
 (Qsy PySem.F.plainAttrs_int PySem.F.slot_int_bit_length PySem.F.type_int_bit_length QwD (ha H0 A0) hb hl).mono λσ H Q=>exK λU hs F r' rel e q=>by
  refine Qg e λra e1 e=>?_;refine⟨U,hs,F,ra,rel,e1,λv H1 G p1=>?_⟩;cases hd:ra.d with
  | int i=>
   rw[hd]at e;cases e;have rp:=p1.rp;rw[hd]at rp;rw[rp.int_inv];exact⟨rfl,i,rfl,rfl,q _ _ [] (.flat p1.same .int_mk)⟩
  | _=>rw[hd]at e;cases e
noncomputable def QgJ(fs:DA):DE:=λU=>(fs U).bind λr=>match r.ds with
 | [.lst xs]=>if Q7 xs=true then some ⟨.tup xs,true,[]⟩else none
 | _=>none
def Qxi(hg:Gl X "tuple")(hm:X.mg "tuple" =none)(ha:SA X (e::es) fs)(he:starEach (e::es) X.env=(false,eval e X.env)::starEach es X.env)(hpl:(backTo pos (starEach es X.env)).any (·.1)=false):
  SE X (.Call (.Name "tuple" p) (e::es) [] pos) (QgJ fs):=λH0 A0=>
 (Qfg Qed hg hm Zbd (ha H0 A0) ∅ ∅ he hpl).mono λσ H Q=>exK λU hs F r' rel e q=>by
  refine Qg e λra e1 e=>?_;refine⟨U,hs,F,ra,rel,e1,λvs H1 G p1=>?_⟩;split at e
  .rename_i xs hds;split at e
   .rename_i hf;cases e;have rp:=p1.rp;rw[hds]at rp;obtain⟨v,rfl,rq⟩:=rp.one;obtain⟨l,ws,L,rfl,hl,rl,zl,el⟩:=rq.lst_inv;have:=rl.QbW hf;subst this;refine⟨l,ws,rfl,.inl ⟨QT hl,λc hc=>q _ _ [] (.flat (p1.same.trans (Qap hc)) (Rp.Qhs Q4 (rl.same (Qap hc))) (by simp only[D.flat];exact hf))⟩⟩
   .cases e
  .cases e
end
section
variable {X:Cx}{e:Expr}{es:List Expr}{fs:DA}{pos:Pos}
def Qwl{p:Pos}(hcl:X.calm=true)(hg:Gl X "list")(hm:X.mg "list" =none)(ha:SA X (e::es) fs)(he:starEach (e::es) X.env=(false,eval e X.env)::starEach es X.env)(hpl:(backTo pos (starEach es X.env)).any (·.1)=false):
    SE X (.Call (.Name "list" p) (e::es) [] pos) (dList fs):=λH0 A0=>
 (Qfg QmR hg hm Zcr (ha H0 A0) ∅ ∅ he hpl).mono λσ H Q=>exK λU hs F r' rel e q=>by
    refine Qg e λra e1 e=>?_;refine⟨U,hs,F,ra,rel,e1,λvs H1 G p1=>?_⟩;have rp:=p1.rp;have src:=p1.src;split at e
    · rename_i xs hds
      cases e;rw[hds]at rp;obtain⟨v,rfl,rq⟩:=rp.one;obtain⟨l,ws,L,rfl,hl,rl,zl,el⟩:=rq.lst_inv;refine⟨l,ws,rfl,.inl (QT hl),λc hc=>q _ _ (c::L) (Qaa.QaA p1.same hc rl zl (λz hz=>src z ?_) p1.own)⟩;rcases el with rfl | rfl
      · exact Zb _ hz
      · exact hz
    · rename_i xs hds
      split at e
      · rename_i hz
        cases e;rw[hds]at rp;obtain⟨v,rfl,rq⟩:=rp.one;obtain⟨l,ws,rfl,hl,rl⟩:=rq.QaP;exact⟨l,ws,rfl,.inr hl,λc hc=>q _ _ (c::G) (Qaa.QaA p1.same hc rl hz src p1.own)⟩
      · cases e
    · cases e
end
end HS
namespace HS
open PySem L2
end HS
namespace HS
open PySem
section
variable {t:SetTable}
end
section
variable {mask:Nat}{owner:Array (Option Nat)}
end
end HS
namespace HS
open PySem L2 PyProof.Rows
section
variable {prog:Program}{w:World}{A:Around}{E:Value->Shared->Prop}{s:Shared}
end
section
variable {prog:Program}{w:World}{A:Around}{R:Result->Shared->Prop}{I:Addr}{fp wr:LAd}{G:Array GenState->Array GenState->Prop}{n:Nat}{P:Nat->Value->Prop}{St:Nat->Shared->Prop}
end
section
variable {prog:Program}{w:World}{A:Around}{E:Value->Shared->Prop}{s:Shared}
end
section
variable {prog:Program}{w:World}
end
section
variable {prog:Program}{w:World}{A:Around}{E:Value->Shared->Prop}{s:Shared}
end
section
variable {prog:Program}{w:World}{A:Around}{E:Value->Shared->Prop}{s:Shared}
end
section
variable {prog:Program}{w:World}{A:Around}{E:Value->Shared->Prop}{s:Shared}
end
end HS
namespace HS
open PySem PySem.Spec L2 PyProof.Rows
section
variable {X:Cx}{a:Expr}{fa:DE}{pos:Pos}
end
end HS
namespace HS
open PySem PyProof.Rows PySem.W
noncomputable def Qh6:Bool->Keyed->Array Keyed->Nat->Nat->Nat->StateT SortSt Sem (Option Nat):=sortPriv% PySem.Builtin.gallop
structure Wd where
 prog:Program
 w:World
 A:Around
 E:Value->Shared->Prop
 s:Shared
noncomputable abbrev SM:=StateT SortSt Sem
def Wp(ω:Wd){α:Type}(m:SM α)(Q:α->SortSt->Prop)(st:SortSt):Prop:=wpS (model ω.prog ω.w) ω.A ω.E ω.s m Q st
def Qc4(ω:Wd)(P:Keyed->Prop)(lt:Keyed->Keyed->Bool):Prop:=∀(x y:Keyed) (E:Value->Shared->Prop) (Q:Bool->Shared->Prop),P x->P y->Q (lt x y) ω.s->wpAny (model ω.prog ω.w) ω.A (keyLt' oneType' x.1 y.1) Q E ω.s
section
variable {ω:Wd}{lt:Keyed->Keyed->Bool}{P:Keyed->Prop}{α β:Type}{st:SortSt}{Q:α->SortSt->Prop}
def Qi{a:α}(h:Q a st):Wp ω (pure a) Q st:=wpS_pure h
def QE{m:SM β}{f:β->SM α}(h:Wp ω m (λa st'=>Wp ω (f a) Q st') st):Wp ω (m >>= f) Q st:=wpS_bind h
def QcK{Q:SortSt->SortSt->Prop}(h:Q st st):Wp ω get Q st:=wpS_get h
def QeO{f:SortSt->SortSt}{Q:PUnit->SortSt->Prop}(h:Q ⟨⟩ (f st)):Wp ω (modify f) Q st:=wpS_modify h
def QD{c:Prop}[Decidable c]{x y:SM α}(h1:c->Wp ω x Q st)(h2:¬c->Wp ω y Q st):Wp ω (if c then x else y) Q st:=by
 split
 .exact h1 ‹_›
 .exact h2 ‹_›
def QhR{t:String}{f:Unit->SM α}(h:Wp ω (f ()) Q st):Wp ω ((liftM (rule t):SM Unit) >>= f) Q st:=QE (wpS_lift (wpAny_rule ⟨rfl,h⟩))
def Qoh(hL:Qc4 ω P lt){x y:Keyed}{Q:Option Bool->SortSt->Prop}(hk:kindOf st=oneType')(hx:P x)(hy:P y)(h:Q (some (lt x y)) st):Wp ω (lt' x y) Q st:=by
 rw[lt'_eq];refine QE (QcK ?_);rw[hk];exact QE (wpS_lift (wpAny_attempt (hL x y _ _ hx hy ⟨rfl,Qi h⟩)))
def QaD{arr:Array Keyed}{i:Nat}{f:Keyed->SM α}(hi:i<arr.size)(h:Wp ω (f arr[i]) Q st):Wp ω (elem' arr i >>= f) Q st:=by
 rw[elem'_eq,Zag hi];exact QE (Qi h)
def Qm4{t:String}{arr:Array Keyed}{i:Nat}{c1 c2:Prop}[Decidable c1][Decidable c2]{p1 p2:Keyed->α}{F:Keyed->SortSt->SM α}(hi:i<arr.size)(h1:c1->Q (p1 arr[i]) st)(h2:c2->Q (p2 arr[i]) st)(h3:¬c1->¬c2->Wp ω (F arr[i] st) Q st):Wp ω ((liftM (rule t):SM Unit) >>= λ_=>elem' arr i >>= λx=>if c1 then pure (p1 x)else if c2 then pure (p2 x)else get >>= F x) Q st:=
 QhR (QaD hi (QD (λe1=>Qi (h1 e1)) λe1=>QD (λe2=>Qi (h2 e2)) λe2=>QE (QcK (h3 e1 e2))))
def Qlz(hL:Qc4 ω P lt){x y:Keyed}{f:Option Bool->SM α}(hk:kindOf st=oneType')(hx:P x)(hy:P y)(h:Wp ω (f (some (lt x y))) Q st):Wp ω (lt' x y >>= f) Q st:=QE (Qoh hL hk hx hy h)
def Qfm{a n:Nat}{c:β}{f:Nat->β->SM (ForInStep β)}{g:β->SM α}(han:a<=n)(Q':β->SortSt->Prop)(I:Nat->β->SortSt->Prop)(h0:I a c st)
  (step:∀i c st (QQ:ForInStep β->SortSt->Prop),a<=i->i<n->I i c st->(∀b st,Q' b st->QQ (.done b) st)->(∀b st,I (i+1) b st->QQ (.yield b) st)->Wp ω (f i c) QQ st) (fin:∀c st,I n c st->Q' c st) (h:∀c st,Q' c st->Wp ω (g c) Q st):Wp ω (forIn [a:n] c f >>= g) Q st:=
 QE (wpS_mono (wpS_forRange I (λi c st h1 h2 h3=>step i c st _ h1 h2 h3 (λ_ _ h=>h) λ_ _ h=>h) (λc st h=>fin c st (Nat.max_eq_right han▸h)) h0) h)
def QaF{n:Nat}{c:β}{f:Nat->β->SM (ForInStep β)}{g:β->SM α}(Q':β->SortSt->Prop)(I:Nat->β->SortSt->Prop)(h0:I 0 c st)
  (step:∀i c st (QQ:ForInStep β->SortSt->Prop),i<n->I i c st->(∀b st,Q' b st->QQ (.done b) st)->(∀b st,I (i+1) b st->QQ (.yield b) st)->Wp ω (f i c) QQ st) (fin:∀c st,I n c st->Q' c st) (h:∀c st,Q' c st->Wp ω (g c) Q st):Wp ω (forIn [0:n] c f >>= g) Q st:=Qfm (ZF _) Q' I h0 (λi c st QQ _=>step i c st QQ) fin h
end
section
variable {ω:Wd}{lt:Keyed->Keyed->Bool}{P:Keyed->Prop}
def Qek(hL:Qc4 ω P lt){left:Bool}{key:Keyed}{arr:Array Keyed}{base n hint:Nat}{st:SortSt}{Q:Option Nat->SortSt->Prop}(hk:kindOf st=oneType')(hy:P key)(hP:∀(i:Nat) (h:i<arr.size),P arr[i])(hz:base+n<=arr.size)(hh:hint<n)(bd:Nat->Bool)(hb:∀(i:Nat) (h:base+i<arr.size),i<n->bd i=if left then lt arr[base+i] key else !(lt key arr[base+i]))(mono:∀i j,i<=j->j<n->bd j=true->bd i=true)
  (h:∀k,k<=n->(∀i,i<k->bd i=true)->(∀i,k<=i->i<n->bd i=false)->Q (some k) st):Wp ω (Qh6 left key arr base n hint) Q st:=by
 unfold Qh6;have ask:∀(i:Nat) {α:Type}{f:Option Bool->SM α}{Q':α->SortSt->Prop},i<n->(Wp ω (f (some (bd i))) Q' st)->Wp ω ((do let x ← elem' arr (base+i);if left then lt' x key else return (← lt' key x).map (!·)) >>= f) Q' st:=λi {α f Q'} hi h=>by
  have e:=hb i ⋯ hi;refine QE (QaD (show base+i<arr.size by lia) (QD (λl=>?_) λl=>?_))
  .rw[if_pos l]at e;exact Qoh hL hk (hP _ _) hy (by rw[← e];exact h)
  .rw[if_neg l]at e;exact Qlz hL hk hy (hP _ _) (Qi (show Wp _ (f (some (!(lt key arr[base+i])))) Q' st by rw[← e];exact h))
 have low:∀{i j:Nat},i<=j->j<n->bd i=false->bd j=false:=λ{i j} h1 h2 h3=>by
  cases hbj:bd j with
  | false=>rfl
  | true=>rw[mono i j h1 h2 hbj]at h3;cases h3
 refine ask hint hh ?_;dsimp-zeta only
 extract_lets-underBinder jp
 have hj:∀(la of lo hi:Nat),lo<=hi->hi<=n->(∀i,i<lo->bd i=true)->(∀i,hi<=i->i<n->bd i=false)->Wp ω (jp () la of lo hi) Q st:=λla of lo hi hlo hhi b1 b2=>by
  refine QaF (λc st'=>∃k,c=(none,k,k)/\st'=st/\k<=n/\(∀i,i<k->bd i=true)/\∀i,k<=i->i<n->bd i=false) (λi c st'=>∃lo hi,c=(none,lo,hi)/\st'=st/\lo<=hi/\hi<=n/\hi-lo+i<=n/\(∀j,j<lo->bd j=true)/\∀j,hi<=j->j<n->bd j=false) ⟨lo,hi,rfl,rfl,hlo,hhi,⋯,b1,b2⟩ ?_ ?_ ?_
  .rintro i c st' Q2 hin ⟨lo,hi,rfl,rfl,h1,h2,h3,h4,h5⟩ hd hy;refine QD (λhl=>Qi (hd _ _ ?_)) λhl=>?_
   .obtain rfl:lo=hi:=Zcz h1 hl;exact⟨lo,rfl,rfl,h2,h4,h5⟩
   .have hl:lo<hi:=Nat.lt_of_not_le hl;have m1:lo+(hi-lo) / 2<hi:= ⋯
    refine ask (lo+(hi-lo) / 2) ⋯ (QD (λhb=>Qi (hy _ _ ⟨lo+(hi-lo) / 2+1,hi,rfl,rfl,m1,h2,⋯,λj hj=>mono j _ (Nat.le_of_lt_succ hj) ⋯ hb,h5⟩)) λhb=>Qi (hy _ _ ⟨lo,lo+(hi-lo) / 2,rfl,rfl,Zbc _ _,⋯,⋯,h4,λj hj hjn=>low hj hjn (Bool.not_eq_true _▸hb)⟩))
  .rintro c st' ⟨lo,hi,rfl,rfl,h1,h2,h3,h4,h5⟩;obtain rfl:lo=hi:= ⋯
   exact⟨lo,rfl,rfl,h2,h4,h5⟩
  .rintro c st' ⟨k,rfl,rfl,k1,k2,k3⟩;exact Qi (h k k1 k2 k3)
 clear_value jp
 refine QD (λhb0=>QaF (λc st'=>∃la of,c=(none,la,of)/\st'=st/\la<of/\la<n-hint/\bd (hint+la)=true/\(of<n-hint->bd (hint+of)=false)) (λi c st'=>∃la of,c=(none,la,of)/\st'=st/\la<of/\i<of/\la<n-hint/\bd (hint+la)=true) ⟨0,1,rfl,rfl,Nat.zero_lt_one,Nat.zero_lt_one,Nat.sub_pos_of_lt hh,hb0⟩ ?_ ?_ ?_) λhb0=>QaF (λc st'=>∃la of,c=(none,la,of)/\st'=st/\la<of/\la<hint+1/\bd (hint-la)=false/\(of<hint+1->bd (hint-of)=true)) (λi c st'=>∃la of,c=(none,la,of)/\st'=st/\la<of/\i<of/\la<hint+1/\bd (hint-la)=false) ⟨0,1,rfl,rfl,Nat.zero_lt_one,Nat.zero_lt_one,Nat.succ_pos _,Bool.not_eq_true _▸hb0⟩ ?_ ?_ ?_
 .rintro i c st' Q2 hin ⟨la,of,rfl,rfl,g1,g2,g3,g4⟩ hd hy;refine QD (λhl=>Qi (hd _ _ ⟨la,of,rfl,rfl,g1,g3,g4,λz=>absurd z (Nat.not_lt_of_le hl)⟩)) λhl=>?_;have hl:of<n-hint:=Nat.lt_of_not_le hl;exact ask (hint+of) ⋯ (QD (λhb=>Qi (hd _ _ ⟨la,of,rfl,rfl,g1,g3,g4,λ_=>Zan _▸hb⟩)) λhb=>Qi (hy _ _ ⟨of,2*of+1,rfl,rfl,⋯,⋯,hl,by simpa using hb⟩))
 .rintro c st' ⟨la,of,rfl,rfl,g1,g2,g3,g4⟩;exact⟨la,of,rfl,rfl,g1,g3,g4,λz=> ⋯⟩
 .rintro c st' ⟨la,of,rfl,rfl,g1,g3,g4,g5⟩;exact hj _ _ (hint+la+1) (hint+min of (n-hint)) (ZbV (Nat.le_min.mpr ⟨g1,g3⟩) hint) (Zw (ZbV (Zbr _ _) hint) (ZbY (Nat.add_sub_of_le (ZaC hh)))) (λi hi=>mono i _ (Nat.le_of_lt_succ hi) (Nat.add_lt_of_lt_sub' g3) g4) λi hi hin=>low ⋯ hin (g5 ⋯)
 .rintro i c st' Q2 hin ⟨la,of,rfl,rfl,g1,g2,g3,g4⟩ hd hy;refine QD (λhl=>Qi (hd _ _ ⟨la,of,rfl,rfl,g1,g3,g4,λz=>absurd z (Nat.not_lt_of_le hl)⟩)) λhl=>?_;have hl:of<hint+1:=Nat.lt_of_not_le hl;exact ask (hint-of) ⋯ (QD (λhb=>Qi (hd _ _ ⟨la,of,rfl,rfl,g1,g3,g4,λ_=>hb⟩)) λhb=>Qi (hy _ _ ⟨of,2*of+1,rfl,rfl,⋯,⋯,hl,Bool.not_eq_true _▸hb⟩))
 .rintro c st' ⟨la,of,rfl,rfl,g1,g2,g3,g4⟩;exact⟨la,of,rfl,rfl,g1,g3,g4,λz=> ⋯⟩
 .rintro c st' ⟨la,of,rfl,rfl,g1,g3,g4,g5⟩;exact hj _ _ (hint+1-min of (hint+1)) (hint-la) ⋯ ⋯ (λi hi=>mono i (hint-of) ⋯ ⋯ (g5 ⋯)) λi hi hin=>low hi hin g4
end
structure QdA (lt:Keyed->Keyed->Bool):Prop where
 tr:∀x y z,lt y x=false->lt z y=false->lt z x=false
 as:∀x y,lt x y=true->lt y x=false
def Qat(lt:Keyed->Keyed->Bool)(l:List Keyed):Prop:=l.Pairwise λx y=>lt y x=false
def QaY(lt:Keyed->Keyed->Bool)(T r:List Keyed):Prop:=r.Perm T/\Qat lt r
structure WI (lt:Keyed->Keyed->Bool) (T o X Y:List Keyed):Prop where
 perm:(o++X++Y).Perm T
 so:Qat lt o
 sx:Qat lt X
 sy:Qat lt Y
 ox:∀x∈o,∀y∈X,lt y x=false
 oy:∀x∈o,∀y∈Y,lt y x=false
section
variable {lt:Keyed->Keyed->Bool}{T o X Y:List Keyed}
def WI.Qq4(h:WI lt T o X Y)(k:Nat)(hk:∀y∈Y.take k,∀x∈X,lt x y=false):WI lt T (o++Y.take k) X (Y.drop k):=by
 have sy:=h.sy;unfold Qat at sy;rw[← ZN k Y,List.pairwise_append]at sy;refine⟨?_,List.pairwise_append.mpr ⟨h.so,sy.1,λx hx y hy=>h.oy x hx y (List.mem_of_mem_take hy)⟩,h.sx,sy.2.1,λx hx y hy=>?_,λx hx y hy=>?_⟩
 .refine List.Perm.trans ?_ h.perm;have e:o++X++Y=o++X++(Y.take k++Y.drop k):=by rw[ZN]
  rw[e,ZG,ZG,ZG];refine Zbj _ ?_;rw[← ZG,← ZG];exact List.Perm.append_right _ List.perm_append_comm
 .rcases Zr.mp hx with hx | hx
  .exact h.ox x hx y hy
  .exact hk x hx y hy
 .rcases Zr.mp hx with hx | hx
  .exact h.oy x hx y (List.mem_of_mem_drop hy)
  .exact sy.2.2 x hx y hy
def WI.Qq2(h:WI lt T o X Y)(k:Nat)(hk:∀x∈X.take k,∀y∈Y,lt y x=false):WI lt T (o++X.take k) (X.drop k) Y:=by
 have sx:=h.sx;unfold Qat at sx;rw[← ZN k X,List.pairwise_append]at sx;refine⟨?_,List.pairwise_append.mpr ⟨h.so,sx.1,λx hx y hy=>h.ox x hx y (List.mem_of_mem_take hy)⟩,sx.2.1,h.sy,λx hx y hy=>?_,λx hx y hy=>?_⟩
 .refine List.Perm.trans ?_ h.perm;rw[ZG o,ZN]
 .rcases Zr.mp hx with hx | hx
  .exact h.ox x hx y (List.mem_of_mem_drop hy)
  .exact sx.2.2 x hx y hy
 .rcases Zr.mp hx with hx | hx
  .exact h.oy x hx y hy
  .exact hk x hx y hy
def WI.QzW(h:WI lt T o X Y)(e:Y=[]):QaY lt T (o++X++Y):=by
 subst e;refine⟨h.perm,?_⟩;rw[Zas];exact List.pairwise_append.mpr ⟨h.so,h.sx,h.ox⟩
def WI.Qz8(h:WI lt T o X Y)(e:X=[]):QaY lt T (o++X++Y):=by
 subst e;refine⟨h.perm,?_⟩;rw[Zas];exact List.pairwise_append.mpr ⟨h.so,h.sy,h.oy⟩
def WI.last(h:WI lt T o X Y)(hl:∀y∈Y,∀x∈X,lt x y=false):QaY lt T (o++Y++X):=by
 refine⟨List.Perm.trans ?_ h.perm,List.pairwise_append.mpr ⟨List.pairwise_append.mpr ⟨h.so,h.sy,h.oy⟩,h.sx,λx hx y hy=>?_⟩⟩
 .rw[ZG,ZG];exact Zbj _ List.perm_append_comm
 .rcases Zr.mp hx with hx | hx
  .exact h.ox x hx y hy
  .exact hl x hx y hy
end
noncomputable def rst(a:Array Keyed)(i:Nat):List Keyed:=a.toList.drop i
def Qin(a:Array Keyed)(i:Nat):(a.extract i a.size).toList=rst a i:=by
 unfold rst;rw[Array.toList_extract,List.extract_eq_take_drop,ZaO ⋯]
def Qpr(a:Array Keyed)(i k:Nat):(a.extract i (i+k)).toList=(rst a i).take k:=by
 unfold rst;rw[Array.toList_extract,List.extract_eq_take_drop,Zbe]
def QgB(a:Array Keyed)(i k:Nat):(rst a i).drop k=rst a (i+k):=by
 unfold rst;rw[List.drop_drop]
def Qh2{a:Array Keyed}{i:Nat}(h:i<a.size):(rst a i).take 1=[a[i]]:=by
 unfold rst;rw[Zaf (by simpa using h)];simp
def Qpy{a:Array Keyed}{i:Nat}(h:i=a.size):rst a i=[]:=by
 unfold rst;exact ZbF (by simp[h])
def Qer{a:Array Keyed}{i:Nat}{x:Keyed}(h:x∈rst a i):∃(j:Nat) (hj:j<a.size),i<=j/\a[j]=x:=by
 unfold rst at h;obtain⟨k,hk,e⟩:=List.mem_iff_getElem.mp h;rw[Zab]at hk;have hk':k<a.size-i:=by simpa using hk
 refine⟨i+k,⋯,⋯,?_⟩;rw[← e,List.getElem_drop];simp
def Qoj{a:Array Keyed}{i k:Nat}{x:Keyed}(h:x∈(rst a i).take k):∃(j:Nat) (hj:j<a.size),i<=j/\j<i+k/\a[j]=x:=by
 unfold rst at h;obtain⟨n,hn,e⟩:=List.mem_iff_getElem.mp h;rw[ZS,Zab]at hn;have hn':n<k/\n<a.size-i:=by rw[Zv]at hn;lia
 refine⟨i+n,⋯,⋯,⋯,?_⟩;rw[← e,List.getElem_take,List.getElem_drop];simp
def QdH(lt:Keyed->Keyed->Bool)(a:Array Keyed):Prop:=∀(i j:Nat) (hi:i<a.size) (hj:j<a.size),i<=j->lt a[j] a[i]=false
def QdH.rst{lt:Keyed->Keyed->Bool}{a:Array Keyed}(h:QdH lt a)(i:Nat):Qat lt (rst a i):=by
 unfold Qat HS.rst;rw[Zah];intro p q hp hq hpq;rw[Zab]at hp hq;have hq':q<a.size-i:=by simpa using hq
 rw[List.getElem_drop,List.getElem_drop];have:=h (i+p) (i+q) ⋯ ⋯ ⋯;simpa using this
section
variable {ω:Wd}{lt:Keyed->Keyed->Bool}{P:Keyed->Prop}{T:List Keyed}{a b out:Array Keyed}{ia ib:Nat}
def WI.Qqk(h:WI lt T out.toList (rst a ia) (rst b ib))(hb:ib<b.size)(hle:∀(j:Nat) (hj:j<a.size),ia<=j->lt a[j] b[ib]=false):WI lt T (out.push b[ib]).toList (rst a ia) (rst b (ib+1)):=by
 have z:=h.Qq4 1 λy hy x hx=>by
  rw[Qh2 hb,Zo]at hy;obtain⟨j,hj,h1,rfl⟩:=Qer hx;rw[hy];exact hle j hj h1
 rw[Qh2 hb,QgB]at z;rw[Array.toList_push];exact z
def WI.QvN(h:WI lt T out.toList (rst a ia) (rst b ib))(ha:ia<a.size)(hle:∀(j:Nat) (hj:j<b.size),ib<=j->lt b[j] a[ia]=false):WI lt T (out.push a[ia]).toList (rst a (ia+1)) (rst b ib):=by
 have z:=h.Qq2 1 λy hy x hx=>by
  rw[Qh2 ha,Zo]at hy;obtain⟨j,hj,h1,rfl⟩:=Qer hx;rw[hy];exact hle j hj h1
 rw[Qh2 ha,QgB]at z;rw[Array.toList_push];exact z
def WI.QB0{k:Nat}(h:WI lt T out.toList (rst a ia) (rst b ib))(hle:∀(i:Nat) (hi:i<a.size),ia<=i->i<ia+k->∀(j:Nat) (hj:j<b.size),ib<=j->lt b[j] a[i]=false):WI lt T (out++a.extract ia (ia+k)).toList (rst a (ia+k)) (rst b ib):=by
 have z:=h.Qq2 k λy hy x hx=>by
  obtain⟨i,hi,h1,h2,rfl⟩:=Qoj hy;obtain⟨j,hj,h3,rfl⟩:=Qer hx;exact hle i hi h1 h2 j hj h3
 rw[QgB,← Qpr]at z;rw[Array.toList_append];exact z
def WI.QCr{k:Nat}(h:WI lt T out.toList (rst a ia) (rst b ib))(hle:∀(i:Nat) (hi:i<b.size),ib<=i->i<ib+k->∀(j:Nat) (hj:j<a.size),ia<=j->lt a[j] b[i]=false):WI lt T (out++b.extract ib (ib+k)).toList (rst a ia) (rst b (ib+k)):=by
 have z:=h.Qq4 k λy hy x hx=>by
  obtain⟨i,hi,h1,h2,rfl⟩:=Qoj hy;obtain⟨j,hj,h3,rfl⟩:=Qer hx;exact hle i hi h1 h2 j hj h3
 rw[QgB,← Qpr]at z;rw[Array.toList_append];exact z
def WI.done(h:WI lt T out.toList (rst a ia) (rst b ib))(e:ib=b.size∨ia=a.size):QaY lt T (out++a.extract ia a.size++b.extract ib b.size).toList:=by
 rw[Array.toList_append,Array.toList_append,Qin,Qin];rcases e with e | e
 .exact h.QzW (Qpy e)
 .exact h.Qz8 (Qpy e)
def WI.Qmx(h:WI lt T out.toList (rst a ia) (rst b ib))(e:ia+1=a.size)(hl:∀(j:Nat) (hj:j<b.size),lt (a[a.size-1]'⋯) b[j]=false):QaY lt T (out++b.extract ib b.size++a.extract ia a.size).toList:=by
 rw[Array.toList_append,Array.toList_append,Qin,Qin];refine h.last λy hy x hx=>?_;obtain⟨j,hj,_,rfl⟩:=Qer hy;obtain⟨i,hi,h1,rfl⟩:=Qer hx;have:i=a.size-1:= ⋯
 subst this;exact hl j hj
def Qbl(st st':SortSt):Prop:=∃g,st'=SortSt.mk' (kindOf st) (arrOf st) (pendingOf st) g (failedOf st)
noncomputable def Qnd:Array Keyed->Array Keyed->SM (Array Keyed):=sortPriv% PySem.Builtin.mergeLo
noncomputable def Qpu:Nat->SM Unit:=sortPriv% PySem.Builtin.setMinGallop
def Qel{g:Nat}{st st':SortSt}{Q:Unit->SortSt->Prop}(h:Qbl st st')(q:∀st'',Qbl st st''->Q () st''):Wp ω (Qpu g) Q st':=by
 unfold Qpu;refine QeO (q _ ?_);obtain⟨g0,rfl⟩:=h;exact⟨g,rfl⟩
def QoH(hL:Qc4 ω P lt)(hO:QdA lt){key:Keyed}{arr:Array Keyed}{base n hint:Nat}{st st':SortSt}{Q:Option Nat->SortSt->Prop}(hk:kindOf st=oneType')(g:Qbl st st')(hy:P key)(hP:∀(i:Nat) (h:i<arr.size),P arr[i])(so:QdH lt arr)(hz:base+n<=arr.size)(hh:hint<n)
  (h:∀k,k<=n->(∀(i:Nat) (hi:i<arr.size),base<=i->i<base+k->lt key arr[i]=false)->(∀(i:Nat) (hi:i<arr.size),base+k<=i->i<base+n->lt key arr[i]=true)->Q (some k) st'):Wp ω (Qh6 false key arr base n hint) Q st':=by
 obtain⟨g,e⟩:=g;refine Qek hL (by rw[e];exact hk) hy hP hz hh (λi=>if h:base+i<arr.size then !(lt key arr[base+i])else false) (λi h _=>by simp[h]) (λi j hij hj hb=>?_) λk hk1 hk2 hk3=>h k hk1 (λi hi h1 h2=>?_) λi hi h1 h2=>?_
 .have e1:base+i<arr.size:= ⋯
  have e2:base+j<arr.size:= ⋯
  rw[dif_pos e2]at hb;rw[dif_pos e1,Zan]at *;exact hO.tr _ _ _ (so _ _ e1 e2 ⋯) hb
 .obtain⟨d,rfl⟩:=Nat.le.dest h1;have z:=hk2 d ⋯;rw[dif_pos hi,Zan]at z;exact z
 .obtain⟨d,rfl⟩:=Nat.le.dest (Zw (Zbc _ _) h1);have z:=hk3 d ⋯ ⋯;rw[dif_pos hi,Bool.not_eq_false']at z;exact z
def Qnk(hL:Qc4 ω P lt)(hO:QdA lt){key:Keyed}{arr:Array Keyed}{base n hint:Nat}{st st':SortSt}{Q:Option Nat->SortSt->Prop}(hk:kindOf st=oneType')(g:Qbl st st')(hy:P key)(hP:∀(i:Nat) (h:i<arr.size),P arr[i])(so:QdH lt arr)(hz:base+n<=arr.size)(hh:hint<n)
  (h:∀k,k<=n->(∀(i:Nat) (hi:i<arr.size),base<=i->i<base+k->lt arr[i] key=true)->(∀(i:Nat) (hi:i<arr.size),base+k<=i->i<base+n->lt arr[i] key=false)->Q (some k) st'):Wp ω (Qh6 true key arr base n hint) Q st':=by
 obtain⟨g,e⟩:=g;refine Qek hL (by rw[e];exact hk) hy hP hz hh (λi=>if h:base+i<arr.size then lt arr[base+i] key else false) (λi h _=>by simp[h]) (λi j hij hj hb=>?_) λk hk1 hk2 hk3=>h k hk1 (λi hi h1 h2=>?_) λi hi h1 h2=>?_
 .have e1:base+i<arr.size:= ⋯
  have e2:base+j<arr.size:= ⋯
  rw[dif_pos e2]at hb;rw[dif_pos e1];cases hc:lt arr[base+i] key with
  | true=>rfl
  | false=>rw[hO.tr _ _ _ hc (so _ _ e1 e2 ⋯)]at hb;cases hb
 .obtain⟨d,rfl⟩:=Nat.le.dest h1;have z:=hk2 d ⋯;rw[dif_pos hi]at z;exact z
 .obtain⟨d,rfl⟩:=Nat.le.dest (Zw (Zbc _ _) h1);have z:=hk3 d ⋯ ⋯;rw[dif_pos hi]at z;exact z
structure LoS (lt:Keyed->Keyed->Bool) (a b out:Array Keyed) (ia ib i N:Nat):Prop where
 wi:WI lt (a.toList++b.toList) out.toList (rst a ia) (rst b ib)
 ha:ia+1<a.size
 hb:ib<b.size
 le:(a.size-ia)+(b.size-ib)+i<=N
def LoS.nx{out':Array Keyed}{ia' ib' i N:Nat}(h:LoS lt a b out ia ib i N)(v:WI lt (a.toList++b.toList) out'.toList (rst a ia') (rst b ib'))(l:ia+ib<ia'+ib')(la:ia<=ia')(lb:ib<=ib')(na:ia'+1<a.size)(nb:ib'<b.size):LoS lt a b out' ia' ib' (i+1) N:=⟨v,na,nb,by have:=h.le;lia⟩
def LoS.nxB{out':Array Keyed}{i N:Nat}(h:LoS lt a b out ia ib i N)(v:WI lt (a.toList++b.toList) out'.toList (rst a ia) (rst b (ib+1)))(n:ib+1≠b.size):LoS lt a b out' ia (ib+1) (i+1) N:=h.nx v (Zak _) (Zd _) (ZaK _) h.ha (ZY h.hb n)
def LoS.nxA{out':Array Keyed}{i N:Nat}(h:LoS lt a b out ia ib i N)(v:WI lt (a.toList++b.toList) out'.toList (rst a (ia+1)) (rst b ib))(n:ia+1+1≠a.size):LoS lt a b out' (ia+1) ib (i+1) N:=h.nx v ⋯ (ZaK _) (Zd _) (ZY h.ha n) h.hb
def LoS.one{i N:Nat}(h:LoS lt a b out ia ib (i+1) N):LoS lt a b out ia ib 1 N:=⟨h.wi,h.ha,h.hb,by have:=h.le;lia⟩
def LoS.no{M N:Nat}{P:Prop}(h:LoS lt a b out ia ib M N)(hN:N<=M):P:=by have:=h.le;have:=h.ha;lia
def QaJ{x y:Nat}(h:¬(x == y)=true):x≠y:=λe=>h (by rw[e];exact beq_self_eq_true y)
def Qo1(hL:Qc4 ω P lt)(hO:QdA lt){st:SortSt}{Q:Array Keyed->SortSt->Prop}(hk:kindOf st=oneType')(hPa:∀(i:Nat) (h:i<a.size),P a[i])(hPb:∀(i:Nat) (h:i<b.size),P b[i])(sa:QdH lt a)(sb:QdH lt b)(ha0:0<a.size)(hb0:0<b.size)(h0:lt b[0] a[0]=true)(hl:∀(j:Nat) (hj:j<b.size),lt (a[a.size-1]'⋯) b[j]=false)
  (h:∀(r:Array Keyed) (st':SortSt),Qbl st st'->QaY lt (a.toList++b.toList) r.toList->Q r st'):Wp ω (Qnd a b) Q st:=by
 have g0:Qbl st st:=⟨_,rfl⟩;have w0:WI lt (a.toList++b.toList) (#[]:Array Keyed).toList (rst a 0) (rst b 0):=⟨by simp[rst],List.Pairwise.nil,sa.rst 0,sb.rst 0,λx hx=>by simp at hx,λx hx=>by simp at hx⟩;have w1:=w0.Qqk hb0 λj hj _=>hO.tr _ _ _ (hO.as _ _ h0) (sa 0 j ha0 hj (ZF _));rw[show((#[]:Array Keyed).push b[0])= #[b[0]]from rfl,Zbs]at w1;unfold Qnd;refine Qm4 hb0 (λe1=>h _ _ g0 (w1.done (.inl (beq_iff_eq.mp e1)))) (λe2=>h _ _ g0 (w1.Qmx (beq_iff_eq.mp e2) hl)) λe1 e2=>?_;refine QaF (λc st'=>∃r,c.1=some r/\Qbl st st'/\QaY lt (a.toList++b.toList) r.toList) (λi c st'=>Qbl st st'/\LoS lt a b c.2.1 c.2.2.1 c.2.2.2.1 i (a.size+b.size)) ⟨g0,⟨w1,ZY ha0 (QaJ e2),ZY hb0 (QaJ e1),by show a.size-0+(b.size-1)+0<=_;lia⟩⟩ ?_ (λc st h=>h.2.no (Zd _)) ?_
 rotate_left
 .rintro⟨c,q⟩ st1 ⟨r,e,g1,hf⟩;obtain rfl:c=some r:=e;exact Qi (h _ _ g1 hf)
 rintro i0 c st1 Q1 hin ⟨g1,lo⟩ hd hy;have hk1:kindOf st1=oneType':=by obtain⟨g,e⟩:=g1;rw[e];exact hk
 have fi:∀{out ia ib},LoS lt a b out ia ib 1 (a.size+b.size-i0)->LoS lt a b out ia ib (i0+1) (a.size+b.size):=λlo=>⟨lo.wi,lo.ha,lo.hb,by have:=lo.le;lia⟩;have lo:LoS lt a b c.2.1 c.2.2.1 c.2.2.2.1 0 (a.size+b.size-i0):=⟨lo.wi,lo.ha,lo.hb,by have:=lo.le;lia⟩;have hN:=Nat.sub_le (a.size+b.size) i0;generalize a.size+b.size-i0=N at *;refine QaF (λc st'=>st'=st1/\((∃r,c.1=some r/\QaY lt (a.toList++b.toList) r.toList)∨c.1=none/\LoS lt a b c.2.1 c.2.2.1 c.2.2.2.1 1 N)) (λi c st'=>st'=st1/\LoS lt a b c.2.1 c.2.2.1 c.2.2.2.1 i N) ⟨rfl,lo⟩ ?_ (λc st' h=>h.2.no hN) ?_
 .rintro i c st' Q2 hin ⟨rfl,lo⟩ hd hy;have b1:=Nat.lt_of_succ_lt lo.ha;have b2:=lo.hb;refine QaD b2 (QaD b1 (Qlz hL hk1 (hPb _ _) (hPa _ _) (QD (λhbw=>QaD b2 ?_) λhbw=>QaD b1 ?_)))
  .have wi':=lo.wi.Qqk b2 λj hj hij=>hO.tr _ _ _ (hO.as _ _ hbw) (sa _ j b1 hj hij);refine QD (λe=>Qi (hd _ _ ⟨rfl,.inl ⟨_,rfl,wi'.done (.inl (beq_iff_eq.mp e))⟩⟩)) λe=>?_;have nx:=lo.nxB wi' (QaJ e);exact QD (λ_=>Qi (hd _ _ ⟨rfl,.inr ⟨rfl,nx.one⟩⟩)) λ_=>Qi (hy _ _ ⟨rfl,nx⟩)
  .have wi':=lo.wi.QvN b1 λj hj hij=>hO.tr _ _ _ (Bool.not_eq_true _▸hbw) (sb _ j b2 hj hij);refine QD (λe=>Qi (hd _ _ ⟨rfl,.inl ⟨_,rfl,wi'.Qmx (beq_iff_eq.mp e) hl⟩⟩)) λe=>?_;have nx:=lo.nxA wi' (QaJ e);exact QD (λ_=>Qi (hd _ _ ⟨rfl,.inr ⟨rfl,nx.one⟩⟩)) λ_=>Qi (hy _ _ ⟨rfl,nx⟩)
 rintro⟨c0,c⟩ st2 ⟨rfl,⟨r,e,hf⟩ | ⟨e,lo⟩⟩
 .obtain rfl:c0=some r:=e;exact Qi (hd _ _ ⟨_,rfl,g1,hf⟩)
 obtain rfl:c0=none:=e;refine QhR (QaF (λc st'=>Qbl st st'/\((∃r,c.1=some r/\QaY lt (a.toList++b.toList) r.toList)∨c.1=none/\LoS lt a b c.2.1 c.2.2.1 c.2.2.2.1 1 N)) (λi c st'=>Qbl st st'/\LoS lt a b c.2.1 c.2.2.1 c.2.2.2.1 (i+1) N) ⟨g1,lo⟩ ?_ (λc st h=>h.2.no (Nat.le_succ_of_le hN)) ?_)
 .rintro i c st' Q2 hin ⟨g2,lo⟩ hd hy
  extract_lets-underBinder s1 out1 s2 ia1 s3 ib1 s4 mg1 s5 ac1 bc1 jp
  have lo:LoS lt a b out1 ia1 ib1 (i+1) N:=lo;have b1:=Nat.lt_of_succ_lt lo.ha;have b2:=lo.hb;have hj:∀x,Wp ω (jp () x) Q2 st':=λx=>by
   refine QE (Qel g2 λst3 g3=>QaD b2 (QE (QoH hL hO hk g3 (hPb ib1 b2) hPa sa (ZbY (Nat.add_sub_of_le (ZaC b1))) (Nat.sub_pos_of_lt b1) λk k1 k2 k3=>?_)));have k1:ia1+k<=a.size:= ⋯
   have k3:∀(i:Nat) (hi:i<a.size),ia1+k<=i->lt b[ib1] a[i]=true:=λi hi h=>k3 i hi h ⋯;have wi2:=lo.wi.QB0 λi hi h1 h2 j hj h3=>hO.tr _ _ _ (k2 i hi h1 h2) (sb ib1 j b2 hj h3);dsimp-zeta only
   extract_lets-underBinder ac2 jp2
   have hj2:∀(o:Array Keyed) (ia1':Nat),WI lt (a.toList++b.toList) o.toList (rst a ia1') (rst b ib1)->ia1<=ia1'->ia1'+1<a.size->(∀(i:Nat) (hi:i<a.size),ia1'<=i->lt b[ib1] a[i]=true)->Wp ω (jp2 () o ia1') Q2 st3:=λo ia1' v le hb k3=>by
    have wi3:=v.Qqk b2 λj hj hij=>hO.as _ _ (k3 j hj hij);have b3:=Nat.lt_of_succ_lt hb;refine QaD b2 (QD (λe=>Qi (hd _ _ ⟨g3,.inl ⟨_,rfl,wi3.done (.inl (beq_iff_eq.mp e))⟩⟩)) λe=>?_);have b4:ib1+1<b.size:=ZY b2 (QaJ e);refine QaD b3 (QE (Qnk hL hO hk g3 (hPa ia1' b3) hPb sb (ZbY (Nat.add_sub_of_le b2)) (Nat.sub_pos_of_lt b4) λk' q1 q2 q3=>?_));have q1:ib1+1+k'<=b.size:= ⋯
    have q3:∀(i:Nat) (hi:i<b.size),ib1+1+k'<=i->lt b[i] a[ia1']=false:=λi hi h=>q3 i hi h ⋯;dsimp-zeta only
    extract_lets-underBinder bc2 jp3
    have hj3:∀(o:Array Keyed) (ib1':Nat),WI lt (a.toList++b.toList) o.toList (rst a ia1') (rst b ib1')->ib1<ib1'->ib1'<b.size->(∀(i:Nat) (hi:i<b.size),ib1'<=i->lt b[i] a[ia1']=false)->Wp ω (jp3 () o ib1') Q2 st3:=λo ib1' v le' hb' q3=>by
     have wi5:=v.QvN b3 λj hj hij=>q3 j hj hij;refine QaD b3 (QD (λe=>Qi (hd _ _ ⟨g3,.inl ⟨_,rfl,wi5.Qmx (beq_iff_eq.mp e) hl⟩⟩)) λe=>?_);have nx:=lo.nx wi5 (Nat.add_lt_add_of_le_of_lt (Nat.le_succ_of_le le) le') (Nat.le_succ_of_le le) (ZaC le') (ZY hb (QaJ e)) hb';exact QD (λ_=>Qi (hd _ _ ⟨g3,.inr ⟨rfl,nx.one⟩⟩)) λ_=>Qi (hy _ _ ⟨g3,nx⟩)
    clear_value jp3
    have wi4:=wi3.QCr λi hi h1 h2 j hj h3=>hO.tr _ _ _ (hO.as _ _ (q2 i hi h1 h2)) (sa _ j b3 hj h3);exact QD (λ_=>QD (λe=>Qi (hd _ _ ⟨g3,.inl ⟨_,rfl,wi4.done (.inl (beq_iff_eq.mp e))⟩⟩)) λe=>hj3 _ (ib1+1+k') wi4 (Nat.lt_add_right k' (Zak ib1)) (ZY q1 (QaJ e)) q3) λz=>hj3 _ (ib1+1) wi3 (Zak ib1) b4 λj hj h=>q3 j hj (Nat.eq_zero_of_not_pos z▸h)
   clear_value jp2
   exact QD (λ_=>QD (λe=>Qi (hd _ _ ⟨g3,.inl ⟨_,rfl,wi2.Qmx (beq_iff_eq.mp e) hl⟩⟩)) λe=>QD (λe=>Qi (hd _ _ ⟨g3,.inl ⟨_,rfl,wi2.done (.inr (beq_iff_eq.mp e))⟩⟩)) λe'=>hj2 _ (ia1+k) wi2 (Zbc _ _) (ZY (ZY k1 (QaJ e')) (QaJ e)) k3) λz=>hj2 _ ia1 lo.wi (Zd _) lo.ha λj hj h=>k3 j hj (Nat.eq_zero_of_not_pos z▸h)
  clear_value jp
  exact QD (λ_=>hj _) λ_=>hj _
 rintro⟨c0,c⟩ st2 ⟨g2,⟨r,e,hf⟩ | ⟨e,lo⟩⟩
 .obtain rfl:c0=some r:=e;exact Qi (hd _ _ ⟨_,rfl,g2,hf⟩)
 obtain rfl:c0=none:=e;exact QE (Qel g2 λst3 g3=>Qi (hy _ _ ⟨g3,fi lo⟩))
end
noncomputable def flp(lt:Keyed->Keyed->Bool):Keyed->Keyed->Bool:=λx y=>lt y x
def Qat.rev{lt:Keyed->Keyed->Bool}{l:List Keyed}(h:Qat (flp lt) l):Qat lt l.reverse:=by
 unfold Qat at *;rw[List.pairwise_reverse];exact h
def QaY.rev{lt:Keyed->Keyed->Bool}{T r:List Keyed}(h:QaY (flp lt) T r):QaY lt T r.reverse:=⟨(List.reverse_perm r).trans h.1,h.2.rev⟩
noncomputable def pre(a:Array Keyed)(n:Nat):List Keyed:=(a.toList.take n).reverse
def Qev{a:Array Keyed}{n:Nat}{x:Keyed}(h:x∈pre a n):∃(j:Nat) (hj:j<a.size),j<n/\a[j]=x:=by
 unfold pre at h;rw[ZbL]at h;obtain⟨k,hk,e⟩:=List.mem_iff_getElem.mp h;rw[ZS,Zv]at hk;refine⟨k,⋯,⋯,?_⟩;rw[← e,List.getElem_take];simp
def Qim{a:Array Keyed}{n:Nat}(h:n=0):pre a n=[]:=by subst h;rfl
def Qpk{a:Array Keyed}{at_ n:Nat}(h:at_<=n):pre a n=(a.extract at_ n).reverse.toList++pre a at_:=by
 unfold pre;rw[Array.toList_reverse,Array.toList_extract,List.extract_eq_take_drop,← List.reverse_append];congr 1;have:n=at_+(n-at_):= ⋯
 rw[this,List.take_add,Zbe]
def QpE{a:Array Keyed}{n:Nat}(h:n<a.size):pre a (n+1)=[a[n]]++pre a n:=by
 unfold pre;rw[List.take_succ_eq_append_getElem (by simpa using h),List.reverse_append];simp
def Qii(a:Array Keyed)(n:Nat):(a.extract 0 n).toList=(pre a n).reverse:=by
 unfold pre;rw[Array.toList_extract,List.extract_eq_take_drop,List.reverse_reverse];simp
def QdH.pre{lt:Keyed->Keyed->Bool}{a:Array Keyed}(h:QdH lt a)(n:Nat):Qat (flp lt) (pre a n):=by
 unfold Qat HS.pre flp;rw[List.pairwise_reverse,Zah];intro p q hp hq hpq;rw[ZS,Zv]at hp hq;rw[List.getElem_take,List.getElem_take];have:=h p q ⋯ ⋯ ⋯;simpa using this
section
variable {ω:Wd}{lt:Keyed->Keyed->Bool}{P:Keyed->Prop}{T:List Keyed}{a b out:Array Keyed}{na nb:Nat}
def WI.hiX{o M X X' Y:List Keyed}(h:WI lt T o X Y)(e:X=M++X')(hk:∀x∈M,∀y∈Y,lt y x=false):WI lt T (o++M) X' Y:=by
 subst e;have z:=h.Qq2 M.length (by rw[Zbi];exact hk;rfl);rw[Zbi rfl,List.drop_left' rfl]at z;exact z
def WI.hiY{o M X Y Y':List Keyed}(h:WI lt T o X Y)(e:Y=M++Y')(hk:∀y∈M,∀x∈X,lt x y=false):WI lt T (o++M) X Y':=by
 subst e;have z:=h.Qq4 M.length (by rw[Zbi];exact hk;rfl);rw[Zbi rfl,List.drop_left' rfl]at z;exact z
def WI.Qnj(h:WI (flp lt) T out.toList (pre a (na+1)) (pre b nb))(ha:na<a.size)(hle:∀(j:Nat) (hj:j<b.size),j<nb->lt a[na] b[j]=false):WI (flp lt) T (out.push a[na]).toList (pre a na) (pre b nb):=by
 rw[Array.toList_push];refine h.hiX (QpE ha) λx hx y hy=>?_;rw[Zo]at hx;obtain⟨j,hj,h1,rfl⟩:=Qev hy;rw[hx];exact hle j hj h1
def WI.QsM(h:WI (flp lt) T out.toList (pre a na) (pre b (nb+1)))(hb:nb<b.size)(hle:∀(j:Nat) (hj:j<a.size),j<na->lt b[nb] a[j]=false):WI (flp lt) T (out.push b[nb]).toList (pre a na) (pre b nb):=by
 rw[Array.toList_push];refine h.hiY (QpE hb) λx hx y hy=>?_;rw[Zo]at hx;obtain⟨j,hj,h1,rfl⟩:=Qev hy;rw[hx];exact hle j hj h1
def ext_mem{a:Array Keyed}{i n:Nat}{x:Keyed}(h:x∈(a.extract i n).reverse.toList):∃(j:Nat) (hj:j<a.size),i<=j/\j<n/\a[j]=x:=by
 rw[Array.toList_reverse,ZbL,Array.toList_extract,List.extract_eq_take_drop]at h;obtain⟨k,hk,e⟩:=List.mem_iff_getElem.mp h;rw[ZS,Zab,Zv]at hk;refine⟨i+k,⋯,⋯,⋯,?_⟩;rw[← e,List.getElem_take,List.getElem_drop];simp
def WI.QAP{at_:Nat}(h:WI (flp lt) T out.toList (pre a na) (pre b nb))(hat:at_<=na)(hle:∀(i:Nat) (hi:i<a.size),at_<=i->i<na->∀(j:Nat) (hj:j<b.size),j<nb->lt a[i] b[j]=false):WI (flp lt) T (out++(a.extract at_ na).reverse).toList (pre a at_) (pre b nb):=by
 rw[Array.toList_append];refine h.hiX (Qpk hat) λx hx y hy=>?_;obtain⟨i,hi,h1,h2,rfl⟩:=ext_mem hx;obtain⟨j,hj,h3,rfl⟩:=Qev hy;exact hle i hi h1 h2 j hj h3
def WI.QAN{at_:Nat}(h:WI (flp lt) T out.toList (pre a na) (pre b nb))(hat:at_<=nb)(hle:∀(i:Nat) (hi:i<b.size),at_<=i->i<nb->∀(j:Nat) (hj:j<a.size),j<na->lt b[i] a[j]=false):WI (flp lt) T (out++(b.extract at_ nb).reverse).toList (pre a na) (pre b at_):=by
 rw[Array.toList_append];refine h.hiY (Qpk hat) λx hx y hy=>?_;obtain⟨i,hi,h1,h2,rfl⟩:=ext_mem hx;obtain⟨j,hj,h3,rfl⟩:=Qev hy;exact hle i hi h1 h2 j hj h3
def WI.Qkb(h:WI (flp lt) T out.toList (pre a na) (pre b nb))(e:na=0∨nb=0):QaY lt T (a.extract 0 na++b.extract 0 nb++out.reverse).toList:=by
 rw[Array.toList_append,Array.toList_append,Qii,Qii,Array.toList_reverse,← List.reverse_append,← List.reverse_append];refine QaY.rev ?_;rcases e with e | e
 .have z:=h.Qz8 (Qim e);rw[Qim e]at z ⊢;simpa using z
 .have z:=h.QzW (Qim e);rw[Qim e]at z ⊢;simpa using z
def WI.QkA(h:WI (flp lt) T out.toList (pre a na) (pre b nb))(e:nb=1)(hb0:0<b.size)(hl:∀(j:Nat) (hj:j<a.size),lt a[j] b[0]=false):QaY lt T (b.extract 0 nb++a.extract 0 na++out.reverse).toList:=by
 rw[Array.toList_append,Array.toList_append,Qii,Qii,Array.toList_reverse,← List.reverse_append,← List.reverse_append];refine QaY.rev ?_;refine⟨by simpa using h.perm,?_⟩;have so:=h.so;have ox:=h.ox;have oy:=h.oy;have sx:=h.sx;have sy:=h.sy;refine List.pairwise_append.mpr ⟨so,List.pairwise_append.mpr ⟨sx,sy,λx hx y hy=>?_⟩,λx hx y hy=>?_⟩
 .obtain⟨i,hi,h1,rfl⟩:=Qev hx;obtain⟨j,hj,h2,rfl⟩:=Qev hy;have:j=0:= ⋯
  subst this;exact hl i hi
 .rcases Zr.mp hy with hy | hy
  .exact ox x hx y hy
  .exact oy x hx y hy
noncomputable def QmT:Array Keyed->Array Keyed->SM (Array Keyed):=sortPriv% PySem.Builtin.mergeHi
structure HiS (lt:Keyed->Keyed->Bool) (a b:Array Keyed) (na nb:Nat) (out:Array Keyed) (i N:Nat):Prop where
 wi:WI (flp lt) (a.toList++b.toList) out.toList (pre a na) (pre b nb)
 ha:0<na
 la:na<=a.size
 hb:1<nb
 lb:nb<=b.size
 le:na+nb+i<=N
def HiS.nx{out':Array Keyed}{na' nb' i N:Nat}(h:HiS lt a b na nb out i N)(v:WI (flp lt) (a.toList++b.toList) out'.toList (pre a na') (pre b nb'))(l:na'+nb'<na+nb)(la:na'<=na)(lb:nb'<=nb)(ha:na'≠0)(hb:1<nb'):HiS lt a b na' nb' out' (i+1) N:=⟨v,Nat.pos_of_ne_zero ha,Zw la h.la,hb,Zw lb h.lb,by have:=h.le;lia⟩
def HiS.one{i N:Nat}(h:HiS lt a b na nb out (i+1) N):HiS lt a b na nb out 1 N:=⟨h.wi,h.ha,h.la,h.hb,h.lb,by have:=h.le;lia⟩
def HiS.no{M N:Nat}{P:Prop}(h:HiS lt a b na nb out M N)(hN:N<=M):P:=by have:=h.le;have:=h.ha;lia
def HiS.ex{i N:Nat}(h:HiS lt a b na nb out i N):∃n k,na=n+1/\nb=k+1:=⟨na-1,nb-1,by have:=h.ha;lia,by have:=h.hb;lia⟩
def QoJ(hL:Qc4 ω P lt)(hO:QdA lt){st:SortSt}{Q:Array Keyed->SortSt->Prop}(hk:kindOf st=oneType')(hPa:∀(i:Nat) (h:i<a.size),P a[i])(hPb:∀(i:Nat) (h:i<b.size),P b[i])(sa:QdH lt a)(sb:QdH lt b)(ha0:0<a.size)(hb0:0<b.size)(h0:∀(j:Nat) (hj:j<a.size),lt a[j] b[0]=false)(hl:∀(j:Nat) (hj:j<b.size),lt (a[a.size-1]'⋯) b[j]=false)
  (h:∀(r:Array Keyed) (st':SortSt),Qbl st st'->QaY lt (a.toList++b.toList) r.toList->Q r st'):Wp ω (QmT a b) Q st:=by
 have g0:Qbl st st:=⟨_,rfl⟩;have en:a.size-1+1=a.size:= ⋯
 have l0:a.size-1<a.size:= ⋯
 have w0:WI (flp lt) (a.toList++b.toList) (#[]:Array Keyed).toList (pre a (a.size-1+1)) (pre b b.size):=by
  refine⟨?_,List.Pairwise.nil,sa.pre _,sb.pre _,λx hx=>by simp at hx,λx hx=>by simp at hx⟩;unfold pre;rw[en,ZaO ⋯,ZaO ⋯];simp only[ZbR];exact List.Perm.append (List.reverse_perm _) (List.reverse_perm _)
 have w1:=w0.Qnj l0 λj hj _=>hl j hj;unfold QmT;refine Qm4 l0 (λe1=>h _ _ g0 (w1.Qkb (.inl (beq_iff_eq.mp e1)))) (λe2=>h _ _ g0 (w1.QkA (beq_iff_eq.mp e2) hb0 h0)) λe1 e2=>?_;refine QaF (λc st'=>∃r,c.1=some r/\Qbl st st'/\QaY lt (a.toList++b.toList) r.toList) (λi c st'=>Qbl st st'/\HiS lt a b c.2.1 c.2.2.1 c.2.2.2.1 i (a.size+b.size)) ⟨g0,⟨w1,Nat.pos_of_ne_zero (QaJ e1),ZaC l0,ZY hb0 (Ne.symm (QaJ e2)),Zd _,Zbo (ZaC l0) _⟩⟩ ?_ (λc st h=>h.2.no (Zd _)) ?_
 rotate_left
 .rintro⟨c,q⟩ st1 ⟨r,e,g1,hf⟩;obtain rfl:c=some r:=e;exact Qi (h _ _ g1 hf)
 rintro i0 c st1 Q1 hin ⟨g1,lo⟩ hd hy;have hk1:kindOf st1=oneType':=by obtain⟨g,e⟩:=g1;rw[e];exact hk
 have fi:∀{na nb out},HiS lt a b na nb out 1 (a.size+b.size-i0)->HiS lt a b na nb out (i0+1) (a.size+b.size):=λlo=>⟨lo.wi,lo.ha,lo.la,lo.hb,lo.lb,by have:=lo.le;lia⟩;have lo:HiS lt a b c.2.1 c.2.2.1 c.2.2.2.1 0 (a.size+b.size-i0):=⟨lo.wi,lo.ha,lo.la,lo.hb,lo.lb,by have:=lo.le;lia⟩;have hN:=Nat.sub_le (a.size+b.size) i0;generalize a.size+b.size-i0=N at *;refine QaF (λc st'=>st'=st1/\((∃r,c.1=some r/\QaY lt (a.toList++b.toList) r.toList)∨c.1=none/\HiS lt a b c.2.1 c.2.2.1 c.2.2.2.1 1 N)) (λi c st'=>st'=st1/\HiS lt a b c.2.1 c.2.2.1 c.2.2.2.1 i N) ⟨rfl,lo⟩ ?_ (λc st' h=>h.2.no hN) ?_
 .rintro i ⟨c0,na,nb,out,ac,bc⟩ st' Q2 hin ⟨rfl,lo⟩ hd hy;have lo:HiS lt a b na nb out i N:=lo;obtain⟨na,nb,rfl,rfl⟩:=lo.ex;have b1:na<a.size:=lo.la;have b2:nb<b.size:=lo.lb;refine QaD b2 (QaD b1 (Qlz hL hk1 (hPb _ _) (hPa _ _) (QD (λhbw=>QaD b1 ?_) λhbw=>QaD b2 ?_)))
  .have wi':=lo.wi.Qnj b1 λj hj hij=>hO.tr _ _ _ (sb j nb hj b2 (Nat.le_of_lt_succ hij)) (hO.as _ _ hbw);refine QD (λe=>Qi (hd _ _ ⟨rfl,.inl ⟨_,rfl,wi'.Qkb (.inl (beq_iff_eq.mp e))⟩⟩)) λe=>?_;have nx:=lo.nx wi' (Nat.add_lt_add_right (Zak _) _) (ZaK _) (Zd _) (QaJ e) lo.hb;exact QD (λ_=>Qi (hd _ _ ⟨rfl,.inr ⟨rfl,nx.one⟩⟩)) λ_=>Qi (hy _ _ ⟨rfl,nx⟩)
  .have wi':=lo.wi.QsM b2 λj hj hij=>hO.tr _ _ _ (sa j na hj b1 (Nat.le_of_lt_succ hij)) (Bool.not_eq_true _▸hbw);refine QD (λe=>Qi (hd _ _ ⟨rfl,.inl ⟨_,rfl,wi'.QkA (beq_iff_eq.mp e) hb0 h0⟩⟩)) λe=>?_;have nx:=lo.nx wi' (Zak _) (Zd _) (ZaK _) (Nat.succ_ne_zero _) (ZY (Nat.le_of_lt_succ lo.hb) (Ne.symm (QaJ e)));exact QD (λ_=>Qi (hd _ _ ⟨rfl,.inr ⟨rfl,nx.one⟩⟩)) λ_=>Qi (hy _ _ ⟨rfl,nx⟩)
 rintro⟨c0,c⟩ st2 ⟨rfl,⟨r,e,hf⟩ | ⟨e,lo⟩⟩
 .obtain rfl:c0=some r:=e;exact Qi (hd _ _ ⟨_,rfl,g1,hf⟩)
 obtain rfl:c0=none:=e;refine QhR (QaF (λc st'=>Qbl st st'/\((∃r,c.1=some r/\QaY lt (a.toList++b.toList) r.toList)∨c.1=none/\HiS lt a b c.2.1 c.2.2.1 c.2.2.2.1 1 N)) (λi c st'=>Qbl st st'/\HiS lt a b c.2.1 c.2.2.1 c.2.2.2.1 (i+1) N) ⟨g1,lo⟩ ?_ (λc st h=>h.2.no (Nat.le_succ_of_le hN)) ?_)
 .rintro i ⟨c0,na,nb,out,mg',ac,bc⟩ st' Q2 hin ⟨g2,lo⟩ hd hy;have lo:HiS lt a b na nb out (i+1) N:=lo;obtain⟨na,nb,rfl,rfl⟩:=lo.ex;have b1:na<a.size:=lo.la;have b2:nb<b.size:=lo.lb
  extract_lets-underBinder s1 na1 s2 nb1 s3 out1 s4 mg1 s5 ac1 bc1 jp
  have hj:∀x,Wp ω (jp () x) Q2 st':=λx=>by
   refine QE (Qel g2 λst3 g3=>QaD b2 (QE (QoH hL hO hk g3 (hPb nb b2) hPa sa (Zbs _▸b1) (Zak _) λk k1 k2 k3=>?_)));simp only[Zbs]at k2 k3;have wi2:=lo.wi.QAP k1 λi hi h1 h2 j hj h3=>hO.tr _ _ _ (sb j nb hj b2 (Nat.le_of_lt_succ h3)) (hO.as _ _ (k3 i hi h1 h2));have k2:=λi hi=>k2 i hi (ZF _);dsimp-zeta only
   extract_lets-underBinder kk ac2 jp2
   have hj2:∀(na':Nat) (o:Array Keyed),WI (flp lt) (a.toList++b.toList) o.toList (pre a na') (pre b (nb+1))->na'<=na+1->na'≠0->(∀(i:Nat) (hi:i<a.size),i<na'->lt b[nb] a[i]=false)->Wp ω (jp2 () na' o) Q2 st3:=λna' o v le n0 k2=>by
    have wi3:=v.QsM b2 λj hj hij=>k2 j hj hij;obtain⟨na2,rfl⟩:=Nat.exists_eq_succ_of_ne_zero n0;have b3:na2<a.size:=Zu (Zak _) (Zw le lo.la);refine QaD b2 (QD (λe=>Qi (hd _ _ ⟨g3,.inl ⟨_,rfl,wi3.QkA (beq_iff_eq.mp e) hb0 h0⟩⟩)) λe=>?_);have n3:1<nb:=ZY (Nat.le_of_lt_succ lo.hb) (Ne.symm (QaJ e));obtain⟨nb2,rfl⟩:=Nat.exists_eq_succ_of_ne_zero (Zbq (Zcq Nat.zero_lt_one n3));refine QaD b3 (QE (Qnk hL hO hk g3 (hPa na2 b3) hPb sb (Zbs _▸ZaC b2) (Zak _) λk' q1 q2 q3=>?_));simp only[Zbs]at q2 q3;have q2:=λi hi=>q2 i hi (ZF _);dsimp-zeta only
    extract_lets-underBinder kk2 bc2 jp3
    have hj3:∀(nb':Nat) (o:Array Keyed),WI (flp lt) (a.toList++b.toList) o.toList (pre a (na2+1)) (pre b nb')->nb'<=nb2+1->1<nb'->(∀(i:Nat) (hi:i<b.size),i<nb'->lt b[i] a[na2]=true)->Wp ω (jp3 () nb' o) Q2 st3:=λnb' o v le' n1 q2=>by
     have wi5:=v.Qnj b3 λj hj hij=>hO.as _ _ (q2 j hj hij);refine QaD b3 (QD (λe=>Qi (hd _ _ ⟨g3,.inl ⟨_,rfl,wi5.Qkb (.inl (beq_iff_eq.mp e))⟩⟩)) λe=>?_);have nx:=lo.nx wi5 ⋯ ⋯ ⋯ (QaJ e) n1;exact QD (λ_=>Qi (hd _ _ ⟨g3,.inr ⟨rfl,nx.one⟩⟩)) λ_=>Qi (hy _ _ ⟨g3,nx⟩)
    clear_value jp3
    have wi4:=wi3.QAN q1 λi hi h1 h2 j hj h3=>hO.tr _ _ _ (sa j na2 hj b3 (Nat.le_of_lt_succ h3)) (q3 i hi h1 h2);exact QD (λ_=>QD (λe=>Qi (hd _ _ ⟨g3,.inl ⟨_,rfl,wi4.QkA (beq_iff_eq.mp e) hb0 h0⟩⟩)) λe=>QD (λe'=>Qi (hd _ _ ⟨g3,.inl ⟨_,rfl,wi4.Qkb (.inr (beq_iff_eq.mp e'))⟩⟩)) λe'=>hj3 k' _ wi4 q1 (by have:=QaJ e;have:=QaJ e';lia) q2) λz=>hj3 (nb2+1) _ wi3 (Zd _) n3 λj hj h=>q2 j hj (by have z:¬nb2+1-k'>0:=z;lia)
   clear_value jp2
   exact QD (λ_=>QD (λe=>Qi (hd _ _ ⟨g3,.inl ⟨_,rfl,wi2.Qkb (.inl (beq_iff_eq.mp e))⟩⟩)) λe=>hj2 k _ wi2 k1 (QaJ e) k2) λz=>hj2 (na+1) _ lo.wi (Zd _) (Nat.succ_ne_zero _) λj hj h=>k2 j hj (by have z:¬na+1-k>0:=z;lia)
  clear_value jp
  exact QD (λ_=>hj _) λ_=>hj _
 rintro⟨c0,c⟩ st2 ⟨g2,⟨r,e,hf⟩ | ⟨e,lo⟩⟩
 .obtain rfl:c0=some r:=e;exact Qi (hd _ _ ⟨_,rfl,g2,hf⟩)
 obtain rfl:c0=none:=e;exact QE (Qel g2 λst3 g3=>Qi (hy _ _ ⟨g3,fi lo⟩))
end
def QmZ:∀(M:List Keyed) (k:Nat) (arr:Array Keyed) (off:Nat) (A1 Old A2:List Keyed),arr.toList=A1++Old++A2->A1.length=off+k->Old.length=M.length->((M.zipIdx k).foldl (λa (p:Keyed×Nat)=>a.setIfInBounds (off+p.2) p.1) arr).toList=A1++M++A2
 | [],k,arr,off,A1,Old,A2,e,h1,h2=>by
  have:Old=[]:=ZV h2;subst this;exact e
 | m::M,k,arr,off,A1,[],A2,e,h1,h2=>by simp at h2
 | m::M,k,arr,off,A1,o::Old,A2,e,h1,h2=>by
  rw[Zch,Zcw];have e2:(arr.setIfInBounds (off+k) m).toList=(A1++[m])++Old++A2:=by
   rw[Array.toList_setIfInBounds,e,← h1];simp
  have:=QmZ M (k+1) (arr.setIfInBounds (off+k) m) off (A1++[m]) Old A2 e2 (by simp;lia) (by simpa using h2);rw[this];simp
def Qnv{lt:Keyed->Keyed->Bool}{X Y:List Keyed}(sx:Qat lt X)(sy:Qat lt Y)(h:∀x∈X,∀y∈Y,lt y x=false):QaY lt (X++Y) (X++Y):=⟨List.Perm.refl _,List.pairwise_append.mpr ⟨sx,sy,h⟩⟩
def Qwy{lt:Keyed->Keyed->Bool}{X1 X2 Y1 Y2 M:List Keyed}(hM:QaY lt (X2++Y1) M)(s1:Qat lt X1)(s2:Qat lt Y2)(h1:∀x∈X1,∀y∈X2++Y1,lt y x=false)(h2:∀x∈X1,∀y∈Y2,lt y x=false)(h3:∀x∈X2++Y1,∀y∈Y2,lt y x=false):QaY lt ((X1++X2)++(Y1++Y2)) (X1++M++Y2):=by
 have hm:∀x,x∈M↔x∈X2++Y1:=λx=>hM.1.mem_iff;refine⟨?_,List.pairwise_append.mpr ⟨List.pairwise_append.mpr ⟨s1,hM.2,λx hx y hy=>h1 x hx y ((hm y).mp hy)⟩,s2,λx hx y hy=>?_⟩⟩
 .have e:(X1++X2)++(Y1++Y2)=X1++(X2++Y1)++Y2:= ⋯
  rw[e];exact List.Perm.append_right _ (Zbj _ hM.1)
 .rcases Zr.mp hx with hx | hx
  .exact h2 x hx y hy
  .exact h3 x ((hm x).mp hx) y hy
def Qkr{arr:Array Keyed}{B X C:List Keyed}{n:Nat}(e:arr.toList=B++X++C)(hn:B.length=n){i:Nat}(hi:i<X.length)(h:n+i<arr.size):arr[n+i]=X[i]:=by
 have:arr[n+i]? =some X[i]:=by
  rw[← Zad,e,ZG,Zbn ⋯,Zaw ⋯,show n+i-B.length=i by lia];exact ZH hi
 rw[Zag h]at this;exact Option.some.inj this
def QpF{arr:Array Keyed}{B X C:List Keyed}{n k:Nat}(e:arr.toList=B++X++C)(hn:B.length=n)(hk:k=n+X.length):(arr.extract n k).toList=X:=by
 subst hk;rw[Array.toList_extract,List.extract_eq_take_drop,e,ZG,← hn,List.drop_left',Zbe,Zbi]
 .rfl
 .rfl
def Qat.arr{lt:Keyed->Keyed->Bool}{a:Array Keyed}(hr:∀x,lt x x=false)(h:Qat lt a.toList):QdH lt a:=λi j hi hj hij=>by
 by_cases e:i=j
 .subst e;exact hr _
 .have:=Zah.mp h i j (by simpa using hi) (by simpa using hj) ⋯;simpa using this
section
variable {ω:Wd}{lt:Keyed->Keyed->Bool}{P:Keyed->Prop}
def Qzc{st st':SortSt}{Q:PUnit->SortSt->Prop}(h:Q ⟨⟩ st'):Wp ω (set st') Q st:=by
 unfold Wp wpS;rw[StateT.run_set];exact wpAny_pure ⟨rfl,h⟩
def Qgp{l:List Keyed}{k:Nat}{x:Keyed}(h:x∈l.take k):∃(i:Nat) (hi:i<l.length),i<k/\l[i]=x:=by
 obtain⟨n,hn,e⟩:=List.mem_iff_getElem.mp h;rw[ZS]at hn;exact⟨n,⋯,⋯,by rw[← e,List.getElem_take]⟩
def Qg1{l:List Keyed}{k:Nat}{x:Keyed}(h:x∈l.drop k):∃(i:Nat) (hi:i<l.length),k<=i/\l[i]=x:=by
 obtain⟨n,hn,e⟩:=List.mem_iff_getElem.mp h;rw[Zab]at hn;exact⟨k+n,⋯,⋯,by rw[← e,List.getElem_drop]⟩
def Qyw(st st':SortSt)(i sa na nb pw:Nat)(B M C:List Keyed):Prop:=kindOf st'=kindOf st/\failedOf st'=failedOf st/\(arrOf st').toList=B++M++C/\pendingOf st'=((pendingOf st).setIfInBounds i (sa,na+nb,pw)).eraseIdxIfInBounds (i+1)
def QoQ(hL:Qc4 ω P lt)(hO:QdA lt)(hr:∀x,lt x x=false){st:SortSt}{Q:Bool->SortSt->Prop}{i sa na pw nb pw2:Nat}{B X Y C:List Keyed}(hk:kindOf st=oneType')(hfl:failedOf st=none)(hp:(pendingOf st)[i]? =some (sa,na,pw))(hp2:(pendingOf st)[i+1]? =some (sa+na,nb,pw2))(e:(arrOf st).toList=B++(X++Y)++C)(hB:B.length=sa)(hX:X.length=na)(hY:Y.length=nb)(na0:0<na)(nb0:0<nb)(hP:∀x∈B++(X++Y)++C,P x)(sx:Qat lt X)(sy:Qat lt Y)
  (h:∀M st',QaY lt (X++Y) M->Qyw st st' i sa na nb pw B M C->Q true st'):Wp ω (mergeAt' i) Q st:=by
 have eX:(arrOf st).toList=B++X++(Y++C):=by rw[e];simp
 have eY:(arrOf st).toList=(B++X)++Y++C:=by rw[e];simp
 have hBX:(B++X).length=sa+na:=by rw[Zn];lia
 have sz:(arrOf st).size=sa+na+nb+C.length:=by
  rw[← Zv,e];simp;lia
 have hPa:∀(i:Nat) (h:i<(arrOf st).size),P (arrOf st)[i]:=λi h=>hP _ (by rw[← e];exact Array.mem_toList_iff.mpr (Array.getElem_mem h));have SX:∀(p q:Nat) (hp:p<X.length) (hq:q<X.length),p<=q->lt X[q] X[p]=false:=λp q hp hq hpq=>by
  by_cases z:p=q
  .subst z;exact hr _
  .exact Zah.mp sx p q hp hq ⋯
 have SY:∀(p q:Nat) (hp:p<Y.length) (hq:q<Y.length),p<=q->lt Y[q] Y[p]=false:=λp q hp hq hpq=>by
  by_cases z:p=q
  .subst z;exact hr _
  .exact Zah.mp sy p q hp hq ⋯
 have ay0:(arrOf st)[sa+na]'⋯ =Y[0]'⋯ :=Qkr (i:=0) eY hBX ⋯ ⋯;unfold mergeAt';refine QE (QcK ?_);rw[hp,hp2];dsimp only;refine QE (Qzc ?_);refine QaD (show sa+na<(arrOf st).size by lia) ?_;refine QE (Qek hL hk (hPa _ _) hPa (show sa+na<=(arrOf st).size by lia) na0 (λi=>if h:i<X.length then !(lt (Y[0]'⋯) X[i])else false) (λi h1 h2=>?_) (λp q hpq hq hb=>?_) λk k1 k2 k3=>?_)
 .rw[dif_pos (show i<X.length by lia),ay0,Qkr eX hB (show i<X.length by lia) h1];rfl
 .rw[dif_pos (show q<X.length by lia)]at hb;rw[dif_pos (show p<X.length by lia)];simp only[Zan]at hb ⊢;exact hO.tr _ _ _ (SX p q ⋯ ⋯ hpq) hb
 have k2':∀(i:Nat) (hi:i<X.length),i<k->lt (Y[0]'⋯) X[i]=false:=λi hi h1=>by
  have z:=k2 i h1;rw[dif_pos hi]at z;simpa using z
 have k3':∀(i:Nat) (hi:i<X.length),k<=i->lt (Y[0]'⋯) X[i]=true:=λi hi h1=>by
  have z:=k3 i h1 ⋯;rw[dif_pos hi]at z;simpa using z
 dsimp only;by_cases e1:na-k=0
 .rw[if_pos (by simpa using e1)];refine Qi (h (X++Y) _ (Qnv sx sy λx hx y hy=>?_) ⟨rfl,rfl,e,rfl⟩);obtain⟨p,hp,rfl⟩:=List.mem_iff_getElem.mp hx;obtain⟨q,hq,rfl⟩:=List.mem_iff_getElem.mp hy;exact hO.tr _ _ _ (k2' p hp ⋯) (SY 0 q ⋯ hq (ZF _))
 rw[if_neg (by simpa using e1)];have ei:sa+k+(na-k)-1=sa+(na-1):= ⋯
 rw[ei];have axl:(arrOf st)[sa+(na-1)]'⋯ =X[na-1]'⋯ :=Qkr eX hB ⋯ ⋯;refine QaD (show sa+(na-1)<(arrOf st).size by lia) ?_;refine QE (Qek hL hk (hPa _ _) hPa (show sa+na+nb<=(arrOf st).size by lia) (show nb-1<nb by lia) (λi=>if h:i<Y.length then lt Y[i] (X[na-1]'⋯)else false) (λi h1 h2=>?_) (λp q hpq hq hb=>?_) λm m1 m2 m3=>?_)
 .rw[dif_pos (show i<Y.length by lia),axl,Qkr eY hBX (show i<Y.length by lia) h1];rfl
 .rw[dif_pos (show q<Y.length by lia)]at hb;rw[dif_pos (show p<Y.length by lia)];cases hc:lt (Y[p]'⋯) (X[na-1]'⋯)with
  | true=>rfl
  | false=>
   have:=hO.tr _ _ _ hc (SY p q ⋯ ⋯ hpq);rw[hb]at this;cases this
 have m2':∀(i:Nat) (hi:i<Y.length),i<m->lt Y[i] (X[na-1]'⋯)=true:=λi hi h1=>by
  have z:=m2 i h1;rw[dif_pos hi]at z;exact z
 have m3':∀(i:Nat) (hi:i<Y.length),m<=i->lt Y[i] (X[na-1]'⋯)=false:=λi hi h1=>by
  have z:=m3 i h1 ⋯;rw[dif_pos hi]at z;exact z
 dsimp only;by_cases e2:m=0
 .rw[if_pos (by simpa using e2)];refine Qi (h (X++Y) _ (Qnv sx sy λx hx y hy=>?_) ⟨rfl,rfl,e,rfl⟩);obtain⟨p,hp,rfl⟩:=List.mem_iff_getElem.mp hx;obtain⟨q,hq,rfl⟩:=List.mem_iff_getElem.mp hy;exact hO.tr _ _ _ (SX p (na-1) hp ⋯ ⋯) (m3' q hq ⋯)
 rw[if_neg (by simpa using e2)];have ex1:((arrOf st).extract (sa+k) (sa+na)).toList=X.drop k:=by
  refine QpF (B:=B++X.take k) (C:=Y++C) ?_ (by rw[Zn,ZS];lia) (by rw[Zab];lia);rw[eX,ZG B (X.take k),ZN]
 have ey1:((arrOf st).extract (sa+na) (sa+na+m)).toList=Y.take m:=by
  refine QpF (C:=Y.drop m++C) ?_ hBX (by rw[ZS];lia);rw[eY,ZG (B++X) (Y.take m),← ZG (Y.take m),ZN,ZG]
 generalize (arrOf st).extract (sa+k) (sa+na)=x at ex1;generalize (arrOf st).extract (sa+na) (sa+na+m)=y at ey1;have lx:x.size=na-k:=by rw[← Zv,ex1,Zab,hX]
 have ly:y.size=m:=by rw[← Zv,ey1,ZS];lia
 have xat:∀(p:Nat) (hp:p<x.size),x[p]=X[k+p]'⋯ :=λp hp=>by
  have:x.toList[p]? =(X.drop k)[p]? :=by rw[ex1]
  rw[Zad,Zag hp,Zca,ZH ⋯]at this;exact Option.some.inj this
 have yat:∀(p:Nat) (hp:p<y.size),y[p]=Y[p]'⋯ :=λp hp=>by
  have:y.toList[p]? =(Y.take m)[p]? :=by rw[ey1]
  rw[Zad,Zag hp,Zba ⋯,ZH ⋯]at this;exact Option.some.inj this
 have px:∀(p:Nat) (hp:p<x.size),P x[p]:=λp hp=>by rw[xat p hp];exact hP _ ⋯
 have py:∀(p:Nat) (hp:p<y.size),P y[p]:=λp hp=>by rw[yat p hp];exact hP _ ⋯
 have ssx:QdH lt x:=Qat.arr hr (by rw[ex1];exact sx.sublist (List.drop_sublist _ _));have ssy:QdH lt y:=Qat.arr hr (by rw[ey1];exact sy.sublist (Zcb _ _));have x0:0<x.size:= ⋯
 have y0:0<y.size:= ⋯
 have hl:∀(p:Nat) (hp:p<y.size),lt (x[x.size-1]'⋯) y[p]=false:=λp hp=>by
  rw[xat _ ⋯,yat p hp];have ee:k+(x.size-1)=na-1:= ⋯
  simp only[ee];exact hO.as _ _ (m2' p ⋯ ⋯)
 have fin:∀(r:Array Keyed) (st':SortSt),Qbl (SortSt.mk' (kindOf st) (arrOf st) (((pendingOf st).setIfInBounds i (sa,na+nb,pw)).eraseIdxIfInBounds (i+1)) (gallopOf st) (failedOf st)) st'->QaY lt (x.toList++y.toList) r.toList->QaY lt (X++Y) (X.take k++r.toList++Y.drop m)/\(r.toList.zipIdx.foldl (λa (p:Keyed×Nat)=>a.setIfInBounds (sa+k+p.2) p.1) (arrOf st')).toList=B++(X.take k++r.toList++Y.drop m)++C:=λr st' hg hf=>by
  obtain⟨g,rfl⟩:=hg;rw[ex1,ey1]at hf;refine⟨?_,?_⟩
  .have z:=Qwy (X1:=X.take k) (Y2:=Y.drop m) hf (sx.sublist (Zcb _ _)) (sy.sublist (List.drop_sublist _ _)) (λa ha b hb=>?_) (λa ha b hb=>?_) (λa ha b hb=>?_)
   .rw[ZN,ZN]at z;exact z
   .obtain⟨p,hp,p1,rfl⟩:=Qgp ha;rcases Zr.mp hb with hb | hb
    .obtain⟨q,hq,q1,rfl⟩:=Qg1 hb;exact SX p q hp hq ⋯
    .obtain⟨q,hq,q1,rfl⟩:=Qgp hb;exact hO.tr _ _ _ (k2' p hp p1) (SY 0 q ⋯ hq (ZF _))
   .obtain⟨p,hp,p1,rfl⟩:=Qgp ha;obtain⟨q,hq,q1,rfl⟩:=Qg1 hb;exact hO.tr _ _ _ (k2' p hp p1) (SY 0 q ⋯ hq (ZF _))
   .obtain⟨q,hq,q1,rfl⟩:=Qg1 hb;rcases Zr.mp ha with ha | ha
    .obtain⟨p,hp,p1,rfl⟩:=Qg1 ha;exact hO.tr _ _ _ (SX p (na-1) hp ⋯ ⋯) (m3' q hq q1)
    .obtain⟨p,hp,p1,rfl⟩:=Qgp ha;exact SY p q hp hq ⋯
  .have z:=QmZ r.toList 0 (arrOf st) (sa+k) (B++X.take k) (X.drop k++Y.take m) (Y.drop m++C) (by
    rw[e];have t1:=ZN k X;have t2:=ZN m Y;rw[show B++(X++Y)++C=B++((X.take k++X.drop k)++(Y.take m++Y.drop m))++C by rw[t1,t2]];simp only[ZG]) (by rw[Zn,ZS];lia) (by rw[← hf.1.length_eq])
   refine Eq.trans z ?_;simp
 have enn:(failedOf st).isNone=true:=by rw[hfl];rfl
 split
 .refine QE (Qo1 hL hO hk px py ssx ssy x0 y0 (by rw[xat 0 x0,yat 0 y0];exact k3' _ ⋯ ⋯) hl λr st' hg hf=>?_);obtain⟨f1,f2⟩:=fin r st' hg hf;refine QE (QeO (QE (QcK (Qi ?_))));obtain⟨g,rfl⟩:=hg;have:=h _ (SortSt.mk' (kindOf st) (r.toList.zipIdx.foldl (λa (p:Keyed×Nat)=>a.setIfInBounds (sa+k+p.2) p.1) (arrOf st)) (((pendingOf st).setIfInBounds i (sa,na+nb,pw)).eraseIdxIfInBounds (i+1)) g (failedOf st)) f1 ⟨rfl,rfl,f2,rfl⟩;show Q (failedOf st).isNone (SortSt.mk' (kindOf st) (r.toList.zipIdx.foldl (λa (p:Keyed×Nat)=>a.setIfInBounds (sa+k+p.2) p.1) (arrOf st)) (((pendingOf st).setIfInBounds i (sa,na+nb,pw)).eraseIdxIfInBounds (i+1)) g (failedOf st));rw[enn];exact this
 .refine QE (QoJ hL hO hk px py ssx ssy x0 y0 (λp hp=>by rw[xat p hp,yat 0 y0];exact hO.as _ _ (k3' _ ⋯ ⋯)) hl λr st' hg hf=>?_);obtain⟨f1,f2⟩:=fin r st' hg hf;refine QE (QeO (QE (QcK (Qi ?_))));obtain⟨g,rfl⟩:=hg;have:=h _ (SortSt.mk' (kindOf st) (r.toList.zipIdx.foldl (λa (p:Keyed×Nat)=>a.setIfInBounds (sa+k+p.2) p.1) (arrOf st)) (((pendingOf st).setIfInBounds i (sa,na+nb,pw)).eraseIdxIfInBounds (i+1)) g (failedOf st)) f1 ⟨rfl,rfl,f2,rfl⟩;show Q (failedOf st).isNone (SortSt.mk' (kindOf st) (r.toList.zipIdx.foldl (λa (p:Keyed×Nat)=>a.setIfInBounds (sa+k+p.2) p.1) (arrOf st)) (((pendingOf st).setIfInBounds i (sa,na+nb,pw)).eraseIdxIfInBounds (i+1)) g (failedOf st));rw[enn];exact this
end
section
variable {ω:Wd}{lt:Keyed->Keyed->Bool}{P:Keyed->Prop}
def Qbz(lt:Keyed->Keyed->Bool)(arr:Array Keyed)(lo hi:Nat):Prop:=∀i j x y,lo<=i->i<=j->j<hi->arr[i]? =some x->arr[j]? =some y->lt y x=false
structure RB (a₀:Array Keyed) (lo:Nat) (pend:Array (Nat×Nat×Nat)) (st:SortSt):Prop where
 kind:kindOf st=oneType'
 failed:failedOf st=none
 pend:pendingOf st=pend
 perm:(arrOf st).Perm a₀
 pre:∀k,k<lo->(arrOf st)[k]? =a₀[k]?
def RB.size{a₀:Array Keyed}{lo:Nat}{pend:Array (Nat×Nat×Nat)}{st:SortSt}(h:RB a₀ lo pend st):(arrOf st).size=a₀.size:=h.perm.size_eq
def RB.get{a₀:Array Keyed}{lo:Nat}{pend:Array (Nat×Nat×Nat)}{st:SortSt}(h:RB a₀ lo pend st)(hP:∀x∈a₀.toList,P x){i:Nat}(hi:i<a₀.size):∃x,(arrOf st)[i]? =some x/\P x:=by
 have hi':i<(arrOf st).size:=by rw[h.size];exact hi
 refine⟨_,Zag hi',hP _ ?_⟩;exact(Array.Perm.mem_iff h.perm |>.mp (Array.getElem_mem hi')) |> Array.mem_toList_iff.mpr
def Qgt{α:Type}(hL:Qc4 ω P lt){st:SortSt}{f:Option Bool->SM α}{Q:α->SortSt->Prop}{i j:Nat}{x y:Keyed}(hk:kindOf st=oneType')(hi:(arrOf st)[i]? =some x)(hj:(arrOf st)[j]? =some y)(hx:P x)(hy:P y)(h:Wp ω (f (some (lt x y))) Q st):Wp ω (ltAt' i j >>= f) Q st:=by
 rw[ltAt'_eq];refine QE (QE (QcK ?_));show Wp _ (do let x ← elem' (arrOf st) i;let y ← elem' (arrOf st) j;lt' x y) _ _;rw[elem'_eq,elem'_eq,hi,hj];exact QE (Qi (QE (Qi (Qoh hL hk hx hy h))))
def QxO(hO:QdA lt)(hr:∀x,lt x x=false){arr:Array Keyed}{lo k l:Nat}{pv:Keyed}(hseg:Qbz lt arr lo (lo+k))(hl:l<=k)(hz:lo+k<arr.size)(hpv:arr[lo+k]? =some pv)(g4:∀i x,i<l->arr[lo+i]? =some x->lt pv x=false)(g5:∀i x,l<=i->i<k->arr[lo+i]? =some x->lt pv x=true):Qbz lt (bubble arr (lo+k) (lo+k-(lo+l))) lo (lo+(k+1)):=by
 intro i j x y hi hij hj ex ey;have gb:=λq=>getElem?_bubble (show lo+k<(arr).size by lia) (lo+k-(lo+l)) ⋯ q;have ed:lo+k-(lo+k-(lo+l))=lo+l:= ⋯
 have ex:(bubble (arr) (lo+k) (lo+k-(lo+l)))[i]? =some x:=ex;have ey:(bubble (arr) (lo+k) (lo+k-(lo+l)))[j]? =some y:=ey;rw[gb,ed]at ex ey;by_cases i1:i=lo+l
 .rw[if_pos i1,hpv]at ex;cases ex;by_cases j1:j=lo+l
  .rw[if_pos j1,hpv]at ey;cases ey;exact hr _
  .rw[if_neg j1,if_pos ⋯]at ey;refine hO.as _ _ (g5 (j-1-lo) y ⋯ ⋯ ?_);rw[show lo+(j-1-lo)=j-1 by lia];exact ey
 .rw[if_neg i1]at ex;by_cases i2:lo+l<i
  .rw[if_pos ⋯]at ex;rw[if_neg ⋯,if_pos ⋯]at ey;exact hseg (i-1) (j-1) x y ⋯ ⋯ ⋯ ex ey
  .rw[if_neg ⋯]at ex;by_cases j1:j=lo+l
   .rw[if_pos j1,hpv]at ey;cases ey;refine g4 (i-lo) x ⋯ ?_;rw[show lo+(i-lo)=i by lia];exact ex
   .rw[if_neg j1]at ey;by_cases j2:lo+l<j
    .rw[if_pos ⋯]at ey;exact hseg i (j-1) x y ⋯ ⋯ ⋯ ex ey
    .rw[if_neg ⋯]at ey;exact hseg i j x y ⋯ ⋯ ⋯ ex ey
def Qq7(hL:Qc4 ω P lt)(hO:QdA lt)(hr:∀x,lt x x=false){a₀:Array Keyed}{lo n ok:Nat}{pend:Array (Nat×Nat×Nat)}{st:SortSt}{Q:Bool->SortSt->Prop}(hP:∀x∈a₀.toList,P x)(hB:RB a₀ lo pend st)(hseg:Qbz lt (arrOf st) lo (lo+ok))(ok1:1<=ok)(okn:ok<=n)(hz:lo+n<=a₀.size)
  (h:∀st',RB a₀ lo pend st'->Qbz lt (arrOf st') lo (lo+n)->Q true st'):Wp ω (binarySort' lo n ok) Q st:=by
 unfold binarySort';refine Qfm (show max ok 1<=n by lia) (λc st'=>c=(none,())/\RB a₀ lo pend st'/\Qbz lt (arrOf st') lo (lo+n)) (λk c st'=>c=(none,())/\RB a₀ lo pend st'/\Qbz lt (arrOf st') lo (lo+k)) ⟨rfl,hB,by rw[show max ok 1=ok by lia];exact hseg⟩ ?_ (λ_ _ h=>h) λc st' ⟨e,hB,hseg⟩=>by subst e;exact Qi (h _ hB hseg)
 rintro k c st1 Q1 h1 h2 ⟨rfl,hB,hseg⟩ hd hy;obtain⟨pv,hpv,ppv⟩:=hB.get hP (show lo+k<a₀.size by lia);refine QaF (λc st'=>∃l,c=(none,l,l)/\st'=st1/\l<=k/\(∀i x,i<l->(arrOf st1)[lo+i]? =some x->lt pv x=false)/\(∀i x,l<=i->i<k->(arrOf st1)[lo+i]? =some x->lt pv x=true)) (λi c st'=>∃l r,c=(none,l,r)/\st'=st1/\l<=r/\r<=k/\r-l+i<=k/\(∀i x,i<l->(arrOf st1)[lo+i]? =some x->lt pv x=false)/\(∀i x,r<=i->i<k->(arrOf st1)[lo+i]? =some x->lt pv x=true)) ⟨0,k,rfl,rfl,ZF _,Zd _,Zd _,λi _ hi=>absurd hi (Nat.not_lt_zero _),λi _ h1 h2=>absurd h2 (Nat.not_lt_of_le h1)⟩ ?_ ?_ ?_
 .rintro i c st' Q2 hin ⟨l,r,rfl,rfl,g1,g2,g3,g4,g5⟩ hd hy;refine QD (λhl=>Qi (hd _ _ ?_)) λhl=>?_
  .obtain rfl:l=r:=Zcz g1 hl;exact⟨l,rfl,rfl,g2,g4,g5⟩
  have hl:l<r:=Nat.lt_of_not_le hl;have m2:(l+r) / 2<r:= ⋯
  obtain⟨mv,hmv,pmv⟩:=hB.get hP (show lo+(l+r) / 2<a₀.size by lia);refine Qgt hL hB.kind hpv hmv ppv pmv (QD (λhb=>Qi (hy _ _ ⟨l,(l+r) / 2,rfl,rfl,⋯,⋯,⋯,g4,λq x hq hqk e=>?_⟩)) λhb=>Qi (hy _ _ ⟨(l+r) / 2+1,r,rfl,rfl,m2,g2,⋯,λq x hq e=>?_,g5⟩))
  .cases hc:lt pv x with
   | true=>rfl
   | false=>rw[hO.tr _ _ _ (hseg (lo+(l+r) / 2) (lo+q) mv x ⋯ ⋯ ⋯ hmv e) hc]at hb;cases hb
  .exact hO.tr _ _ _ (hseg (lo+q) (lo+(l+r) / 2) x mv ⋯ ⋯ ⋯ e hmv) (Bool.not_eq_true _▸hb)
 .rintro c st' ⟨l,r,rfl,rfl,g1,g2,g3,g4,g5⟩;obtain rfl:l=r:= ⋯
  exact⟨l,rfl,rfl,g2,g4,g5⟩
 .rintro c st2 ⟨l,rfl,rfl,g2,g4,g5⟩;refine QE (show Wp ω (moveDown' (lo+k) (lo+l)) _ st2 from ?_);rw[moveDown'_eq];refine(QeO (Qi (hy _ _ ⟨rfl,⟨hB.kind,hB.failed,hB.pend,(bubble_perm _ _ _).trans hB.perm,λq hq=>?_⟩,?_⟩)))
  .show(bubble (arrOf st2) (lo+k) (lo+k-(lo+l)))[q]? =_;rw[getElem?_bubble (by rw[hB.size];lia) _ ⋯,if_neg ⋯,if_neg ⋯];exact hB.pre q hq
  .exact QxO hO hr hseg g2 (by rw[hB.size];lia) hpv g4 g5
end
section
variable {ω:Wd}{lt:Keyed->Keyed->Bool}{P:Keyed->Prop}
def Qdt(lt:Keyed->Keyed->Bool)(arr:Array Keyed)(lo hi:Nat):Prop:=∀i j x y,lo<=i->i<=j->j<hi->arr[i]? =some x->arr[j]? =some y->lt x y=false
def Qeb(lt:Keyed->Keyed->Bool)(arr:Array Keyed)(lo hi:Nat):Prop:=∀i j x y,lo<=i->i<hi->lo<=j->j<hi->arr[i]? =some x->arr[j]? =some y->lt x y=false
def QAA{arr:Array Keyed}{lo hi:Nat}(h:Qdt lt arr lo hi)(hz:hi<=arr.size):Qbz lt (mirror arr lo hi ((hi-lo) / 2)) lo hi:=λi j x y hi' hij hj ex ey=>by
 rw[getElem?_mirror_all hz,if_pos ⟨⋯,⋯⟩]at ex ey;exact h (lo+hi-1-j) (lo+hi-1-i) y x ⋯ ⋯ ⋯ ey ex
def QAr{arr:Array Keyed}{lo hi:Nat}(h:Qbz lt arr lo hi)(hz:hi<=arr.size):Qdt lt (mirror arr lo hi ((hi-lo) / 2)) lo hi:=λi j x y hi' hij hj ex ey=>by
 rw[getElem?_mirror_all hz,if_pos ⟨⋯,⋯⟩]at ex ey;exact h (lo+hi-1-j) (lo+hi-1-i) y x ⋯ ⋯ ⋯ ey ex
def QvS{arr:Array Keyed}{lo b hi:Nat}(h:Qdt lt arr lo hi)(he:Qeb lt arr b hi)(hb:lo<=b)(hz:hi<=arr.size):Qdt lt (mirror arr b hi ((hi-b) / 2)) lo hi:=λi j x y hi' hij hj ex ey=>by
 rw[getElem?_mirror_all hz]at ex ey;by_cases i1:b<=i
 .rw[if_pos ⟨⋯,⋯⟩]at ex ey;exact he _ _ x y ⋯ ⋯ ⋯ ⋯ ex ey
 .rw[if_neg ⋯]at ex;by_cases j1:b<=j
  .rw[if_pos ⟨⋯,⋯⟩]at ey;exact h i _ x y ⋯ ⋯ ⋯ ex ey
  .rw[if_neg ⋯]at ey;exact h i j x y ⋯ ⋯ ⋯ ex ey
def RB.mir{a₀:Array Keyed}{lo:Nat}{pend:Array (Nat×Nat×Nat)}{st:SortSt}(h:RB a₀ lo pend st){i j:Nat}(hi:lo<=i)(hj:j<=a₀.size):RB a₀ lo pend (setArr st (mirror (arrOf st) i j ((j-i) / 2))):=⟨h.kind,h.failed,h.pend,(mirror_perm _ _ _ _).trans h.perm,λk hk=>by
 show(mirror (arrOf st) i j ((j-i) / 2))[k]? =_;rw[getElem?_mirror_all (by rw[h.size];exact hj),if_neg ⋯];exact h.pre k hk⟩
def Qiu{α:Type}{st:SortSt}{f:Unit->SM α}{Q:α->SortSt->Prop}{i j:Nat}(h:Wp ω (f ()) Q (setArr st (mirror (arrOf st) i j ((j-i) / 2)))):Wp ω (reverseSlice' i j >>= f) Q st:=QE (wpS_reverse h)
def Qbz.snoc{arr:Array Keyed}{lo n:Nat}{x y:Keyed}(hO:QdA lt)(hr:∀x,lt x x=false)(h:Qbz lt arr lo (lo+n))(hn:1<=n)(ex:arr[lo+n]? =some x)(ey:arr[lo+n-1]? =some y)(hb:lt x y=false):Qbz lt arr lo (lo+(n+1)):=λi j u v hi hij hj eu ev=>by
 by_cases j1:j=lo+n
 .subst j1;rw[ex]at ev;cases ev;by_cases i1:i=lo+n
  .subst i1;rw[ex]at eu;cases eu;exact hr _
  .exact hO.tr _ _ _ (h i (lo+n-1) u y hi ⋯ ⋯ eu ey) hb
 .exact h i j u v hi hij ⋯ eu ev
def Qdt.snoc{arr:Array Keyed}{lo n:Nat}{x y:Keyed}(hO:QdA lt)(hr:∀x,lt x x=false)(h:Qdt lt arr lo (lo+n))(hn:1<=n)(ex:arr[lo+n]? =some x)(ey:arr[lo+n-1]? =some y)(hb:lt y x=false):Qdt lt arr lo (lo+(n+1)):=λi j u v hi hij hj eu ev=>by
 by_cases j1:j=lo+n
 .subst j1;rw[ex]at ev;cases ev;by_cases i1:i=lo+n
  .subst i1;rw[ex]at eu;cases eu;exact hr _
  .exact hO.tr _ _ _ hb (h i (lo+n-1) u y hi ⋯ ⋯ eu ey)
 .exact h i j u v hi hij ⋯ eu ev
def Qeb.one{arr:Array Keyed}{p:Nat}(hr:∀x,lt x x=false):Qeb lt arr (p+1-1) (p+1):=λi j x y h1 h2 h3 h4 ex ey=>by
 obtain rfl:i=j:= ⋯
 rw[ex]at ey;cases ey;exact hr _
def Qeb.snoc{arr:Array Keyed}{b p:Nat}{u v:Keyed}(hO:QdA lt)(hr:∀x,lt x x=false)(h:Qeb lt arr b p)(hb:b<p)(eu:arr[p]? =some u)(ev:arr[p-1]? =some v)(h1:lt u v=false)(h2:lt v u=false):Qeb lt arr b (p+1):=λi j x y hi hi2 hj hj2 ex ey=>by
 by_cases i1:i=p
 .subst i1;rw[eu]at ex;cases ex;by_cases j1:j=i
  .subst j1;rw[eu]at ey;cases ey;exact hr _
  .exact hO.tr _ _ _ (h (i-1) j v y ⋯ ⋯ hj ⋯ ev ey) h1
 .by_cases j1:j=p
  .subst j1;rw[eu]at ey;cases ey;exact hO.tr _ _ _ h2 (h i (j-1) x v hi ⋯ ⋯ ⋯ ex ev)
  .exact h i j x y hi ⋯ hj ⋯ ex ey
def Qs7(hL:Qc4 ω P lt)(hO:QdA lt)(hr:∀x,lt x x=false){a₀:Array Keyed}{lo nrem:Nat}{pend:Array (Nat×Nat×Nat)}{st:SortSt}{Q:Option Nat->SortSt->Prop}(hP:∀x∈a₀.toList,P x)(hB:RB a₀ lo pend st)(h1:1<=nrem)(hz:lo+nrem<=a₀.size)
  (h:∀n st',1<=n->n<=nrem->RB a₀ lo pend st'->Qbz lt (arrOf st') lo (lo+n)->Q (some n) st'):Wp ω (countRun' lo nrem) Q st:=by
 unfold countRun';have one:∀(arr:Array Keyed),Qbz lt arr lo (lo+1):=λarr i j x y hi hij hj ex ey=>by
  obtain rfl:i=j:= ⋯
  rw[ex]at ey;cases ey;exact hr _
 have rise:∀{γ:Type}{n0:Nat}{st1:SortSt}{f:Nat->(Option (Option Nat)×Nat)->SM (ForInStep (Option (Option Nat)×Nat))}{g:Option (Option Nat)×Nat->SM γ}{R:γ->SortSt->Prop},1<=n0->n0<=nrem->RB a₀ lo pend st1->Qbz lt (arrOf st1) lo (lo+n0)→
   (∀(x n:Nat) (R':ForInStep (Option (Option Nat)×Nat)->SortSt->Prop) (u v:Keyed),P u->P v->(arrOf st1)[lo+n]? =some u->(arrOf st1)[lo+n-1]? =some v->(lt u v=true->R' (.done (none,n)) st1)->(lt u v=false->R' (.yield (none,n+1)) st1)->Wp ω (f x (none,n)) R' st1)→
   (∀n,1<=n->n<=nrem->Qbz lt (arrOf st1) lo (lo+n)->(n<nrem->∀u v,(arrOf st1)[lo+n]? =some u->(arrOf st1)[lo+n-1]? =some v->lt u v=true)->Wp ω (g (none,n)) R st1)->Wp ω (forIn [n0:nrem] (none,n0) f >>= g) R st1:=by
  intro γ n0 st1 f g R h1 h2 hB hseg hf hq;refine Qfm h2 (λc st'=>∃n,c=(none,n)/\st'=st1/\1<=n/\n<=nrem/\Qbz lt (arrOf st1) lo (lo+n)/\(n<nrem->∀u v,(arrOf st1)[lo+n]? =some u->(arrOf st1)[lo+n-1]? =some v->lt u v=true)) (λi c st'=>c=(none,i)/\st'=st1/\Qbz lt (arrOf st1) lo (lo+i)) ⟨rfl,rfl,hseg⟩ ?_ (λc st' ⟨e1,e2,hseg⟩=>⟨nrem,e1,e2,Zw h1 h2,Zd _,hseg,λz=>absurd z (Zaa _)⟩) ?_
  .rintro i c st' Q1 hi1 hi2 ⟨rfl,rfl,hseg⟩ hd hy;obtain⟨u,eu,pu⟩:=hB.get hP (show lo+i<a₀.size by lia);obtain⟨v,ev,pv⟩:=hB.get hP (show lo+i-1<a₀.size by lia);refine hf i i _ u v pu pv eu ev (λhb=>hd _ _ ⟨i,rfl,rfl,Zw h1 hi1,ZaC hi2,hseg,λ_ u' v' eu' ev'=>?_⟩) λhb=>hy _ _ ⟨rfl,rfl,hseg.snoc hO hr (Zw h1 hi1) eu ev hb⟩;rw[eu]at eu';rw[ev]at ev';cases eu';cases ev';exact hb
  .rintro c st' ⟨n,rfl,rfl,n1,n2,hseg,hb⟩;exact hq n n1 n2 hseg hb
 have ask:∀{st1:SortSt}{u v:Keyed}{i j:Nat}{α:Type}{x y:SM α}{z:Option Bool->SM α}{Q:α->SortSt->Prop},RB a₀ lo pend st1->P u->P v->(arrOf st1)[i]? =some u->(arrOf st1)[j]? =some v->(lt u v=true->Wp ω x Q st1)->(lt u v=false->Wp ω y Q st1)->Wp ω (ltAt' i j >>= λr=>match r with | some b=>if b=true then x else y | r=>z r) Q st1:=λhB pu pv eu ev h h'=>Qgt hL hB.kind eu ev pu pv (QD h λhb=>h' (Bool.not_eq_true _▸hb));refine rise (Zd 1) h1 hB (one _) (λx n R' u v pu pv eu ev y1 y2=>ask hB pu pv eu ev (λhb=>Qi (y1 hb)) λhb=>Qi (y2 hb)) λn n1 n2 hseg hbrk=>QD (λ_=>Qi (h n st n1 n2 hB hseg)) λe1=>?_;have e1:n<nrem:=ZY n2 (QaJ e1);obtain⟨u,eu,pu⟩:=hB.get hP (show lo+n<a₀.size by lia);obtain⟨v,ev,pv⟩:=hB.get hP (show lo+n-1<a₀.size by lia);have huv:=hbrk e1 u v eu ev
 extract_lets-underBinder jp
 have hj:∀st2,RB a₀ lo pend st2->Qdt lt (arrOf st2) lo (lo+(n+1))->Wp ω (jp ()) Q st2:=λst2 hB2 hD=>by
  refine QhR (Qfm (show n+1<=nrem from e1) (λc st'=>∃i q,c=(none,i,q)/\1<=i/\i<=nrem/\RB a₀ lo pend st'/\Qdt lt (arrOf st') lo (lo+i)/\q+1<=i/\Qeb lt (arrOf st') (lo+i-(q+1)) (lo+i)) (λi c st'=>∃q,c=(none,i,q)/\RB a₀ lo pend st'/\Qdt lt (arrOf st') lo (lo+i)/\q+1<=i/\Qeb lt (arrOf st') (lo+i-(q+1)) (lo+i)) ⟨0,rfl,hB2,hD,Zbt (ZF _),Qeb.one hr⟩ ?_ (λc st3 ⟨q,e,hB,hD,hq,hE⟩=>⟨nrem,q,e,Zw n1 n2,Zd _,hB,hD,hq,hE⟩) ?_)
  .rintro i c st3 Q2 hi1 hi2 ⟨q,rfl,hB,hD,hq,hE⟩ hd hy;obtain⟨u,eu,pu⟩:=hB.get hP (show lo+i<a₀.size by lia);obtain⟨v,ev,pv⟩:=hB.get hP (show lo+i-1<a₀.size by lia);have i0:1<=i:= ⋯
   refine Qgt hL hB.kind eu ev pu pv (QD (λhb=>QD (λq0=>Qiu (i:=lo+i-(q+1)) (j:=lo+i) (Qi (hy _ _ ?_))) λq0=>Qi (hy _ _ ⟨0,rfl,hB,hD.snoc hO hr i0 eu ev (hO.as _ _ hb),Zbt (ZF _),Qeb.one hr⟩)) λhb=>Qgt hL hB.kind ev eu pv pu (QD (λ_=>Qi (hd _ _ ⟨i,q,rfl,i0,ZaC hi2,hB,hD,hq,hE⟩)) λhb2=>Qi (hy _ _ ?_)))
   .have sz:=hB.size;obtain⟨x,ex,px⟩:=hB.get hP (show lo+i-(q+1)<a₀.size by lia);refine⟨0,rfl,hB.mir ⋯ ⋯,?_,Zbt (ZF _),Qeb.one hr⟩;refine Qdt.snoc hO hr (QvS hD hE ⋯ ⋯) i0 (x:=u) (y:=x) ?_ ?_ (hO.tr _ _ _ (hO.as _ _ hb) (hE _ _ x v ⋯ ⋯ ⋯ ⋯ ex ev))
    .rw[getElem?_mirror_all ⋯,if_neg ⋯];exact eu
    .rw[getElem?_mirror_all ⋯,if_pos ⟨⋯,⋯⟩,show lo+i-(q+1)+(lo+i)-1-(lo+i-1)=lo+i-(q+1) by lia];exact ex
   .refine⟨q+1,rfl,hB,hD.snoc hO hr i0 eu ev (Bool.not_eq_true _▸hb2),Zbt hq,?_⟩;rw[show lo+(i+1)-(q+1+1)=lo+i-(q+1) by lia];exact Qeb.snoc (p:=lo+i) hO hr hE (show lo+i-(q+1)<lo+i by lia) eu ev (Bool.not_eq_true _▸hb) (Bool.not_eq_true _▸hb2)
  .rintro c st3 ⟨i,q,rfl,i1,i2,hB3,hD3,hq,hE⟩;refine QD (λq0=>Qiu (i:=lo+i-(q+1)) (j:=lo+i) ?_) λq0=>?_
   case' refine_1=>
    have hB4:=hB3.mir (i:=lo+i-(q+1)) (j:=lo+i) ⋯ ⋯;have hD4:Qdt lt (arrOf (setArr st3 (mirror (arrOf st3) (lo+i-(q+1)) (lo+i) ((lo+i-(lo+i-(q+1))) / 2)))) lo (lo+i):=QvS hD3 hE ⋯ (by rw[hB3.size];lia)
   case' refine_2=>
    have hB4:=hB3;have hD4:=hD3
   all_goals
    have hB5:=hB4.mir (i:=lo) (j:=lo+i) (Zd _) ⋯;exact Qiu (i:=lo) (j:=lo+i) (rise i1 i2 hB5 (QAA hD4 (by rw[hB4.size];lia)) (λx n R' u v pu pv eu ev y1 y2=>ask hB5 pu pv eu ev (λhb=>Qi (y1 hb)) λhb=>Qi (y2 hb)) λn n1 n2 hseg _=>Qi (h n _ n1 n2 hB5 hseg))
 clear_value jp
 refine QD (λe2=>?_) λe2=>hj _ hB ?_
 .obtain⟨f,ef,pf⟩:=hB.get hP (show lo<a₀.size by lia);refine ask hB pf pv ef ev (λ_=>Qi (h n st n1 n2 hB hseg)) λhrose=>Qiu (hj _ (hB.mir (i:=lo) (j:=lo+n) (Zd _) ⋯) ?_);have sz:=hB.size;refine Qdt.snoc hO hr (QAr hseg ⋯) n1 (x:=u) (y:=f) ?_ ?_ (hO.tr _ _ _ (hO.as _ _ huv) hrose)
  .show(mirror (arrOf st) lo (lo+n) ((lo+n-lo) / 2))[lo+n]? =_;rw[getElem?_mirror_all ⋯,if_neg ⋯];exact eu
  .show(mirror (arrOf st) lo (lo+n) ((lo+n-lo) / 2))[lo+n-1]? =_;rw[getElem?_mirror_all ⋯,if_pos ⟨⋯,⋯⟩,show lo+(lo+n)-1-(lo+n-1)=lo by lia];exact ef
 .refine Qdt.snoc hO hr (λi j x y hi hij hj ex ey=>?_) n1 eu ev (hO.as _ _ huv);obtain rfl:i=j:= ⋯
  rw[ex]at ey;cases ey;exact hr _
end
def PM(lt:Keyed->Keyed->Bool):Nat->List (Nat×Nat×Nat)->List (List Keyed)->Prop
 | _,[],[]=>True
 | s,q::p,R::Rs=>q.1=s/\q.2.1=R.length/\0<R.length/\Qat lt R/\PM lt (s+R.length) p Rs
 | _,_,_=>False
section
variable {lt:Keyed->Keyed->Bool}
def PM.len:∀{s:Nat}{p:List (Nat×Nat×Nat)}{Rs:List (List Keyed)},PM lt s p Rs->p.length=Rs.length
 | _,[],[],_=>rfl
 | s,q::p,R::Rs,h=>by
  simp only[ZI];rw[PM.len h.2.2.2.2]
 | _,[],_::_,h=>h.elim
 | _,_::_,[],h=>h.elim
def PM.two:∀{i s:Nat}{p:List (Nat×Nat×Nat)}{Rs:List (List Keyed)}{q q2:Nat×Nat×Nat},PM lt s p Rs->p[i]? =some q->p[i+1]? =some q2->∃L X Y T,Rs=L++X::Y::T/\L.length=i/\q.1=s+L.flatten.length/\q.2.1=X.length/\q2.1=q.1+X.length/\q2.2.1=Y.length/\0<X.length/\0<Y.length/\Qat lt X/\Qat lt Y∧
  ∀M,M.length=X.length+Y.length->Qat lt M->PM lt s ((p.set i (q.1,X.length+Y.length,q.2.2)).eraseIdx (i+1)) (L++M::T)
 | 0,s,q0::q1::p,R::R1::Rs,q,q2,h,e1,e2=>by
  cases e1;cases e2;obtain⟨h1,h2,h3,h4,g1,g2,g3,g4,g5⟩:=h;refine⟨[],R,R1,Rs,rfl,rfl,by simp[h1],h2,by rw[g1,h1],g2,h3,g3,h4,g4,λM hM hs=>?_⟩;refine⟨h1,hM.symm,⋯,hs,?_⟩;rw[hM,← Nat.add_assoc];exact g5
 | i+1,s,q0::p,R::Rs,q,q2,h,e1,e2=>by
  obtain⟨h1,h2,h3,h4,h5⟩:=h;obtain⟨L,X,Y,T,k1,k2,k3,k4,k5,k6,k7,k8,k9,k10,k11⟩:=PM.two (i:=i) h5 (by simpa using e1) (by simpa using e2);refine⟨R::L,X,Y,T,by rw[k1];rfl,by simp[k2],by rw[k3];simp;lia,k4,k5,k6,k7,k8,k9,k10,λM hM hs=>?_⟩;exact⟨h1,h2,h3,h4,k11 M hM hs⟩
 | _,_,[],_,_,_,_,e1,_=>by simp at e1
 | 0,_,[_],_,_,_,_,_,e2=>by simp at e2
 | _,_,_::_,[],_,_,h,_,_=>h.elim
 | 0,_,_::_::_,[_],_,_,h,_,_=>h.2.2.2.2.elim
def PM.snoc:∀{s:Nat}{p:List (Nat×Nat×Nat)}{Rs:List (List Keyed)}{R:List Keyed}{pw:Nat},PM lt s p Rs->0<R.length->Qat lt R->PM lt s (p++[(s+Rs.flatten.length,R.length,pw)]) (Rs++[R])
 | s,[],[],R,pw,_,h1,h2=>⟨⋯,rfl,h1,h2,trivial⟩
 | s,q::p,R0::Rs,R,pw,h,h1,h2=>by
  obtain⟨g1,g2,g3,g4,g5⟩:=h;have z:=PM.snoc (pw:=pw) g5 h1 h2;refine⟨g1,g2,g3,g4,?_⟩;rw[show s+(R0::Rs).flatten.length=s+R0.length+Rs.flatten.length by simp;lia];exact z
 | _,[],_::_,_,_,h,_,_=>h.elim
 | _,_::_,[],_,_,h,_,_=>h.elim
def PM.pow:∀{s:Nat}{p p':List (Nat×Nat×Nat)}{Rs:List (List Keyed)},PM lt s p Rs->(p'.map λq=>(q.1,q.2.1))=(p.map λq=>(q.1,q.2.1))->PM lt s p' Rs
 | _,[],[],[],h,_=>trivial
 | s,q::p,q'::p',R::Rs,h,e=>by
  simp only[ZA,List.cons.injEq,Prod.mk.injEq]at e;obtain⟨g1,g2,g3,g4,g5⟩:=h;exact⟨e.1.1.trans g1,e.1.2.trans g2,g3,g4,PM.pow g5 e.2⟩
 | _,[],_::_,_,_,e=>by simp at e
 | _,_::_,[],_,_,e=>by simp at e
 | _,[],[],_::_,h,_=>h.elim
 | _,_::_,_::_,[],h,_=>h.elim
end
section
variable {ω:Wd}{lt:Keyed->Keyed->Bool}{P:Keyed->Prop}
structure SrI (lt:Keyed->Keyed->Bool) (a₀:Array Keyed) (Z:List Keyed) (st:SortSt):Prop where
 kind:kindOf st=oneType'
 failed:failedOf st=none
 perm:(arrOf st).Perm a₀
 runs:∃Rs,(arrOf st).toList=Rs.flatten++Z/\PM lt 0 (pendingOf st).toList Rs
def Qbz.list{arr:Array Keyed}{lo n:Nat}(h:Qbz lt arr lo (lo+n)):Qat lt ((arr.toList.drop lo).take n):=by
 unfold Qat
 rw[Zah];intro p q hp hq hpq;rw[ZS,Zab,Zv]at hp hq;rw[List.getElem_take,List.getElem_take,List.getElem_drop,List.getElem_drop];refine h (lo+p) (lo+q) _ _ ⋯ ⋯ ⋯ ?_ ?_
 .rw[← Zad];exact ZH _
 .rw[← Zad];exact ZH _
def RB.take{a₀:Array Keyed}{lo:Nat}{pend:Array (Nat×Nat×Nat)}{st:SortSt}(h:RB a₀ lo pend st):(arrOf st).toList.take lo=a₀.toList.take lo:=by
 apply ZaA;intro k;by_cases hk:k<lo
 .rw[Zba hk,Zba hk,Zad,Zad];exact h.pre k hk
 .rw[Zs (by rw[ZS];lia),Zs (by rw[ZS];lia)]
def Qpc(hL:Qc4 ω P lt)(hO:QdA lt)(hr:∀x,lt x x=false){a₀:Array Keyed}{Z:List Keyed}{i:Nat}{st:SortSt}{Q:Bool->SortSt->Prop}(hP:∀x∈a₀.toList,P x)(hI:SrI lt a₀ Z st)(hi:i+1<(pendingOf st).size)(h:∀st',SrI lt a₀ Z st'->(pendingOf st').size+1=(pendingOf st).size->Q true st'):Wp ω (mergeAt' i) Q st:=by
 obtain⟨hk,hf,hp,Rs,e,pm⟩:=hI;have e1:(pendingOf st).toList[i]? =some (pendingOf st)[i]:=by rw[Zad];exact Zag ⋯
 have e2:(pendingOf st).toList[i+1]? =some (pendingOf st)[i+1]:=by rw[Zad];exact Zag ⋯
 obtain⟨L,X,Y,T,k1,k2,k3,k4,k5,k6,k7,k8,k9,k10,k11⟩:=pm.two e1 e2;generalize hq:(pendingOf st)[i]=q at *;generalize hq2:(pendingOf st)[i+1]=q2 at *;obtain⟨sa,na,pw⟩:=q;obtain⟨sb,nb,pw2⟩:=q2;dsimp only at k3 k4 k5 k6 k11;subst k4 k6 k5;have earr:(arrOf st).toList=L.flatten++(X++Y)++(T.flatten++Z):=by rw[e,k1];simp
 rw[Zad]at e1 e2;refine QoQ hL hO hr hk hf e1 e2 earr ⋯ rfl rfl k7 k8 (λx hx=>hP x ?_) k9 k10 λM st' hM hMg=>?_
 .rw[← earr]at hx;exact(Array.Perm.toList hp).mem_iff.mp hx
 obtain⟨m1,m2,m3,m4⟩:=hMg;have hlen:M.length=X.length+Y.length:=by rw[hM.1.length_eq,Zn]
 refine h st' ⟨m1.trans hk,m2.trans hf,?_,L++M::T,by rw[m3];simp,?_⟩ ?_
 .refine Array.perm_iff_toList_perm.mpr ?_;refine List.Perm.trans ?_ (Array.perm_iff_toList_perm.mp hp);rw[m3,earr];exact List.Perm.append_right _ (Zbj _ hM.1)
 .rw[m4];have z:=k11 M hlen hM.2;rw[Array.toList_eraseIdxIfInBounds,Array.toList_setIfInBounds];exact z
 .rw[← Zv,m4,Array.toList_eraseIdxIfInBounds,Array.toList_setIfInBounds,List.length_eraseIdx,ZaX,Zv,if_pos hi];lia
end
section
variable {ω:Wd}{lt:Keyed->Keyed->Bool}{P:Keyed->Prop}
def PM.mod{p:Array (Nat×Nat×Nat)}{Rs:List (List Keyed)}{i pw:Nat}(h:PM lt 0 p.toList Rs):PM lt 0 (p.modify i λx=>(x.1,x.2.1,pw)).toList Rs:=by
 refine h.pow ?_;rw[Array.toList_modify];apply ZaA;intro k;rw[Zp,Zp,List.getElem?_modify];cases p.toList[k]? with
 | none=>simp
 | some q=>by_cases z:i=k<;>simp[z]
def SrI.push{a₀:Array Keyed}{Z:List Keyed}{st:SortSt}(h:SrI lt a₀ Z st){lo k g:Nat}(hlo:lo+Z.length=a₀.size)(hk1:1<=k)(hk2:k<=Z.length)(hs:Qat lt (Z.take k)):SrI lt a₀ (Z.drop k) (SortSt.mk' (kindOf st) (arrOf st) ((pendingOf st).push (lo,k,0)) g (failedOf st)):=by
 obtain⟨hk,hf,hp,Rs,e,pm⟩:=h;have szr:Rs.flatten.length=lo:=by
  have:=hp.size_eq;rw[← Zv,e,Zn]at this;lia
 have lk:(Z.take k).length=k:=by rw[ZS];lia
 refine⟨hk,hf,hp,Rs++[Z.take k],?_,?_⟩
 .show(arrOf st).toList=_;rw[e];simp
 .have z:=pm.snoc (R:=Z.take k) (pw:=0) ⋯ hs;rw[lk,szr,Zbs]at z;show PM lt 0 ((pendingOf st).push (lo,k,0)).toList _;rw[Array.toList_push];exact z
def PM.small:∀{s:Nat}{p:List (Nat×Nat×Nat)}{Rs:List (List Keyed)},PM lt s p Rs->Rs.length<=Rs.flatten.length
 | _,[],[],_=>by simp
 | s,q::p,R::Rs,h=>by
  have:=PM.small h.2.2.2.2;have:=h.2.2.1;simp only[ZI,Zam,Zn];lia
 | _,[],_::_,h=>h.elim
 | _,_::_,[],h=>h.elim
def RB.si{a₀:Array Keyed}{lo:Nat}{st1 st3:SortSt}{Rs:List (List Keyed)}{Z:List Keyed}(hB:RB (arrOf st1) lo (pendingOf st1) st3)(e:(arrOf st1).toList=Rs.flatten++Z)(szr:Rs.flatten.length=lo)(pm:PM lt 0 (pendingOf st1).toList Rs)(hp:(arrOf st1).Perm a₀):SrI lt a₀ ((arrOf st3).toList.drop lo) st3:=by
 refine⟨hB.kind,hB.failed,hB.perm.trans hp,Rs,?_,by rw[hB.pend];exact pm⟩;have z:=hB.take;rw[e,Zbi szr]at z;rw[← z,ZN]
def RB.si2{a₀:Array Keyed}{lo k:Nat}{st1 st3:SortSt}{Rs:List (List Keyed)}{Z:List Keyed}(hB:RB (arrOf st1) lo (pendingOf st1) st3)(hseg:Qbz lt (arrOf st3) lo (lo+k))(e:(arrOf st1).toList=Rs.flatten++Z)(szr:Rs.flatten.length=lo)(pm:PM lt 0 (pendingOf st1).toList Rs)(hp:(arrOf st1).Perm a₀):∃Z3,SrI lt a₀ Z3 st3/\Qat lt (Z3.take k)/\Z3.length=a₀.size-lo:=
 ⟨_,hB.si e szr pm hp,hseg.list,by rw[Zab,Zv,hB.size,hp.size_eq]⟩
def Quz(hL:Qc4 ω P lt)(hO:QdA lt)(hr:∀x,lt x x=false){a₀:Array Keyed}{st:SortSt}{Q:Unit->SortSt->Prop}(hP:∀x∈a₀.toList,P x)(hI:SrI lt a₀ a₀.toList st)(hp0:pendingOf st= #[])(h2:2<=a₀.size)
  (h:∀st',failedOf st'=none->(arrOf st').Perm a₀->Qat lt (arrOf st').toList->Q () st'):Wp ω sortRuns' Q st:=by
 have sz:(arrOf st).size=a₀.size:=hI.perm.size_eq;unfold sortRuns';refine QE (QcK ?_);rw[sz];refine QaF (λc st'=>c.1=none/\SrI lt a₀ [] st') (λi c st'=>∃lo Z,c=(none,lo)/\SrI lt a₀ Z st'/\lo+Z.length=a₀.size/\i<=lo) ⟨0,_,rfl,hI,⋯,⋯⟩ ?_ ?_ ?_
 .rintro i c st1 Q1 hin ⟨lo,Z,rfl,hI,hlo,hil⟩ hd hy;refine QD (λhl=>Qi (hd _ _ ?_)) λhl=>?_
  .have:Z=[]:=ZV (by have hl:a₀.size<=lo:=hl;lia);subst this;exact⟨rfl,hI⟩
  have hl:¬a₀.size<=lo:=hl;obtain⟨hk,hf,hp,Rs,e,pm⟩:=id hI;have szr:Rs.flatten.length=lo:=by
   have:=hp.size_eq;rw[← Zv,e,Zn]at this;lia
  have hB:RB (arrOf st1) lo (pendingOf st1) st1:=⟨hk,hf,rfl,Array.Perm.refl _,λ_ _=>rfl⟩;have hP1:∀x∈(arrOf st1).toList,P x:=λx hx=>hP x ((Array.Perm.toList hp).mem_iff.mp hx);have sz1:(arrOf st1).size=a₀.size:=hp.size_eq;refine QE (Qs7 hL hO hr hP1 hB (show 1<=a₀.size-lo by lia) ⋯ λn st2 n1 n2 hB2 hseg=>?_);dsimp-zeta only
  extract_lets-underBinder nn jp
  have hj:∀(m:Nat) (st3:SortSt),1<=m->m<=a₀.size-lo->RB (arrOf st1) lo (pendingOf st1) st3->Qbz lt (arrOf st3) lo (lo+m)->Wp ω (jp () m) Q1 st3:=λm st3 k1 k2 hB3 hseg3=>by
   refine QE (QcK ?_);obtain⟨Z3,hI3,hR,lz⟩:=hB3.si2 hseg3 e szr pm hp;have up:∀{st5:SortSt}{g:Nat},SrI lt a₀ Z3 st5->∃lo' Z',(none,lo+m)=((none:Option Unit),lo')/\SrI lt a₀ Z' (SortSt.mk' (kindOf st5) (arrOf st5) ((pendingOf st5).push (lo,m,0)) g (failedOf st5))/\lo'+Z'.length=a₀.size/\i+1<=lo':=λhI=>⟨_,_,rfl,hI.push ⋯ k1 ⋯ hR,by rw[Zab];lia,Zw (Zbt hil) (ZbV k1 lo)⟩;split
   .rename_i s1 m1 p1 hbk;refine QaF (λc st'=>c=(none,())/\SrI lt a₀ Z3 st') (λ_ c st'=>c=(none,())/\SrI lt a₀ Z3 st') ⟨rfl,hI3⟩ ?_ (λc st h=>h) ?_
    .rintro i c st4 Q2 hin ⟨rfl,hI⟩ hd hy;refine QE (QcK ?_);dsimp only;by_cases hz:(pendingOf st4).size>1
     .rw[if_pos hz,Zag (show(pendingOf st4).size-2<(pendingOf st4).size by lia)];exact QD (λ_=>Qi (hd _ _ ⟨rfl,hI⟩)) λ_=>QE (Qpc hL hO hr hP hI (show(pendingOf st4).size-2+1<(pendingOf st4).size by lia) λst5 hI5 _=>Qi (hy _ _ ⟨rfl,hI5⟩))
     .rw[if_neg hz];exact Qi (hd _ _ ⟨rfl,hI⟩)
    rintro c st4 ⟨rfl,x1,x2,x3,Rs4,x4,x5⟩;exact QE (QeO (QE (QeO (Qi (hy _ _ (up (st5:=SortSt.mk' (kindOf st4) (arrOf st4) ((pendingOf st4).modify ((pendingOf st4).size-1) λx=>(x.1,x.2.1,_)) (gallopOf st4) (failedOf st4)) ⟨x1,x2,x3,Rs4,x4,x5.mod⟩))))))
   .exact QE (QeO (Qi (hy _ _ (up hI3))))
  clear_value jp
  refine QD (λhm=>QhR (QE (Qq7 hL hO hr hP1 hB2 hseg n1 (show n<=min (a₀.size-lo) (minRun' a₀.size a₀.size 0)from Nat.le_min.mpr ⟨n2,ZaC hm⟩) ⋯ λst3 hB3 hseg3=>QD (λz=>by cases z) λ_=>hj _ st3 ?_ (Zcy _ _) hB3 hseg3))) λhm=>hj n st2 n1 n2 hB2 hseg;exact Nat.le_min.mpr ⟨⋯,Zw n1 (ZaC hm)⟩
 .rintro c st1 ⟨lo,Z,rfl,hI,hlo,hil⟩;have:Z=[]:=ZV ⋯;subst this;exact⟨rfl,hI⟩
 rintro⟨c1,c2⟩ st2 ⟨hc,hI2⟩;dsimp only at hc;subst hc;dsimp only;have len0:(pendingOf st2).size<=a₀.size:=by
  obtain⟨_,_,x3,Rs,x4,x5⟩:=hI2;have y1:=x5.len;have y2:=x5.small;have y3:=x3.size_eq;rw[← Zv,x4,Zas]at y3;have y4:(pendingOf st2).size=Rs.length:=by rw[← y1,Zv]
  have y5:Rs.flatten.length=a₀.size:=y3;show(pendingOf st2).size<=a₀.size;rw[y4,← y5];exact y2
 refine QaF (λc st'=>c=(none,())/\SrI lt a₀ [] st'/\(pendingOf st').size<=1) (λi c st'=>c=(none,())/\SrI lt a₀ [] st'/\(pendingOf st').size+i<=a₀.size) ⟨rfl,hI2,⋯⟩ ?_ (λc st ⟨h1,h3,h4⟩=>⟨h1,h3,⋯⟩) ?_
 .rintro i c st4 Q2 hin ⟨rfl,hI,hz⟩ hd hy;refine QE (QcK ?_);by_cases h1:(pendingOf st4).size<=1
  .rw[if_pos h1];exact Qi (hd _ _ ⟨rfl,hI,h1⟩)
  rw[if_neg h1];refine QE (Qpc hL hO hr hP hI ?_ λst5 hI5 h5=>Qi (hy _ _ ⟨rfl,hI5,⋯⟩));have any:∀(c:Prop) [Decidable c] (m:Nat),1<m->(if c then m-2-1 else m-2)+1<m:=λc _ m hm=>by split<;>lia
  exact any _ (pendingOf st4).size ⋯
 rintro c st3 ⟨rfl,hI3,h1⟩;obtain⟨_,x2,x3,Rs,x4,x5⟩:=hI3;refine Qi (h _ x2 x3 ?_);have y1:=x5.len;rw[Zv]at y1;rw[x4,Zas]
 match Rs,x5,y1 with
 | [],_,_=>exact List.Pairwise.nil
 | [R],x5,_=>
  cases hpl:(pendingOf st3).toList with
  | nil=>rw[hpl]at x5;exact x5.elim
  | cons q p=>
   rw[hpl]at x5;simpa using x5.2.2.2.1
 | _::_::_,_,y1=>simp only[ZI]at y1;exact absurd h1 (by show ¬(pendingOf st3).size<=1;lia)
end
end HS
namespace HS
open PySem PyProof.Rows
section
open PySem.SeqAt
open PySem.AutoSeq1 (wpAny_loadPart')
open PySem.MeetsSeq PySem.MeetsSeq2 PySem.MeetsSeq3
def QrO(l b:Addr)(items items2:Array Value)(n n2:Nat)(dd dd2:Option Addr)(sl sl2:Array (Option Value))(ns ms:List Int)(hi:IntsAre items.toList ns)(hj:IntsAre items2.toList ms)(k:Nat):
  ∀i:Nat,items.size-i=k->i<=items.size->i<=items2.size->Meets (Builtin.«list.__eq__.loop» ⟨[.ref l,.ref b,rawInt i,rawInt 0],[]⟩)
   (λ_ R s=>s.heap.get? l=some {cls:= .type "list",dict:=dd,data:= .seq items n,slots:=sl}/\s.heap.get? b=some {cls:= .type "list",dict:=dd2,data:= .seq items2 n2,slots:=sl2}/\R (.ok (.ret (.bool (HT.lexLt (ns.drop i) (ms.drop i))))) s):=by
 have z1:items.size=ns.length:=by rw[← hi.length];simp
 have z2:items2.size=ms.length:=by rw[← hj.length];simp
 induction k with
 | zero=>
  intro i hk b1 b2 prog w A R s h;obtain⟨hp,g,d,tk,os⟩:=s;obtain⟨hl,hb,h⟩:=h
  wp_walk using wpAny_loadPart' hl,wpAny_loadPart' hb
  have hi1:items[((i:Nat):Int).toNat]? =none:=by simp;lia
  rw[hi1]
  wp_walk using wpAny_loadPart' hl,wpAny_loadPart' hb
  show R (.ok (.ret (.bool (decide (items.size<items2.size))))) _;have e:HT.lexLt (ns.drop i) (ms.drop i)=decide (items.size<items2.size):=by
   rw[ZbF (by lia:ns.length<=i)];cases hm:ms.drop i with
   | nil=>rw[HT.Qmq];exact(decide_eq_false (by have:=congrArg List.length hm;rw[Zab,List.length_nil]at this;lia)).symm
   | cons y ys=>rw[HT.QkT];exact(decide_eq_true (by have:=congrArg List.length hm;rw[Zab,ZI]at this;lia)).symm
  rw[e]at h;exact h
 | succ k ih=>
  intro i hk b1 b2 prog w A R s h;obtain⟨hp,g,d,tk,os⟩:=s;obtain⟨hl,hb,h⟩:=h
  wp_walk using wpAny_loadPart' hl,wpAny_loadPart' hb
  have hlt:i<items.size:= ⋯
  have hi1:items[((i:Nat):Int).toNat]? =some items[i]:=by simp[hlt]
  have hc:((i:Int)+1)=((i+1:Nat):Int):=by push_cast;rfl
  obtain⟨x,t,ex,nx⟩:=hi.at i items[i] (by simp[hlt]);have dn:ns.drop i=x::ns.drop (i+1):=by rw[Zaf ⋯];rw[ZH ⋯]at nx;rw[Option.some.inj nx]
  by_cases hlt2:i<items2.size
  .have hi2:items2[((i:Nat):Int).toNat]? =some items2[i]:=by simp[hlt2]
   obtain⟨y,u,ey,ny⟩:=hj.at i items2[i] (by simp[hlt2]);have dm:ms.drop i=y::ms.drop (i+1):=by rw[Zaf ⋯];rw[ZH ⋯]at ny;rw[Option.some.inj ny]
   rw[dn,dm,HT.Qcx]at h;rw[hi1,hi2,ex,ey];obtain⟨e,he,hiff⟩:=HT.Qtx A.in1 ⟨hp,g,d,tk,os⟩ x t y u;refine wpAny_bind (he prog w _ _ ?_);cases e with
   | true=>
    rw[if_pos (hiff.mp rfl)]at h
    wp_walk
    rw[hc];exact⟨plainId_quiet plain_eq_loop _,codeAny_builtin entry_eq_loop (by
     rw[Around.under_plainId plain_eq_loop _];exact ih (i+1) ⋯ ⋯ ⋯ prog w A R _ ⟨hl,hb,h⟩)⟩
   | false=>
    rw[if_neg (λq=>absurd (hiff.mpr q) Zac)]at h;have hri:=HT.Qun A.in1 ⟨hp,g,d,tk,os⟩ x t y u prog w
    wp_walk using wpAny_loadPart' hl,wpAny_loadPart' hb
    rw[hi1,hi2,ex,ey]
    wp_walk using hri
    simpa using h
  .have hi2:items2[((i:Nat):Int).toNat]? =none:=by simp;lia
   rw[hi1,hi2]
   wp_walk using wpAny_loadPart' hl,wpAny_loadPart' hb
   show R (.ok (.ret (.bool (decide (items.size<items2.size))))) _;rw[dn,ZbF (by lia:ms.length<=i),HT.Qk8]at h;rw[decide_eq_false ⋯];exact h
def QhN(l b:Addr)(items items2:Array Value)(n n2:Nat)(dd dd2:Option Addr)(sl sl2:Array (Option Value))(ns ms:List Int)(hi:IntsAre items.toList ns)(hj:IntsAre items2.toList ms):
  Meets (Builtin.«list.__lt__» ⟨[.ref l,.ref b],[]⟩)
   (λ_ R s=>s.heap.get? l=some {cls:= .type "list",dict:=dd,data:= .seq items n,slots:=sl}/\s.heap.get? b=some {cls:= .type "list",dict:=dd2,data:= .seq items2 n2,slots:=sl2}/\R (.ok (.ret (.bool (HT.lexLt ns ms)))) s):=by
 intro prog w A R s h;obtain⟨hp,g,d,tk,os⟩:=s;obtain⟨hl,hb,h⟩:=h;have f3:=AutoSeq1.sub_list_list
 wp_walk using wpAny_loadPart' hl,wpAny_loadPart' hb
 exact⟨plainId_quiet plain_eq_loop _,codeAny_builtin entry_eq_loop (by
  rw[Around.under_plainId plain_eq_loop _];exact QrO l b items items2 n n2 dd dd2 sl sl2 ns ms hi hj _ 0 rfl (ZF _) (ZF _) prog w A R _ ⟨hl,hb,h⟩)⟩
end
section
variable {prog:Program}{w:World}{A:Around}{E:Value->Shared->Prop}{s:Shared}
def Qqg{l b:Addr}{items items2:Array Value}{ns ms:List Int}{Q:Value->Shared->Prop}(hl:s.heap.IsList l items)(hb:s.heap.IsList b items2)(hi:IntsAre items.toList ns)(hj:IntsAre items2.toList ms)
  (hu:A.units<cLine) (h:Q (.bool (HT.lexLt ns ms)) s):wpAny (model prog w) A (compareOp .Lt (.ref l) (.ref b)) Q E s:=by
 obtain⟨⟨cls,dd,data,sl⟩,ho,hc,n,hd⟩:=id hl;obtain⟨⟨cls2,dd2,data2,sl2⟩,ho2,hc2,n2,hd2⟩:=id hb;simp only at hc hd hc2 hd2;subst hc hd hc2 hd2
 exact richCompare_meets_room (op:= .Lt) ⟨_,ho,rfl⟩ ⟨_,ho2,rfl⟩ PySem.F.slot_list_lt PySem.F.entry_list_lt (PySem.F.args_list_lt_2 _ _) (QhN l b items items2 n n2 dd dd2 sl sl2 ns ms hi hj)
  ⟨ho,ho2,show Value.bool (HT.lexLt ns ms)≠Value.notImplemented/\Q (.bool (HT.lexLt ns ms)) s from⟨(λx=>nomatch x),h⟩⟩ hu
def QsI{l b:Addr}{items items2:Array Value}{ns ms:List Int}{Q:Bool->Shared->Prop}(hl:s.heap.IsList l items)(hb:s.heap.IsList b items2)(hi:IntsAre items.toList ns)(hj:IntsAre items2.toList ms)
  (hu:A.units<cLine) (h:Q (HT.lexLt ns ms) s):wpAny (model prog w) A (keyLt' oneType' (.ref l) (.ref b)) Q E s:=by
 obtain⟨⟨cls,dd,data,sl⟩,ho,hc,n,hd⟩:=id hl;obtain⟨⟨cls2,dd2,data2,sl2⟩,ho2,hc2,n2,hd2⟩:=id hb;simp only at hc hd hc2 hd2;subst hc hd hc2 hd2;rw[keyLt'_oneType,oneLt'_eq];simp only[if_true];refine wpAny_bind (wpAny_cRoomFor hu ?_);refine wpAny_bind (wpAny_callSpecialIfBound?_slot (T:= "list") ⟨_,ho,rfl⟩ PySem.F.slot_list_lt (call_meets PySem.F.slot_list_lt ⟨_,ho,rfl⟩ PySem.F.entry_list_lt (PySem.F.args_list_lt_2 _ _) (QhN l b items items2 n n2 dd dd2 sl sl2 ns ms hi hj) ⟨ho,ho2,?_⟩));exact wpAny_truthy_bool h
end
end HS
namespace HS
open PySem PyProof.Rows PySem.W
def Qpe:∀x:List Int,HT.lexLt x x=false
 | []=>rfl
 | a::x=>by rw[HT.Qcx,if_pos rfl];exact Qpe x
def QmS:∀x y:List Int,HT.lexLt x y=true->HT.lexLt y x=false
 | [],[],_=>rfl
 | [],_::_,_=>rfl
 | _::_,[],h=>by cases h
 | a::x,b::y,h=>by
  rw[HT.Qcx]at h ⊢;by_cases e:a=b
  .rw[if_pos e]at h;rw[if_pos e.symm];exact QmS x y h
  .rw[if_neg e]at h;rw[if_neg (λq=>e q.symm)];have:=of_decide_eq_true h;exact decide_eq_false ⋯
def Qoz:∀x y z:List Int,HT.lexLt y x=false->HT.lexLt z y=false->HT.lexLt z x=false
 | [],_,[],_,_=>rfl
 | [],_,_::_,_,_=>rfl
 | _::_,[],_,h,_=>by cases h
 | _::_,_::_,[],_,h=>by cases h
 | a::x,b::y,c::z,h,k=>by
  rw[HT.Qcx]at h k ⊢;by_cases e:b=a
  .rw[if_pos e]at h;by_cases e2:c=b
   .rw[if_pos e2]at k;rw[if_pos (e2.trans e)];exact Qoz x y z h k
   .rw[if_neg e2]at k;rw[if_neg (λq=>e2 (q.trans e.symm))];have:=of_decide_eq_false k;exact decide_eq_false ⋯
  .rw[if_neg e]at h;have:=of_decide_eq_false h;by_cases e2:c=b
   .rw[if_neg (λq=>e (e2.symm.trans q))];exact decide_eq_false ⋯
   .rw[if_neg e2]at k;have:=of_decide_eq_false k;rw[if_neg ⋯];exact decide_eq_false ⋯
def QoG:∀x y:List Int,HT.lexLt x y=false->HT.lexLt y x=false->x=y
 | [],[],_,_=>rfl
 | [],_::_,h,_=>by cases h
 | _::_,[],_,h=>by cases h
 | a::x,b::y,h,k=>by
  rw[HT.Qcx]at h k;by_cases e:a=b
  .rw[if_pos e]at h;rw[if_pos e.symm]at k;rw[e,QoG x y h k]
  .rw[if_neg e]at h;rw[if_neg (λq=>e q.symm)]at k;have:=of_decide_eq_false h;have:=of_decide_eq_false k;lia
def Qgu(vs:List Value):(pairsOf vs).toList=vs.map λv=>(v,v):=by
 have:∀l:List Value,l.zip l=l.map λv=>(v,v):=λl=>by
  induction l with
  | nil=>rfl
  | cons x l ih=>rw[List.zip_cons_cons,ih];rfl
 rw[← this];simp[pairsOf]
section
variable {prog:Program}{w:World}{A:Around}{E:Value->Shared->Prop}{s:Shared}
def Qug{a:Addr}{vs:List Value}{n:Nat}{P:PySem.Fin->Shared->Prop}(ho:s.heap.get? a=some (seqObj "list" vs.toArray n))(hz:vs.length<=sizeLine)(f:Value->List Int)
  (hv:∀v∈vs,∃l items,v= .ref l/\l≠a/\s.heap.IsList l items/\IntsAre items.toList (f v)) (hu:A.units<cLine)
  (h:∀out:Array Value,out.toList.Perm vs->out.toList.Pairwise (λx y=>HT.lexLt (f y) (f x)=false)->P (.done (.ret .none)) {s with heap:=sortedHeap s.heap a vs out}):
  wpAny (model prog w) A (Builtin.«list.sort» ⟨[.ref a],[]⟩) P E s:=by
 rw[list_sort_plain];have ha:a<s.heap.objs.size:=Zt ho;refine wpAny_bind (listItems_at ho rfl ?_);refine wpAny_bind (listUpdate_at ho rfl ?_ (by rw[Zy];exact hz) (ZF _));obtain⟨e1,ho1⟩:∃e1,(s.heap.update a (Obj.mapSeq λ_=>(#[]:Array Value))).get? a=some (seqObj "list" #[] e1):=⟨_,get?_update_seq ho λ_=> #[]⟩;refine wpAny_bind (seqEpoch_at ho1 rfl ?_);refine wpAny_bind (wpAny_newTuple ?_ (by show vs.length<=_;exact hz));refine wpAny_bind (wpAny_newList ?_ (ZF _));refine wpAny_holding ?_;have keep:∀b o,b≠a->s.heap.get? b=some o->(((s.heap.update a (Obj.mapSeq λ_=>(#[]:Array Value))).push (seqObj "tuple" vs.toArray 0)).push (seqObj "list" #[] 0)).get? b=some o:=λb o hb q=>by
  have hlt:b<s.heap.objs.size:=Zt q;rw[Heap.get?_push_ne _ _ _ (by rw[size_push',Heap.size_update];exact ZJ (Zay hlt)),Heap.get?_push_ne _ _ _ (by rw[Heap.size_update];exact ZJ hlt),Heap.get?_update_ne _ _ _ _ hb];exact q
 have ho6:(((s.heap.update a (Obj.mapSeq λ_=>(#[]:Array Value))).push (seqObj "tuple" vs.toArray 0)).push (seqObj "list" #[] 0)).get? a=some (seqObj "list" #[] e1):=by
  rw[Heap.get?_push_ne _ _ _ (by rw[size_push',Heap.size_update];exact ZJ (Zay ha)),Heap.get?_push_ne _ _ _ (by rw[Heap.size_update];exact ZJ ha)];exact ho1
 show wpAny (model prog w) A _ P E {s with heap:=((s.heap.update a (Obj.mapSeq λ_=>(#[]:Array Value))).push (seqObj "tuple" vs.toArray 0)).push (seqObj "list" #[] 0)};dsimp only;have hsz:vs.toArray.size=vs.length:= ⋯
 by_cases h2:vs.toArray.size<2
 .rw[if_pos h2,if_pos h2];refine wpAny_bind (wpAny_pure ?_);rw[StateT.run_pure];refine wpAny_bind (wpAny_pure ?_);dsimp only;refine wpAny_bind (seqEpoch_at ho6 rfl ?_);refine wpAny_bind (listUpdate_at ho6 rfl ?_ (ZF _) (by rw[Array.size_map];show(pairsOf vs).size<=_;rw[pairsOf_size];lia));simp only[bne_self_eq_false,Bool.false_eq_true,if_false];have eo:((arrOf (SortSt.mk' general' (vs.toArray.zip vs.toArray) #[] 7 none)).map (λx:Keyed=>x.2)).toList=vs:=by
   show((vs.toArray.zip vs.toArray).map (·.2)).toList=vs;simp[List.map_snd_zip]
  suffices hh:(vs.Pairwise λx y=>HT.lexLt (f y) (f x)=false) by
   exact wpAny_pure (h ((arrOf (SortSt.mk' general' (vs.toArray.zip vs.toArray) #[] 7 none)).map (λx:Keyed=>x.2)) (by rw[eo]) (by rw[eo];exact hh))
  match vs,hsz,h2 with
  | [],_,_=>exact .nil
  | [_],_,_=>exact List.pairwise_singleton _ _
  | _::_::_,hs,h2=>rw[hs]at h2;simp only[ZI]at h2;lia
 .rw[if_neg h2,if_neg h2];have h2':2<=vs.length:= ⋯
  refine wpAny_bind (kas_kind (T:= .type "list") h2' (λv hv'=>?_) rfl rfl ?_)
  .obtain⟨l,items,rfl,hl,⟨o,hl1,hl2,hl3⟩,_⟩:=hv v hv';exact λ_ _ _ s' k q=>wpAny_typeOf (T:= "list") ⟨o,k _ _ (keep _ _ hl hl1),hl2⟩ q
  have hL:Qc4 ⟨prog,w,A,E,{s with heap:=((s.heap.update a (Obj.mapSeq λ_=>(#[]:Array Value))).push (seqObj "tuple" vs.toArray 0)).push (seqObj "list" #[] 0)}⟩ (λx=>x.1∈vs) (λx y=>HT.lexLt (f x.1) (f y.1)):=by
   rintro⟨x,x'⟩ ⟨y,y'⟩ E Q hx hy hq;obtain⟨l,items,rfl,hl,⟨o,hl1,hl2,hl3⟩,hl4⟩:=hv x hx;obtain⟨l',items',rfl,hl',⟨o',hl1',hl2',hl3'⟩,hl4'⟩:=hv y hy;exact QsI ⟨o,keep _ _ hl hl1,hl2,hl3⟩ ⟨o',keep _ _ hl' hl1',hl2',hl3'⟩ hl4 hl4' hu hq
  refine wpAny_bind (wpAny_mono (Quz (st:=SortSt.mk' oneType' (vs.toArray.zip vs.toArray) #[] 7 none) (a₀:=pairsOf vs) (Q:=λ_ st'=>failedOf st'=none/\(arrOf st').Perm (pairsOf vs)/\Qat (λx y=>HT.lexLt (f x.1) (f y.1)) (arrOf st').toList) hL ⟨λx y z h1 h2=>Qoz _ _ _ h1 h2,λx y h=>QmS _ _ h⟩ (λx=>Qpe _) (λx hx=>?_) ⟨rfl,rfl,Array.Perm.refl _,[],rfl,trivial⟩ rfl (by rw[pairsOf_size];exact h2') λst' a2 a3 a4=>⟨a2,a3,a4⟩) ?_ λ_ _ e=>e)
  .rw[Qgu]at hx;obtain⟨v,h1,rfl⟩:=ZK.mp hx;exact h1
  rintro⟨⟨⟩,st'⟩ s' ⟨rfl,hf,hp,hs⟩;dsimp only;refine wpAny_bind (seqEpoch_at ho6 rfl ?_);refine wpAny_bind (listUpdate_at ho6 rfl ?_ (ZF _) (by refine Zw (ZbY ((Array.size_map ..).trans (hp.size_eq.trans (pairsOf_size _)))) ?_;lia));rw[hf];simp only[bne_self_eq_false,Bool.false_eq_true,if_false];refine wpAny_pure (h _ ?_ ?_)
  .rw[Array.toList_map];have:=(Array.perm_iff_toList_perm.mp hp).map (λx=>x.2);rw[Qgu,ZZ]at this;have e:((λx:Keyed=>x.2) ∘ λv:Value=>(v,v))=id:=rfl;rw[e,List.map_id]at this;exact this
  .rw[Array.toList_map,Zbm];have dup:∀x∈(arrOf st').toList,x.1=x.2:=λx hx=>by
    have:=(Array.perm_iff_toList_perm.mp hp).mem_iff.mp hx;rw[Qgu]at this;obtain⟨v,h1,h2⟩:=ZK.mp this;rw[← h2]
   exact(List.Pairwise.and_mem.mp hs).imp λ{x y} q=>by rw[← dup x q.1,← dup y q.2.1];exact q.2.2
end
end HS
namespace HS
open PySem PyProof.Rows L2
section
variable {prog:Program}{w:World}{A:Around}{E:Value->Shared->Prop}{s:Shared}
def Qqd{l:Addr}{vs:List Value}{Q:Value->Shared->Prop}(hl:s.heap.IsList l vs.toArray)(hz:vs.length<=sizeLine)(f:Value->List Int)
  (hv:∀v∈vs,∃l items,v= .ref l/\s.heap.IsList l items/\IntsAre items.toList (f v)) (hu:A.units+2<cLine)
  (h:∀out:Array Value,out.toList.Perm vs->out.toList.Pairwise (λx y=>HT.lexLt (f y) (f x)=false)->Q (.ref (s.heap.objs.size+1)) {s with heap:=sortedAll s.heap vs out}):
  wpAny (model prog w) A (call (.builtin "sorted") [.ref l]) Q E s:=by
 refine Calls.call_function_entry kind_sorted plain_sorted entry_sorted (args_sorted1 _) ?_;unfold Builtin.«sorted»;refine wpAny_bind (m:=checkCount "sorted" 1 1 _) (wpAny_pure ?_);refine wpAny_bind (collect_list hl ?_ hz);refine wpAny_bind (wpAny_newList ?_ hz);have hsz:((s.heap.push (seqObj "list" #[] 0)).update s.heap.objs.size (Obj.mapSeq (· ++vs.toArray))).objs.size=s.heap.objs.size+1:=by
  rw[Heap.size_update,size_push']
 have hoL:(((s.heap.push (seqObj "list" #[] 0)).update s.heap.objs.size (Obj.mapSeq (· ++vs.toArray))).push (seqObj "list" vs.toArray 0)).get? (s.heap.objs.size+1)=some (seqObj "list" vs.toArray 0):=by
  rw[← hsz];exact ZD _ rfl
 have keep:∀b o,s.heap.get? b=some o->(((s.heap.push (seqObj "list" #[] 0)).update s.heap.objs.size (Obj.mapSeq (· ++vs.toArray))).push (seqObj "list" vs.toArray 0)).get? b=some o:=λb o q=>by
  have hlt:b<s.heap.objs.size:=Zt q;rw[Heap.get?_push_ne _ _ _ (by rw[hsz];exact ZJ (Zay hlt)),Heap.get?_update_ne _ _ _ _ (ZJ hlt),Heap.get?_push_ne _ _ _ (ZJ hlt)];exact q
 show wpAny _ _ _ _ _ {s with heap:=((s.heap.push (seqObj "list" #[] 0)).update s.heap.objs.size (Obj.mapSeq (· ++vs.toArray))).push (seqObj "list" vs.toArray 0)};rw[hsz];refine wpAny_bind (wpAny_holding (wpAny_call_entry slot_list_sort ⟨_,hoL,rfl⟩ entry_list_sort (Qug hoL hz f (λv hv'=>?_) hu λout a1 a2=>⟨_,rfl,?_⟩) (args_list_sort _)))
 .obtain⟨l',items,rfl,⟨o,hl1,hl2⟩,hl4⟩:=hv v hv';exact⟨l',items,rfl,ZJ (Zay (Zt hl1)),⟨o,keep _ _ hl1,hl2⟩,hl4⟩
 .exact wpAny_pure ⟨_,rfl,h out a1 a2⟩
end
section
variable {X:Cx}
def SrV(K:Fgg)(H:Hp)(x y:V):Prop:=∀a b ns ms,x= .ref a->y= .ref b->SqL K H a (ns.map V.int)->SqL K H b (ms.map V.int)->HT.lexLt ms ns=false
def QiY:∀{ns ms:List Int},ns.map V.int=ms.map V.int->ns=ms
 | [],[],_=>rfl
 | [],_::_,h=>by cases h
 | _::_,[],h=>by cases h
 | a::ns,b::ms,h=>by
  rw[ZA,ZA]at h;injection h with h1 h2;injection h1 with h1;rw[h1,QiY h2]
def Qmp:∀{us:List V}{its:List Value},(∀u∈us,∃a,u= .ref a)->Qz us its->∃as:List Addr,us=as.map V.ref/\its=as.map Value.ref
 | [],_,_,h=>by cases h;exact⟨[],rfl,rfl⟩
 | u::us,_,ha,h=>by
  cases h with
  | cons h1 h2=>
   obtain⟨a,rfl⟩:=ha u (Ze);obtain⟨as,rfl,rfl⟩:=Qmp (λv hv=>ha v (Zb _ hv)) h2;cases h1;exact⟨a::as,rfl,rfl⟩
def Qkq:∀as:List Addr,Qz (as.map V.ref) (as.map Value.ref)
 | []=> .nil
 | a::as=> .cons rfl (Qkq as)
def Qmt:∀{l:List Value}{as:LAd},l.Perm (as.map Value.ref)->∃bs:List Addr,l=bs.map Value.ref/\bs.Perm as:=λ{l as} h=>by
 have:∀v∈l,∃a,v=Value.ref a:=λv hv=>by
  obtain⟨a,_,e⟩:=ZK.mp (h.mem_iff.mp hv);exact⟨a,e.symm⟩
 have mk:∀l:List Value,(∀v∈l,∃a,v=Value.ref a)->∃bs:List Addr,l=bs.map Value.ref:=λl=>by
  induction l with
  | nil=>exact λ_=>⟨[],rfl⟩
  | cons x l ih=>
   intro h;obtain⟨a,rfl⟩:=h x (Ze);obtain⟨bs,rfl⟩:=ih λv hv=>h v (Zb _ hv);exact⟨a::bs,rfl⟩
 obtain⟨bs,rfl⟩:=mk l this;refine⟨bs,rfl,?_⟩;have:=h.map (λv=>match v with | Value.ref a=>a | _=>0);rw[ZZ,ZZ]at this;have e:((λv=>match v with | Value.ref a=>a | _=>(0:Addr)) ∘ Value.ref)=id:=rfl;rw[e,List.map_id,List.map_id]at this;exact this
def Qn8(hu:X.A.units+64<cLine):Qb6 X (.builtin "sorted") (λxs H Q=>∃(p:Addr) (us:List V),xs=[.ref p]/\SqL X.K H p us/\(∀u∈us,∃(a:Addr) (ns:List Int),u= .ref a/\SqL X.K H a (ns.map V.int))/\∀l us',H l=none->us'.Perm us->us'.Pairwise (SrV X.K H)->Q (.ref l) (upd H l (.lst us'))):=by
 intro pins s σ H xs us Q I r h;obtain⟨p,uv,rfl,hq,hr,q⟩:=h;obtain⟨u,rfl,rx⟩:=vals1 r;cases rx;obtain⟨its,r',pl,hz⟩:=I.list hq;obtain⟨as,rfl,rfl⟩:=Qmp (λu hu=>(hr u hu).imp λa h=>h.elim λns h=>h.1) r';have ex:∀v:Value,∃ns:List Int,∀a,v= .ref a->a∈as->SqL X.K H a (ns.map V.int):=λv=>by
  by_cases hh:∃a,v=Value.ref a/\a∈as
  .obtain⟨a,rfl,ha⟩:=hh;obtain⟨a',ns,e,hs⟩:=hr (.ref a) (ZK.mpr ⟨a,ha,rfl⟩);cases e;exact⟨ns,λb e _=>by cases e;exact hs⟩
  .exact⟨[],λa e ha=>absurd ⟨a,e,ha⟩ hh⟩
 refine Qqd (f:=λv=>(ex v).choose) pl.isList (by rw[Zj]at hz ⊢;exact hz) (λv hv=>?_) ⋯ λout a1 a2=>?_
 .obtain⟨a,ha,rfl⟩:=ZK.mp hv;obtain⟨its,r2,pl2,_⟩:=I.list ((ex (.ref a)).choose_spec a rfl ha);exact⟨a,its.toArray,rfl,pl2.isList,by simpa using QbU r2⟩
 .obtain⟨bs,eb,pb⟩:=Qmt a1;obtain⟨ep,hat⟩:=sortedAll_at s.heap (as.map Value.ref) out;refine⟨.ref (s.heap.objs.size+1),_,I.laid (t':=s.toks) (o:= .lst (bs.map V.ref)) (λb o hb=>?_) (ZaK _) ⟨?_,out.toList,ep,by rw[eb];exact Qkq bs,by simpa using hat⟩,rfl,q _ _ (I.hok.fresh (ZaK _)) (pb.map _) ?_⟩
  .exact sortedAll_old hb
  .rw[Zj]at hz ⊢;rw[pb.length_eq];exact hz
  .rw[eb,Zbm]at a2;rw[Zbm];refine(List.Pairwise.and_mem.mp a2).imp λ{x y} hxy=>?_;rintro a b ns ms ea eb' sa sb;cases ea;cases eb';have e1:=QiY (I.Qb2 ((ex (.ref x)).choose_spec x rfl (pb.mem_iff.mp hxy.1)) sa);have e2:=QiY (I.Qb2 ((ex (.ref y)).choose_spec y rfl (pb.mem_iff.mp hxy.2.1)) sb);have:=hxy.2.2;rw[e1,e2]at this;exact this
end
noncomputable def Qij:List D->Option (List (List Int))
 | []=>some []
 | d::ds=>(match d with | .lst xs=>Qb5 xs | _=>none).bind λr=>(Qij ds).bind λq=>some (r::q)
noncomputable def Qcv(rs:List (List Int)):List D:=rs.map λr=> .lst (r.map .int)
def Qd1:∀{ds:List D}{rs:List (List Int)},Qij ds=some rs->ds=Qcv rs
 | [],_,h=>by cases h;rfl
 | d::ds,rs,h=>by
  unfold Qij at h;refine Qg h λr h1 h=>?_;refine Qg h λq h2 h=>?_;cases h;split at h1
  .rw[QbT h1,Qd1 h2];rfl
  .cases h1
noncomputable def QlC(x:List Int):List (List Int)->List (List Int)
 | []=>[x]
 | y::l=>if HT.lexLt y x then y::QlC x l else x::y::l
noncomputable def Qe0:List (List Int)->List (List Int)
 | []=>[]
 | x::l=>QlC x (Qe0 l)
def SrR(l:List (List Int)):Prop:=l.Pairwise λx y=>HT.lexLt y x=false
def QhQ(x:List Int):∀l,(QlC x l).Perm (x::l)
 | []=> .refl _
 | y::l=>by
  unfold QlC;split
  .exact((QhQ x l).cons y).trans (List.Perm.swap ..)
  .exact .refl _
def QhT:∀l,(Qe0 l).Perm l
 | []=> .refl _
 | x::l=>(QhQ x (Qe0 l)).trans ((QhT l).cons x)
def Qof(x:List Int):∀l,SrR l->SrR (QlC x l)
 | [],_=>List.pairwise_singleton _ _
 | y::l,h=>by
  have h1:=ZaD.mp h;unfold QlC;split
  .rename_i hxy;refine ZaD.mpr ⟨λz hz=>?_,Qof x l h1.2⟩;rcases Zm.mp ((QhQ x l).mem_iff.mp hz)with rfl | hz
   .exact QmS _ _ hxy
   .exact h1.1 z hz
  .rename_i hxy;have hxy:HT.lexLt y x=false:=by simpa using hxy
   refine ZaD.mpr ⟨λz hz=>?_,h⟩;rcases Zm.mp hz with rfl | hz
   .exact hxy
   .exact Qoz _ _ _ hxy (h1.1 z hz)
def Qi7:∀l,SrR (Qe0 l)
 | []=> .nil
 | x::l=>Qof x _ (Qi7 l)
def QpT:∀{l l':List (List Int)},SrR l->SrR l'->l.Perm l'->l=l'
 | [],l',_,_,p=>(List.Perm.nil_eq p)
 | x::l,[],_,_,p=>by have:=p.length_eq;simp at this
 | x::l,y::l',h,h',p=>by
  have h1:=ZaD.mp h;have h2:=ZaD.mp h';have e:x=y:=by
   have a:=p.mem_iff.mp (Ze);have b:=p.mem_iff.mpr (Ze);rcases Zm.mp a with a | a
   .exact a
   .rcases Zm.mp b with b | b
    .exact b.symm
    .exact QoG _ _ (h2.1 x a) (h1.1 y b)
  subst e;rw[QpT h1.2 h2.2 (List.Perm.cons_inv p)]
inductive QeS {α β:Type}(R:α->β->Prop):List α->List β->Prop
 | nil:QeS R [] []
 | cons {x:α}{y:β}{l:List α}{l':List β}:R x y->QeS R l l'->QeS R (x::l) (y::l')
section
variable {K:Fgg}{H:Hp}
def Rps.perm{vs ws:List V}(p:vs.Perm ws):∀{ds:List D}{L:LAd},Rps K H ds vs L->∃ds' L',Rps K H ds' ws L'/\ds'.Perm ds/\L'.Perm L:=by
 induction p with
 | nil=>exact λ{ds L} h=>⟨ds,L,h,.refl _,.refl _⟩
 | @cons x l l' p ih=>
  intro ds L h;cases ds with
  | nil=>simp only[Rps]at h;cases h.1
  | cons d ds=>
   simp only[Rps]at h;obtain⟨v,us,F1,F2,e,rfl,r,rs⟩:=h;cases e;obtain⟨ds',L',r',p1,p2⟩:=ih rs;refine⟨d::ds',F1++L',?_,p1.cons d,p2.append_left F1⟩;simp only[Rps];exact⟨_,_,F1,L',rfl,rfl,r,r'⟩
 | swap x y l=>
  intro ds L h
  match ds,h with
  | [],h=>simp only[Rps]at h;cases h.1
  | [d],h=>
   simp only[Rps]at h;obtain⟨v,us,F1,F2,e,rfl,r,rs,_⟩:=h;cases e;cases rs
  | d::d2::ds,h=>
   simp only[Rps]at h;obtain⟨v,us,F1,F2,e,rfl,r,v2,us2,F3,F4,e2,rfl,r2,rs⟩:=h;cases e;cases e2;refine⟨d2::d::ds,F3++(F1++F4),?_,List.Perm.swap ..,?_⟩
   .simp only[Rps];exact⟨_,_,F3,F1++F4,rfl,rfl,r2,_,_,F1,F4,rfl,rfl,r,rs⟩
   .rw[← ZG,← ZG];exact(List.perm_append_comm).append_right F4
 | trans p q ih1 ih2=>
  intro ds L h;obtain⟨ds1,L1,r1,a1,a2⟩:=ih1 h;obtain⟨ds2,L2,r2,b1,b2⟩:=ih2 r1;exact⟨ds2,L2,r2,b1.trans a1,b2.trans a2⟩
def Rps.rowAt:∀{rs:List (List Int)}{us:List V}{L:LAd},Rps K H (Qcv rs) us L->QeS (λr u=>∃a:Addr,u= .ref a/\SqL K H a (r.map V.int)) rs us
 | [],_,_,h=>by
  simp only[Qcv,ZbC,Rps]at h;rw[h.1];exact .nil
 | r::rs,us,L,h=>by
  simp only[Qcv,ZA,Rps]at h;obtain⟨v,ws,F1,F2,rfl,rfl,r1,r2⟩:=h;obtain⟨l,ws',L',rfl,hl',rl,zl,el⟩:=r1.lst_inv;rw[rl.ints]at hl';exact .cons ⟨l,rfl,QT hl'⟩ (Rps.rowAt r2)
def QiC{α β:Type}{R:α->β->Prop}:∀{l:List α}{l':List β},QeS R l l'->∀u∈l',∃r∈l,R r u
 | _,_,.nil,u,h=>by cases h
 | x::_,_,.cons h1 h2,u,h=>by
  rcases Zm.mp h with rfl | h
  .exact⟨x,Ze,h1⟩
  .obtain⟨r,hr,e⟩:=QiC h2 u h;exact⟨r,Zb _ hr,e⟩
def QhS{α β:Type}{R:α->β->Prop}:∀{l:List α}{l':List β},QeS R l l'->∀r∈l,∃u∈l',R r u
 | _,_,.nil,u,h=>by cases h
 | _,y::_,.cons h1 h2,u,h=>by
  rcases Zm.mp h with rfl | h
  .exact⟨y,Ze,h1⟩
  .obtain⟨r,hr,e⟩:=QhS h2 u h;exact⟨r,Zb _ hr,e⟩
def Qpi:∀{rs:List (List Int)}{us:List V},QeS (λr u=>∃a:Addr,u= .ref a/\SqL K H a (r.map V.int)) rs us->us.Pairwise (SrV K H)->SrR rs
 | _,_,.nil,_=> .nil
 | r::rs,u::us,.cons h1 h2,p=>by
  have p1:=ZaD.mp p;refine ZaD.mpr ⟨λz hz=>?_,Qpi h2 p1.2⟩;obtain⟨v,hv,b,rfl,sb⟩:=QhS h2 z hz;obtain⟨a,rfl,sa⟩:=h1;exact p1.1 _ hv a b r z rfl rfl sa sb
def QqX{ds:List D}{rs:List (List Int)}(p:ds.Perm (Qcv rs)):∃qs,ds=Qcv qs/\qs.Perm rs:=by
 generalize e:Qcv rs=es at p
 induction p generalizing rs with
 | nil=>cases rs with
  | nil=>exact⟨[],rfl,.refl _⟩
  | cons=>cases e
 | @cons x l l' p ih=>
  cases rs with
  | nil=>cases e
  | cons r rs=>
   simp only[Qcv,ZA]at e;injection e with e1 e2;obtain⟨qs,rfl,h⟩:=ih e2;exact⟨r::qs,by rw[← e1];rfl,h.cons r⟩
 | swap x y l=>
  match rs,e with
  | [],e=>cases e
  | [_],e=>simp only[Qcv,ZA,ZbC]at e;injection e with e1 e2;cases e2
  | r::r2::rs,e=>
   simp only[Qcv,ZA]at e;injection e with e1 e2;injection e2 with e2 e3;exact⟨r2::r::rs,by rw[← e1,← e2,← e3];rfl,List.Perm.swap ..⟩
 | trans p q ih1 ih2=>
  obtain⟨q2,rfl,h2⟩:=ih2 e;obtain⟨q1,rfl,h1⟩:=ih1 rfl;exact⟨q1,rfl,h1.trans h2⟩
end
section
variable {X:Cx}
noncomputable def Qop(fs:DA):DE:=λU=>(fs U).bind λr=>match r.ds with
 | [.lst xs]=>(Qij xs).bind λrs=>some ⟨.lst (Qcv (Qe0 rs)),r.fr,r.M⟩
 | _=>none
noncomputable def Qgo(fs:DA):DE:=λU=>Qop fs U
def QuL{ds es:List D}(p:ds.Perm es):nls ds=nls es:=by
 induction p with
 | nil=>rfl
 | cons x p ih=>simp only[nls,ih]
 | swap x y l=>simp only[nls];lia
 | trans p q i j=>exact i.trans j
def QxH{p:Pos}(hu:X.A.units+64<cLine)(hg:Gl X "sorted")(hm:X.mg "sorted" =none)(ha:SA X (e::es) fs)(he:starEach (e::es) X.env=(false,eval e X.env)::starEach es X.env)(hpl:(backTo pos (starEach es X.env)).any (·.1)=false):
  SE X (.Call (.Name "sorted" p) (e::es) [] pos) (Qgo fs):=λH0 A0 pins s σ H Q I q=>by
 obtain⟨U,hs,F,r',rel,e,q⟩:=q;unfold Qgo at e
 focus
  refine(QgE (Qn8 hu) hg hm boot_sorted (ha H0 A0) ∅ ∅ he hpl) pins s σ H Q I ?_;refine Qg e λra e1 e=>?_;refine⟨U,hs,F,ra,rel,e1,λvs H1 G p1=>?_⟩;split at e
  .rename_i xs hds;refine Qg e λrs h1 e=>?_;cases e;have rp:=p1.rp;rw[hds]at rp;obtain⟨v,rfl,rq⟩:=rp.one;obtain⟨l,ws,L,rfl,hl',rl,zl,el⟩:=rq.lst_inv;have zl':=zl;rw[Qd1 h1]at rl;have fa:=Rps.rowAt rl;refine⟨l,ws,rfl,QT hl',λu hu=>?_,λc us' hc pu so=>?_⟩
   .obtain⟨r,_,a,h⟩:=QiC fa u hu;exact⟨a,r,h⟩
   .obtain⟨ds',L',r',d1,d2⟩:=Rps.perm pu.symm rl;obtain⟨qs,rfl,pq⟩:=QqX d1;have so':=Qpi (Rps.rowAt r') so;obtain rfl:qs=Qe0 rs:=QpT so' (Qi7 rs) (pq.trans (QhT rs).symm);have s2:QN H1 (upd H1 c (.lst us')):=Qap hc;have hz:(Qcv (Qe0 rs)).length<=sizeLine:=by rw[d1.length_eq,← Qd1 h1];exact zl'
    have hHc:H c=none:=p1.same.free hc;have cL:c∉L:=λh=>by obtain⟨u,hu⟩:=rl.mem c h;rw[hc]at hu;cases hu
    refine q _ _ (c::L') ⟨p1.same.trans s2,Rp.QdX Q4 (r'.same s2) hz,λa ha=>?_,λhf=>?_,p1.own⟩
    .rcases Zm.mp ha with rfl | h
     .exact .inl hHc
     .refine p1.src a ?_;have:=d2.mem_iff.mp h;rcases el with rfl | rfl
      .exact Zb _ this
      .exact this
    .obtain⟨c1,c2⟩:=p1.cnt hf;rw[hds]at c2;simp only[nls,D.nl]at c2;have ll:=rl.QaI;rw[← Qd1 h1]at ll;have nn:nls (Qcv (Qe0 rs))=nls xs:=by rw[QuL d1,← Qd1 h1]
     have eG:G=l::L:=el.elim id λe=>by rw[e]at c2;lia
     subst eG;refine⟨λa=>?_,?_⟩
     .show(c::L').count a<=nw H a+((ra.M.map F).flatten).count a;have k:=c1 a;rw[ZaN]at k ⊢;rw[d2.count_eq];by_cases e:c=a
      .subst e;rw[ZX.mpr cL,QaK hHc];split<;>lia
      .rw[if_neg (by simpa using e)];lia
     .rw[ZI,d2.length_eq];simp only[D.nl,nn];rw[ZI]at c2;lia
  .cases e
noncomputable def Qzj(K:Fgg):R2:=λx y H Q=>∃a b ns ms,x= .ref a/\y= .ref b/\SqL K H a (ns.map V.int)/\SqL K H b (ms.map V.int)/\Q (.bl (HT.lexLt ns ms)) H
def Qx9(hu:X.A.units+64<cLine):OpR X (compareOp .Lt) (Qzj X.K):=by
 intro pins s σ H x y v u Q I rx ry h;obtain⟨a,b,ns,ms,rfl,rfl,ha,hb,q⟩:=h;cases rx;cases ry;obtain⟨its,r1,p1,_⟩:=I.list ha;obtain⟨its2,r2,p2,_⟩:=I.list hb;have i1:IntsAre its.toArray.toList ns:=intsAre_of r1;have i2:IntsAre its2.toArray.toList ms:=intsAre_of r2;exact Qqg p1.isList p2.isList i1 i2 ⋯ ⟨.bl (HT.lexLt ns ms),H,I,rfl,q⟩
def Qx8{K:Fgg}:QbB K gLt (λx y H Q=>Qzj K x y H Q∨rI0 (λi j=> .bl (decide (i<j))) x y H Q):=λa b d e=>by
 unfold gLt at e;split at e
 .rename_i xs;cases b with
  | lst ys=>
   refine Qg e λns h1 e=>?_;refine Qg e λms h2 e=>?_;cases e;refine⟨rfl,λH x y F G Q ha hb q=> .inl ?_⟩;rw[QbT h1]at ha;rw[QbT h2]at hb;obtain⟨l,ws,L,rfl,hl,rl,_,_⟩:=ha.lst_inv;obtain⟨l2,ws2,L2,rfl,hl2,rl2,_,_⟩:=hb.lst_inv;rw[rl.ints]at hl;rw[rl2.ints]at hl2;exact⟨l,l2,ns,ms,rfl,rfl,QT hl,QT hl2,q _ λ_=> .Qbs⟩
  | _=>cases e
 .obtain⟨h1,h2⟩:=Qy4 a b d e;exact⟨h1,λH x y F G Q ha hb q=> .inr (h2 H x y F G Q ha hb q)⟩
def QyV:∀a b d,gLt a b=some d->∃k,d= .bl k:=λa b d h=>by
 unfold gLt at h;split at h
 .unfold Qz4 at h;split at h
  .refine Qg h λns h1 h=>?_;refine Qg h λms h2 h=>?_;cases h;exact⟨_,rfl⟩
  .cases h
 .obtain⟨i,j,_,_,e⟩:=Qoc h;cases e;exact⟨_,rfl⟩
end
end HS
namespace HS
open PySem PySem.Spec PyProof.Rows L2
section
variable {X:Cx}{a b c:Expr}{fa fb fc:DE}{pos:Pos}
end
end HS
namespace HS
open PySem PySem.Spec L2
noncomputable abbrev Cn:=Int
noncomputable abbrev cnD(i:Cn):D:= .int i
noncomputable abbrev cnV(i:Cn)(t:Tok):Value:= .int i t
structure FnR where
 n:Nat
 dfl:List D
 den:Den
structure Th where
 N:List Str
 sc:List (Str×NameKind)
 Γ:List (Str×FnR)
 cs:List (Str×Cn)
 tr:Stmt->Option DS:=λ_=>none
 te:Expr->Option DE:=λ_=>none
noncomputable def posOf(x:Str):List Str->Option Nat
 | []=>none
 | y::ys=>if x=y then some 0 else(posOf x ys).map (· +1)
def Qfh:∀{x:Str}{ys:List Str}{i:Nat},posOf x ys=some i->ys[i]? =some x
 | x,[],i,h=>by cases h
 | x,y::ys,i,h=>by
  unfold posOf at h;split at h
  .rename_i e;cases h;subst e;rfl
  .obtain⟨j,hj,rfl⟩:=Zh.mp h;simpa using Qfh hj
noncomputable def look{α:Type}(x:Str):List (Str×α)->Option α
 | []=>none
 | (y,a)::r=>if x=y then some a else look x r
def Qbk{α:Type}:∀{x:Str}{l:List (Str×α)},look x l=l.lookup x
 | x,[]=>rfl
 | x,(y,a)::r=>by
  unfold look;rw[ZC];by_cases h:x=y
  .subst h;simp
  .rw[if_neg h,Qbk];have:(x == y)=false:=by simpa using h
   rw[this]
noncomputable def QvM:NameKind->Bool
 | .local =>true | .cell=>true | .free=>true | _=>false
noncomputable def QvK:NameKind->Bool
 | .local =>true | .cell=>true | _=>false
noncomputable def QBO:NameKind->Bool
 | .globalImplicit=>true | _=>false
noncomputable def isFree:NameKind->Bool
 | .free=>true | _=>false
noncomputable def odd(x:Str):Bool:=decide (x= "__debug__") || decide (x= "__classdict__") || decide (x= "__name__")
noncomputable def Th.slot(Y:Th)(x:Str):Option Nat:=if((look x Y.sc).map QvM).getD false && !odd x then posOf x Y.N else none
noncomputable def Th.QbC(Y:Th)(x:Str):Option Nat:=if((look x Y.sc).map QvK).getD false && !odd x then posOf x Y.N else none
noncomputable def Th.gl(Y:Th)(x:Str):Bool:=((look x Y.sc).map QBO).getD false && !odd x
def QxR(X:Cx)(x:Str)(r:FnR):Prop:=∃k f fd ps,QbL X.prog X.w X.K X.mg X.base CX0 k f fd ps (spV X.K r.n r.den)/\QaQ k X.A/\X.mg x=some (.ref f)/\PySem.W.keepIn X.K (.ref f)=true∧
 ∀m,m<=r.dfl.length->∃ds dvs,Binds X.K fd ps ds/\Qz dvs ds/\∀H,Rps X.K H (r.dfl.drop (r.dfl.length-m)) dvs []
noncomputable def Qoi:List Str:=["range","enumerate","zip","len","list","min","max","sum","abs","isinstance","int","bool","tuple","str","divmod","sorted","any","all","set"]
structure CtxB (X:Cx) (Y:Th):Prop where
 N:X.N=Y.N
 nd:Y.N.Nodup
 lc:∀x,look x Y.sc=some .local ->X.env.scope.names.lookup x=some .local
 ce:∀x,look x Y.sc=some .cell->X.env.scope.names.lookup x=some .cell/\X.fn x=true
 fe:∀x,look x Y.sc=some .free->X.env.scope.names.lookup x=some .cell∨X.env.scope.names.lookup x=some .free
 gl:∀x,look x Y.sc=some .globalImplicit->X.env.scope.names.lookup x=some .globalImplicit
 units:X.A.units+64<cLine
 mg:∀x∈Qoi,X.mg x=none
 cs:∀x i,look x Y.cs=some i->∃t,X.mg x=some (cnV i t)
structure QY (X:Cx) (Y:Th):Prop extends CtxB X Y where
 calm:X.calm=true
 pass:PassesOwn (model X.prog X.w) X.A X.env X.xe
 fns:∀x r,look x Y.Γ=some r->QxR X x r
 tr:∀st f,Y.tr st=some f->S1 X st f
 te:∀e f,Y.te e=some f->SE X e f
section
def QpY(h:odd x=false):(x == ("__debug__" :Str))=false/\(x == ("__classdict__" :Str))=false/\x≠ "__name__" :=by
 unfold odd at h;simp only[Bool.or_eq_false_iff,decide_eq_false_iff_not]at h;exact⟨by simpa using h.1.1,by simpa using h.1.2,h.2⟩
def Qik(ok:CtxB X Y)(h:Y.slot x=some i):PE X (.Name x pos) (QnP i):=by
 unfold Th.slot at h;split at h
 .rename_i hc;simp only[Zk,Zan]at hc;obtain⟨h1,h2,_⟩:=QpY hc.2;refine QzQ (by rw[ok.N];exact Qfh h) ?_ h1 h2;cases q:look x Y.sc with
  | none=>rw[q]at hc;cases hc.1
  | some k=>
   rw[q]at hc;cases k with
   | «local» =>exact .inl (ok.lc x q)
   | cell=>exact .inr (.inl (ok.ce x q).1)
   | free=>exact .inr (ok.fe x q)
   | _=>cases hc.1
 .cases h
def Qck(ok:CtxB X Y)(h:Y.QbC x=some i):X.N[i]? =some x/\Loc X.env.scope x/\(X.fn x=true∨X.env.scope.names.lookup x=some .local):=by
 unfold Th.QbC at h;split at h
 .rename_i hc;simp only[Zk,Zan]at hc;refine⟨by rw[ok.N];exact Qfh h,?_⟩;cases q:look x Y.sc with
  | none=>rw[q]at hc;cases hc.1
  | some k=>
   rw[q]at hc;cases k with
   | «local» =>exact⟨.inl (ok.lc x q),.inr (ok.lc x q)⟩
   | cell=>exact⟨.inr (ok.ce x q).1,.inl (ok.ce x q).2⟩
   | _=>cases hc.1
 .cases h
def QcP(ok:CtxB X Y)(h:Y.gl x=true):Gl X x/\(x == ("__debug__" :Str))=false/\x≠ "__name__" :=by
 unfold Th.gl at h;simp only[Zk,Zan]at h;obtain⟨h1,h2,h3⟩:=QpY h.2;refine⟨?_,h1,h3⟩;cases q:look x Y.sc with
 | none=>rw[q]at h;cases h.1
 | some k=>
  rw[q]at h;cases k with
  | globalImplicit=>exact ok.gl x q
  | _=>cases h.1
end
noncomputable def isTup:Expr->Bool
 | .Tuple .. =>true
 | _=>false
noncomputable def Qc7:Expr->Option Str
 | .Name x _=>some x
 | _=>none
noncomputable def QnE(Y:Th):Expr->Option Tg
 | .Name x _=>(Y.QbC x).map .nm
 | .Tuple es _ _=>((es.mapM Qc7).bind λxs=>xs.mapM Y.QbC).map .tp
 | _=>none
noncomputable def Qqa:CmpOp->Option (D->D->Option D)
 | .Eq=>some gEq | .NotEq=>some gNe | .Lt=>some gLt | .LtE=>some gLe | .Gt=>some gGt | .GtE=>some gGe
 | .Is=>none | .IsNot=>none
 | .In=>some (gIn false) | .NotIn=>some (gIn true)
noncomputable def Qvr(x:Str):Option String:=
 if x= "int" then some "int" else if x= "bool" then some "bool" else if x= "list" then some "list" else if x= "tuple" then some "tuple" else if x= "str" then some "str" else none
noncomputable def inner(Y:Th)(scope:Scope):Th:={N:=(scope.names.filter λy=>QvM y.2).map (·.1),sc:=scope.names,Γ:=Y.Γ,cs:=Y.cs}
noncomputable def Qh4(Y:Th)(scope:Scope):List (Option Nat):=(inner Y scope).N.map λx=>if((look x scope.names).map isFree).getD false then posOf x Y.N else none
noncomputable def QkK(Y:Th)(scope:Scope)(t:Tg):Bool:=(scope.kind == .function) && decide (inner Y scope).N.Nodup &&
 (scope.names.all λy=>match y.2 with
  | .cell=>decide (look y.1 scope.names=some .cell)
  | .local =>decide (look y.1 scope.names=some .local)
  | .free=>match look y.1 Y.sc with
   | some .cell=>true
   | some .free=>true
   | _=>false
  | _=>true) &&
 t.slots.all λj=>match (Qh4 Y scope)[j]? with
  | some (some _)=>false
  | _=>true
noncomputable def QkB(Y:Th)(ks:List (Option Expr))(vs:List Expr):Option (Option Expr):=match ks,vs with
 | [],[]=>some none
 | [some (.Call (.Name y _) [b] [] _)],[.Constant (.bool true) _ _]=>if y= "tuple" /\Y.gl y=true then some (some b)else none
 | _,_=>none
def Qsd{Y:Th}{ks:List (Option Expr)}{vs:List Expr}{o:Option Expr}(h:QkB Y ks vs=some o):
  (ks=[]/\vs=[]/\o=none)∨∃p a cp j q,ks=[some (.Call (.Name "tuple" p) [a] [] cp)]/\vs=[.Constant (.bool true) j q]/\Y.gl "tuple" =true/\o=some a:=by
 unfold QkB at h;split at h
 .cases h;exact .inl ⟨rfl,rfl,rfl⟩
 .split at h
  .rename_i hc;obtain⟨rfl,hg⟩:=hc;cases h;exact .inr ⟨_,_,_,_,_,rfl,rfl,hg,rfl⟩
  .cases h
 .cases h
noncomputable def QhD(Y:Th)(a i e:Expr):Option (Str×Expr):=match a with
 | .Name x _=>match i with
  | .Call (.Name y _) [b] [] _=>match e with
   | .Constant (.bool true) _ _=>if y= "tuple" /\Y.gl y=true then some (x,b)else none
   | _=>none
  | _=>none
 | _=>none
def Qqf{Y:Th}{a i e:Expr}{q:Str×Expr}(h:QhD Y a i e=some q):∃p p' cp j r,a= .Name q.1 p/\i= .Call (.Name "tuple" p') [q.2] [] cp/\e= .Constant (.bool true) j r/\Y.gl "tuple" =true:=by
 unfold QhD at h;split at h
 .split at h
  .split at h
   .split at h
    .rename_i hc;obtain⟨rfl,hg⟩:=hc;cases h;exact⟨_,_,_,_,_,rfl,rfl,rfl,hg⟩
    .cases h
   .cases h
  .cases h
 .cases h
noncomputable def QAC:List Expr->Bool
 | []=>true | [_]=>true | _=>false
noncomputable def bf1(x:Str)(fa:DE):Option DE:=
 if x= "len" then some (dBf Qao (Qa fa Qd))else
 if x= "list" then some (dList (Qa fa Qd))else
 if x= "abs" then some (dBf Qrj (Qa fa Qd))else
 if x= "min" then some (dBf Qib (Qa fa Qd))else
 if x= "max" then some (dBf QgV (Qa fa Qd))else
 if x= "sorted" then some (Qgo (Qa fa Qd))else
 if x= "tuple" then some (QgJ (Qa fa Qd))else
 none
noncomputable def bf2(x:Str)(fa fb:DE):Option DE:=
 if x= "min" then some (dBf Qkt (Qa fa (Qa fb Qd)))else
 if x= "max" then some (dBf QjR (Qa fa (Qa fb Qd)))else
 none
mutual
noncomputable def Qs(n:Nat)(Y:Th)(e:Expr):Option DE:=match n with
 | 0=>none
 | n+1=>match e with
  | .Name x _=>match Y.slot x with
   | some i=>some (Qf i)
   | none=>if Y.gl x then(look x Y.cs).map λi=>dC (cnD i)else none
  | .Constant (.int i) _ _=>some (dC (.int i))
  | .Constant (.bool b) _ _=>some (dC (.bl b))
  | .Constant .none _ _=>some (dC .non)
  | .Constant (.str x) _ _=>some (dC (.str x))
  | .BinOp a op b _=>(Qs n Y a).bind λfa=>(Qs n Y b).bind λfb=>match op with
   | .Add=>some (QC fa fb)
   | .Mult=>some (Q3 fa fb)
   | .Sub=>some (dOp QaS fa fb)
   | .FloorDiv=>some (dOp Qbc fa fb)
   | .Mod=>some (dOp Qad fa fb)
   | .RShift=>some (dOp QoA fa fb)
   | _=>none
  | .UnaryOp .USub a _=>(Qs n Y a).map Qls
  | .UnaryOp .Not a _=>(Qs n Y a).map QhM
  | .BoolOp .And [a] _=>Qs n Y a
  | .BoolOp .And (a::b::r) p=>(Qs n Y a).bind λfa=>(Qs n Y (.BoolOp .And (b::r) p)).map λfb=>Qb0 fa fb
  | .BoolOp .Or [a] _=>Qs n Y a
  | .BoolOp .Or (a::b::r) p=>(Qs n Y a).bind λfa=>(Qs n Y (.BoolOp .Or (b::r) p)).map λfb=>dOr fa fb
  | .Compare a [op] [b] _=>(Qs n Y a).bind λfa=>(Qs n Y b).bind λfb=>(Qqa op).map λg=>dOp g fa fb
  | .IfExp c a b _=>(QaM n Y c).bind λg=>(Qs n Y a).bind λfa=>(Qs n Y b).map λfb=>dIf g fa fb
  | .Tuple es _ _=>(Qbi n Y es).map Qav
  | .List es _=>(Qbi n Y es).map Qah
  | .Dict ks vs _=>match QkB Y ks vs with
   | some (some a)=>(Qs n Y a).map λfa=>dD1 (Qa fa Qd)
   | some none=>some Qqh
   | none=>none
  | .Subscript a (.Slice lo hi none _) _=>(Qs n Y a).bind λfa=>(QjL n Y lo).bind λfl=>(QjL n Y hi).map λfh=>Qch fa fl fh
  | .Subscript a (.Slice none none (some k) _) _=>(Qs n Y a).bind λfa=>(Qs n Y k).map λfk=>QnZ fa fk
  | .Subscript a b _=>(Qs n Y a).bind λfa=>(Qs n Y b).map λfb=>Qm fa fb
  | .Call (.Name x _) args [] _=>if Y.gl x then(match look x Y.Γ with
    | some r=>if r.n<=args.length+r.dfl.length/\args.length<=r.n then(Qbi n Y args).map λfs=>Qo r.n r.den (r.dfl.drop (r.dfl.length-(r.n-args.length))) fs else none
    | none=>QmF n Y x args)else none
  | .Call (.Attribute (.Name x p) m apos) [] [] cpos=>if m= "bit_length" /\(apos.endLine == cpos.line)=true then(Qs n Y (.Name x p)).map QmD else none
  | .ListComp elt [⟨tg,iter,ifs,0⟩] scope _=>(QnE (inner Y scope) tg).bind λt=>if QkK Y scope t && QAC ifs then
    (Qig n Y tg iter).bind λfi=>(Qf0 n (inner Y scope) ifs).bind λft=>(Qs n (inner Y scope) elt).map λfe=>QL fi t (Qh4 Y scope) ft fe else none
  | _=>none
noncomputable def QmF(n:Nat)(Y:Th)(x:Str)(args:List Expr):Option DE:=match n with
  | 0=>none
  | n+1=>match args with
    | [a]=>
         (Qs n Y a).bind λfa=>bf1 x fa
    | [a,b]=>if x= "isinstance" then(Qs n Y a).bind λfa=>match b with
        | .Name y _=>if Y.gl y then(Qvr y).map λT=>Qjt T fa else none
        | _=>none
      else(Qs n Y a).bind λfa=>(Qs n Y b).bind λfb=>bf2 x fa fb
    | _=>none
noncomputable def QaM(n:Nat)(Y:Th)(e:Expr):Option DT:=match n with
 | 0=>none
 | n+1=>match e with
  | .UnaryOp .Not a _=>(QaM n Y a).map Qcm
  | .BoolOp .And [a] _=>QaM n Y a
  | .BoolOp .And (a::b::r) p=>(QaM n Y a).bind λfa=>(QaM n Y (.BoolOp .And (b::r) p)).map λfb=>Qdf fa fb
  | .BoolOp .Or [a] _=>QaM n Y a
  | .BoolOp .Or (a::b::r) p=>(QaM n Y a).bind λfa=>(QaM n Y (.BoolOp .Or (b::r) p)).map λfb=>bOr fa fb
  | .Compare a [op] [b] _=>(Qs n Y a).bind λfa=>(Qs n Y b).bind λfb=>(Qqa op).map λg=>QG (dOp g fa fb)
  | .BoolOp _ _ _=>none
  | .IfExp _ _ _ _=>none
  | .Compare _ _ _ _=>none
  | e=>(Qs n Y e).map QG
noncomputable def Qf0(n:Nat)(Y:Th)(es:List Expr):Option DT:=match n with
 | 0=>none
 | n+1=>match es with
  | []=>some QW
  | [c]=>QaM n Y c
  | _=>none
noncomputable def Qbi(n:Nat)(Y:Th)(es:List Expr):Option DA:=match n with
 | 0=>none
 | n+1=>match es with
  | []=>some Qd
  | e::es=>(Qs n Y e).bind λfa=>(Qbi n Y es).map λfs=>Qa fa fs
noncomputable def QjL(n:Nat)(Y:Th)(e:Option Expr):Option DO:=match n with
 | 0=>none
 | n+1=>match e with
  | none=>some Qbx
  | some e=>(Qs n Y e).map Qbw
noncomputable def Qig(n:Nat)(Y:Th)(tg e:Expr):Option DI:=match n with
 | 0=>none
 | n+1=>match e with
  | .Call (.Name x _) args [] _=>if Y.gl x && (look x Y.Γ).isNone then(match args with
    | [a]=>if x= "range" then(Qs n Y a).map Qaz else
     if x= "enumerate" then(if isTup tg then(Qs n Y a).map Qhx else none)else
     (Qs n Y e).map Qab
    | [a,b,c]=>
     if x= "range" then(Qs n Y a).bind λfa=>(Qs n Y b).bind λfb=>(Qs n Y c).map λfc=>Qf3 fa fb fc else
     if x= "zip" then(if isTup tg then(Qs n Y a).bind λfa=>(Qs n Y b).bind λfb=>(Qs n Y c).map λfc=>Qgj fa fb fc else none)else
     (Qs n Y e).map Qab
    | [a,b]=>
     if x= "range" then(Qs n Y a).bind λfa=>(Qs n Y b).map λfb=>Qet fa fb else
     if x= "zip" then(if isTup tg then(Qs n Y a).bind λfa=>(Qs n Y b).map λfb=>Qa2 fa fb else none)else
     (Qs n Y e).map Qab
    | _=>(Qs n Y e).map Qab)else(Qs n Y e).map Qab
  | e=>(Qs n Y e).map Qab
end
def QaZ{α β γ:Type}{x:Option α}{y:α->Option β}{k:α->β->γ}{r:γ}(e:(x.bind λa=>(y a).map λb=>k a b)=some r):∃a b,x=some a/\y a=some b/\k a b=r:=by
 refine Qg e λa h1 e=>?_;obtain⟨b,h2,e⟩:=Zh.mp e;exact⟨a,b,h1,h2,e⟩
def bindR{α β γ:Type}{x:Option α}{y:α->Option β}{k:α->β->γ}{r:γ}{M:γ->Prop}(e:(x.bind λa=>(y a).map λb=>k a b)=some r)(g:∀a b,x=some a->y a=some b->M (k a b)):M r:=by
 obtain⟨a,b,h1,h2,rfl⟩:=QaZ e;exact g a b h1 h2
def Qaw(h:Qs n Y e=some f)(es:List Expr)(env:Env):starEach (e::es) env=(false,eval e env)::starEach es env:=by
 cases n with
 | zero=>exact nn h
 | succ n=>cases e<;>first | rfl | (exact nn h)
def QpN:∀{n:Nat}{Y:Th}{es:List Expr}{f:DA},Qbi n Y es=some f->∀(pos:Pos) (env:Env),(backTo pos (starEach es env)).any (·.1)=false
 | 0,_,_,_,h,_,_=>by simp[Qbi]at h
 | n+1,_,[],_,h,_,_=>rfl
 | n+1,_,e::es,_,h,pos,env=>by
  simp only[Qbi]at h;obtain⟨fa,fs,h1,h2,_⟩:=QaZ h;rw[Qaw h1];have:=QpN h2 pos env;simpa[backTo]using this
def Qpj(h:Qs n Y b=some f):Qia b:=by
 cases n with
 | zero=>exact nn h
 | succ n=>cases b<;>first | (intro o i;rfl) | (exact nn h)
def Qy6(h:Qs n Y e=some f)(env:Env):∀x,foldedSetIterable e env x=pure x:=by
 cases n with
 | zero=>exact nn h
 | succ n=>cases e<;>first | (intro x;rfl) | (exact nn h)
def QsL(h:Qs n Y e=some f)(op:CmpOp):behindInMarks op e=false:=by
 cases n with
 | zero=>exact nn h
 | succ n=>cases e<;>first | rfl | (exact nn h)
def Qdy{env:Env}:∀{names:List (Str×NameKind)}{x:Str},names.lookup x=some .cell→
  (names.map λ(n,k)=>if(k == NameKind.free && env.scope.kind == .function && env.kindOf n == some .cell)then(n,NameKind.cell)else(n,k)).lookup x=some .cell
 | [],_,h=>by simp at h
 | (n,k)::r,x,h=>by
  have ih:= @Qdy env r x;rw[ZA];cases hx:x == n with
  | true=>
   simp only[ZC,hx]at h;cases h;dsimp only;split<;>simp[ZC,hx]
  | false=>
   simp only[ZC,hx]at h;dsimp only;split<;>(simp only[ZC,hx];exact ih h)
def QnC{X:Cx}{Y:Th}{scope:Scope}{t:Tg}(ok:QY X Y)(h:QkK Y scope t=true):QdY X (inner Y scope).N scope/\QmC X (inner Y scope).N scope (Qh4 Y scope) t.slots/\∀cl C fp s3 H3,QY (cxc X (inner Y scope).N scope cl C fp s3 H3) (inner Y scope):=by
 unfold QkK at h;simp only[Zk,decide_eq_true_eq]at h;obtain⟨⟨⟨h1,h2⟩,h3⟩,h4⟩:=h;have hk:scope.kind= .function:=by simpa using h1
 have each:∀y∈scope.names,(y.2= .cell->scope.names.lookup y.1=some .cell)/\(y.2= .local ->scope.names.lookup y.1=some .local)/\(y.2= .free->X.env.kindOf y.1=some .cell∨X.env.kindOf y.1=some .free):=λy hy=>by
  have:=Zat.mp h3 y hy;obtain⟨y,k⟩:=y;cases k with
  | cell=>exact⟨λ_=>(by rw[← Qbk];simpa using this),λz=>(by cases z),λz=>(by cases z)⟩
  | «local» =>exact⟨λz=>(by cases z),λ_=>by rw[← Qbk];simpa using this,λz=>by cases z⟩
  | free=>
   refine⟨λz=>(by cases z),λz=>(by cases z),λ_=>?_⟩;dsimp only at this;split at this
   .rename_i q;exact .inl (ok.ce _ q).1
   .rename_i q;exact ok.fe _ q
   .cases this
  | _=>exact⟨λz=>(by cases z),λz=>(by cases z),λz=>(by cases z)⟩
 have S:QdY X (inner Y scope).N scope:=⟨hk,λy hy=>(each y hy).1,λy hy=>(each y hy).2.1,λy hy=>(each y hy).2.2⟩;refine⟨S,⟨by unfold Qh4;simp,λj i e=>?_,λj i e hj=>?_⟩,λcl C fp s3 H3=>⟨⟨rfl,h2,λx e=>?_,λx e=>?_,λx e=>?_,λx e=>?_,ok.units,ok.mg,ok.cs⟩,ok.calm,PassesOwn.never,ok.fns,λ_ _ e=>(nomatch e),λ_ _ e=>(nomatch e)⟩⟩
 .unfold Qh4 at e;rw[Zp]at e;cases q:(inner Y scope).N[j]? with
  | none=>rw[q]at e;cases e
  | some x=>
   rw[q]at e;simp only[Zai,Option.some.injEq]at e;split at e
   .rename_i hf;cases hl:look x scope.names with
    | none=>rw[hl]at hf;cases hf
    | some k=>
     rw[hl]at hf;cases k with
     | free=>
      rw[Qbk]at hl;exact⟨x,rfl,hl,by rw[ok.N];exact Qfh e,(each (x,.free) (Zar hl)).2.2 rfl⟩
     | _=>cases hf
   .cases e
 .have:=Zat.mp h4 j hj;rw[e]at this;cases this
 .have e':scope.names.lookup x=some .local :=by rw[← Qbk];exact e
  exact lookup_relabel_local e'
 .have e':scope.names.lookup x=some .cell:=by rw[← Qbk];exact e
  exact⟨Qdy e',decide_eq_true e'⟩
 .have e':scope.names.lookup x=some .free:=by rw[← Qbk];exact e
  exact Qcd e'
 .have e':scope.names.lookup x=some .globalImplicit:=by rw[← Qbk];exact e
  show(relabel scope X.env).names.lookup x=some .globalImplicit;unfold relabel
  have gen:∀{names:List (Str×NameKind)},names.lookup x=some .globalImplicit→
    (names.map λ(n,k)=>if(k == NameKind.free && X.env.scope.kind == .function && X.env.kindOf n == some .cell)then(n,NameKind.cell)else(n,k)).lookup x=some .globalImplicit:=by
   intro names
   induction names with
   | nil=>intro z;simp at z
   | cons y r ih=>
    intro z;obtain⟨n,k⟩:=y;rw[ZA];cases hx:x == n with
    | true=>
     simp only[ZC,hx]at z;cases z;simp[ZC,hx]
    | false=>
     simp only[ZC,hx]at z;dsimp only;split<;>(simp only[ZC,hx];exact ih z)
  exact gen e'
def QqZ(ok:QY X Y)(h:QnE Y tg=some t):SG X tg t:=by
 have hN:X.N.Nodup:=by rw[ok.N];exact ok.nd
 cases tg with
 | Name x pos=>
  change Option.map _ _=_ at h;refine mapR h λi hi=>?_;obtain⟨h1,h2,h3⟩:=Qck ok.toCtxB hi;exact Qxe (QpS hN h1 h2 h3)
 | Tuple es k pos=>
  change Option.map _ _=_ at h;refine mapR h λis hi=>?_;refine Qg hi λxs h1 h2=>?_;have key:∀(es:List Expr) (xs:List Str) (is:List Nat),es.mapM Qc7=some xs->xs.mapM Y.QbC=some is->PGs X es (Qj4 is)/\(assignEach es X.env).length=is.length/\(assignEach es X.env).findIdx? (·.1)=none:=by
   intro es
   induction es with
   | nil=>
    intro xs is h1 h2;cases h1;cases h2;exact⟨QxL,rfl,rfl⟩
   | cons e es ih=>
    intro xs is h1 h2;rw[List.mapM_cons]at h1;refine Qg h1 λx hx h1=>?_;refine Qg h1 λys hy h1=>?_;cases h1;rw[List.mapM_cons]at h2;refine Qg h2 λi hi h2=>?_;refine Qg h2 λjs hj h2=>?_;cases h2;obtain⟨a1,a2,a3⟩:=ih ys js hy hj;cases e with
    | Name y p=>
     cases hx;obtain⟨g1,g2,g3⟩:=Qck ok.toCtxB hi;refine⟨Quc (QpS hN g1 g2 g3) a1 rfl,?_,?_⟩
     .show(assignEach es X.env).length+1=_;rw[a2];rfl
     .show List.findIdx? (·.1) ((false,assign (.Name x p) X.env)::assignEach es X.env)=none;rw[List.findIdx?_cons];simp only[a3];rfl
    | _=>cases hx
  obtain⟨a1,a2,a3⟩:=key es xs is h1 h2;exact QzJ ok.calm a1 a2 a3
 | _=>exact nn h
def Quv{f:Int->Int->Bool}:∀a b d,gI (λi j=>some (.bl (f i j))) a b=some d->∃k,d= .bl k:=λa b d h=>by
 obtain⟨i,j,_,_,e⟩:=Qoc h;cases e;exact⟨_,rfl⟩
def Qrp(ok:QY X Y)(h:Qqa op=some g):∃r,OpR X (compareOp op) r/\QbB X.K g r/\∀a b d,g a b=some d->∃k,d= .bl k:=by
 cases op<;>cases h
 .exact⟨_,Qya ok.units,QAX,λa b d h=>by unfold gEq at h;split at h<;>cases h;exact⟨_,rfl⟩⟩
 .exact⟨_,QAd ok.units,QAu,λa b d h=>by unfold gNe at h;split at h<;>cases h;exact⟨_,rfl⟩⟩
 .exact⟨_,(Qx9 ok.units).or QBt,Qx8,QyV⟩
 .exact⟨_,QBs,QAT,Quv⟩
 .exact⟨_,QAx,QAi,Quv⟩
 .exact⟨_,QAv,QBo,Quv⟩
 .exact⟨_,QzE ok.units,Qv6,Qtc⟩
 .exact⟨_,Qrz ok.units,Qv6,Qtc⟩
structure QkE (n:Nat):Prop where
 E:∀X Y e f,QY X Y->Qs n Y e=some f->SE X e f
 B:∀X Y x args f p pos,QY X Y->Y.gl x=true->QmF n Y x args=some f->SE X (.Call (.Name x p) args [] pos) f
 T:∀X Y e f,QY X Y->QaM n Y e=some f->ST X e f
 Ts:∀X Y e f,QY X Y->Qf0 n Y e=some f->Qou X e f
 A:∀X Y e f,QY X Y->Qbi n Y e=some f->SA X e f
 O:∀X Y e f,QY X Y->QjL n Y e=some f->SO X e f
 I:∀X Y tg e f,QY X Y->Qig n Y tg e=some f->SI X tg e f/\∀x,foldedSetIterable e X.env x=pure x
def callArgs{X:Cx}{n:Nat}{Y:Th}{es:List Expr}{fs:DA}(h:Qbi n Y es=some fs){e:Expr}{es':List Expr}(he:es=e::es')(pos:Pos):starEach (e::es') X.env=(false,eval e X.env)::starEach es' X.env/\(backTo pos (starEach es' X.env)).any (·.1)=false:=by
 subst he;cases n with
 | zero=>simp[Qbi]at h
 | succ n=>
  simp only[Qbi]at h;obtain⟨fa,fs',h1,h2,_⟩:=QaZ h;exact⟨Qaw h1 es' X.env,QpN h2 pos X.env⟩
def QA4(ih:QkE n):∀X Y e f,QY X Y->Qs (n+1) Y e=some f->SE X e f:=by
  intro X Y e f ok h;cases e with
  | Name x pos=>
    (conv at h=>lhs;whnf)
    cases q:Y.slot x with
    | some i=>rw[q]at h;cases h;exact QrD (Qik ok.toCtxB q)
    | none=>
      rw[q]at h;dsimp only at h;split at h
      · rename_i hg
        refine mapR h λi hi=>?_;obtain⟨g1,g2,g3⟩:=QcP ok.toCtxB hg;obtain⟨t,hm⟩:=ok.cs x i hi;exact QhA (v:= .int i) (Qwk g1 hm ⟨t,rfl⟩ g2) (λ_ _=> .int_mk) rfl
      · cases h
  | Constant c k pos=>
    cases c with
    | int i=>(conv at h=>lhs;whnf);cases h;exact QhA QzH (λ_ _=> .int_mk) rfl
    | bool b=>(conv at h=>lhs;whnf);cases h;exact QhA QmK (λ_ _=> .Qbs) rfl
    | none=>(conv at h=>lhs;whnf);cases h;exact QhA QyO (λ_ _=> .QkN) rfl
    | str x=>(conv at h=>lhs;whnf);cases h;exact QhA Qzs (λ_ _=> .str_mk) rfl
    | _=>exact nn h
  | BinOp a op b pos=>
    (conv at h=>lhs;whnf)
    refine Qg h λfa h1 h=>?_;refine Qg h λfb h2 h=>?_;have ha:=ih.E X Y a fa ok h1;have hb:=ih.E X Y b fb ok h2;cases op with
    | Add=>cases h;exact QzP ha hb
    | Mult=>cases h;exact Qzy ha hb
    | Sub=>cases h;exact QmG Qy7 QrE ha hb
    | FloorDiv=>cases h;exact QmG Qwq QzA ha hb
    | Mod=>cases h;exact QmG Qwd Qyx ha hb
    | RShift=>cases h;exact QmG QyY Qyv ha hb
    | _=>cases h
  | UnaryOp op a pos=>
    cases op with
    | USub=>
      (conv at h=>lhs;whnf)
      refine mapR h λfa h1=>?_;exact QzZ (ih.E X Y a fa ok h1)
    | Not=>
      (conv at h=>lhs;whnf)
      refine mapR h λfa h1=>?_;exact Qst (ih.E X Y a fa ok h1)
    | _=>exact nn h
  | BoolOp op es pos=>
    cases op with
    | And=>
      match es,h with
      | [],h=>exact nn h
      | [a],h=>(conv at h=>lhs;whnf);exact Qot (ih.E X Y a f ok h)
      | a::b::r,h=>
        (conv at h=>lhs;whnf)
        refine bindR h λfa fb h1 h2=>?_;exact Qrs (ih.E X Y a fa ok h1) (ih.E X Y _ fb ok h2)
    | Or=>
      match es,h with
      | [],h=>exact nn h
      | [a],h=>(conv at h=>lhs;whnf);exact Qot (ih.E X Y a f ok h)
      | a::b::r,h=>
        (conv at h=>lhs;whnf)
        refine bindR h λfa fb h1 h2=>?_;exact QAm (ih.E X Y a fa ok h1) (ih.E X Y _ fb ok h2)
  | Compare a ops bs pos=>
    match ops,bs,h with
    | [op],[b],h=>
      (conv at h=>lhs;whnf)
      refine Qg h λfa h1 h=>?_;refine bindR h λfb g h2 h3=>?_;obtain⟨r,o1,o2,_⟩:=Qrp ok h3;exact QyS o1 o2 (ih.E X Y a fa ok h1) (ih.E X Y b fb ok h2) (QsL h2 op)
    | [],_,h=>exact nn h
    | [_],[],h=>exact nn h
    | [_],_::_::_,h=>exact nn h
    | _::_::_,_,h=>exact nn h
  | IfExp c a b pos=>
    (conv at h=>lhs;whnf)
    refine Qg h λg h1 h=>?_;refine bindR h λfa fb h2 h3=>?_;exact QBm (ih.T X Y c g ok h1) (ih.E X Y a fa ok h2) (ih.E X Y b fb ok h3)
  | Tuple es k pos=>
    (conv at h=>lhs;whnf)
    refine mapR h λfs h1=>?_;exact Qz1 (ih.A X Y es fs ok h1)
  | List es pos=>
    (conv at h=>lhs;whnf)
    refine mapR h λfs h1=>?_;exact QAb (ih.A X Y es fs ok h1)
  | Dict ks vs pos=>
    have h:(match QkB Y ks vs with | some (some a)=>(Qs n Y a).map λfa=>dD1 (Qa fa Qd) | some none=>some Qqh | none=>none)=some f:=h;cases q:QkB Y ks vs with
    | none=>rw[q]at h;cases h
    | some o=>
      rw[q]at h;rcases Qsd q with⟨rfl,rfl,rfl⟩ | ⟨p,a,cp,j,pp,rfl,rfl,hg,rfl⟩
      · cases h;exact Qx3
      · refine mapR h λfa h1=>?_
        have st:=Qaw h1 [] X.env;exact QA5 (by have:=ok.units;lia) (QcP ok.toCtxB hg).1 (ok.mg "tuple" nofun) (Qex (ih.E X Y a fa ok h1) Qhm st) st rfl (QhA QmK (λ_ _=> .Qbs) rfl)
  | Subscript a b pos=>
    by_cases hb:∃lo hi p2,b= .Slice lo hi none p2
    · obtain⟨lo,hi,p2,rfl⟩:=hb
      (conv at h=>lhs;whnf)
      refine Qg h λfa h1 h=>?_;refine bindR h λfl fh h2 h3=>?_;exact Qz7 (ih.E X Y a fa ok h1) (ih.O X Y lo fl ok h2) (ih.O X Y hi fh ok h3)
    · by_cases hk:∃k p2,b= .Slice none none (some k) p2
      · obtain⟨k,p2,rfl⟩:=hk
        (conv at h=>lhs;whnf)
        refine bindR h λfa fk h1 h2=>?_;exact Qx7 (ih.E X Y a fa ok h1) (ih.E X Y k fk ok h2)
      · have h':((Qs n Y a).bind λfa=>(Qs n Y b).map λfb=>Qm fa fb)=some f:=by
          cases b<;>first
            | (exact h)
            | (rename_i lo hi st p2;cases lo<;>cases hi<;>cases st<;>first | (exact absurd ⟨_,_,_,rfl⟩ hb) | (exact absurd ⟨_,_,rfl⟩ hk) | (exact h))
        refine bindR h' λfa fb h1 h2=>?_;exact Qy9 (ih.E X Y a fa ok h1) (ih.E X Y b fb ok h2) (Qpj h2)
  | Call fn args kws pos=>
    cases fn with
    | Name x p=>
     cases kws with
     | cons k ks=>exact nn h
     | nil=>
      have h:(if Y.gl x then(match look x Y.Γ with | some r=>if r.n<=args.length+r.dfl.length/\args.length<=r.n then(Qbi n Y args).map λfs=>Qo r.n r.den (r.dfl.drop (r.dfl.length-(r.n-args.length))) fs else none | none=>QmF n Y x args)else none)=some f:=h;split at h
      · rename_i hg
        obtain⟨g1,g2,g3⟩:=QcP ok.toCtxB hg;split at h
        · rename_i r hr
          split at h
          · rename_i hn
            refine mapR h λfs h1=>?_;obtain⟨k,fa,fd,ps,F1,F2,F3,F4,F5⟩:=ok.fns x r hr;obtain⟨ds,dvs,b1,b2,b3⟩:=F5 (r.n-args.length) ⋯;cases args with
            | nil=>
              cases n with
              | zero=>simp[Qbi]at h1
              | succ n=>
                simp only[Qbi]at h1;cases h1;exact Qua F1 F2 g1 F3 F4 b1 b2 b3 g2
            | cons e es=>
              obtain⟨s1,s2⟩:=callArgs (X:=X) h1 rfl pos;exact Qxw F1 F2 g1 F3 F4 b1 b2 b3 (ih.A X Y _ fs ok h1) g2 s1 s2
          · cases h
        · exact ih.B X Y x args f p pos ok hg h
      · cases h
    | Attribute o m apos=>
      cases o with
      | Name x p=>
        cases args with
        | nil=>
          cases kws with
          | nil=>
            have h:(if m= "bit_length" /\(apos.endLine == pos.line)=true then(Qs n Y (.Name x p)).map QmD else none)=some f:=h;split at h
            · rename_i hc
              refine mapR h λfa h1=>?_;obtain⟨rfl,hl⟩:=hc;exact Qxj (ih.E X Y _ fa ok h1) rfl hl
            · cases h
          | cons _ _=>exact nn h
        | cons _ _=>exact nn h
      | _=>exact nn h
    | _=>exact nn h
  | ListComp elt gens scope pos=>
    match gens,h with
    | [⟨tg,iter,ifs,k⟩],h=>
      by_cases hk:k=0
      · subst hk
        (conv at h=>lhs;whnf)
        refine Qg h λt ht h=>?_;split at h
        · rename_i hc
          simp only[Zk]at hc;refine Qg h λfi h1 h=>?_;refine bindR h λft fe h2 h3=>?_;obtain⟨S,cap,inn⟩:=QnC ok hc.1;obtain⟨i1,i2⟩:=ih.I X Y tg iter fi ok h1;exact QxW ok.calm S i1 cap (λcl C fp s3 H3=>⟨QqZ (inn cl C fp s3 H3) ht,ih.Ts _ _ ifs ft (inn cl C fp s3 H3) h2,ih.E _ _ elt fe (inn cl C fp s3 H3) h3⟩) i2
        · cases h
      · exfalso
        cases k with
        | ofNat k=>
          cases k with
          | zero=>exact hk rfl
          | succ k=>exact nn h
        | negSucc k=>exact nn h
    | [],h=>exact nn h
    | ⟨_,_,_,.ofNat 0⟩::_::_,h=>exact nn h
    | ⟨_,_,_,.ofNat (k+1)⟩::_::_,h=>exact nn h
    | ⟨_,_,_,.negSucc k⟩::_::_,h=>exact nn h
  | _=>exact nn h
def QzM(ok:QY X Y)(g1:Gl X x)(sa:SA X [a] (Qa fa Qd))(st:starEach [a] X.env=(false,eval a X.env)::starEach [] X.env)(h:bf1 x fa=some f):SE X (.Call (.Name x p) [a] [] pos) f:=by
 unfold bf1 at h;by_cases e:x= "len"
 .rw[if_pos e]at h;cases h;subst e;have hm:=ok.mg "len" nofun;exact Qh9 Qr4 Qyz g1 hm PySem.boot_len sa ∅ ∅ st rfl
 rw[if_neg e]at h;clear e;by_cases e:x= "list"
 .rw[if_pos e]at h;cases h;subst e;have hm:=ok.mg "list" nofun;exact Qwl ok.calm g1 hm sa st rfl
 rw[if_neg e]at h;clear e;by_cases e:x= "abs"
 .rw[if_pos e]at h;cases h;subst e;have hm:=ok.mg "abs" nofun;exact Qh9 QtR Qzr g1 hm PyProof.Rows.boot_abs sa ∅ ∅ st rfl
 rw[if_neg e]at h;clear e;by_cases e:x= "min"
 .rw[if_pos e]at h;cases h;subst e;have hm:=ok.mg "min" nofun;exact Qh9 (Qsv ok.calm) Qwj g1 hm PyProof.Rows.boot_min sa ∅ ∅ st rfl
 rw[if_neg e]at h;clear e;by_cases e:x= "max"
 .rw[if_pos e]at h;cases h;subst e;have hm:=ok.mg "max" nofun;exact Qh9 (Qtg ok.calm) Qxr g1 hm PyProof.Rows.boot_max sa ∅ ∅ st rfl
 rw[if_neg e]at h;clear e;by_cases e:x= "sorted"
 .rw[if_pos e]at h;cases h;subst e;have hm:=ok.mg "sorted" nofun;exact QxH ok.units g1 hm sa st rfl
 rw[if_neg e]at h;clear e;by_cases e:x= "tuple"
 .rw[if_pos e]at h;cases h;subst e;have hm:=ok.mg "tuple" nofun;exact Qxi g1 hm sa st rfl
 rw[if_neg e]at h;clear e;cases h
def QzG(ok:QY X Y)(g1:Gl X x)(sa:SA X [a,b] (Qa fa (Qa fb Qd)))(st:starEach [a,b] X.env=(false,eval a X.env)::starEach [b] X.env)(pl:(backTo pos (starEach [b] X.env)).any (·.1)=false)(h:bf2 x fa fb=some f):SE X (.Call (.Name x p) [a,b] [] pos) f:=by
 unfold bf2 at h;by_cases e:x= "min"
 .rw[if_pos e]at h;cases h;subst e;have hm:=ok.mg "min" nofun;exact Qh9 (QrW ok.calm) QwC g1 hm PyProof.Rows.boot_min sa ∅ ∅ st pl
 rw[if_neg e]at h;clear e;by_cases e:x= "max"
 .rw[if_pos e]at h;cases h;subst e;have hm:=ok.mg "max" nofun;exact Qh9 (Qtv ok.calm) Qxt g1 hm PyProof.Rows.boot_max sa ∅ ∅ st pl
 rw[if_neg e]at h;clear e;cases h
def QBl(ih:QkE n):∀X Y x args f p pos,QY X Y->Y.gl x=true->QmF (n+1) Y x args=some f->SE X (.Call (.Name x p) args [] pos) f:=by
 intro X Y x args f p pos ok hg h;obtain⟨g1,g2,g3⟩:=QcP ok.toCtxB hg
 match args,h with
 | [],h=>exact nn h
 | [a],h=>
  change((Qs n Y a).bind λfa=>bf1 x fa)=some f at h;refine Qg h λfa h1 h=>?_;have ha:=ih.E X Y a fa ok h1;have st:=Qaw h1 [] X.env;exact QzM ok g1 (Qex ha Qhm st) st h
 | [a,b],h=>
  change(if x= "isinstance" then(Qs n Y a).bind λfa=>(match b with | .Name y _=>if Y.gl y then(Qvr y).map λT=>Qjt T fa else none | _=>none)else(Qs n Y a).bind λfa=>(Qs n Y b).bind λfb=>bf2 x fa fb)=some f at h;split at h
  .rename_i e;refine Qg h λfa h1 h=>?_;have ha:=ih.E X Y a fa ok h1;split at h
   .rename_i y p2;split at h
    .rename_i hy;refine mapR h λT hT=>?_;obtain⟨y1,y2,y3⟩:=QcP ok.toCtxB hy;clear h;subst e;refine QyW g1 (ok.mg _ nofun) ha ?_ (Qaw h1 _ X.env);unfold Qvr at hT;split at hT
     .rename_i e;cases hT;subst e;exact Qgb y1 (ok.mg _ nofun) PyProof.Rows.boot_int rfl
     .split at hT
      .rename_i e;cases hT;subst e;exact Qgb y1 (ok.mg _ nofun) PyProof.Rows.boot_bool rfl
      .split at hT
       .rename_i e;cases hT;subst e;exact Qgb y1 (ok.mg _ nofun) Zcr rfl
       .split at hT
        .rename_i e;cases hT;subst e;exact Qgb y1 (ok.mg _ nofun) Zbd rfl
        .split at hT
         .rename_i e;cases hT;subst e;exact Qgb y1 (ok.mg _ nofun) PyProof.Rows.boot_str rfl
         .cases hT
    .cases h
   .cases h
  .refine Qg h λfa h1 h=>?_;refine Qg h λfb h2 h=>?_;have ha:=ih.E X Y a fa ok h1;have hb:=ih.E X Y b fb ok h2;have sb:SA X [b] (Qa fb Qd):=Qex hb Qhm (Qaw h2 [] X.env);have sa:SA X [a,b] (Qa fa (Qa fb Qd)):=Qex ha sb (Qaw h1 [b] X.env);have pl:(backTo pos (starEach [b] X.env)).any (·.1)=false:=by rw[Qaw h2 [] X.env];rfl
   exact QzG ok g1 sa (Qaw h1 [b] X.env) pl h
 | _::_::_::_,h=>exact nn h
def QAW{n:Nat}(ih:QkE n):∀X Y e f,QY X Y->QaM (n+1) Y e=some f->ST X e f:=by
 intro X Y e f ok h;have dflt:(Qs n Y e).map QG=some f->(∀whole,isTrue e X.env whole=(do let v ← whole;standAt e.pos;holding [v] (truthy v)))->ST X e f:=λh he=>by
  refine mapR h λfa h1=>?_;exact Qzx (ih.E X Y e fa ok h1) he
 cases e with
 | UnaryOp op a pos=>
  cases op with
  | Not=>
   change(QaM n Y a).map Qcm=some f at h;refine mapR h λfa h1=>?_;exact Qzm (ih.T X Y a fa ok h1)
  | _=>exact dflt h λ_=>rfl
 | BoolOp op es pos=>
  cases op with
  | And=>
   match es,h with
   | [],h=>exact nn h
   | [a],h=>exact(QwS (ih.T X Y a f ok h)).st
   | a::b::r,h=>
    change((QaM n Y a).bind λfa=>(QaM n Y (.BoolOp .And (b::r) pos)).map λfb=>Qdf fa fb)=some f at h;refine bindR h λfa fb h1 h2=>?_;have hb:=ih.T X Y _ fb ok h2;exact(Qzp (ih.T X Y a fa ok h1) (λH0 A0 wh pins s σ H Q I q=>by have:=hb H0 A0 pins s σ H Q I q;exact this)).st
  | Or=>
   match es,h with
   | [],h=>exact nn h
   | [a],h=>exact(Qyg (ih.T X Y a f ok h)).st
   | a::b::r,h=>
    change((QaM n Y a).bind λfa=>(QaM n Y (.BoolOp .Or (b::r) pos)).map λfb=>bOr fa fb)=some f at h;refine bindR h λfa fb h1 h2=>?_;have hb:=ih.T X Y _ fb ok h2;exact(QBf (ih.T X Y a fa ok h1) (λH0 A0 wh pins s σ H Q I q=>by have:=hb H0 A0 pins s σ H Q I q;exact this)).st
 | Compare a ops bs pos=>
  match ops,bs,h with
  | [op],[b],h=>
   change((Qs n Y a).bind λfa=>(Qs n Y b).bind λfb=>(Qqa op).map λg=>QG (dOp g fa fb))=some f at h;refine Qg h λfa h1 h=>?_;refine bindR h λfb g h2 h3=>?_;obtain⟨r,o1,o2,o3⟩:=Qrp ok h3;exact QyX o1 o2 o3 (ih.E X Y a fa ok h1) (ih.E X Y b fb ok h2) (QsL h2 op)
  | [],_,h=>exact nn h
  | [_],[],h=>exact nn h
  | [_],_::_::_,h=>exact nn h
  | _::_::_,_,h=>exact nn h
 | IfExp c a b pos=>exact nn h
 | _=>exact dflt h λ_=>rfl
def QA8(ih:QkE n):∀X Y tg e f,QY X Y->Qig (n+1) Y tg e=some f->SI X tg e f/\∀x,foldedSetIterable e X.env x=pure x:=by
 intro X Y tg e f ok h;have dflt:(Qs n Y e).map Qab=some f->SI X tg e f/\∀x,foldedSetIterable e X.env x=pure x:=λh=>by
  obtain⟨fa,h1,rfl⟩:=Zh.mp h;exact⟨Qyf (ih.E X Y e fa ok h1),Qy6 h1 X.env⟩
 cases e with
 | Call fn args kws pos=>
  cases fn with
  | Name x p=>
   cases kws with
   | cons k ks=>exact dflt h
   | nil=>
    change @ite _ _ _ _ _=_ at h;split at h
    .rename_i hg;simp only[Zk]at hg;obtain⟨g1,g2,g3⟩:=QcP ok.toCtxB hg.1
     match args,h with
     | [],h=>exact dflt h
     | [a],h=>
      dsimp only at h;by_cases er:x= "range"
      .rw[if_pos er]at h;obtain⟨fa,h1,rfl⟩:=Zh.mp h;subst er;exact⟨Qs1 g1 (ok.mg _ nofun) (ih.E X Y a fa ok h1) (Qaw h1 [] X.env),λ_=>rfl⟩
      rw[if_neg er]at h;by_cases ez:x= "enumerate"
      .rw[if_pos ez]at h;split at h
       .rename_i ht;obtain⟨fa,h1,rfl⟩:=Zh.mp h;subst ez;cases tg with
        | Tuple es k tp=>exact⟨QxX g1 (ok.mg _ nofun) (ih.E X Y a fa ok h1) (Qaw h1 [] X.env),λ_=>rfl⟩
        | _=>exact nomatch (show false=true from ht)
       .cases h
      rw[if_neg ez]at h;exact dflt h
     | [a,b],h=>
      dsimp only at h;by_cases er:x= "range"
      .rw[if_pos er]at h;obtain⟨fa,fb,h1,h2,rfl⟩:=QaZ h;subst er;exact⟨Qtd g1 (ok.mg _ nofun) (ih.E X Y a fa ok h1) (ih.E X Y b fb ok h2) (by rw[Qaw h1 [b] X.env,Qaw h2 [] X.env];rfl) (Qaw h2 [] X.env),λ_=>rfl⟩
      rw[if_neg er]at h;by_cases ez:x= "zip"
      .rw[if_pos ez]at h;split at h
       .rename_i ht;obtain⟨fa,fb,h1,h2,rfl⟩:=QaZ h;subst ez;cases tg with
        | Tuple es k tp=>exact⟨QyK g1 (ok.mg _ nofun) (ih.E X Y a fa ok h1) (ih.E X Y b fb ok h2) (by rw[Qaw h1 [b] X.env,Qaw h2 [] X.env];rfl) (Qaw h2 [] X.env),λ_=>rfl⟩
        | _=>exact nomatch (show false=true from ht)
       .cases h
      rw[if_neg ez]at h;exact dflt h
     | [a,b,c],h=>
      dsimp only at h;by_cases er:x= "range"
      .rw[if_pos er]at h;refine Qg h λfa h1 h=>?_;obtain⟨fb,fc,h2,h3,rfl⟩:=QaZ h;subst er;exact⟨Qsg g1 (ok.mg _ nofun) (ih.E X Y a fa ok h1) (ih.E X Y b fb ok h2) (ih.E X Y c fc ok h3) (Qaw h1 [b,c] X.env) (Qaw h2 [c] X.env) (Qaw h3 [] X.env),λ_=>rfl⟩
      rw[if_neg er]at h;by_cases ez:x= "zip"
      .rw[if_pos ez]at h;split at h
       .rename_i ht;refine Qg h λfa h1 h=>?_;obtain⟨fb,fc,h2,h3,rfl⟩:=QaZ h;subst ez;cases tg with
        | Tuple es k tp=>exact⟨QwR g1 (ok.mg _ nofun) (ih.E X Y a fa ok h1) (ih.E X Y b fb ok h2) (ih.E X Y c fc ok h3) (Qaw h1 [b,c] X.env) (Qaw h2 [c] X.env) (Qaw h3 [] X.env),λ_=>rfl⟩
        | _=>exact nomatch (show false=true from ht)
       .cases h
      rw[if_neg ez]at h;exact dflt h
     | _::_::_::_::_,h=>exact dflt h
    .exact dflt h
  | _=>exact dflt h
 | _=>exact dflt h
def Qb7:∀n,QkE n
 | 0=>⟨λ_ _ _ _ _ h=>(nn h),λ_ _ _ _ _ _ _ _ _ h=>(nn h),λ_ _ _ _ _ h=>(nn h),λ_ _ _ _ _ h=>(nn h),λ_ _ _ _ _ h=>(nn h),
  λ_ _ _ _ _ h=>(nn h),λ_ _ _ _ _ _ h=>(nn h)⟩
 | n+1=>by
  have ih:=Qb7 n
  refine⟨QA4 ih,QBl ih,QAW ih,λX Y e f ok h=>?_,λX Y e f ok h=>?_,
   λX Y e f ok h=>?_,QA8 ih⟩
  .match e,h with
   | [],h=>simp only[Qf0]at h;cases h;exact Qvq
   | [c],h=>simp only[Qf0]at h;exact QtO (ih.T X Y c f ok h)
   | _::_::_,h=>simp only[Qf0]at h;cases h
  .match e,h with
   | [],h=>simp only[Qbi]at h;cases h;exact Qhm
   | e::es,h=>
    simp only[Qbi]at h;refine bindR h λfa fs h1 h2=>?_;exact Qex (ih.E X Y e fa ok h1) (ih.A X Y es fs ok h2) (Qaw h1 es X.env)
  .match e,h with
   | none,h=>simp only[QjL]at h;cases h;exact Qxm
   | some e,h=>
    simp only[QjL]at h;refine mapR h λfa h1=>?_;exact QwV (ih.E X Y e fa ok h1)
section
noncomputable def Qx:DS:=λ_=>none
def Qtw:S1 X st Qx:=λH0 A0=>QuI.mono λE σ H ⟨U,hs,F,o,rel,e,q⟩=>by cases e
def Qgz:∀{n:Nat}{U:En}{o:Out},QaW g fb n U=some o->QaW g fb (n+1) U=some o
 | 0,_,_,h=>by cases h
 | n+1,U,o,h=>by
  unfold QaW at h ⊢;refine Qg h λb hb h=>?_;rw[hb];cases b with
  | false=>exact h
  | true=>
   rw[if_pos rfl]at h;refine Qg h λo1 ho h=>?_;rw[Za,if_pos rfl,ho];cases o1 with
   | nx U2=>exact Qgz h
   | ct U2=>exact Qgz h
   | bk U2=>exact h
   | rt d fr=>exact h
def Qne(h:QaW g fb n U=some o)(hm:n<=m):QaW g fb m U=some o:=by
 induction hm with
 | refl=>exact h
 | step _ ih=>exact Qgz ih
open Classical in
noncomputable def Qbu(g:DT)(fb:DS):DS:=λU=>if h:∃n,(QaW g fb n U).isSome=true then QaW g fb h.choose U else none
def Qct:Qbu g fb U=some o↔∃n,QaW g fb n U=some o:=by
 unfold Qbu;constructor
 .intro h;split at h
  .exact⟨_,h⟩
  .cases h
 .rintro⟨n,h⟩;have hx:∃n,(QaW g fb n U).isSome=true:=⟨n,by rw[h];rfl⟩;rw[dif_pos hx];obtain⟨o',ho'⟩:=Zce.mp hx.choose_spec;have h1:=Qne h (Nat.le_max_left n hx.choose);have h2:=Qne ho' (Nat.le_max_right n hx.choose);rw[h1]at h2;rw[ho',← h2]
def QrY(hp:PassesOwn (model X.prog X.w) X.A X.env X.xe)(hc:ST X c gc)(hb:SS X body f):S1 X (.While c body [] pos) (Qbu gc f):=λH0 A0 pins s σ H D I h=>by
 obtain⟨U,hs,F,o,rel,e,q⟩:=h;obtain⟨n,hn⟩:=Qct.mp e;exact QtK (n:=n) hp hc hb H0 A0 pins s σ H D I ⟨U,hs,F,o,rel,hn,q⟩
def Qro(g:DT)(fb:DS)(U:En):Qbu g fb U=(g U).bind λb=>if b=true then(fb U).bind λo=>match o with
  | .nx U2=>Qbu g fb U2
  | .ct U2=>Qbu g fb U2
  | .bk U2=>some (.nx U2)
  | .rt d fr=>some (.rt d fr)
  else some (.nx U):=by
 apply Option.ext;intro o;rw[Qct];constructor
 .rintro⟨n,h⟩;cases n with
  | zero=>cases h
  | succ n=>
   unfold QaW at h;refine Qg h λb hb h=>?_;rw[hb];cases b with
   | false=>exact h
   | true=>
    rw[if_pos rfl]at h;refine Qg h λo1 ho h=>?_;rw[Za,if_pos rfl,ho];cases o1 with
    | nx U2=>exact Qct.mpr ⟨n,h⟩
    | ct U2=>exact Qct.mpr ⟨n,h⟩
    | bk U2=>exact h
    | rt d fr=>exact h
 .intro h;refine Qg h λb hb h=>?_;cases b with
  | false=>exact⟨1,by unfold QaW;rw[hb];exact h⟩
  | true=>
   rw[if_pos rfl]at h;refine Qg h λo1 ho h=>?_;cases o1 with
   | nx U2=>
    obtain⟨n,hn⟩:=Qct.mp h;exact⟨n+1,by unfold QaW;rw[hb];rw[Za,if_pos rfl,ho];exact hn⟩
   | ct U2=>
    obtain⟨n,hn⟩:=Qct.mp h;exact⟨n+1,by unfold QaW;rw[hb];rw[Za,if_pos rfl,ho];exact hn⟩
   | bk U2=>exact⟨1,by unfold QaW;rw[hb];rw[Za,if_pos rfl,ho];exact h⟩
   | rt d fr=>exact⟨1,by unfold QaW;rw[hb];rw[Za,if_pos rfl,ho];exact h⟩
def Qw7(hN:X.N.Nodup)(hx1:X.N[i]? =some x)(hx:Loc X.env.scope x)(hf:X.fn x=true∨X.env.scope.names.lookup x=some .local)
  (hcalm:X.calm=true) (S:QdY X N' scope) (hi:SI X tg iter fi) (hcap:QmC X N' scope cap t.slots)
  (hin:∀cl C fp s3 H3,SG (cxc X N' scope cl C fp s3 H3) tg t/\Qou (cxc X N' scope cl C fp s3 H3) ifs ft/\SE (cxc X N' scope cl C fp s3 H3) elt fe) (hs:∀x,foldedSetIterable iter X.env x=pure x):
  S1 X (.Assign [.Name x pos'] (.ListComp elt [⟨tg,iter,ifs,0⟩] scope pos) spos) (Qp i (QL fi t cap ft fe)):=
 Qky λH0 A0=>(Qxn hN hx1 hx hf hcalm S (hi H0 A0) (λcl C fp s3 H3=>⟨(hin cl C fp s3 H3).1 _ _,(hin cl C fp s3 H3).2.1 _ _,(hin cl C fp s3 H3).2.2 _ _⟩) hs).mono λE σ H h=>Ql6 hcap h
end
end HS
namespace HS
open PySem PySem.Spec L2 PyProof.Rows
section
variable {X:Cx}{a b e:Expr}{fa fb:DE}{pf:DP}{x:Nat}{pos apos:Pos}
def QxU{X:Cx}{H:Hp}{ds:List D}{w:V}{Gm:LAd}(h:Rp X.K H (.lst ds) w Gm):tyV X.K "list" w H:=by
 obtain⟨l,ws,L,rfl,hl,_⟩:=h.lst_inv;exact .inl ⟨rfl,ws,QT hl⟩
def Qaa.unit{K:Fgg}{U:En}{F:Nat->List Addr}{H:Hp}:Qaa K U F H H ⟨.non,true,[]⟩ .non []:= .flat (QN.refl _) .QkN
noncomputable def QkY(x:Nat)(pf:DP):DS:=λU=>match U[x]? with
 | some (some (d,true))=>(pf U).bind λis=>match Qa0 d is with
  | some (.lst _)=>some (.nx (U.set x (some (QaL is d (.lst []),true))))
  | _=>none
 | _=>none
def Qvu{H0:Hp}{A0:LAd}{E:Ends}{σ:L2.St}{H:Hp}:tS X.K H0 A0 (QkY x pf) E σ H->QmI (QyT X.K "list" Qsl (tP X.K H0 A0 x pf)) E σ H:=exK λU hs F o rel e q=>by
 unfold QkY at e;split at e
 .rename_i d hx;refine Qg e λis e2 e=>?_;split at e
  .rename_i ds hp;cases e;refine⟨U,hs,F,d,true,is,.lst ds,rel,hx,e2,hp,λv0 w H2 Gm s2 hv0 fo=>⟨QxU fo.rp,?_⟩⟩;obtain⟨l,vsm,Gp,rfl,g1,g2,g3,g4,g5,g6,g7⟩:=(rel.ext s2).write .unit rfl ZaJ hx ⋯ hv0 fo;refine⟨l,vsm,rfl,rfl,g1,?_⟩;obtain⟨F',rel'⟩:=g7 [] [] [] (by simp[Rps]) (ZF _) rfl (λa=>⋯);exact q _ _ F' rel'
  .cases e
 .cases e
end
noncomputable def Qge:Expr->Bool
 | .ListComp .. =>false
 | .SetComp .. =>false
 | .DictComp .. =>false
 | _=>true
def Qfo(h:Qge e=true):swapsWith e t l env=pure false:=by
 cases e<;>first | rfl | cases h
noncomputable def Qdr(n:Nat)(Y:Th)(e:Expr):Option (Nat×DP):=match n with
 | 0=>none
 | n+1=>match e with
  | .Name x _=>(Y.slot x).map λi=>(i,Qam)
  | .Subscript a b _=>(Qdr n Y a).bind λq=>(Qs n Y b).map λfb=>(q.1,Qcr q.2 fb)
  | _=>none
def QgU:∀(n:Nat) (X:Cx) (Y:Th) (e:Expr) (q:Nat×DP),QY X Y->Qdr n Y e=some q->SPa X e q.1 q.2/\attributeBase e=λ_ env w=>w
 | 0,_,_,_,_,_,h=>(nn h)
 | n+1,X,Y,e,q,ok,h=>by
  cases e with
  | Name x pos=>
   change Option.map _ _=_ at h;obtain⟨i,hi,rfl⟩:=Zh.mp h;exact⟨Qvy (Qik ok.toCtxB hi),by funext a b c;rfl⟩
  | Subscript a b pos=>
   change Option.bind _ _=_ at h;obtain⟨q',fb,h1,h2,rfl⟩:=QaZ h;exact⟨QxG (QgU n X Y a q' ok h1).1 ((Qb7 n).E X Y b fb ok h2) (Qpj h2),by funext a b c;rfl⟩
  | _=>exact nn h
noncomputable def Qh0:Expr->Bool
 | .Name .. =>true
 | .Subscript _ (.Slice ..) _=>false
 | .Subscript (.Call ..) _ _=>false
 | .Subscript .. =>true
 | _=>false
noncomputable def Qoy:Operator->Option (D->D->Option D)
 | .Add=>some (gI λi j=>some (.int (i+j)))
 | .Sub=>some QaS
 | _=>none
def QsB(h:Qoy op=some g):∃r,OpR X (inplaceOp op) r/\QbB X.K g r:=by
 cases op<;>cases h
 .exact⟨_,Qxg,QgP (λi j d e=>by cases e;rfl) λi j d e H Q q=>by cases e;exact⟨i,j,rfl,rfl,q _ λ_=> .int_mk⟩⟩
 .exact⟨_,Qw2,QrE⟩
noncomputable def Qx2:Expr->Bool
 | .Slice .. =>true
 | _=>false
noncomputable def Qkz(n:Nat)(Y:Th)(o:Expr)(m:Str)(args:List Expr):Option DS:=match args with
  | []=>(Qdr n Y o).bind λq=>
    if m= "clear" then some (QkY q.1 q.2)else
    none
  | [e]=>if m= "append" then
     ((Qdr n Y o).bind λq=>(Qs n Y e).map λfa=>Qds q.1 q.2 fa)
    else
    none
  | _=>none
def Quh(ok:QY X Y)(h:Qkz n Y o m args=some f)(hl:(apos.endLine == cpos.line)=true):
  S1 X (.Expr (.Call (.Attribute o m apos) args [] cpos) pos) f:=by
 have base:∀{q:Nat×DP},Qdr n Y o=some q->SPa X o q.1 q.2/\attributeBase o m X.env (eval o X.env)=eval o X.env:=λ{q} h1=>by
  obtain⟨sp,ab⟩:=QgU n X Y o _ ok h1;exact⟨sp,by rw[ab]⟩
 have app:∀{e:Expr}{f:DS},m= "append" ->((Qdr n Y o).bind λq=>(Qs n Y e).map λfa=>Qds q.1 q.2 fa)=some f->S1 X (.Expr (.Call (.Attribute o m apos) [e] [] cpos) pos) f:=λ{e f} em h=>by
  obtain⟨q,fa,h1,h2,rfl⟩:=QaZ h;obtain⟨sp,hb⟩:=base h1;subst em;have he:=(Qb7 n).E X Y e fa ok h2;have st:=Qaw h2 [] X.env;have sa:∀H0 A0,PA X [e] (QqL (tV X.K H0 A0 fa) Qrf):=λH0 A0=>Qax (he H0 A0) QcM st;exact λH0 A0=>(Qie (QBu Zcl PySem.F.slot_list_append PySem.F.type_list_append Qmk (sp H0 A0) (sa H0 A0) hb (by rw[st];rfl) hl st rfl) rfl).mono λE σ H q=>QtZ q
 match args,h with
 | [],h=>
  unfold Qkz at h;dsimp only at h;obtain⟨⟨x,pf⟩,h1,h⟩:=bind1 h;obtain⟨sp,hb⟩:=base h1;by_cases e:m= "clear"
  .rw[if_pos e]at h;cases h;subst e;exact λH0 A0=>(Qie (Qsy Zcl PySem.F.slot_list_clear PySem.F.type_list_clear Qu7 (sp H0 A0) hb hl) rfl).mono λE σ H q=>Qvu q
  rw[if_neg e]at h;clear e;cases h
 | [e],h=>
  unfold Qkz at h;dsimp only at h;by_cases em:m= "append"
  .rw[if_pos em]at h;exact app em h
  rw[if_neg em]at h;clear em;clear app;cases h
 | _::_::_,h=>exact nn h
end HS
namespace HS
open PySem PySem.Spec L2
end HS
namespace HS
open PySem PySem.Spec L2 PyProof.Rows
section
variable {K:Fgg}{H0 H H':Hp}{A0:LAd}{hs:List (V×D×List Addr)}{U:En}{F:Nat->List Addr}{σ:L2.St}{x i j:Nat}{ds es:List D}{a:Addr}{vs:List V}{v vn:V}{dn:D}
end
mutual
noncomputable def Qj5(n:Nat)(Y:Th)(st:Stmt):Option DS:=match n with
 | 0=>none
 | n+1=>match st with
  | .Pass _=>some Qh
  | .Break _=>some Qu8
  | .Continue _=>some QuB
  | .Raise _ _ _=>some Qx
  | .Return (some e) _=>(Qs n Y e).map QO
  | .Expr (.Constant (.str _) _ _) _=>some Qh
  | .Expr (.Call (.Attribute o m apos) args [] cpos) _=>if(apos.endLine == cpos.line)=true then Qkz n Y o m args else none
  | .Expr (.Call (.Name x p) args [] cpos) _=>(Qs n Y (.Call (.Name x p) args [] cpos)).map Qbm
  | .Assign [.Name x _] e _=>(Y.QbC x).bind λi=>(Qs n Y e).map λfa=>Qp i (if Qh0 e=true then Qbq fa else fa)
  | .Assign [.Subscript a i _] e _=>match QhD Y a i e with
   | some q=>(Y.slot q.1).bind λx=>(Qs n Y q.2).map λfb=>Qfp x (Qa fb Qd)
   | none=>(Qdr n Y a).bind λq=>(Qs n Y i).bind λfi=>(Qs n Y e).map λfa=>QbF q.1 q.2 fi fa
  | .AugAssign (.Name x _) op e _=>(Y.QbC x).bind λi=>(Qoy op).bind λg=>(Qs n Y e).map λfa=>Qg5 g i fa
  | .AugAssign (.Subscript a i _) op e _=>(Qdr n Y a).bind λq=>(Qs n Y i).bind λfi=>(Qoy op).bind λg=>(Qs n Y e).map λfa=>Qdh g q.1 q.2 fi fa
  | .If c a b _=>(QaM n Y c).bind λg=>(QaN n Y a).bind λf1=>(QaN n Y b).map λf2=>sIf g f1 f2
  | .For tg iter body [] _=>(QnE Y tg).bind λt=>(Qig n Y tg iter).bind λfi=>(QaN n Y body).map λfb=>QaX fi t fb
  | .While c body [] _=>(QaM n Y c).bind λg=>(QaN n Y body).map λfb=>Qbu g fb
  | .Try a b c d p=>Y.tr (.Try a b c d p)
  | _=>none
noncomputable def QaN(n:Nat)(Y:Th)(sts:List Stmt):Option DS:=match n with
  | 0=>none
  | n+1=>match sts with
    | []=>some Qh
    | st::r=>
       (Qj5 n Y st).bind λf=>(QaN n Y r).map λg=>Qb f g
end
def Qpl(h:Qs n Y e=some f):Qx2 e=false:=by
 cases n with
 | zero=>exact nn h
 | succ n=>cases e<;>first | rfl | (exact nn h)
def Qx6(h:Qs n Y (.ListComp elt gens scope pos)=some f):∃m tg iter ifs t fi ft fe,n=m+1/\gens=[⟨tg,iter,ifs,0⟩]/\QnE (inner Y scope) tg=some t/\QkK Y scope t=true∧
  Qig m Y tg iter=some fi/\Qf0 m (inner Y scope) ifs=some ft/\Qs m (inner Y scope) elt=some fe/\f=QL fi t (Qh4 Y scope) ft fe:=by
 cases n with
 | zero=>exact nn h
 | succ n=>
  match gens,h with
  | [⟨tg,iter,ifs,k⟩],h=>
   by_cases hk:k=0
   .subst hk
    (conv at h=>lhs;whnf)
    refine Qg h λt ht h=>?_;split at h
    .rename_i hc;simp only[Zk]at hc;refine Qg h λfi h1 h=>?_;obtain⟨ft,fe,h2,h3,rfl⟩:=QaZ h;exact⟨n,tg,iter,ifs,t,fi,ft,fe,rfl,rfl,ht,hc.1,h1,h2,h3,rfl⟩
    .cases h
   .exfalso;cases k with
    | ofNat k=>
     cases k with
     | zero=>exact hk rfl
     | succ k=>exact nn h
    | negSucc k=>exact nn h
  | [],h=>exact nn h
  | ⟨_,_,_,.ofNat 0⟩::_::_,h=>exact nn h
  | ⟨_,_,_,.ofNat (k+1)⟩::_::_,h=>exact nn h
  | ⟨_,_,_,.negSucc k⟩::_::_,h=>exact nn h
def QwZ(ok:QY X Y)(hx:Y.QbC x=some i)(h:Qs n Y e=some fa):S1 X (.Assign [.Name x p] e pos) (Qp i fa):=by
 have hN:X.N.Nodup:=by rw[ok.N];exact ok.nd
 obtain⟨h1,h2,h3⟩:=Qck ok.toCtxB hx;by_cases hc:Qge e=true
 .have he:=(Qb7 n).E X Y e fa ok h;exact Qky λH0 A0=>QhU hN h1 h2 (he H0 A0) (Qfo hc) h3
 .cases e with
  | ListComp elt gens scope cpos=>
   obtain⟨m,tg,iter,ifs,t,fi,ft,fe,rfl,rfl,ht,hco,g1,g2,g3,rfl⟩:=Qx6 h;obtain⟨S,cap,inn⟩:=QnC ok hco;obtain⟨i1,i2⟩:=(Qb7 m).I X Y tg iter fi ok g1;exact Qw7 hN h1 h2 h3 ok.calm S i1 cap (λcl C fp s3 H3=>⟨QqZ (inn cl C fp s3 H3) ht,(Qb7 m).Ts _ _ ifs ft (inn cl C fp s3 H3) g2,(Qb7 m).E _ _ elt fe (inn cl C fp s3 H3) g3⟩) i2
  | SetComp _ _ _ _=>cases n<;>exact nn h
  | DictComp _ _ _ _ _=>cases n<;>exact nn h
  | _=>exact absurd rfl hc
def Qu0(ok:QY X Y)(hx:Y.QbC x=some i)(h:Qs n Y e=some fa)(ha:Qh0 e=true):S1 X (.Assign [.Name x p] e pos) (Qp i (Qbq fa)):=by
 have hN:X.N.Nodup:=by rw[ok.N];exact ok.nd
 obtain⟨h1,h2,h3⟩:=Qck ok.toCtxB hx;have hc:Qge e=true:=by cases e<;>first | rfl | cases ha
 have he:=Qvl ((Qb7 n).E X Y e fa ok h);exact Qky λH0 A0=>QhU hN h1 h2 (he H0 A0) (Qfo hc) h3
def QsZ:swapsWithSole [.Subscript a i p] e l env=pure false:=by
 cases e<;>rfl
structure Qzo (n:Nat):Prop where
 S:∀X Y st f,QY X Y->Qj5 n Y st=some f->S1 X st f
 Ss:∀X Y sts f,QY X Y->QaN n Y sts=some f->SS X sts f
def QAa(ih:Qzo n):∀X Y st f,QY X Y->Qj5 (n+1) Y st=some f->S1 X st f:=by
 intro X Y st f ok h;have hN:X.N.Nodup:=by rw[ok.N];exact ok.nd
 have E:=Qb7 n;cases st with
 | Pass pos=>change some Qh=some f at h;cases h;exact QwA
 | Break pos=>change some Qu8=some f at h;cases h;exact QuX
 | Continue pos=>change some QuB=some f at h;cases h;exact Qwg
 | Raise a b pos=>change some Qx=some f at h;cases h;exact Qtw
 | Return e pos=>
  cases e with
  | none=>exact nn h
  | some e=>
   change(Qs n Y e).map QO=some f at h;obtain⟨fa,h1,rfl⟩:=Zh.mp h;exact Qzz (E.E X Y e fa ok h1)
 | Expr e pos=>
  cases e with
  | Constant c k p=>
   cases c with
   | str x=>
    change some Qh=some f at h;cases h;exact λH0 A0=>Qy8.mono λE σ H ⟨U,hs,F,o,rel,e,q⟩=>by cases e;exact q σ H F rel
   | _=>exact nn h
  | Call fn args kws cpos=>
   cases fn with
   | Attribute o m apos=>
    cases kws with
    | nil=>
     change(if(apos.endLine == cpos.line)=true then Qkz n Y o m args else none)=some f at h;split at h
     .rename_i hl;exact Quh ok h hl
     .cases h
    | cons _ _=>exact nn h
   | Name x p=>
    cases kws with
    | nil=>
     change(Qs n Y (.Call (.Name x p) args [] cpos)).map Qbm=some f at h;obtain⟨fa,h1,rfl⟩:=Zh.mp h;exact λH0 A0=>Qw9 (Qie (E.E X Y _ fa ok h1 H0 A0) rfl)
    | cons _ _=>exact nn h
   | _=>exact nn h
  | _=>exact nn h
 | Assign ts e pos=>
  match ts,h with
  | [t],h=>
   cases t with
   | Name x p=>
    change((Y.QbC x).bind λi=>(Qs n Y e).map λfa=>Qp i (if Qh0 e=true then Qbq fa else fa))=some f at h;obtain⟨i,fa,h1,h2,rfl⟩:=QaZ h;split
    .rename_i ha;exact Qu0 ok h1 h2 ha
    .exact QwZ ok h1 h2
   | Subscript a i p=>
    have h:(match QhD Y a i e with | some q=>(Y.slot q.1).bind λx=>(Qs n Y q.2).map λfb=>Qfp x (Qa fb Qd) | none=>(Qdr n Y a).bind λq=>(Qs n Y i).bind λfi=>(Qs n Y e).map λfa=>QbF q.1 q.2 fi fa)=some f:=h;cases qe:QhD Y a i e with
    | some q=>
     rw[qe]at h;obtain⟨p1,p2,cp,j,r,rfl,rfl,rfl,hg⟩:=Qqf qe;obtain⟨x,fb,h1,h2,rfl⟩:=QaZ h;have st:=Qaw h2 [] X.env;exact QwJ (by have:=ok.units;lia) (Qik ok.toCtxB h1) (QcP ok.toCtxB hg).1 (ok.mg "tuple" nofun) (Qex (E.E X Y q.2 fb ok h2) Qhm st) st rfl (QhA QmK (λ_ _=> .Qbs) rfl) rfl
    | none=>
    rw[qe]at h;change((Qdr n Y a).bind λq=>(Qs n Y i).bind λfi=>(Qs n Y e).map λfa=>QbF q.1 q.2 fi fa)=some f at h;refine Qg h λq h1 h=>?_;obtain⟨fi,fa,h2,h3,rfl⟩:=QaZ h;obtain⟨sp,_⟩:=QgU n X Y a q ok h1;have ns:=Qpl h2;refine Qyj (E.E X Y e fa ok h3) sp (E.E X Y i fi ok h2) λte to ti he ho hi=>QzX he (Qy1 ho hi set_list ?_) QsZ ?_ rfl
    .intro v;cases i<;>first | rfl | (cases ns)
    .cases e<;>rfl
   | _=>exact nn h
  | [],h=>exact nn h
  | t::_::_,h=>cases t<;>exact nn h
 | AugAssign t op e pos=>
  cases t with
  | Name x p=>
   change((Y.QbC x).bind λi=>(Qoy op).bind λg=>(Qs n Y e).map λfa=>Qg5 g i fa)=some f at h;refine Qg h λi h1 h=>?_;obtain⟨g,fa,h2,h3,rfl⟩:=QaZ h;obtain⟨r,o1,o2⟩:=QsB (X:=X) h2;obtain⟨g1,g2,g3⟩:=Qck ok.toCtxB h1;exact QyA o1 o2 (λte ti he hp=>QzI hN g1 g2 he hp g3) (E.E X Y e fa ok h3)
  | Subscript a i p=>
   change((Qdr n Y a).bind λq=>(Qs n Y i).bind λfi=>(Qoy op).bind λg=>(Qs n Y e).map λfa=>Qdh g q.1 q.2 fi fa)=some f at h;refine Qg h λq h1 h=>?_;refine Qg h λfi h2 h=>?_;obtain⟨g,fa,h3,h4,rfl⟩:=QaZ h;obtain⟨r,o1,o2⟩:=QsB (X:=X) h3;obtain⟨sp,_⟩:=QgU n X Y a q ok h1;have ns:=Qpl h2;exact QwO o1 o2 (E.E X Y e fa ok h4) sp (E.E X Y i fi ok h2) λov iv new=>by cases i<;>first | rfl | (cases ns)
  | _=>exact nn h
 | If c a b pos=>
  change((QaM n Y c).bind λg=>(QaN n Y a).bind λf1=>(QaN n Y b).map λf2=>sIf g f1 f2)=some f at h;refine Qg h λg h1 h=>?_;obtain⟨f1,f2,h2,h3,rfl⟩:=QaZ h;exact QAw (E.T X Y c g ok h1) (ih.Ss X Y a f1 ok h2) (ih.Ss X Y b f2 ok h3)
 | For tg iter body els pos=>
  cases els with
  | nil=>
   change((QnE Y tg).bind λt=>(Qig n Y tg iter).bind λfi=>(QaN n Y body).map λfb=>QaX fi t fb)=some f at h;refine Qg h λt h1 h=>?_;obtain⟨fi,fb,h2,h3,rfl⟩:=QaZ h;obtain⟨i1,i2⟩:=E.I X Y tg iter fi ok h2;exact QyL ok.pass ok.calm i1 (QqZ ok h1) (ih.Ss X Y body fb ok h3) i2
  | cons _ _=>exact nn h
 | While c body els pos=>
  cases els with
  | nil=>
   change((QaM n Y c).bind λg=>(QaN n Y body).map λfb=>Qbu g fb)=some f at h;obtain⟨g,fb,h1,h2,rfl⟩:=QaZ h;exact QrY ok.pass (E.T X Y c g ok h1) (ih.Ss X Y body fb ok h2)
  | cons _ _=>exact nn h
 | Try a b c d pos=>exact ok.tr _ _ h
 | _=>exact nn h
def Qj7:∀n,Qzo n
 | 0=>⟨λ_ _ _ _ _ h=>(nn h),λ_ _ _ _ _ h=>(nn h)⟩
 | n+1=>by
  have ih:=Qj7 n;refine⟨QAa ih,λX Y sts f ok h=>?_⟩
  match sts,h with
  | [],h=>change some Qh=some f at h;cases h;exact Qrt
  | st::r,h=>
   change((Qj5 n Y st).bind λf=>(QaN n Y r).map λg=>Qb f g)=some f at h;obtain⟨fs,fr,h1,h2,rfl⟩:=QaZ h;exact Qpq (ih.S X Y st fs ok h1) (ih.Ss X Y r fr ok h2)
noncomputable def Qkk(n:Nat)(Y:Th)(st:Stmt):Option DS:=match Y.tr st with
 | some f=>some f
 | none=>Qj5 n Y st
def Qsq{X:Cx}{Y:Th}{n:Nat}{st:Stmt}{f:DS}(ok:QY X Y)(h:Qkk n Y st=some f):S1 X st f:=by
 unfold Qkk at h;split at h
 .rename_i g hg;cases h;exact ok.tr st _ hg
 .exact(Qj7 n).S X Y st f ok h
noncomputable def Qau(k:Nat)(ds:List D):En:=ds.map (λd=>some (d,d.flat))++List.replicate (k-ds.length) none
noncomputable def outD:Out->Option (D×Bool)
 | .rt d fr=>some (d,fr)
 | .nx _=>some (.non,true)
 | _=>none
noncomputable def Qu(k:Nat)(f:DS):Den:=λds=>(f (Qau k ds)).bind outD
def Rps.parts{K:Fgg}{H:Hp}:∀{ds:List D}{vs:List V}{F:LAd},Rps K H ds vs F→
  ∃Fs:List (List Addr),(∀L∈Fs,∀a∈L,a∈F)/\∀(i:Nat) (d:D),ds[i]? =some d->∃v,vs[i]? =some v/\Rp K H d v (Fs.getD i [])
 | [],_,_,h=>⟨[],λL hL=>by simp at hL,λi d e=>by simp at e⟩
 | d::ds,_,_,h=>by
  simp only[Rps]at h;obtain⟨v,ws,F1,F2,rfl,rfl,r,q⟩:=h;obtain⟨Fs,h1,h2⟩:=Rps.parts q;refine⟨F1::Fs,λL hL a ha=>?_,λi d' e=>?_⟩
  .rcases Zm.mp hL with rfl | hL
   .exact Zg _ ha
   .exact Zf _ (h1 L hL a ha)
  .cases i with
   | zero=>simp at e;subst e;exact⟨v,⋯,by simpa using r⟩
   | succ i=>obtain⟨w,hw,hr⟩:=h2 i d' (by simpa using e);exact⟨w,by simpa using hw,by simpa using hr⟩
def QiT{k:Nat}{ds:List D}{i:Nat}{d:D}{b:Bool}(h:(Qau k ds)[i]? =some (some (d,b))):ds[i]? =some d/\b=d.flat:=by
 unfold Qau at h;by_cases hi:i<ds.length
 .rw[Zaw (by simpa using hi),Zp]at h;cases e:ds[i]? with
  | none=>rw[e]at h;cases h
  | some a=>rw[e]at h;cases h;exact⟨rfl,rfl⟩
 .rw[Zbn (by simpa using hi),Zcg]at h;split at h<;>cases h
def QhV{K:Fgg}{H:Hp}{ds:List D}{vs:List V}{F:LAd}{N:List Str}(r:Rps K H ds vs F):∃F0,Rel K H F [] (Qau N.length ds) F0 (start N vs) H:=by
 obtain⟨Fs,h1,h2⟩:=r.parts;have hl:=r.length;have src:∀i a,a∈Fs.getD i []->a∈F:=λi a ha=>by
  by_cases hi:i<Fs.length
  .have:Fs.getD i []∈Fs:=by rw[Zal,ZH hi];exact List.getElem_mem hi
   exact h1 _ this a ha
  .rw[Zal,Zs ⋯]at ha;simp at ha
 refine⟨λi=>Fs.getD i [],?_,λi d b e=>?_,λi d e=>?_,λi d b e a ha=> .inr (src i a ha),λt ht=>absurd ht ⋯,QN.refl _⟩
 .unfold Qau L2.start;simp[hl]
 .obtain⟨e1,_⟩:=QiT e;obtain⟨v,hv,hr⟩:=h2 i d e1;refine⟨v,?_,hr⟩;have hi:i<vs.length:=(Zi.mp hv).1;unfold L2.start;rw[Zaw (by simpa using hi),Zp,hv];rfl
 .obtain⟨e1,e2⟩:=QiT e;obtain⟨v,hv,hr⟩:=h2 i d e1;have z:Fs.getD i []=[]:=hr.QbW e2.symm;simp only[z];exact⟨(QdK d e2.symm).symm,ZaJ,λa ha=>by simp at ha,λ_ _ _ _ _ a ha=>by simp at ha,λ_ _ a ha=>by simp at ha⟩
section
variable (P:Program) (w:World) (K:Fgg) (mg:Str->Option Value) (base:Heap)
def Known(k:Nat)(x:Str)(r:FnR):Prop:=∃f fd ps,QbL P w K mg base CX0 k f fd ps (spV K r.n r.den)/\mg x=some (.ref f)/\PySem.W.keepIn K (.ref f)=true∧
 ∀m,m<=r.dfl.length->∃ds dvs,Binds K fd ps ds/\Qz dvs ds/\∀H,Rps K H (r.dfl.drop (r.dfl.length-m)) dvs []
def QbD(k:Nat)(Γ:List (Str×FnR)):Prop:=∀x r,look x Γ=some r->Known P w K mg base k x r
structure QdN (cs:List (Str×Cn)):Prop where
 bn:∀x∈Qoi,mg x=none
 cs:∀x i,look x cs=some i->∃t,mg x=some (cnV i t)
end
section
variable {P:Program}{w:World}{K:Fgg}{mg:Str->Option Value}{base:Heap}
def QbD.nil{k:Nat}:QbD P w K mg base k []:=λx r h=>by cases h
def Known.mono{j k:Nat}{x:Str}{r:FnR}(h:Known P w K mg base j x r)(hk:j<=k):Known P w K mg base k x r:=by
 obtain⟨f,fd,ps,h1,h2⟩:=h;exact⟨f,fd,ps,h1.mono hk,h2⟩
def QbD.cons{k:Nat}{Γ:List (Str×FnR)}{x:Str}{r:FnR}(t:QbD P w K mg base k Γ)(h:Known P w K mg base (k+1) x r):QbD P w K mg base (k+1) ((x,r)::Γ):=λy q e=>by
 unfold look at e;split at e
 .rename_i z;cases e;subst z;exact h
 .exact(t y q e).mono (ZaK _)
noncomputable def namesOf(sc:Scope):List Str:=(sc.names.filter λy=>QvK y.2).map (·.1)
noncomputable def QeY(st:Stmt)(Γ:List (Str×FnR))(cs:List (Str×Cn)):Th:=⟨namesOf (Qr st),(Qr st).names,Γ,cs,λ_=>none,λ_=>none⟩
def QpB{CX:CXT}{xe:Value->Shared->Prop}{st:Stmt}{ps:List Str}{qual:Str}{f:Addr}{cdv:Value}{A:Around}{outer:List Env}{s:Shared}{H:Hp}{E:XK}{k:Nat}{Γ:List (Str×FnR)}{cs:List (Str×Cn)}(S:QbM (namesOf (Qr st)) ps (Qr st))(M:QdN mg cs)(tab:QbD P w K mg base k Γ)
  (hr:QaQ k (A.deeper (envOfC qual (Qr st) s.heap.objs.size f cdv))) (hp:PassesOwn (model P w) (A.deeper (envOfC qual (Qr st) s.heap.objs.size f cdv)) (envOfC qual (Qr st) s.heap.objs.size f cdv) xe):
  QY ((Qec CX P w K mg base (namesOf (Qr st)) qual (Qr st) f cdv A outer s H E).Qe1 xe) (QeY st Γ cs) where
 N:=rfl
 nd:=S.nd
 lc:=λx h=>by rw[Qbk]at h;exact h
 ce:=λx h=>by rw[Qbk]at h;exact⟨h,rfl⟩
 fe:=λx h=>by rw[Qbk]at h;exact absurd rfl (S.nofree _ (Zar h))
 gl:=λx h=>by rw[Qbk]at h;exact h
 calm:=decide_eq_true hr.hd
 pass:=hp
 tr:=λ_ _ h=>by cases h
 te:=λ_ _ h=>by cases h
 units:=hr.units
 mg:=M.bn
 fns:=λx r h=>by
  obtain⟨f',fd,ps',h1,h2,h3,h4⟩:=tab x r h;exact⟨k,f',fd,ps',h1,hr,h2,h3,h4⟩
 cs:=M.cs
def QrK{st:Stmt}{ps:List Str}{qual:Str}{f:Addr}{cdv:Value}{A:Around}{outer:List Env}{s:Shared}{H:Hp}{E:XK}{k:Nat}{Γ:List (Str×FnR)}{cs:List (Str×Cn)}(S:QbM (namesOf (Qr st)) ps (Qr st))(M:QdN mg cs)(tab:QbD P w K mg base k Γ)
  (hr:QaQ k (A.deeper (envOfC qual (Qr st) s.heap.objs.size f cdv))):QY (Qec CX0 P w K mg base (namesOf (Qr st)) qual (Qr st) f cdv A outer s H E).nox (QeY st Γ cs):=QpB S M tab hr PassesOwn.never
def Qte{x qual:Str}{st:Stmt}{f:Addr}{fd:FuncData}{ps:List Str}{k n:Nat}{Γ:List (Str×FnR)}{cs:List (Str×Cn)}{g:DS}(F:Fun K x qual st f fd)(S:QbM (namesOf (Qr st)) ps (Qr st))(M:QdN mg cs)(tab:QbD P w K mg base k Γ)
  (hc:QaN n (QeY st Γ cs) (QaR st)=some g):QbL P w K mg base CX0 (k+1) f fd ps (spV K ps.length (Qu (namesOf (Qr st)).length g)):=by
 refine F.ok S (Qpn rfl) λcdv A outer s H vs Q E hr h=>?_;obtain⟨ds,L,d,fr,rps,hl,hd,q⟩:=h;refine⟨_,(Qj7 n).Ss _ _ _ g (QrK S M tab hr) hc H L,?_⟩;obtain⟨F0,rel⟩:=QhV (N:=namesOf (Qr st)) rps;unfold Qu at hd;refine Qg hd λo ho hd=>?_;refine⟨_,[],F0,o,rel,ho,?_⟩;cases o with
 | nx U=>
  cases hd;exact λσ H' F' rel'=>q .non H' [] ⟨rel'.same,.QkN,λa ha=>by simp at ha,λ_=>⟨ZaJ,rfl,λa ha=>by simp at ha⟩⟩
 | bk U=>cases hd
 | ct U=>cases hd
 | rt d' fr'=>
  cases hd;exact λv H' G r=>q v H' G r
structure Fact (K:Fgg) (x:Str) (st:Stmt):Prop where
 ex:∃f fd,Fun K x x st f fd/\PySem.W.nsIn K mainGlobals x=some (some (.ref f))
def fact_mk{x:Str}{st:Stmt}{f:Addr}{oc:Value}{od an:Option Addr}{osl:Array (Option Value)}{kV doc pm cdv ct:Value}(a:PySem.W.nsIn K mainGlobals x=some (some (.ref f)))(l:K.lookup f=some ⟨oc,od,.func (PySem.W.fnOf x x (Qey st) (QaR st) (Qr st) .none kV doc pm an cdv ct),osl⟩)
  (c:PySem.W.codeIn K cdv x=true) (k:PySem.W.keepIn K (.ref f)=true):Fact K x st:=⟨f,_,QyR l c k,a⟩
def l0{α:Type}{P:List α->Prop}(h:P []):∀l:List α,l.length=0->P l:=λl e=>(List.length_eq_zero_iff.mp e).symm▸h
def lc{α:Type}{n:Nat}{P:List α->Prop}(h:∀a,∀l:List α,l.length=n->P (a::l)):∀l:List α,l.length=n+1->P l
 | a::l,e=>h a l (Nat.succ.inj e)
def Qba(x:Str)(st:Stmt)(ps:List Str):Prop:=∀(kV doc pm:Value) (an:Option Addr) (cdv ct:Value) (us:List Value),us.length=ps.length->bindArgs (PySem.W.fnOf x x (Qey st) (QaR st) (Qr st) .none kV doc pm an cdv ct) ⟨us,[]⟩=pure (ps.zip us)
def QeE{h:Heap}{x:Str}{st:Stmt}{ps:List Str}{k n:Nat}{Γ:List (Str×FnR)}{cs:List (Str×Cn)}{g:DS}(X:K.In h)(G:h.Ns mainGlobals mg)(F:Fact K x st)(S:QbM (namesOf (Qr st)) ps (Qr st))(B:Qba x st ps)(M:QdN mg cs)(tab:QbD P w K mg base k Γ)
  (hc:QaN n (QeY st Γ cs) (QaR st)=some g):Known P w K mg base (k+1) x ⟨ps.length,[],Qu (namesOf (Qr st)).length g⟩:=by
 obtain⟨f,fd,Fn,a⟩:=F.ex;refine⟨f,fd,ps,Qte Fn S M tab hc,Zbb X G a,Fn.kp,λm hm=>⟨[],[],Fn.binds (B ·),.nil,λH=>by simp[Rps]⟩⟩
end
end HS
namespace HS
open PySem PySem.Spec L2 PyProof.Rows
def Qj3:∀(ns:List Int) (n:Int),n∈ns->Builtin.Int.intBits n<=PySem.W.WData.weightAll (ns.map PySem.W.WData.int)
 | a::r,n,h=>by
  have e:PySem.W.WData.weight (.int a)=Builtin.Int.intBits a:=by simp only[PySem.W.WData.weight,Builtin.Int.intBits]
  simp only[ZA,PySem.W.WData.weightAll,e];rcases Zm.mp h with rfl | h
  .lia
  .have:=Qj3 r n h;lia
def Qru{ns:List Int}(h:PySem.W.WData.layableAll [.list (ns.map .int)]=true)(k:Nat):Builtin.Int.intBits (ns.getD k 0)<=2^20:=by
 have h1:=(PySem.W.layW_cons h).1;simp only[PySem.W.WData.layable,Zk,decide_eq_true_eq,PySem.W.WData.weight]at h1;rw[Zal];cases e:ns[k]? with
 | none=>show Builtin.Int.intBits 0<=2^20;decide
 | some n=>exact Zw (Qj3 ns n (Zao e)) (of_decide_eq_true h1.2)
open PySem.W Att PySem.Calls in
def Qon{l:OpenLaw}{n:Nat}{q:Program}{loose:List Str}{XP:(Str->Option Value)->Heap->Prop}{YP:World->Heap->Prop}{d:DefRec}
  (hn:l.most=some n) (hdf:d.params.defaults=[])
  (call:∀(w:World) (s₀ s₁:Shared) (mg mb:Str->Option Value) (fa:Addr) (o:Obj) (pm cd doc:Value) (a:Addr) (vs:List Value) (ns:List Int),
   Ground q loose [] XP w s₀ mg mb s₁.heap->YP w s₁.heap→
   s₁.heap.get? fa=some o->o.data= .func (docDef d.name d.params d.body d.scope pm cd doc)->s₁.heap.CodeRec cd d.name->mg d.name=some (.ref fa)→
   s₁.heap.get? a=some {cls:= .type "list",data:= .seq vs.toArray}->IntsAre vs ns->ns.length<=n->WData.layableAll [.list (ns.map .int)]=true->s₁.gens= #[]→
   codeAny (model l.prog w) callerA (.call (.ref fa) ⟨[.ref a],[]⟩) (λr s'=>r= .ok (.ret (.bool true))/\OldK s₁.heap s'.heap/\s'.os=s₁.os/\AllBare s'.gens) s₁):
  WalkO q loose XP YP l.row.toRowW d [] (λf vs=>PySem.call f vs):=by
 intro w s₀ s₁ mg mb G Y fa o pm cd doc dV kV ho hd hcd hD hmg hg args vals as hpre hlay hrd hwl hlo;obtain rfl:dV= .none:=Dflts.none hD hdf;obtain rfl:kV= .none:=Dflts.noKw hD;obtain⟨a,vs,ns,rfl,rfl,hobj,hints,hlen⟩:=QsT hn hpre hwl;refine enter_call (codeAny_mono (call w s₀ s₁ mg mb fa o pm cd doc a vs ns G Y ho (fd_plain hd) hcd hmg hobj hints hlen hlay hg) λr s' hq=>?_);obtain⟨rfl,h2,h3,h4⟩:=hq;exact⟨.inl ⟨.bool true,.bool true,[],rfl,λ_=>rfl,.bool true,Qrn l _,λ_=>⟨List.Pairwise.nil,λ_ hm=>(nomatch hm)⟩⟩,h2,h3,h4⟩
def Qsm{l:PySem.W.OpenLaw}{k:Nat}{q:Program}{loose:List Str}{XP:(Str->Option Value)->Heap->Prop}{YP:World->Heap->Prop}{d:DefRec}{K:Params->PySem.W.Frag}{den:Den}{x:Str}
  (hn:l.most=some 63) (hdf:d.params.defaults=[]) (hr:QaQ k callerA) (hY:∀(w:World) (h:Heap),YP w h->(K w.params).In h)
  (hden:∀ns:List Int,ns.length<=63->(∀k:Nat,Builtin.Int.intBits (ns.getD k 0)<=2^20)->∃fr,den [.lst (ns.map .int)]=some (.bl true,fr))
  (F:∀(w:World) (mg:Str->Option Value) (fa:Addr) (h:Heap),(K w.params).In h->h.Ns mainGlobals mg->mg d.name=some (.ref fa)→
   ∃fd:FuncData,(∀(s:Shared) (u:Value),BindsTo s fd ⟨[u],[]⟩ [(x,u)])∧
    ∀base:Heap,(K w.params).In base->base.Ns mainGlobals mg->QbL l.prog w (K w.params) mg base CX0 k fa fd [x] (spV (K w.params) 1 den)):
  PySem.W.WalkO q loose XP YP l.row.toRowW d [] (λf vs=>PySem.call f vs):=by
 refine Qon hn hdf λw s₀ s₁ mg mb fa o pm cd doc a vs ns G Y ho hd hcd hmg hobj hints hlen hlay hg=>?_;have KX:=hY w _ Y;obtain⟨fd,hb,hF⟩:=F w mg fa _ KX G.T.g hmg;have h63:(63:Nat)<=sizeLine:= ∅
 refine Qui KX G.T.g G.T.b G.T.builtins G.T.nolimit hg hobj hints (Zw hlen h63) hr hF hb (λH hO hS=>?_) λH e s' z=>z;have fx:Fix (K w.params) H a (ns.map V.int):=by
  rcases hS with(h | ⟨o,h⟩) | ⟨o,its,n,hk,hc,hdn,hda,hz,rv⟩
  .rcases hO a with z | ⟨o,xs,z⟩<;>rw[h]at z<;>cases z
  .exact .inl ⟨o,h⟩
  .have e:=KX a o hk;rw[hobj]at e;cases e;cases hda;exact .inr ⟨vs,_,hk,by rw[Zj];exact Zw hlen h63,by simpa using rv⟩
 obtain⟨fr,hfr⟩:=hden ns hlen (Qru hlay);have rp:Rp (K w.params) H (.lst (ns.map .int)) (.ref a) []:=by
  simp only[Rp];refine⟨by rw[Zj];exact Zw hlen h63,a,_,rfl,.inr ⟨fx,?_⟩⟩;have gen:∀ns:List Int,Rps (K w.params) H (ns.map .int) (ns.map .int) []:=by
   intro ns
   induction ns with
   | nil=>simp[Rps]
   | cons n ns ih=>simp only[ZA,Rps];exact⟨_,_,[],[],rfl,rfl,.int_mk,ih⟩
  exact gen ns
 refine⟨[.lst (ns.map .int)],[],.bl true,fr,?_,rfl,hfr,λv H' G r=>r.rp.QeF⟩;simp only[Rps];exact⟨_,_,[],[],rfl,rfl,rp,rfl,rfl⟩
def QAU{P:Program}{w:World}{K:Fgg}{mg:Str->Option Value}{h:Heap}{x y:Str}{st:Stmt}{fa:Addr}{k n:Nat}{Γ:List (Str×FnR)}{cs:List (Str×Cn)}{g:DS}(X:K.In h)(G:h.Ns mainGlobals mg)(hmg:mg x=some (.ref fa))
  (F:Fact K x st) (S:QbM (namesOf (Qr st)) [y] (Qr st)) (B:Qba x st [y]) (M:QdN mg cs) (tab:∀base:Heap,QbD P w K mg base k Γ) (hc:QaN n (QeY st Γ cs) (QaR st)=some g):
  ∃fd:FuncData,(∀(s:Shared) (u:Value),BindsTo s fd ⟨[u],[]⟩ [(y,u)])∧
    ∀base:Heap,K.In base->base.Ns mainGlobals mg->QbL P w K mg base CX0 (k+1) fa fd [y] (spV K 1 (Qu (namesOf (Qr st)).length g)):=by
 obtain⟨f,fd,Fn,a⟩:=F.ex;have e:=hmg.symm.trans (Zbb X G a);cases e;refine⟨fd,λs u=>?_,λbase _ _=>Qte Fn S M (tab base) hc⟩;obtain⟨oc,od,kV,doc,pm,an,cdv,ct,osl,rfl,lk,hcd⟩:=Fn.ex;exact .of_eq (B kV doc pm an cdv ct [u] rfl)
end HS
namespace HS
open PySem PySem.Spec PyProof.Rows L2
section
variable {P:Program}{w:World}{K:Fgg}{mg:Str->Option Value}{base:Heap}
def Qq3{h:Heap}{x:Str}{st:Stmt}{ps:List Str}{k:Nat}(X:K.In h)(G:h.Ns mainGlobals mg)(F:Fact K x st)(B:Qba x st ps):Known P w K mg base k x ⟨ps.length,[],λ_=>none⟩:=by
 obtain⟨f,fd,Fn,a⟩:=F.ex;refine⟨f,fd,ps,⟨λvs H Q E h=>?_,λA outer s H args us vs Q E _ _ _ _ h=>?_⟩,Zbb X G a,Fn.kp,λm hm=>⟨[],[],Fn.binds (B ·),.nil,λH=>by simp[Rps]⟩⟩
 .obtain⟨ds,L,d,fr,rps,hl,hd,q⟩:=h;cases hd
 .obtain⟨ds,L,d,fr,rps,hl,hd,q⟩:=h;cases hd
end
end HS
namespace HS
open PySem L2
noncomputable def pairD(p:Int×Int):D:= .tup [.int p.1,.int p.2]
noncomputable def QcC(p:Int×Int×Bool):D:= .tup [.int p.1,.int p.2.1,.bl p.2.2]
noncomputable def QK(ns:List Int):D:= .lst (ns.map .int)
noncomputable def QX(ps:Lpp):D:= .lst (ps.map pairD)
noncomputable def QM(m:Int)(R L:Lpp):D:= .tup [.int m,QX R,QX L]
def Qbo{α:Type}{f:α->D}(h:∀a,(f a).flat=true):∀l:List α,Q7 (l.map f)=true
 | []=>rfl
 | a::l=>by simp[Q7,h a,Qbo h l]
@[simp] theorem QBB(i:Int):(D.int i).flat=true:=rfl
@[simp] theorem QCu(i:Bool):(D.bl i).flat=true:=rfl
@[simp] theorem QCp:D.non.flat=true:=rfl
@[simp] theorem QB1(x:Str):(D.str x).flat=true:=rfl
@[simp] theorem QCl(xs:List D):(D.lst xs).flat=false:=rfl
@[simp] theorem QCc(xs:List D):(D.tup xs).flat=Q7 xs:=rfl
@[simp] theorem QBv:Q7 []=true:=rfl
@[simp] theorem QAq(d:D)(ds:List D):Q7 (d::ds)=(d.flat && Q7 ds):=rfl
@[simp] theorem QBy(p:Int×Int):(pairD p).flat=true:=rfl
@[simp] theorem QBH(p:Int×Int×Bool):(QcC p).flat=true:=rfl
@[simp] theorem QBw(ns:List Int):(QK ns).flat=false:=rfl
@[simp] theorem QBb(ns:Lpp):(QX ns).flat=false:=rfl
@[simp] theorem QAh(ps:Lpp):Q7 (ps.map pairD)=true:=Qbo (λ_=>rfl) _
@[simp] theorem Qqx(ps:List (Int×Int×Bool)):Q7 (ps.map QcC)=true:=Qbo (λ_=>rfl) _
@[simp] theorem Qq5(ns:List Int):Q7 (ns.map .int)=true:=Qbo (λ_=>rfl) _
@[simp] theorem QBz(xs ys:List D):Q7 (xs++ys)=(Q7 xs && Q7 ys):=Qci xs ys
def Run(f:DS)(U:En)(Q:Out->Prop):Prop:=∃o,f U=some o/\Q o
def Nx(Q:En->Prop):Out->Prop
 | .nx U=>Q U
 | _=>False
def Rt(Q:D->Bool->Prop):Out->Prop
 | .rt d fr=>Q d fr
 | _=>False
def Run.mono(h:Run f U Q)(m:∀o,Q o->Q' o):Run f U Q':=let ⟨o,h1,h2⟩:=h;⟨o,h1,m o h2⟩
def Ql(h:Q (.nx U)):Run Qh U Q:=⟨_,rfl,h⟩
def run_seq(h:Run f U (Nx λU'=>Run g U' Q)):Run (Qb f g) U Q:=by
 obtain⟨o,h1,h2⟩:=h;cases o with
 | nx U'=>
  obtain⟨o',h3,h4⟩:=h2;exact⟨o',by simp[Qb,h1,h3],h4⟩
 | _=>exact False.elim h2
def QS(h:Run f U λo=>match o with | .nx U'=>Run g U' Q | o=>Q o):Run (Qb f g) U Q:=by
 obtain⟨o,h1,h2⟩:=h;cases o with
 | nx U'=>
  obtain⟨o',h3,h4⟩:=h2;exact⟨o',by simp[Qb,h1,h3],h4⟩
 | bk U'=>exact⟨_,by simp[Qb,h1],h2⟩
 | ct U'=>exact⟨_,by simp[Qb,h1],h2⟩
 | rt d fr=>exact⟨_,by simp[Qb,h1],h2⟩
def QH(h:fa U=some r)(q:Q (.nx (asg i r U))):Run (Qp i fa) U Q:=⟨_,by simp[Qp,h],q⟩
def Qgg(h:fa U=some r)(q:Q (.rt r.d (r.norm.fr && decide r.norm.M.Nodup))):Run (QO fa) U Q:=⟨_,by simp[QO,h],q⟩
def Q5(h:g U=some b)(q1:b=true->Run f1 U Q)(q2:b=false->Run f2 U Q):Run (sIf g f1 f2) U Q:=by
 cases b with
 | true=>obtain⟨o,h1,h2⟩:=q1 rfl;exact⟨o,by simp[sIf,h,h1],h2⟩
 | false=>obtain⟨o,h1,h2⟩:=q2 rfl;exact⟨o,by simp[sIf,h,h1],h2⟩
def Q0(h:Run f (Qau k ds) (Rt λd' fr'=>d'=d/\fr'=fr)):Qu k f ds=some (d,fr):=by
 obtain⟨o,h1,h2⟩:=h;unfold Qu;cases o with
 | rt d' fr'=>obtain⟨rfl,rfl⟩:=h2;rw[h1];rfl
 | _=>exact False.elim h2
def Qos{α:Type}{t:Tg}{fb:DS}{toD:α->D}{Q:Out->Prop}(I:Nat->En->Prop):∀(xs ys:List α) (U:En),I ys.length U→
  (∀i x U,(ys++xs)[i]? =some x->ys.length<=i->I i U->∃U1,QbY t (toD x) U=some U1/\Run fb U1 λo=>match o with | .nx U2=>I (i+1) U2 | .ct U2=>I (i+1) U2 | .bk U2=>Q (.nx U2) | .rt d fr=>Q (.rt d fr))→
  (∀U,I (ys++xs).length U->Q (.nx U))->Run (QcO t fb (xs.map toD)) U Q
 | [],ys,U,h0,_,fin=>⟨_,rfl,fin U (by simpa using h0)⟩
 | x::xs,ys,U,h0,turn,fin=>by
  obtain⟨U1,h1,o,h2,h3⟩:=turn ys.length x U ⋯ (Zd _) h0;have next:∀U2,I (ys.length+1) U2->Run (QcO t fb (xs.map toD)) U2 Q:=λU2 hi=>
   Qos I xs (ys++[x]) U2 (by simpa using hi) (λi y U' e hl=>turn i y U' (by simpa using e) (by simp at hl;lia)) (λU' h=>fin U' (by simpa using h))
  cases o with
  | nx U2=>obtain⟨o',e1,e2⟩:=next U2 h3;exact⟨o',by simp[QcO,h1,h2,e1],e2⟩
  | ct U2=>obtain⟨o',e1,e2⟩:=next U2 h3;exact⟨o',by simp[QcO,h1,h2,e1],e2⟩
  | bk U2=>exact⟨_,by simp[QcO,h1,h2],h3⟩
  | rt d fr=>exact⟨_,by simp[QcO,h1,h2],h3⟩
def Qay{α:Type}{fi:DI}{t:Tg}{fb:DS}{toD:α->D}{U:En}{ir:IR}{Q:Out->Prop}(xs:List α)(I:Nat->En->Prop)(h:fi U=some ir)(hx:ir.items=xs.map toD)(h0:I 0 (QbG ir.M U))
  (turn:∀i x U,xs[i]? =some x->I i U->∃U1,QbY t (toD x) U=some U1/\Run fb U1 λo=>match o with | .nx U2=>I (i+1) U2 | .ct U2=>I (i+1) U2 | .bk U2=>Q (.nx U2) | .rt d fr=>Q (.rt d fr))
  (fin:∀U,I xs.length U->Q (.nx U)):Run (QaX fi t fb) U Q:=by
 obtain⟨o,h1,h2⟩:=Qos (t:=t) (fb:=fb) (toD:=toD) (Q:=Q) I xs [] (QbG ir.M U) h0 (λi x U e _=>turn i x U (by simpa using e)) (λU h=>fin U (by simpa using h));exact⟨o,by simp[QaX,h,hx,h1],h2⟩
def Qmd{α:Type}{t:Tg}{ft:DT}{fe:DE}{Uc:En}{toD:α->D}{keep:α->Bool}{out:α->D}:∀(xs:List α) (acc:List D),
  (∀x∈xs,∃U1,QbY t (toD x) Uc=some U1/\ft U1=some (keep x)/\(keep x=true->∃r,fe U1=some r/\r.d=out x/\r.norm.fr=true))→
  (xs.map toD).foldlM (Qfl t ft fe Uc) (acc,true)=some (acc++(xs.filter keep).map out,true)
 | [],acc,_=>by simp
 | x::xs,acc,h=>by
  obtain⟨U1,h1,h2,h3⟩:=h x Ze;have ih:=λacc=>Qmd xs acc (λy hy=>h y (Zb _ hy));cases hk:keep x with
  | false=>
   have e:Qfl t ft fe Uc (acc,true) (toD x)=some (acc,true):=by simp[Qfl,h1,h2,hk]
   simp[Zck,e,ih,hk]
  | true=>
   obtain⟨r,h4,h5,h6⟩:=h3 hk;have e:Qfl t ft fe Uc (acc,true) (toD x)=some (acc++[out x],true):=by simp[Qfl,h1,h2,hk,h4,h5,h6]
   simp[Zck,e,ih,hk]
def QfW{α:Type}{fi:DI}{t:Tg}{cap:List (Option Nat)}{ft:DT}{fe:DE}{U:En}{ir:IR}{toD:α->D}{keep:α->Bool}{out:α->D}(xs:List α)(h:fi U=some ir)(hx:ir.items=xs.map toD)
  (turn:∀x∈xs,∃U1,QbY t (toD x) (Qep cap U)=some U1/\ft U1=some (keep x)/\(keep x=true->∃r,fe U1=some r/\r.d=out x/\r.norm.fr=true)):
  QL fi t cap ft fe U=some ⟨.lst ((xs.filter keep).map out),true,[]⟩:=by
 unfold QL;rw[h,Za,hx,Qmd xs [] turn];simp
def QI{α:Type}{fi:DI}{t:Tg}{cap:List (Option Nat)}{fe:DE}{U:En}{ir:IR}{toD:α->D}{out:α->D}(xs:List α)(h:fi U=some ir)(hx:ir.items=xs.map toD)
  (turn:∀x∈xs,∃U1,QbY t (toD x) (Qep cap U)=some U1/\∃r,fe U1=some r/\r.d=out x/\r.norm.fr=true):
  QL fi t cap QW fe U=some ⟨.lst (xs.map out),true,[]⟩:=by
 have:=QfW (keep:=λ_=>true) (ft:=QW) xs h hx (cap:=cap) (t:=t) (fe:=fe) (out:=out) λx hx=>by
  obtain⟨U1,h1,h2⟩:=turn x hx;exact⟨U1,h1,rfl,λ_=>h2⟩
 rw[this,ZbW.mpr λ_ _=>rfl]
@[simp] theorem QBP(d:D):R.norm ⟨d,true,[]⟩=⟨d,true,[]⟩:=by unfold R.norm;split<;>rfl
@[simp] theorem Qac(i:Nat)(d:D)(U:En):asg i ⟨d,true,[]⟩ U=U.set i (some (d,true)):=by unfold asg;simp[kill]
def rsa{i:Nat}{fa:DE}{g:DS}{U:En}{d:D}{Q:Out->Prop}(h:fa U=some ⟨d,true,[]⟩)(q:Run g (U.set i (some (d,true))) Q):Run (Qb (Qp i fa) g) U Q:=run_seq (QH h (by rw[Qac];exact q))
def QeI{n k k1:Nat}(h:(List.range n)[k]? =some k1):k<n/\k=k1:=by
 obtain⟨h1,h2⟩:=Zi.mp h;simp at h1 h2;exact⟨h1,h2⟩
def QeQ{i:Nat}{d:D}{fr:Bool}{M:List Nat}{U:En}(h:d.flat=true):asg i ⟨d,fr,M⟩ U=U.set i (some (d,true)):=by
 unfold asg R.norm;simp[h,kill]
def Qa6{i:Nat}{U:En}{d:D}{b:Bool}(h:U[i]? =some (some (d,b))):Qf i U=some (if d.flat then⟨d,true,[]⟩else if b then⟨d,true,[i]⟩else⟨d,false,[]⟩):=by
 unfold Qf;rw[h];dsimp only;split
 .simp_all
 .split<;>simp_all
def QoC{i:Nat}{U:En}{n:Int}{b:Bool}(h:U[i]? =some (some (.int n,b))):Qf i U=some (reI n):=by rw[Qa6 h];rfl
@[simp] theorem QaB(d:D)(U:En):dC d U=some ⟨d,true,[]⟩:=rfl
def Qan{g:D->D->Option D}{fa fb:DE}{U:En}{ra rb:R}{d:D}(ha:fa U=some ra)(hb:fb U=some rb)(h:g ra.d rb.d=some d):dOp g fa fb U=some ⟨d,true,[]⟩:=by simp[dOp,ha,hb,h]
def Qw{fa:DE}{fs:DA}{U:En}{r:R}{rs:RA}(ha:fa U=some r)(hs:fs U=some rs):Qa fa fs U=some ⟨r.d::rs.ds,r.fr && rs.fr,r.M++rs.M⟩:=by simp[Qa,ha,hs]
@[simp] theorem Q8(U:En):Qd U=some ⟨[],true,[]⟩:=rfl
noncomputable def vf(d:D)(b:Bool)(i:Nat):R:=if d.flat then⟨d,true,[]⟩else if b then⟨d,true,[i]⟩else⟨d,false,[]⟩
@[simp] theorem QCw(d:D)(b:Bool)(i:Nat):(vf d b i).d=d:=by unfold vf;split;rfl;split<;>rfl
@[simp] theorem QuV(i j:Int)(h:0<=j):QcZ i j=i % j:=by unfold QcZ;rw[if_pos h]
@[simp] theorem QjI(i j:Int)(h:0<=j):Qdb i j=i / j:=by unfold Qdb;rw[if_pos h]
def QbQ{i j:Int}(h:i.natAbs<2^64):Qc8 i j=true:=by unfold Qc8;simp[h]
def Qcy{i j:Int}(h:j.natAbs<2^64):Qc8 i j=true:=by unfold Qc8;simp[h]
def Qgf{i j:Int}(h1:Builtin.Int.intBits i<=2^20)(h2:Builtin.Int.intBits j<=2^20):Qc8 i j=true:=by
 unfold Qc8;rw[decide_eq_true h1,decide_eq_true h2,Bool.and_self,Bool.or_true]
def QdU:(sizeLine:Nat)=16777216:=sizeLine_eq
noncomputable def Qc(m:Nat)(f:Mt1):D:= .lst ((List.range m).map λi=> .int (f i))
noncomputable def Qn(m n:Nat)(f:Mt2):D:= .lst ((List.range m).map λi=>Qc n (f i))
@[simp] theorem QBQ(m:Nat)(f:Mt1):(Qc m f).flat=false:=rfl
@[simp] theorem QCm(m n:Nat)(f:Mt2):(Qn m n f).flat=false:=rfl
@[simp] theorem QsC(m:Nat)(f:Mt1):Q7 ((List.range m).map λi=>D.int (f i))=true:=Qbo (f:=λi=>D.int (f i)) (λ_=>rfl) _
noncomputable def up(f:Mt1)(i:Nat)(v:Int):Nat->Int:=λj=>if j=i then v else f j
noncomputable def up2(f:Mt2)(i j:Nat)(v:Int):Nat->Nat->Int:=λk=>if k=i then up (f k) j v else f k
def Qcq{n:Nat}{i:Int}(h0:0<=i)(h:i<n):ixN n i=some i.toNat:=by
 unfold ixN;rw[if_pos ⋯,if_pos ⋯]
def Qes{α:Type}{xs:List α}{i:Int}(h0:0<=i)(h:i<xs.length):atI xs i=xs[i.toNat]? :=by
 unfold atI;rw[Qcq h0 h];rfl
def Qd8{α:Type}{m:Nat}{f:Nat->α}{i:Nat}{v:α}:((List.range m).map f).set i v=(List.range m).map λj=>if j=i then v else f j:=by
 apply ZaA;intro k;rw[List.getElem?_set];simp only[Zj,Zz,Zp];by_cases hk:k<m
 .rw[ZL hk];by_cases e:i=k
  .subst e;simp[hk]
  .simp[e,Ne.symm e]
 .rw[Zs (by simp;lia)];by_cases e:i=k
  .subst e;simp[hk]
  .simp[e]
def Qip{m:Nat}{f:Mt1}{i:Nat}{v:Int}:((List.range m).map λj=>D.int (f j)).set i (.int v)=(List.range m).map λj=>D.int (up f i v j):=by
 rw[Qd8];congr 1;funext j;unfold up;split<;>rfl
def QpC{m:Nat}{f:Mt1}{i:Int}(h0:0<=i)(h:i<m):atI ((List.range m).map λj=>D.int (f j)) i=some (.int (f i.toNat)):=by
 rw[Qes h0 (by simpa using h),Zp,ZL ⋯];rfl
def Qk0{m n:Nat}{f:Mt2}{i:Int}(h0:0<=i)(h:i<m):atI ((List.range m).map λj=>Qc n (f j)) i=some (Qc n (f i.toNat)):=by
 rw[Qes h0 (by simpa using h),Zp,ZL ⋯];rfl
def Qvk{x m:Nat}{f:Mt1}{fi fa:DE}{U:En}{i:Int}{v:Int}{ri ra:R}{Q:Out->Prop}(hx:U[x]? =some (slT (Qc m f)))(hi:fi U=some ri)(ei:ri.d= .int i)(ha:fa U=some ra)(ea:ra.d= .int v)(h0:0<=i)(h:i<m)
  (q:Q (.nx (U.set x (slT (Qc m (up f i.toNat v)))))):Run (QbF x Qam fi fa) U Q:=by
 refine⟨_,?_,q⟩;have hn:ra.norm=(reI v):=by unfold R.norm;rw[ea];rfl
 unfold QbF;rw[ha,Za,hx];simp only[Qam,Za,hi,ei,Qa0,Qc,Zj,Zz,Qcq h0 h,hn,ea,QaL,Qip];simp[kill]
def Quu{g:D->D->Option D}{x m:Nat}{f:Mt1}{fi fa:DE}{U:En}{i w:Int}{ri ra:R}{Q:Out->Prop}(hx:U[x]? =some (slT (Qc m f)))(hi:fi U=some ri)(ei:ri.d= .int i)(ha:fa U=some ra)(h0:0<=i)(h:i<m)
  (hg:g (.int (f i.toNat)) ra.d=some (.int w)) (q:Q (.nx (U.set x (slT (Qc m (up f i.toNat w)))))):Run (Qdh g x Qam fi fa) U Q:=by
 refine⟨_,?_,q⟩;have hj:((List.range m).map λj=>D.int (f j))[i.toNat]? =some (.int (f i.toNat)):=by rw[Zp,ZL ⋯];rfl
 unfold Qdh;rw[hx];simp only[Qam,Za,hi,ei,Qa0,Qc,Zj,Zz,Qcq h0 h,hj,ha,hg,QaL,Qip,Zai]
def QoE{g:D->D->Option D}{x m n:Nat}{f:Mt2}{fp fi fa:DE}{U:En}{i j w:Int}{rp ri ra:R}{Q:Out->Prop}(hx:U[x]? =some (slT (Qn m n f)))(hp:fp U=some rp)(ep:rp.d= .int i)(hi:fi U=some ri)(ei:ri.d= .int j)(ha:fa U=some ra)
  (h0:0<=i) (h:i<m) (k0:0<=j) (k:j<n) (hg:g (.int (f i.toNat j.toNat)) ra.d=some (.int w)) (q:Q (.nx (U.set x (slT (Qn m n (up2 f i.toNat j.toNat w)))))):Run (Qdh g x (Qcr Qam fp) fi fa) U Q:=by
 refine⟨_,?_,q⟩;have hj:((List.range n).map λk=>D.int (f i.toNat k))[j.toNat]? =some (.int (f i.toNat j.toNat)):=by rw[Zp,ZL ⋯];rfl
 have hd:Qa0 (Qn m n f) [i]=some (Qc n (f i.toNat)):=by
  simp only[Qa0,Qn,D.items,Za,Qk0 h0 h]
 have hu:QaL [i] (Qn m n f) (.lst (((List.range n).map λk=>D.int (f i.toNat k)).set j.toNat (.int w)))=Qn m n (up2 f i.toNat j.toNat w):=by
  simp only[QaL,Qn,Zj,Zz,Qcq h0 h,Qip];rw[Qd8];congr 2;funext k;unfold up2;split
  .rename_i e;subst e;rfl
  .rfl
 unfold Qdh;rw[hx];simp only[Qcr,Qam,Za,hp,ep,ZbR,hi,ei,hd,Qc,Zj,Zz,Qcq k0 k,hj,ha,hg,Zai];rw[hu]
def QaO{n:Nat}(h:fa U=some r)(e:r.d= .int n)(hn:n<=16777216):Qaz fa U=some ⟨(List.range n).map λ(k:Nat)=> .int (k:Int),[]⟩:=by
 unfold Qaz;rw[h,Za,e];dsimp only;rw[if_pos ⟨⋯,⋯⟩];simp[Qhw]
def QpJ{α:Type}(x:α):∀n:Nat,(List.replicate n [x]).flatten=(List.range n).map λ_=>x
 | 0=>rfl
 | n+1=>by
  rw[Zae,Zam,QpJ x n,ZbG,ZA,ZZ];rfl
def Qf1{n:Nat}(h:fb U=some r)(e:r.d= .int n)(hn:n<=16777216):Q3 (Qah (Qa (dC (.int z)) Qd)) fb U=some (reT (Qc n (λ_=>z))):=by
 have h1:Qah (Qa (dC (.int z)) Qd) U=some (reT (.lst [.int z])):=rfl;unfold Q3;rw[h1,Za,h,Za,e];dsimp only;rw[if_pos ⟨by simp[QdU];lia,⋯,⋯,rfl⟩];simp only[Zax,QpJ];rfl
noncomputable def QkR:DS:=(Qb (Qp 2 (QL (Qab vv0) (.tp [1,2]) [none,none,none] QW (Qav (Qa vv1 (Qa vv2 Qd))))) (Qb (Qp 3 (QL (Qab vv0) (.tp [1,2]) [none,none,none] QW (Qav (Qa vv2 (Qa vv1 Qd))))) (Qb (QO (QC (QC vv2 vv3) (dList (Qa vv1 Qd)))) Qh)))
def Qew(ha:fa U=some ra)(ea:ra.d=QX A)(hb:fb U=some rb)(eb:rb.d=QX B)(hl:A.length+B.length<=16777216):QC fa fb U=some (reT (QX (A++B))):=by
 unfold QC;rw[ha,Za,hb,Za,ea,eb];simp only[QX,Zj,QdU,if_pos hl,QaA];simp
def Qi1(h:fs U=some rs)(e:rs.ds=[QX A])(_:True=True):dList fs U=some (reT (QX A)):=by
 unfold dList;rw[h,Za,e];simp[QX,QaA]
def Qy(h:fa U=some r)(q:Q r.d (r.norm.fr && decide r.norm.M.Nodup)):Run (Qb (QO fa) g) U (Rt Q):=QS (Qgg h q)
def Qr7{R L:Lpp}(hl:R.length+R.length+L.length<=16777216):Qu 4 QkR [QX R,QX L]=slT (QX (R++R.map Prod.swap++L)):=by
 refine Q0 ?_;refine run_seq (QH (QI R rfl rfl λx _=>⟨[none,slI x.1,slI x.2],rfl,⟨pairD x,true,[]⟩,rfl,rfl,rfl⟩) ?_);refine run_seq (QH (QI R rfl rfl λx _=>⟨[none,slI x.1,slI x.2],rfl,⟨pairD x.swap,true,[]⟩,rfl,rfl,rfl⟩) ?_);have e1:(R.map λx=>pairD x.swap)=(R.map Prod.swap).map pairD:=by simp[ZZ,Function.comp_def]
 rw[e1];exact Qy (Qew (Qew rfl rfl rfl rfl (by simpa using(by lia:R.length+R.length<=16777216))) rfl (Qi1 rfl rfl rfl) rfl (by simpa using hl)) ⟨rfl,rfl⟩
def Qt(h:fs U=some r)(hd:den (r.ds++dfl)=some (d,true))(hl:r.ds.length+dfl.length=n):Qo n den dfl fs U=some ⟨d,true,[]⟩:=by
 unfold Qo;rw[h,Za,if_pos hl,hd];simp
def Qak(h:fa U=some r)(e:r.d= .lst xs):Qab fa U=some ⟨xs,r.M⟩:=by
 unfold Qab;rw[h,Za,e]
noncomputable def stepT(m:Nat)(f:Mt2)(s:Int×Int):Nat->Nat->Int:=
 let f1:=if s.1<m then up2 f s.1.toNat s.1.toNat (f s.1.toNat s.1.toNat-1)else f
 if s.1<m/\s.2<m then up2 f1 s.1.toNat s.2.toNat (f1 s.1.toNat s.2.toNat+1)else f1
noncomputable def Qq(m:Nat)(S:Lpp):Nat->Nat->Int:=S.foldl (stepT m) λ_ _=>0
noncomputable def QeD(Qc0:Den):DS:=(Qb (Qp 1 (Qbq (Qm vv0 kk0))) (Qb (Qp 2 (QL (Qaz vv1) (.nm 1) [none,none,some 1] QW (Q3 (Qah (Qa kk0 Qd)) vv2))) (Qb (QaX (Qab (Qo 2 Qc0 [] (Qa (Qm vv0 kk1) (Qa (Qm vv0 kk2) Qd)))) (.tp [3,4]) (Qb (sIf (QG (dOp gLt vv3 vv1)) (Qb (Qdh QaS 2 (Qcr Qam vv3) vv3 kk1) Qh) Qh) (Qb (sIf (Qdf (QG (dOp gLt vv3 vv1)) (QG (dOp gLt vv4 vv1))) (Qb (Qdh (gI λi j=>some (.int (i+j))) 2 (Qcr Qam vv3) vv4 kk1) Qh) Qh) Qh))) (Qb (QO vv2) Qh))))
def QvF{Qc0:Den}{m:Nat}{R L S:Lpp}(hm:m<=16777216)(hs:Qc0 [QX R,QX L]=slT (QX S))(hS:∀s∈S,0<=s.1/\0<=s.2):Qu 5 (QeD Qc0) [QM m R L]=slT (Qn m m (Qq m S)):=by
 refine Q0 ?_;refine run_seq (QH rfl ?_);refine run_seq (QH (QI (List.range m) (QaO rfl rfl hm) rfl λx _=>⟨[none,slI x,slI m],rfl,_,Qf1 rfl rfl hm,rfl,rfl⟩) ?_);refine run_seq (Qay S (λi U=>∃j1 j2,U=[slF (QM m R L),slI m,slT (Qn m m (Qq m (S.take i))),j1,j2]) (ir:=⟨S.map pairD,[]⟩) ?_ rfl ⟨none,none,rfl⟩ ?_ ?_)
 .exact Qak (Qt (r:=⟨[QX R,QX L],false,[]⟩) rfl hs rfl) rfl
 .rintro i s U hi ⟨j1,j2,rfl⟩;refine⟨_,rfl,?_⟩;obtain⟨s1,s2⟩:=hS s (Zao hi);refine run_seq (Run.mono (Q:=Nx λU=>U=[slF (QM m R L),slI m,slT (Qn m m (if s.1<m then up2 (Qq m (S.take i)) s.1.toNat s.1.toNat (Qq m (S.take i) s.1.toNat s.1.toNat-1)else Qq m (S.take i))),slI s.1,slI s.2]) ?_ ?_)
  .refine Q5 rfl (λh=>?_) (λh=>?_)
   .have h:=of_decide_eq_true h;rw[if_pos h];exact run_seq (QoE rfl rfl rfl rfl rfl rfl s1 h s1 h rfl (Ql rfl))
   .have h:=of_decide_eq_false h;rw[if_neg h];exact Ql rfl
  .intro o ho;cases o with
   | nx U=>
    subst ho;have fin:Qq m (S.take (i+1))=stepT m (Qq m (S.take i)) s:=by
     unfold Qq;rw[List.take_add_one,hi,List.foldl_append];rfl
    refine run_seq (Run.mono (Q:=Nx λU=>U=[slF (QM m R L),slI m,slT (Qn m m (stepT m (Qq m (S.take i)) s)),slI s.1,slI s.2]) ?_ ?_)
    .refine Q5 (b:=decide (s.1<m/\s.2<m)) ?_ (λh=>?_) (λh=>?_)
     .by_cases h:s.1<(m:Int)
      .simp[Qdf,QG,dOp,Qf,gLt,gI,D.tru,h]
      .simp[Qdf,QG,dOp,Qf,gLt,gI,D.tru,h]
     .have h:=of_decide_eq_true h;refine run_seq (QoE rfl rfl rfl rfl rfl rfl s1 h.1 s2 h.2 rfl (Ql ?_));unfold stepT;rw[if_pos h];rfl
     .have h:=of_decide_eq_false h;refine Ql ?_;unfold stepT;rw[if_neg h];rfl
    .intro o ho;cases o with
     | nx U=>
      subst ho;exact Ql ⟨_,_,by rw[fin]⟩
     | _=>exact False.elim ho
   | _=>exact False.elim ho
 .rintro U ⟨j1,j2,rfl⟩;rw[Zcm];exact Qy rfl ⟨rfl,rfl⟩
noncomputable def hit(i j:Nat)(s:Int×Int):Int:=(if s.1=i/\s.2=j then 1 else 0)-(if s.1=i/\i=j then 1 else 0)
def QpZ:up2 f a b v i j=if i=a/\j=b then v else f i j:=by
 unfold up2 up;by_cases h1:i=a
 .by_cases h2:j=b
  .simp[h1,h2]
  .simp[h1,h2]
 .simp[h1]
def Qsz(hi:i<m)(hj:j<m)(h1:0<=s.1)(h2:0<=s.2):stepT m f s i j=f i j+hit i j s:=by
 unfold stepT hit;have e1:(s.1=(i:Int))↔(i=s.1.toNat):= ⋯
 have e2:(s.2=(j:Int))↔(j=s.2.toNat):= ⋯
 simp only[e1,e2];by_cases c1:s.1<(m:Int)
 .by_cases c2:s.2<(m:Int)
  .simp only[c1,c2,and_self,if_true,QpZ];generalize s.1.toNat=a;generalize s.2.toNat=b;by_cases d1:i=a
   .subst d1;by_cases d2:j=b
    .subst d2;by_cases d3:i=j
     .subst d3;simp
     .have d4:¬j=i:=λz=>d3 z.symm;simp[d3,d4]
    .by_cases d3:i=j
     .subst d3;simp[d2];lia
     .have d4:¬j=i:=λz=>d3 z.symm;simp[d2,d3,d4]
   .simp[d1]
  .have d2:¬(j=s.2.toNat):= ⋯
   simp only[c1,c2,and_false,if_false,if_true,QpZ,d2];generalize s.1.toNat=a;by_cases d1:i=a
   .subst d1;by_cases d3:i=j
    .subst d3;simp;lia
    .have d4:¬j=i:=λz=>d3 z.symm;simp[d3,d4]
   .simp[d1]
 .have d1:¬(i=s.1.toNat):= ⋯
  simp[c1,d1]
def Ql4(hi:i<m)(hj:j<m):∀(S:Lpp) (f:Mt2),(∀s∈S,0<=s.1/\0<=s.2)->S.foldl (stepT m) f i j=f i j+(S.map (hit i j)).sum
 | [],f,_=>by simp
 | s::S,f,h=>by
  obtain⟨h1,h2⟩:=h s Ze;rw[Zcw,Ql4 hi hj S _ (λt ht=>h t (Zb _ ht)),Qsz hi hj h1 h2,ZA,ZaI];lia
def QbZ(hi:i<m)(hj:j<m)(h:∀s∈S,0<=s.1/\0<=s.2):Qq m S i j=(S.map (hit i j)).sum:=by
 unfold Qq;rw[Ql4 hi hj S _ h];simp
noncomputable def isI(i:Nat)(a:Int):Int:=if a=i then 1 else 0
noncomputable def QbV(R L:Lpp)(i:Nat):Int:=(R.map λr=>isI i r.1+isI i r.2).sum+(L.map λl=>isI i l.1).sum
def sum_neg(S:Lpp)(i:Nat)(h:∀s∈S,s.1≠s.2):(S.map (hit i i)).sum= -(S.map λs=>isI i s.1).sum:=by
 induction S with
 | nil=>rfl
 | cons s S ih=>
  rw[ZA,ZaI,ih λt ht=>h t (Zb _ ht),ZA,ZaI];have hn:=h s Ze;unfold hit isI;by_cases e:s.1=(i:Int)
  .have:¬(s.2=(i:Int)):=λz=>hn (e.trans z.symm);simp[e,this];lia
  .simp[e]
noncomputable def Qj(R L:Lpp):List (Int×Int):=R++R.map Prod.swap++L
def Qmb(R L:Lpp)(i:Nat):((Qj R L).map λs=>isI i s.1).sum=QbV R L i:=by
 unfold Qj QbV;rw[Zap,Zap,ZbX,ZbX];have:(R.map λr=>isI i r.1+isI i r.2).sum=(R.map λs=>isI i s.1).sum+((R.map Prod.swap).map λs=>isI i s.1).sum:=by
  induction R with
  | nil=>rfl
  | cons r R ih=>simp only[ZA,ZaI,ih,Prod.fst_swap];lia
 lia
def Good(m:Nat)(s:Int×Int):Prop:=0<=s.1/\0<=s.2/\s.1<=m/\s.2<=m/\s.1≠s.2
def QbX{m:Nat}{R L:Lpp}(hR:∀s∈R,Good m s)(hL:∀s∈L,Good m s):∀s∈Qj R L,Good m s:=λs hs=>by
 unfold Qj at hs;rcases Zr.mp hs with hs | hs
 .rcases Zr.mp hs with hs | hs
  .exact hR s hs
  .obtain⟨t,ht,rfl⟩:=ZK.mp hs;obtain⟨h1,h2,h3,h4,h5⟩:=hR t ht;exact⟨h2,h1,h4,h3,λz=>h5 z.symm⟩
 .exact hL s hs
def Qfd(d:Den):Prop:=∀(m:Nat) (R L:Lpp),m<=1000->R.length+R.length+L.length<=1000000->(∀s∈R,Good m s)->(∀s∈L,Good m s)->d [QM m R L]=some (Qn m m (Qq m (Qj R L)),true)
def QwU:Qfd (Qu 5 (QeD (Qu 4 QkR))):=λm R L hm hl hR hL=>by
 refine QvF ⋯ (Qr7 ⋯) λs hs=>?_;obtain⟨h1,h2,_⟩:=QbX hR hL s hs;exact⟨h1,h2⟩
noncomputable def Qiz(Qar:Den):DS:=(Qb (QO (QL (Qhx (Qo 1 Qar [] (Qa vv0 Qd))) (.tp [1,2]) [none,none,none] QW (dOp QaS kk0 (Qm vv2 vv1)))) Qh)
def Qkf{α:Type}(m:Nat)(f:Nat->D):Qeq ((List.range m).map f)=(List.range m).map λi=> .tup [.int i,f i]:=by
 apply ZaA;intro k;unfold Qeq;simp only[Zp,List.getElem?_zipIdx,Zbs];by_cases hk:k<m
 .rw[ZL hk];rfl
 .rw[Zs (by simp;lia)];rfl
def QuA{d:Den}(hd:Qfd d){m:Nat}{R L:Lpp}(hm:m<=1000)(hl:R.length+R.length+L.length<=1000000)(hR:∀s∈R,Good m s)(hL:∀s∈L,Good m s):Qu 1 (Qiz d) [QM m R L]=slT (Qc m (QbV R L)):=by
 refine Q0 ?_;refine Qy (QI (toD:=λ(i:Nat)=> .tup [.int i,Qc m (Qq m (Qj R L) i)]) (out:=λ(i:Nat)=> .int (QbV R L i)) (ir:=⟨Qeq ((List.range m).map λi=>Qc m (Qq m (Qj R L) i)),[]⟩) (List.range m) ?_ ?_ λi hi=>?_) ⟨rfl,rfl⟩
 .unfold Qhx;rw[Qt (n:=1) (fs:=Qa (Qf 0) Qd) (U:=Qau 1 [QM m R L]) (dfl:=[]) (r:=⟨[QM m R L],false,[]⟩) rfl (hd m R L hm hl hR hL) rfl];rfl
 .exact Qkf (α:=Nat) m _
 .have hi:=Zq.mp hi;refine⟨[none,slI i,slF (Qc m (Qq m (Qj R L) i))],rfl,reI (0-Qq m (Qj R L) i i),?_,?_,rfl⟩
  .have e:Qm (Qf 2) (Qf 1) [none,slI (i:Int),slF (Qc m (Qq m (Qj R L) i))]=some (reI (Qq m (Qj R L) i i)):=by
    show((D.items (Qc m (Qq m (Qj R L) i))).bind λxs=>(atI xs (i:Int)).map λd=>(HS.R.norm ⟨d,false,[]⟩))=_;unfold Qc;rw[show D.items (.lst ((List.range m).map λj=>D.int (Qq m (Qj R L) i j)))=some ((List.range m).map λj=>D.int (Qq m (Qj R L) i j))from rfl,Za,QpC ⋯ ⋯];rfl
   exact Qan (rfl) e rfl
  .have g:=QbX hR hL;rw[QbZ hi hi λs hs=>⟨(g s hs).1,(g s hs).2.1⟩,sum_neg _ i λs hs=>(g s hs).2.2.2.2,Qmb];show D.int (0- -(QbV R L i))=_;rw[show(0:Int)- -(QbV R L i)=QbV R L i by lia]
def Qp5(a b:Int):deq (.int a) (.int b)=decide (a=b):=by
 show PyData.eqv (.int a) (.int b)=_;unfold PyData.eqv;exact Bool.beq_eq_decide_eq a b
def Qa4(ha:fa U=some ra)(ea:ra.d= .int a)(hb:fb U=some rb)(eb:rb.d= .int b):dOp gEq fa fb U=some (reT (.bl (decide (a=b)))):=by
 refine Qan ha hb ?_;rw[ea,eb];show some (D.bl (deq (.int a) (.int b)))=_;rw[Qp5]
def Qde(ha:fa U=some ra)(ea:ra.d= .int a)(hb:fb U=some rb)(eb:rb.d= .int b):dOp gNe fa fb U=some (reT (.bl (!decide (a=b)))):=by
 refine Qan ha hb ?_;rw[ea,eb];show some (D.bl (!deq (.int a) (.int b)))=_;rw[Qp5]
def Qqr(ha:fa U=some (reT (.bl a)))(hb:fb U=some (reT (.bl b))):dOr fa fb U=some (reT (.bl (a || b))):=by
 unfold dOr;rw[ha];cases a<;>simp[D.tru,hb]
def Qm7(ha:fa U=some (reT (.bl a)))(hb:fb U=some (reT (.bl b))):Qb0 fa fb U=some (reT (.bl (a && b))):=by
 unfold Qb0;rw[ha];cases a<;>simp[D.tru,hb]
def QF(ha:fa U=some r)(e:r.d= .bl b):QG fa U=some b:=by
 unfold QG;rw[ha,Za,e];rfl
def Qdi(h:g U=some b):Qcm g U=some (!b):=by unfold Qcm;rw[h];rfl
def Qc9(ha:g1 U=some a)(hb:g2 U=some b):bOr g1 g2 U=some (a || b):=by
 unfold bOr;rw[ha];cases a<;>simp[hb]
def QlJ(ha:g1 U=some a)(hb:g2 U=some b):Qdf g1 g2 U=some (a && b):=by
 unfold Qdf;rw[ha];cases a<;>simp[hb]
def Qai(ha:fa U=some ra)(ea:ra.d= .int a)(hb:fb U=some rb)(eb:rb.d= .int b)(h:Qc8 a b=true):Q3 fa fb U=some (reI (a*b)):=by
 unfold Q3;rw[ha,Za,hb,Za,ea,eb];simp[h]
def Q6(ha:fa U=some ra)(ea:ra.d= .int a)(hb:fb U=some rb)(eb:rb.d= .int b):QC fa fb U=some (reI (a+b)):=by
 unfold QC;rw[ha,Za,hb,Za,ea,eb]
def Qaf(ha:fa U=some ra)(ea:ra.d= .int a)(hb:fb U=some rb)(eb:rb.d= .int b)(h:0<b):dOp Qad fa fb U=some (reI (a % b)):=by
 refine Qan ha hb ?_;rw[ea,eb];show(if b≠0 then some (D.int (QcZ a b))else none)=_;rw[if_pos ⋯,QuV _ _ ⋯]
def QeB(ha:fa U=some ra)(ea:ra.d= .int a)(hb:fb U=some rb)(eb:rb.d= .int b)(h:0<b)(h2:b<2^64):dOp Qbc fa fb U=some (reI (a / b)):=by
 refine Qan ha hb ?_;rw[ea,eb];have:QbE b=true:=by
  unfold QbE;have h3:b.natAbs<2^8000:=Zu (by lia:b.natAbs<2^64) (ZP ∅ ∅);simp only[Zk,decide_eq_true_eq];exact⟨⋯,h3⟩
 show(if QbE b=true then some (D.int (Qdb a b))else none)=_;rw[if_pos this,QjI _ _ ⋯]
def Qjr(h:fa U=some r):Qbq fa U=some ⟨r.d,false,r.M⟩:=by unfold Qbq;rw[h];rfl
def Qk6{fa fb:DE}{U:En}{ra rb:R}{m:Nat}{f:Mt1}{i:Int}(ha:fa U=some ra)(ea:ra.d=Qc m f)(hb:fb U=some rb)(eb:rb.d= .int i)(h0:0<=i)(h:i<m):Qm fa fb U=some (reI (f i.toNat)):=by
 unfold Qm;rw[ha,Za,hb,Za,ea,eb];simp only[Qc,D.items,Za,QpC h0 h,Zai];rfl
def Qph{fa fb:DE}{U:En}{ra rb:R}{ns:List Int}{i:Int}{v:Int}(ha:fa U=some ra)(ea:ra.d= .lst (ns.map .int))(hb:fb U=some rb)(eb:rb.d= .int i)(h0:0<=i)(h:ns[i.toNat]? =some v):Qm fa fb U=some (reI v):=by
 have hl:i<ns.length:=by have:=(Zi.mp h).1;lia
 unfold Qm;rw[ha,Za,hb,Za,ea,eb];simp only[D.items,Za];rw[Qes h0 (by simpa using hl),Zp,h];rfl
def QsP{m n:Nat}{f:Mt1}(h:n<=m):cutD ((List.range m).map λi=>D.int (f i)) none (some (n:Int))=(List.range n).map λi=>D.int (f i):=by
 unfold cutD;simp only[Zj,Zz,HT.Qe5,HT.Qf5,ZcC,Zcs,ZaZ h];rw[← ZcE,List.take_range,ZaZ h]
def Qp0{fa fb:DE}{U:En}{ra rb:R}{m n:Nat}{f:Mt1}(ha:fa U=some ra)(ea:ra.d=Qc m f)(hb:fb U=some rb)(eb:rb.d= .int n)(h:n<=m):Qch fa Qbx (Qbw fb) U=some (reT (Qc n f)):=by
 unfold Qch Qbx Qbw;rw[ha,Za,hb,ea];simp only[Za,eb,Qc,QsP h,QaA,QsC,if_true]
def Qn3(h:fs U=some r)(hd:den (r.ds++dfl)=some (d,fr))(hl:r.ds.length+dfl.length=n):Qo n den dfl fs U=some (if fr=true then⟨d,true,[]⟩else HS.R.norm ⟨d,false,r.M⟩):=by
 unfold Qo;rw[h,Za,if_pos hl,hd];rfl
noncomputable def Qnp:DS:=(Qb (QO (Qb0 (Qjt "int" vv0) (QhM (Qjt "bool" vv0)))) Qh)
def Qlf(d:Den):Prop:=∀i:Int,d [.int i]=some (.bl true,true)
def QuM:Qlf (Qu 1 Qnp):=λi=>rfl
noncomputable def Qbf(t k:Int):Int:=(t+17)*(k*k+7*k+11)*69621 % 2147483647
noncomputable def QeN(m t k:Int):Int:=if Qbf t k % (k+1)<k then(Qbf t k % (k+1)+t) % m else m
noncomputable def Qd9(m t kind:Int)(k:Int):Int×Int×Bool:=((k+t) % m,QeN m t k,decide (kind=2) || (decide (kind=3) && decide (Qbf t k / 64 % 2=1)))
noncomputable def Qb3(m:Nat)(t kind:Int):List (Int×Int×Bool):=(List.range m).map λ(k:Nat)=>Qd9 m t kind k
def GoodW(m:Nat)(w:Int×Int×Bool):Prop:=Good m (w.1,w.2.1)/\(w.2.2=true->w.1<m)
noncomputable def Q9(W:List (Int×Int×Bool)):D:= .lst (W.map QcC)
@[simp] theorem QAD(W:List (Int×Int×Bool)):(Q9 W).flat=false:=rfl
def Qrv{a x n:Int}(h1:0<x)(h2:x<n):(a+x) % n≠a % n:=λh=>by
 have h3:(a+x-a) % n=0:=Int.emod_eq_emod_iff_emod_sub_eq_zero.mp h;rw[show a+x-a=x by lia,Zcc ⋯ h2]at h3;lia
def Qrw{m:Nat}{t kind:Int}{k:Nat}(hk:k<m):GoodW m (Qd9 m t kind k):=by
 have hm:(0:Int)<m:= ⋯
 have h1:=ZM ((k:Int)+t) (by lia:(m:Int)≠0);have h2:=ZO ((k:Int)+t) hm;unfold Qd9 QeN;split
 .rename_i hlt;have h3:=ZM (Qbf t k) (by lia:((k:Int)+1)≠0);have h4:=ZM (Qbf t k % (k+1)+t) (by lia:(m:Int)≠0);have h5:=ZO (Qbf t k % (k+1)+t) hm;refine⟨⟨h1,h4,by dsimp only;lia,by dsimp only;lia,?_⟩,λ_=>by dsimp only;lia⟩;dsimp only;have h6:=Qrv (a:=Qbf t k % (k+1)+t) (x:=k-Qbf t k % (k+1)) (n:=m) ⋯ ⋯;rw[show Qbf t k % (k+1)+t+(k-Qbf t k % (k+1))=k+t by lia]at h6;exact h6
 .exact⟨⟨h1,by dsimp only;lia,by dsimp only;lia,by dsimp only;lia,by dsimp only;lia⟩,λ_=>by dsimp only;lia⟩
noncomputable def QoO:DS:=(Qb (Qp 3 (Qah Qd)) (Qb (QaX (Qaz vv0) (.nm 4) (Qb (Qp 5 (dOp Qad (Q3 (Q3 (QC vv1 QBC) (QC (QC (Q3 vv4 vv4) (Q3 kk7 vv4)) QB5)) QxD) Qdd)) (Qb (Qp 6 (Qbq vv0)) (Qb (sIf (QG (dOp gLt (dOp Qad vv5 (QC vv4 kk1)) vv4)) (Qb (Qp 6 (dOp Qad (QC (dOp Qad vv5 (QC vv4 kk1)) vv1) vv0)) Qh) Qh) (Qb (Qds 3 Qam (Qav (Qa (dOp Qad (QC vv4 vv1) vv0) (Qa vv6 (Qa (dOr (dOp gEq vv2 kk2) (Qb0 (dOp gEq vv2 kk3) (dOp gEq (dOp Qad (dOp Qbc vv5 QB2) kk2) kk1))) Qd))))) Qh))))) (Qb (QO vv3) Qh)))
def Qxa(hx:U[x]? =some (slT (.lst xs)))(ha:fa U=some r)(hf:r.d.flat=true)(hl:xs.length<16777216)(q:Q (.nx (U.set x (slT (.lst (xs++[r.d])))))):Run (Qds x Qam fa) U Q:=by
 refine⟨_,?_,q⟩;have hn:r.norm=⟨r.d,true,[]⟩:=by unfold HS.R.norm;rw[if_pos hf]
 unfold Qds;rw[hx];simp only[Qam,Za,ha,Qa0,Qid,hn,QaL,kill,QdU];simp[hl]
def Qow(d:Den):Prop:=∀(m:Nat) (t kind:Int),0<m->m<=1000->0<=t->t<2000000->d [.int m,.int t,.int kind]=some (Q9 (Qb3 m t kind),true)
def Qxd:Qow (Qu 7 QoO):=λm t kind h0 hm ht ht2=>by
 refine Q0 ?_;refine rsa (d:= .lst []) rfl ?_;refine run_seq (Qay (List.range m) (λi U=>∃j4 j5 j6,U=[slI m,slI t,slI kind,slT (.lst (((List.range i).map λ(k:Nat)=>Qd9 m t kind k).map QcC)),j4,j5,j6]) (QaO (n:=m) (r:=reI m) rfl rfl ⋯) rfl ⟨none,none,none,rfl⟩ ?_ ?_)
 .rintro i k U hi ⟨j4,j5,j6,rfl⟩;have hk:i<m/\i=k:=by
   obtain⟨h1,h2⟩:=Zi.mp hi;simp at h1 h2;exact⟨h1,h2⟩
  obtain⟨hk,rfl⟩:=hk;refine⟨_,rfl,?_⟩;have n1:(t+17).natAbs<2^64:= ⋯
  have n2:(69621:Int).natAbs<2^64:= ∅
  refine run_seq (QH (r:=reI (Qbf t i)) ?_ ?_)
  .exact Qaf (Qai (Qai (Q6 (a:=t) (b:=17) rfl rfl rfl rfl) rfl (Q6 (Q6 (Qai (a:=(i:Int)) (b:=i) rfl rfl rfl rfl (QbQ ⋯)) rfl (Qai (a:=7) (b:=(i:Int)) rfl rfl rfl rfl (QbQ ∅)) rfl) rfl (QaB (.int 11) _) rfl) rfl (QbQ n1)) rfl (QaB (.int 69621) _) rfl (Qcy n2)) rfl (QaB (.int 2147483647) _) rfl ∅
  .rw[Qac];refine run_seq (QH (r:=reF (.int m)) rfl ?_);rw[QeQ rfl];refine run_seq (f:=sIf _ _ _) (Run.mono (Q:=Nx λU=>U=[slI m,slI t,slI kind,slT (.lst (((List.range i).map λ(k:Nat)=>Qd9 m t kind k).map QcC)),slI i,slI (Qbf t i),slI (QeN m t i)]) ?_ ?_)
   .have e1:∀(U:En),U=[slI m,slI t,slI kind,slT (.lst (((List.range i).map λ(k:Nat)=>Qd9 m t kind k).map QcC)),slI i,slI (Qbf t i),slI m]->dOp Qad (Qf 5) (QC (Qf 4) (dC (.int 1))) U=some (reI (Qbf t i % (i+1))):=by
     rintro U rfl;exact Qaf (a:=Qbf t i) (b:=(i:Int)+1) rfl rfl (Q6 (a:=(i:Int)) (b:=1) rfl rfl rfl rfl) rfl ⋯
    refine Q5 (b:=decide (Qbf t i % (i+1)<i)) (QF (Qan (e1 _ rfl) rfl rfl) rfl) (λh=>?_) (λh=>?_)
    .have h:=of_decide_eq_true h;refine run_seq (QH (Qaf (a:=Qbf t i % (i+1)+t) (b:=m) (Q6 (a:=Qbf t i % (i+1)) (b:=t) (e1 _ rfl) rfl rfl rfl) rfl rfl rfl ⋯) (Ql ?_));rw[Qac];unfold QeN;rw[if_pos h];rfl
    .have h:=of_decide_eq_false h;refine Ql ?_;unfold QeN;rw[if_neg h];rfl
   .intro o ho;cases o with
    | nx U=>
     subst ho;refine run_seq (Qxa (r:=⟨QcC (Qd9 m t kind i),true,[]⟩) rfl ?_ rfl (by simp;lia) ?_)
     .have e:=Qqr (Qa4 (a:=kind) (b:=2) (fa:=Qf 2) (fb:=dC (.int 2)) (U:=[slI m,slI t,slI kind,slT (.lst (((List.range i).map λ(k:Nat)=>Qd9 m t kind k).map QcC)),slI i,slI (Qbf t i),slI (QeN m t i)]) rfl rfl rfl rfl)
       (Qm7 (Qa4 (fa:=Qf 2) (fb:=dC (.int 3)) rfl rfl rfl rfl) (Qa4 (fb:=dC (.int 1)) (Qaf (fb:=dC (.int 2)) (QeB (fa:=Qf 5) (fb:=dC (.int 64)) rfl rfl rfl rfl ∅ ∅) rfl rfl rfl ∅) rfl rfl rfl))
      have e2:dOp Qad (QC (Qf 4) (Qf 1)) (Qf 0) [slI m,slI t,slI kind,slT (.lst (((List.range i).map λ(k:Nat)=>Qd9 m t kind k).map QcC)),slI i,slI (Qbf t i),slI (QeN m t i)]=some (reI ((i+t) % m)):=
       Qaf (Q6 rfl rfl rfl rfl) rfl rfl rfl ⋯
      unfold Qav;rw[Qw e2 (Qw rfl (Qw e (Q8 _)))];rfl
     .refine Ql ⟨slI i,slI (Qbf t i),slI (QeN m t i),?_⟩;show [slT (D.int m),slT (D.int t),slT (D.int kind),slT (D.lst (((List.range i).map λ(k:Nat)=>Qd9 m t kind k).map QcC++[QcC (Qd9 m t kind i)])),_,_,_]=_;rw[Zbx,Zap,Zap];rfl
    | _=>exact False.elim ho
 .rintro U ⟨j4,j5,j6,rfl⟩;rw[Zz];exact Qy rfl ⟨rfl,rfl⟩
noncomputable def QiD:DS:=(Qb (Qp 2 (Q3 (Qah (Qa kk0 Qd)) (QC vv0 kk1))) (Qb (QaX (Qab vv1) (.tp [3,4,5]) (Qb (QbF 2 Qam vv3 (QC (Qm vv2 vv3) kk1)) (Qb (sIf (Qcm (QG vv5)) (Qb (QbF 2 Qam vv4 (QC (Qm vv2 vv4) kk1)) Qh) Qh) Qh))) (Qb (Qp 6 kk1) (Qb (QaX (Qab (Qch vv2 Qbx (Qbw vv0))) (.nm 7) (Qb (Qp 6 (Q3 vv6 vv7)) Qh)) (Qb (QO (dOp gLe vv6 QkL)) Qh)))))
def QpR{x y m:Nat}{f:Mt1}{U:En}{i:Int}{b:Bool}{Q:Out->Prop}(hx:U[x]? =some (slT (Qc m f)))(hy:U[y]? =some (some (.int i,b)))(h0:0<=i)(h:i<m)
  (q:Q (.nx (U.set x (slT (Qc m (up f i.toNat (f i.toNat+1))))))):Run (QbF x Qam (Qf y) (QC (Qm (Qf x) (Qf y)) (dC (.int 1)))) U Q:=by
 have e1:Qf y U=some (reI i):=QoC hy;have e2:=Qa6 hx;exact Qvk hx e1 rfl (Q6 (Qk6 e2 ⋯ e1 rfl h0 h) rfl (QaB (.int 1) _) rfl) rfl h0 h q
def Qns(d:Den):Prop:=∀(m:Nat) (W:List (Int×Int×Bool)),m<=1000->W.length<=100000->(∀w∈W,GoodW m w)->∃b,d [.int m,Q9 W]=some (.bl b,true)
def Run.nx(h:Run f U (Nx Q))(m:∀U,Q U->Q' U):Run f U (Nx Q'):=h.mono λo ho=>by
 cases o with
 | nx U=>exact m U ho
 | _=>exact ho.elim
def Qbb(h:Run f U (Nx P))(k:∀U',P U'->Run g U' Q):Run (Qb f g) U Q:=run_seq (h.nx k)
def Qsr{m:Nat}{W:List (Int×Int×Bool)}{r1 r2:Option (D×Bool)}(hg:∀w∈W,GoodW m w):
  Run (QaX (Qab (Qf 1)) (.tp [3,4,5]) (Qb (QbF 2 Qam (Qf 3) (QC (Qm (Qf 2) (Qf 3)) (dC (.int 1)))) (Qb (sIf (Qcm (QG (Qf 5))) (Qb (QbF 2 Qam (Qf 4) (QC (Qm (Qf 2) (Qf 4)) (dC (.int 1)))) Qh) Qh) Qh)))
   [slI m,slF (Q9 W),slT (Qc (m+1) λ_=>0),none,none,none,r1,r2] (Nx λU=>∃f j3 j4 j5,(∀k,0<=f k/\f k<=2*(W.length:Int))/\U=[slI m,slF (Q9 W),slT (Qc (m+1) f),j3,j4,j5,r1,r2]):=by
 refine Qay W (λi U=>∃f j3 j4 j5,(∀k,0<=f k/\f k<=2*(i:Int))/\U=[slI m,slF (Q9 W),slT (Qc (m+1) f),j3,j4,j5,r1,r2]) rfl rfl ⟨λ_=>0,none,none,none,λk=>⟨⋯,⋯⟩,rfl⟩ ?_ ?_
 .rintro i w U hi ⟨f,j3,j4,j5,hf,rfl⟩;obtain⟨⟨h1,h2,h3,h4,h5⟩,h6⟩:=hg w (Zao hi);refine⟨_,rfl,?_⟩;refine run_seq (QpR rfl rfl h1 ⋯ ?_);have hf1:∀k,0<=up f w.1.toNat (f w.1.toNat+1) k/\up f w.1.toNat (f w.1.toNat+1) k<=2*(i:Int)+1:=λk=>by
   have a:=hf k;have b:=hf w.1.toNat
   unfold up;split<;>lia
  refine run_seq (Q5 (Qdi (QF rfl rfl)) (λ_=>run_seq (QpR rfl rfl h2 ⋯ (Ql (Ql ⟨_,_,_,_,λk=>?_,rfl⟩)))) (λ_=>Ql (Ql ⟨_,_,_,_,λk=>?_,rfl⟩)))
  .have a:=hf1 k;have b:=hf1 w.2.1.toNat
   unfold up at a b ⊢;split<;>lia
  .have a:=hf1 k;lia
 .rintro U ⟨f,j3,j4,j5,hf,rfl⟩;exact⟨f,j3,j4,j5,hf,rfl⟩
def Qtl{n:Nat}{f:Mt1}{a b c d e g:Option (D×Bool)}{fi:DI}(hi:fi [a,b,c,d,e,g,slI 1,none]=some ⟨(List.range n).map λ(k:Nat)=> .int (f k),[]⟩)(hf:∀k,0<=f k/\f k<2^64):
  Run (QaX fi (.nm 7) (Qb (Qp 6 (Q3 (Qf 6) (Qf 7))) Qh)) [a,b,c,d,e,g,slI 1,none] (Nx λU=>∃(z:Int) (j:Option (D×Bool)),U=[a,b,c,d,e,g,slI z,j]):=by
 refine Qay (List.range n) (λi U=>∃(z:Int) (j:Option (D×Bool)),U=[a,b,c,d,e,g,slI z,j]) hi rfl ⟨1,none,rfl⟩ ?_ ?_
 .rintro i k U _ ⟨z,j,rfl⟩;have:=hf k;exact⟨_,rfl,run_seq (QH (Qai rfl rfl rfl rfl (Qcy ⋯)) (Ql ⟨z*f k,_,rfl⟩))⟩
 .rintro U ⟨z,j,rfl⟩;exact⟨z,j,rfl⟩
def Qxp:Qns (Qu 8 QiD):=λm W hm hl hg=>by
 have key:Run QiD (Qau 8 [.int m,Q9 W]) (Rt λd fr=>∃b,d= .bl b/\fr=true):=by
  refine rsa (Qf1 (n:=m+1) (Q6 rfl rfl rfl rfl) rfl ⋯) ?_;refine Qbb (Qsr hg) ?_;rintro U ⟨f,j3,j4,j5,hf,rfl⟩;refine rsa rfl ?_;refine Qbb (Qtl (Qak (Qp0 rfl rfl rfl rfl ⋯) rfl) λk=>⟨(hf k).1,by have:=(hf k).2;lia⟩) ?_;rintro U ⟨z,j,rfl⟩;exact Qy (Qan rfl rfl rfl) ⟨_,rfl,rfl⟩
 obtain⟨o,h1,h2⟩:=key;cases o with
 | rt d fr=>
  obtain⟨b,rfl,rfl⟩:=h2;exact⟨b,by unfold Qu;rw[h1];rfl⟩
 | _=>exact h2.elim
noncomputable def Qix(Qa8:Den):DS:=(Qb (QaX (Qab vv1) (.nm 4) (Qb (Qp 5 (dOp Qad (Q3 vv4 QlO) Qdd)) (Qb (Qp 6 (dOp Qad vv5 (QC vv2 kk1))) (Qb (Qp 7 (dOp Qad (QC (QC vv6 kk1) (dOp Qad (dOp Qbc vv5 kk9) vv2)) (QC vv2 kk1))) (Qb (Qp 8 (Qav (Qa vv6 (Qa vv7 (Qa (Qb0 (dOp gLt vv6 vv2) (dOr (dOp gEq vv3 kk2) (Qb0 (dOp gEq vv3 kk3) (dOp gEq (dOp Qad (dOp Qbc vv5 QBE) kk3) kk1)))) Qd))))) (Qb (sIf (bOr (Qdf (QG (dOp gNe vv3 kk2)) (QG (dOp gNe vv3 kk3))) (QG (Qo 2 Qa8 [] (Qa vv2 (Qa (QC vv0 (Qah (Qa vv8 Qd))) Qd))))) (Qb (Qp 0 (QC vv0 (Qah (Qa vv8 Qd)))) Qh) Qh) Qh)))))) (Qb (QO vv0) Qh))
noncomputable def Qb4(c:Int):Int:=c*48271 % 2147483647
noncomputable def mStart(m c:Int):Int:=Qb4 c % (m+1)
noncomputable def Qjn(m c:Int):Int:=(mStart m c+1+Qb4 c / 9 % m) % (m+1)
noncomputable def Qea(m kind c:Int):Int×Int×Bool:=(mStart m c,Qjn m c,decide (mStart m c<m) && (decide (kind=2) || (decide (kind=3) && decide (Qb4 c / 72 % 3=1))))
def Qtn{m:Nat}(hm:0<m)(kind c:Int):GoodW m (Qea m kind c):=by
 have h1:=ZM (Qb4 c) (by lia:(m:Int)+1≠0);have h2:=ZO (Qb4 c) (by lia:(0:Int)<m+1);have h3:=ZM (Qb4 c / 9) (by lia:(m:Int)≠0);have h4:=ZO (Qb4 c / 9) (by lia:(0:Int)<m);have h5:=ZM (mStart m c+1+Qb4 c / 9 % m) (by lia:(m:Int)+1≠0);have h6:=ZO (mStart m c+1+Qb4 c / 9 % m) (by lia:(0:Int)<m+1);have h7:=Qrv (a:=mStart m c) (x:=1+Qb4 c / 9 % m) (n:=(m:Int)+1) ⋯ ⋯;rw[← Int.add_assoc,show mStart m c % ((m:Int)+1)=mStart m c from Zcc h1 h2]at h7;refine⟨⟨h1,h5,?_,?_,λz=>h7 z.symm⟩,λh=>?_⟩
 .show mStart m c<=m;unfold mStart;lia
 .show Qjn m c<=m;unfold Qjn;lia
 .have:(Qea m kind c).2.2=(decide (mStart m c<m) && (decide (kind=2) || (decide (kind=3) && decide (Qb4 c / 72 % 3=1)))):=rfl;rw[this,Zk,decide_eq_true_eq]at h;exact h.1
def Qww{fa fb:DE}{U:En}{ra rb:R}{A B:List (Int×Int×Bool)}(ha:fa U=some ra)(ea:ra.d=Q9 A)(hb:fb U=some rb)(eb:rb.d=Q9 B)(hl:A.length+B.length<=16777216):QC fa fb U=some (reT (Q9 (A++B))):=by
 unfold QC;rw[ha,Za,hb,Za,ea,eb];simp only[Q9,Zj,QdU,if_pos hl,QaA];simp
def QtQ{m:Nat}{kind c:Int}{s0 s1 s5 s6 s7 s8:Option (D×Bool)}{g:DS}{Q:Out->Prop}(hm:0<m)
  (k:Run g [s0,s1,slI m,slI kind,slI c,slI (Qb4 c),slI (mStart m c),slI (Qjn m c),some (QcC (Qea m kind c),true)] Q):
  Run (Qb (Qp 5 (dOp Qad (Q3 (Qf 4) (dC (.int 48271))) (dC (.int 2147483647)))) (Qb (Qp 6 (dOp Qad (Qf 5) (QC (Qf 2) (dC (.int 1))))) (Qb (Qp 7 (dOp Qad (QC (QC (Qf 6) (dC (.int 1))) (dOp Qad (dOp Qbc (Qf 5) (dC (.int 9))) (Qf 2))) (QC (Qf 2) (dC (.int 1))))) (Qb (Qp 8 (Qav (Qa (Qf 6) (Qa (Qf 7) (Qa (Qb0 (dOp gLt (Qf 6) (Qf 2)) (dOr (dOp gEq (Qf 3) (dC (.int 2))) (Qb0 (dOp gEq (Qf 3) (dC (.int 3))) (dOp gEq (dOp Qad (dOp Qbc (Qf 5) (dC (.int 72))) (dC (.int 3))) (dC (.int 1)))))) Qd))))) g))))
   [s0,s1,slI m,slI kind,slI c,s5,s6,s7,s8] Q:=by
 refine rsa (Qaf (b:=2147483647) (Qai (a:=c) (b:=48271) rfl rfl rfl rfl (Qcy ∅)) rfl rfl rfl ∅) ?_;refine rsa (Qaf (a:=Qb4 c) (b:=(m:Int)+1) rfl rfl (Q6 (a:=(m:Int)) (b:=1) rfl rfl rfl rfl) rfl ⋯) ?_;refine rsa (Qaf (a:=mStart m c+1+Qb4 c / 9 % m) (b:=(m:Int)+1) (Q6 (Q6 (a:=mStart m c) (b:=1) rfl rfl rfl rfl) rfl (Qaf (a:=Qb4 c / 9) (b:=m) (QeB (a:=Qb4 c) (b:=9) rfl rfl rfl rfl ∅ ∅) rfl rfl rfl ⋯) rfl) rfl (Q6 (a:=(m:Int)) (b:=1) rfl rfl rfl rfl) rfl ⋯) ?_;refine run_seq (QH (r:=⟨QcC (Qea m kind c),true,[]⟩) ?_ ?_)
 .have e:=Qm7 (U:=[s0,s1,slI m,slI kind,slI c,slI (Qb4 c),slI (mStart m c),slI (Qjn m c),s8])
   (Qan (g:=gLt) (fa:=Qf 6) (fb:=Qf 2) rfl rfl rfl)
   (Qqr (Qa4 (fa:=Qf 3) (fb:=dC (.int 2)) rfl rfl rfl rfl)
    (Qm7 (Qa4 (fa:=Qf 3) (fb:=dC (.int 3)) rfl rfl rfl rfl) (Qa4 (fb:=dC (.int 1)) (Qaf (fb:=dC (.int 3)) (QeB (fa:=Qf 5) (fb:=dC (.int 72)) rfl rfl rfl rfl ∅ ∅) rfl rfl rfl ∅) rfl rfl rfl)))
  have t:Qav (Qa (Qf 6) (Qa (Qf 7) (Qa (Qb0 (dOp gLt (Qf 6) (Qf 2)) (dOr (dOp gEq (Qf 3) (dC (.int 2))) (Qb0 (dOp gEq (Qf 3) (dC (.int 3))) (dOp gEq (dOp Qad (dOp Qbc (Qf 5) (dC (.int 72))) (dC (.int 3))) (dC (.int 1)))))) Qd))) [s0,s1,slI m,slI kind,slI c,slI (Qb4 c),slI (mStart m c),slI (Qjn m c),s8]=some ⟨QcC (Qea m kind c),true,[]⟩:=by
   unfold Qav;rw[Qw rfl (Qw rfl (Qw e (Q8 _)))];rfl
  exact t
 .rw[Qac];exact k
def QnY(d:Den):Prop:=∀(m:Nat) (W:List (Int×Int×Bool)) (cs:List Int) (kind:Int),0<m->m<=1000->W.length+cs.length<=10000->(∀w∈W,GoodW m w)→
 ∃W' fr,d [Q9 W,.lst (cs.map .int),.int m,.int kind]=some (Q9 (W++W'),fr)/\W'.length<=cs.length/\∀w∈W',GoodW m w
def QwT{Qa8:Den}(hf:Qns Qa8):QnY (Qu 9 (Qix Qa8)):=λm W cs kind h0 hm hl hg=>by
 have key:Run (Qix Qa8) (Qau 9 [Q9 W,.lst (cs.map .int),.int m,.int kind]) (Rt λd fr=>∃W',d=Q9 (W++W')/\W'.length<=cs.length/\∀w∈W',GoodW m w):=by
  refine run_seq (Qay cs (λi U=>∃W' b j4 j5 j6 j7 j8,W'.length<=i/\(∀w∈W',GoodW m w)/\U=[some (Q9 (W++W'),b),slF (.lst (cs.map .int)),slI m,slI kind,j4,j5,j6,j7,j8]) rfl rfl ⟨[],false,none,none,none,none,none,ZF _,λw hw=>absurd hw ⋯,by rw[Zas];rfl⟩ ?_ ?_)
  .rintro i c U hi ⟨W',b,j4,j5,j6,j7,j8,hw1,hw2,rfl⟩;have hil:i<cs.length:=(Zi.mp hi).1;have gw:=Qtn h0 kind c;refine⟨_,rfl,QtQ h0 ?_⟩
   have eadd:QC (Qf 0) (Qah (Qa (Qf 8) Qd)) [some (Q9 (W++W'),b),slF (.lst (cs.map .int)),slI m,slI kind,slI c,slI (Qb4 c),slI (mStart m c),slI (Qjn m c),some (QcC (Qea m kind c),true)]=some (reT (Q9 (W++W'++[Qea m kind c]))):=
    Qww (Qa6 rfl) (by cases b<;>rfl) rfl rfl (by simp;lia)
   have gg:∀w∈W++W'++[Qea m kind c],GoodW m w:=λw hw=>by
    rcases Zr.mp hw with h | h
    .rcases Zr.mp h with h | h
     .exact hg w h
     .exact hw2 w h
    .have:w=Qea m kind c:=by simpa using h
     rw[this];exact gw
   obtain⟨bf,hbf⟩:=hf m (W++W'++[Qea m kind c]) hm (by simp;lia) gg;refine run_seq (Q5 (Qc9 (QlJ (QF (Qde rfl rfl rfl rfl) rfl) (QF (Qde rfl rfl rfl rfl) rfl)) (QF (Qt (Qw rfl (Qw eadd (Q8 _))) hbf rfl) rfl)) (λ_=>run_seq (QH eadd (Ql ?_))) (λ_=>Ql (Ql ⟨W',b,_,_,_,_,_,⋯,hw2,rfl⟩)));rw[Qac];refine Ql ⟨W'++[Qea m kind c],true,_,_,_,_,_,by simp;lia,λw hw=>?_,by rw[ZG];rfl⟩;rcases Zr.mp hw with h | h
   .exact hw2 w h
   .have:w=Qea m kind c:=by simpa using h
    rw[this];exact gw
  .rintro U ⟨W',b,j4,j5,j6,j7,j8,hw1,hw2,rfl⟩;exact Qy (Qa6 rfl) ⟨W',by cases b<;>rfl,hw1,hw2⟩
 obtain⟨o,h1,h2⟩:=key;cases o with
 | rt d fr=>
  obtain⟨W',rfl,h3,h4⟩:=h2;exact⟨W',fr,by unfold Qu;rw[h1];rfl,h3,h4⟩
 | _=>exact h2.elim
noncomputable def QcF(w:Int×Int×Bool):Int×Int:=(if w.2.1<w.1 then w.2.1 else w.1,if w.2.1>w.1 then w.2.1 else w.1)
noncomputable def Qr3(w:Int×Int×Bool):Int×Int:=(w.1,w.2.1)
noncomputable def Qb9(W:List (Int×Int×Bool)):List (Int×Int):=(W.filter λw=> !w.2.2).map QcF
noncomputable def QcA(W:List (Int×Int×Bool)):List (Int×Int):=(W.filter λw=>w.2.2).map Qr3
def QkG{m:Nat}{W:List (Int×Int×Bool)}(h:∀w∈W,GoodW m w):∀s∈Qb9 W,Good m s/\s.1<s.2:=λs hs=>by
 obtain⟨w,hw,rfl⟩:=ZK.mp hs;obtain⟨⟨h1,h2,h3,h4,h5⟩,_⟩:=h w (ZaV.mp hw).1;simp only at h1 h2 h3 h4 h5;unfold QcF Good;simp only;split<;>split<;>lia
def Qks{m:Nat}{W:List (Int×Int×Bool)}(h:∀w∈W,GoodW m w):∀s∈QcA W,Good m s/\s.1<m:=λs hs=>by
 obtain⟨w,hw,rfl⟩:=ZK.mp hs;obtain⟨h1,h2⟩:=h w (ZaV.mp hw).1;exact⟨h1,h2 (by simpa using(ZaV.mp hw).2)⟩
def Qsk(W:List (Int×Int×Bool)):(Qb9 W).length<=W.length:=by unfold Qb9;rw[Zj];exact List.length_filter_le _ _
def Qtb(W:List (Int×Int×Bool)):(QcA W).length<=W.length:=by unfold QcA;rw[Zj];exact List.length_filter_le _ _
def QuS{fa:DE}{U:En}{r:R}{W:List (Int×Int×Bool)}(h:fa U=some r)(e:r.d=Q9 W):QL (Qab fa) (.tp [1,2,3]) [none,none,none,none] (Qcm (QG (Qf 3))) (Qav (Qa (dBf Qkt (Qa (Qf 1) (Qa (Qf 2) Qd))) (Qa (dBf QjR (Qa (Qf 1) (Qa (Qf 2) Qd))) Qd))) U=some (reT (QX (Qb9 W))):=by
 rw[QfW W (Qak h e) rfl λw _=>⟨[none,slI w.1,slI w.2.1,slT (.bl w.2.2)],rfl,Qdi (QF rfl rfl),λ_=>⟨⟨pairD (QcF w),true,[]⟩,rfl,rfl,rfl⟩⟩];unfold QX Qb9;rw[ZZ];rfl
def Qud{fa:DE}{U:En}{r:R}{W:List (Int×Int×Bool)}(h:fa U=some r)(e:r.d=Q9 W):QL (Qab fa) (.tp [1,2,3]) [none,none,none,none] (QG (Qf 3)) (Qav (Qa (Qf 1) (Qa (Qf 2) Qd))) U=some (reT (QX (QcA W))):=by
 rw[QfW W (Qak h e) rfl λw _=>⟨[none,slI w.1,slI w.2.1,slT (.bl w.2.2)],rfl,QF rfl rfl,λ_=>⟨⟨pairD (Qr3 w),true,[]⟩,rfl,rfl,rfl⟩⟩];unfold QX QcA;rw[ZZ];rfl
def QnN{m:Nat}{t kind:Int}:∀w∈Qb3 m t kind,GoodW m w:=λw hw=>by
 obtain⟨k,hk,rfl⟩:=ZK.mp hw;exact Qrw (Zq.mp hk)
def Qnt(m:Nat)(t kind:Int):(Qb3 m t kind).length=m:=by simp[Qb3]
def Qf8:up f i v k=if k=i then v else f k:=rfl
def Qc1{fa:DE}{U:En}{r:R}{m:Int}{R L:Lpp}(h:fa U=some r)(e:r.d=QM m R L):
  Qm fa (dC (.int 0)) U=some (reI m)/\Qm fa (dC (.int 1)) U=some ⟨QX R,r.fr,r.M⟩/\Qm fa (dC (.int 2)) U=some ⟨QX L,r.fr,r.M⟩:=by
 unfold Qm;rw[h];simp only[Za,e,QaB];exact⟨rfl,rfl,rfl⟩
def QcJ(h:fa U=some r)(e:r.d= .lst xs):dBf Qao (Qa fa Qd) U=some (reI xs.length):=by
 unfold dBf;rw[Qw h (Q8 _),Za];simp[e,Qao]
def Qml(n:Nat)(ps:Lpp):(QX ps).sim (n+2)=true:=by
 unfold QX;simp only[D.sim,Zct,Zat];intro p _;cases n<;>rfl
def Qxh(m:Int)(R L:Lpp):(QM m R L).sim 8=true:=by
 unfold QM;simp only[D.sim,List.all_cons,List.all_nil,ZcF,Bool.true_and,Zk];exact⟨Qml 5 R,Qml 5 L⟩
def Qr0(ha:fa U=some ra)(ea:ra.d=d)(hb:fb U=some rb)(eb:rb.d=d)(hs:d.sim 8=true):dOp gNe fa fb U=some (reT (.bl false)):=by
 refine Qan ha hb ?_;rw[ea,eb];unfold gNe;rw[hs,QnA hs];rfl
def QmM(d:Den):Prop:=∀(m:Nat) (R L:Lpp),m<=1000->R.length+R.length+L.length<=1000000->(∀s∈R,Good m s)->(∀s∈L,Good m s)->d [QM m R L]=some (Qc m (QbV R L),true)
def Qxo(h:Qfd d):QmM (Qu 1 (Qiz d)):=λm R L h1 h2 h3 h4=>QuA h h1 h2 h3 h4
noncomputable def sm:Nat->(Nat->Int)->Int
 | 0,_=>0
 | n+1,f=>sm n f+f n
def Qas:∀{n:Nat},(∀i,i<n->f i=g i)->sm n f=sm n g
 | 0,_=>rfl
 | n+1,h=>by unfold sm;rw[Qas λi hi=>h i ⋯,h n ⋯]
def Qgd(x y:Int)(f g:Mt1):∀n,sm n (λi=>x*f i+y*g i)=x*sm n f+y*sm n g
 | 0=>by simp[sm]
 | n+1=>by
  unfold sm;rw[Qgd x y f g n,Zbg,Zbg];show _+(x*f n+y*g n)=_;lia
def QdB:∀{n:Nat},(∀i,i<n->f i=0)->sm n f=0
 | 0,_=>rfl
 | n+1,h=>by unfold sm;rw[QdB λi hi=>h i ⋯,h n ⋯];rfl
def Qco:∀{n:Nat},c<n->(∀i,i<n->i≠c->f i=0)->sm n f=f c
 | 0,hc,_=> ⋯
 | n+1,hc,h=>by
  unfold sm;by_cases e:c=n
  .rw[QdB λi hi=>h i ⋯ ⋯,e];lia
  .rw[Qco (c:=c) ⋯ λi hi=>h i ⋯,h n ⋯ (Ne.symm e)];lia
def Qku:∀{n:Nat},c<d->d<n->(∀i,i<n->i≠c->i≠d->f i=0)->sm n f=f c+f d
 | 0,_,hc,_=> ⋯
 | n+1,hcd,hd,h=>by
  unfold sm;by_cases e:d=n
  .rw[Qco (c:=c) ⋯ λi hi ne=>h i ⋯ ne ⋯,e]
  .rw[Qku (c:=c) (d:=d) hcd ⋯ λi hi=>h i ⋯,h n ⋯ ⋯ ⋯];lia
def QpV(x:Int)(f:Mt1):∀n,sm n (λi=>f i*x)=sm n f*x
 | 0=>by simp[sm]
 | n+1=>by unfold sm;rw[QpV x f n,ZU]
noncomputable def skp(j c:Nat):Nat:=if c<j then c else c+1
noncomputable def sgn(j:Nat):Int:=if j % 2=0 then 1 else-1
def QjB(j:Nat):sgn (j+1)= -sgn j:=by
 unfold sgn;by_cases h:j % 2=0
 .rw[if_pos h,if_neg ⋯]
 .rw[if_neg h,if_pos ⋯];rfl
noncomputable def det:Nat->(Nat->Nat->Int)->Int
 | 0,_=>1
 | n+1,m=>sm (n+1) λj=>sgn j*m j 0*det n λc r=>m (skp j c) (r+1)
noncomputable def cup(m:Mt2)(c:Nat)(a:Mt1):Nat->Nat->Int:=λj=>if j=c then a else m j
def QR(m:Mt2)(c:Nat)(a:Mt1):cup m c a c=a:=by unfold cup;rw[if_pos rfl]
def QJ(m:Mt2)(a:Mt1)(h:j≠c):cup m c a j=m j:=by unfold cup;rw[if_neg h]
def Qbg(m:Mt2)(c:Nat):cup m c (m c)=m:=by
 funext j;by_cases h:j=c
 .rw[h,QR]
 .rw[QJ _ _ h]
def QpD(m:Mt2)(c:Nat)(a b:Mt1):cup (cup m c a) c b=cup m c b:=by
 funext j;by_cases h:j=c
 .rw[h,QR,QR]
 .rw[QJ _ _ h,QJ _ _ h,QJ _ _ h]
def Qcl(m:Mt2)(a b:Mt1)(h:c≠d):cup (cup m c a) d b=cup (cup m d b) c a:=by
 funext j;by_cases h1:j=c
 .subst h1;rw[QJ _ _ h,QR,QR]
 .by_cases h2:j=d
  .subst h2;rw[QR,QJ _ _ h1,QR]
  .rw[QJ _ _ h2,QJ _ _ h1,QJ _ _ h1,QJ _ _ h2]
def Qbv:∀{n:Nat}{m k:Mt2},(∀j,j<n->∀r,r<n->m j r=k j r)->det n m=det n k
 | 0,_,_,_=>rfl
 | n+1,m,k,h=>by
  unfold det;refine Qas λj hj=>?_;rw[h j hj 0 ⋯,Qbv (n:=n) (m:=λc r=>m (skp j c) (r+1)) (k:=λc r=>k (skp j c) (r+1)) λc hc r hr=>h _ (by unfold skp;split<;>lia) _ ⋯]
def QhO(m:Mt2)(c:Nat)(v:Mt1):(λc' r=>cup m c v (skp c c') (r+1))=λc' r=>m (skp c c') (r+1):=by
 funext c' r;rw[QJ _ _ (by unfold skp;split<;>lia)]
def QgT(m:Mt2)(v:Mt1)(h:c≠j):(λc' r=>cup m c v (skp j c') (r+1))=cup (λc' r=>m (skp j c') (r+1)) (if c<j then c else c-1) (λr=>v (r+1)):=by
 funext c' r;by_cases e:c'=if c<j then c else c-1
 .rw[e,QR];have:skp j (if c<j then c else c-1)=c:=by
   unfold skp;by_cases q:c<j
   .rw[if_pos q,if_pos q]
   .rw[if_neg q,if_neg ⋯];lia
  rw[this,QR]
 .rw[QJ _ _ e,QJ];intro z;refine e ?_;unfold skp at z;by_cases q:c'<j
  .rw[if_pos q]at z;rw[if_pos ⋯];lia
  .rw[if_neg q]at z;rw[if_neg ⋯];lia
def Qis(x y:Int)(a b:Mt1):∀(n:Nat) (m:Mt2) (c:Nat),c<n->∀(a b:Mt1),det n (cup m c λr=>x*a r+y*b r)=x*det n (cup m c a)+y*det n (cup m c b)
 | 0,_,_,h,_,_=> ⋯
 | n+1,m,c,h,a,b=>by
  unfold det;rw[← Qgd];refine Qas λj hj=>?_;by_cases e:j=c
  .subst e;rw[QhO,QhO,QhO,QR,QR,QR];generalize det n _=q;generalize sgn j=s;simp only[Zbg,ZU,Zaq,Zcd]
  .rw[QgT m _ (Ne.symm e),QgT m _ (Ne.symm e),QgT m _ (Ne.symm e),QJ _ _ e,QJ _ _ e,QJ _ _ e,Qis x y a b n _ _ (by split<;>lia)];generalize det n _=q;generalize det n _=q';generalize sgn j*m j 0=s;simp only[Zbg,Zcd]
def Qh1(h:c<n)(a b:Mt1):det n (cup m c λr=>a r+b r)=det n (cup m c a)+det n (cup m c b):=by
 have:=Qis 1 1 a b n m c h a b;simpa only[ZaR]using this
def Qit(h:c<n)(x:Int)(a:Mt1):det n (cup m c λr=>x*a r)=x*det n (cup m c a):=by
 have:=Qis x 0 a a n m c h a a;simpa only[ZQ,ZaP]using this
def QhZ:∀(n:Nat) (m:Mt2) (c:Nat),c+1<n->m c=m (c+1)->det n m=0
 | 0,_,_,h,_=> ⋯
 | n+1,m,c,h,e=>by
  unfold det;rw[Qku (c:=c) (d:=c+1) ⋯ h]
  .have:(λc' r=>m (skp c c') (r+1))=λc' r=>m (skp (c+1) c') (r+1):=by
    funext c' r;unfold skp;by_cases q:c'<c
    .rw[if_pos q,if_pos ⋯]
    .rw[if_neg q];by_cases q2:c'=c
     .rw[if_pos ⋯,q2,e]
     .rw[if_neg ⋯]
   rw[this,QjB,e];generalize det n _=q;rw[ZaM,ZaM];lia
  .intro j hj h1 h2;have:det n (λc' r=>m (skp j c') (r+1))=0:=by
    by_cases q:c<j
    .refine QhZ n _ c ⋯ ?_;funext r;show m (skp j c) (r+1)=m (skp j (c+1)) (r+1);unfold skp;rw[if_pos q,if_pos ⋯,e]
    .refine QhZ n _ (c-1) ⋯ ?_;funext r;show m (skp j (c-1)) (r+1)=m (skp j (c-1+1)) (r+1);unfold skp;rw[if_neg ⋯,if_neg ⋯,show c-1+1=c by lia,e]
   rw[this,ZW]
def QiQ(hc:c<n)(hd:d<n)(hcd:c≠d)(hz:∀k:Nat->Nat->Int,k c=k d->det n k=0)(a b:Mt1):det n (cup (cup m c a) d b)= -det n (cup (cup m c b) d a):=by
 have z:=hz (cup (cup m c λr=>a r+b r) d λr=>a r+b r) (by rw[QR,QJ _ _ hcd,QR]);have za:=hz (cup (cup m c a) d a) (by rw[QR,QJ _ _ hcd,QR]);have zb:=hz (cup (cup m c b) d b) (by rw[QR,QJ _ _ hcd,QR]);rw[Qh1 hd,Qcl _ _ _ hcd,Qh1 hc,Qcl _ _ _ hcd,Qh1 hc,Qcl _ _ _ (Ne.symm hcd),Qcl _ _ _ (Ne.symm hcd),Qcl _ _ _ (Ne.symm hcd),Qcl _ _ _ (Ne.symm hcd),za,zb]at z;lia
def Qlh:∀(g n:Nat) (m:Mt2) (i:Nat),i+g+1<n->m i=m (i+g+1)->det n m=0
 | 0,n,m,i,h,e=>QhZ n m i h e
 | g+1,n,m,i,h,e=>by
  have:=QiQ (m:=m) (c:=i+g+1) ⋯ ⋯ ⋯ (λk hk=>QhZ n k _ ⋯ hk) (m (i+g+1)) (m (i+g+1+1));rw[Qbg,Qbg]at this;rw[this,Qlh g n _ i ⋯]
  .rfl
  .rw[QJ _ _ ⋯,QJ _ _ ⋯,QJ _ _ ⋯,QR];exact e
def Qga(hi:i<n)(hj:j<n)(hij:i≠j)(e:m i=m j):det n m=0:=by
 rcases Nat.lt_or_gt_of_ne hij with h | h
 .exact Qlh (j-i-1) n m i ⋯ (by rw[show i+(j-i-1)+1=j by lia];exact e)
 .exact Qlh (i-j-1) n m j ⋯ (by rw[show j+(i-j-1)+1=i by lia];exact e.symm)
def QnX(hc:c<n)(hd:d<n)(hcd:c≠d)(a b:Mt1):det n (cup (cup m c a) d b)= -det n (cup (cup m c b) d a):=QiQ hc hd hcd (λk hk=>Qga hc hd hcd hk) a b
def Qf4(h:c<n)(x:Mt1)(E:Mt2):∀k,det n (cup m c λr=>sm k λs=>x s*E s r)=sm k λs=>x s*det n (cup m c (E s))
 | 0=>by
  have:=Qit (m:=m) h 0 λ_=>0;rw[ZQ]at this;unfold sm;simpa using this
 | k+1=>by
  unfold sm;rw[Qh1 h,Qf4 h x E k,Qit h]
def Qtt:∀{n:Nat}(σ:Nat->Nat),(∀j,j<n+1->σ j<n)->∃i j,i<n+1/\j<n+1/\i≠j/\σ i=σ j
 | 0,σ,h=>absurd (h 0 ⋯) ⋯
 | n+1,σ,h=>by
  by_cases q:∃i,i<n+1/\σ i=σ (n+1)
  .obtain⟨i,hi,e⟩:=q;exact⟨i,n+1,⋯,⋯,⋯,e⟩
  .have ne:∀i,i<n+1->σ i≠σ (n+1):=λi hi e=>q ⟨i,hi,e⟩;have hv:=h (n+1) ⋯;obtain⟨i,j,hi,hj,hij,e⟩:=Qtt (n:=n) (λj=>if σ (n+1)<σ j then σ j-1 else σ j) λj hj=>by
    have:=h j ⋯;have:=ne j hj;show(if σ (n+1)<σ j then σ j-1 else σ j)<n;by_cases c:σ (n+1)<σ j
    .rw[if_pos c];lia
    .rw[if_neg c];lia
   refine⟨i,j,⋯,⋯,hij,?_⟩;have a:=ne i hi;have b:=ne j hj;have e:(if σ (n+1)<σ i then σ i-1 else σ i)=(if σ (n+1)<σ j then σ j-1 else σ j):=e;by_cases c:σ (n+1)<σ i
   .rw[if_pos c]at e;by_cases d:σ (n+1)<σ j
    .rw[if_pos d]at e;lia
    .rw[if_neg d]at e;lia
   .rw[if_neg c]at e;by_cases d:σ (n+1)<σ j
    .rw[if_pos d]at e;lia
    .rw[if_neg d]at e;lia
def Qoa{n:Nat}{E:Mt2}{x:Mt2}:∀(k:Nat) (W:Mt2) (σ:Nat->Nat),k<=n+1->(∀j,j<n+1->σ j<n)->(∀j,j<k->W j=λr=>sm n λs=>x j s*E s r)->(∀j,k<=j->j<n+1->W j=E (σ j))->det (n+1) W=0
 | 0,W,σ,hk,hσ,_,h2=>by
  obtain⟨i,j,hi,hj,hij,e⟩:=Qtt σ hσ;exact Qga hi hj hij (by rw[h2 i ⋯ hi,h2 j ⋯ hj,e])
 | k+1,W,σ,hk,hσ,h1,h2=>by
  have:=Qf4 (n:=n+1) (m:=W) (c:=k) ⋯ (x k) E n;rw[← h1 k ⋯,Qbg]at this;rw[this];refine QdB λs hs=>?_;rw[Qoa k (cup W k (E s)) (λj=>if j=k then s else σ j) ⋯ (λj hj=>by show(if j=k then s else σ j)<n;by_cases e:j=k;(rw[if_pos e];exact hs);(rw[if_neg e];exact hσ j hj)) (λj hj=>by rw[QJ _ _ ⋯];exact h1 j ⋯) λj h3 h4=>?_,ZW];show cup W k (E s) j=E (if j=k then s else σ j);by_cases e:j=k
  .rw[e,QR,if_pos rfl]
  .rw[QJ _ _ e,if_neg e];exact h2 j ⋯ h4
noncomputable def cyc(m:Mt2)(a:Mt1)(l k:Nat):Nat->Nat->Int:=λc=>if c<k then m c else if c=k then a else if c<=l then m (c-1)else m c
def Qub(m:Mt2)(a:Mt1)(hk:k<l)(hl:l<n):det n (cyc m a l k)= -det n (cyc m a l (k+1)):=by
 have h:=QnX (n:=n) (m:=cyc m a l k) (c:=k) (d:=k+1) ⋯ ⋯ ⋯ a (m k);have e1:cup (cup (cyc m a l k) k a) (k+1) (m k)=cyc m a l k:=by
  have q1:cyc m a l k k=a:=by unfold cyc;rw[if_neg ⋯,if_pos rfl]
  have q2:cyc m a l k (k+1)=m k:=by unfold cyc;rw[if_neg ⋯,if_neg ⋯,if_pos ⋯,ZbA]
  have:=Qbg (cyc m a l k) k;rw[q1]at this;rw[this,← q2,Qbg]
 have e2:cup (cup (cyc m a l k) k (m k)) (k+1) a=cyc m a l (k+1):=by
  funext c;by_cases h1:c=k+1
  .subst h1;rw[QR];unfold cyc;rw[if_neg ⋯,if_pos rfl]
  .rw[QJ _ _ h1];by_cases h2:c=k
   .subst h2;rw[QR];unfold cyc;rw[if_pos ⋯]
   .rw[QJ _ _ h2];unfold cyc;by_cases h3:c<k
    .rw[if_pos h3,if_pos ⋯]
    .rw[if_neg h3,if_neg h2,if_neg (show ¬c<k+1 by lia),if_neg h1]
 rw[e1,e2]at h;exact h
def Qpv(m:Mt2)(a:Mt1)(hl:l<n):∀g k,k+g=l->det n (cyc m a l k)=sgn g*det n (cup m l a)
 | 0,k,h=>by
  have:cyc m a l k=cup m l a:=by
   funext c;unfold cyc cup;by_cases h1:c=l
   .rw[if_neg ⋯,if_pos ⋯,if_pos h1]
   .rw[if_neg h1];by_cases h2:c<k
    .rw[if_pos h2]
    .rw[if_neg h2,if_neg ⋯,if_neg ⋯]
  rw[this];unfold sgn;simp
 | g+1,k,h=>by
  rw[Qub m a ⋯ hl,Qpv m a hl g (k+1) ⋯,QjB,ZaM]
def Qzi(j:Nat):sgn j*sgn j=1:=by unfold sgn;split<;>rfl
noncomputable def bE(r s q:Nat):Int:=if q=0 then(if s=r then 1 else 0)else if s=q-1 then 1 else 0
def QkC(m:Mt2)(a:Mt1)(hr:r<n):det n m*a r=sm n λl=>det n (cup m l a)*m l r:=by
 have v0:∃v:Nat->Nat->Int,v=λj=>if j=0 then a else m (j-1):=⟨_,rfl⟩;obtain⟨v,hv⟩:=v0;have hv0:v 0=a:=by rw[hv];rfl
 have hvs:∀j,v (j+1)=m j:=λj=>by rw[hv];show(if j+1=0 then a else m (j+1-1))=_;rw[if_neg ⋯,ZbA]
 have z:det (n+1) (λj s=>if s=0 then v j r else v j (s-1))=0:=by
  have key:det (n+1) (λj q=>sm n λs=>v j s*bE r s q)=0:=
   Qoa (n+1) _ (λ_=>r) ⋯ (λ_ _=>hr) (λj _=>rfl) (λj h1 h2=> ⋯)
  rw[← key];refine Qbv λj hj s hs=>?_;by_cases e:s=0
  .subst e;rw[if_pos rfl,Qco hr]
   .unfold bE;rw[if_pos rfl,if_pos rfl,ZbB]
   .intro i _ ne;unfold bE;rw[if_pos rfl,if_neg ne,ZW]
  .rw[if_neg e,Qco (c:=s-1) ⋯]
   .unfold bE;rw[if_neg e,if_pos rfl,ZbB]
   .intro i _ ne;unfold bE;rw[if_neg e,if_neg ne,ZW]
 unfold det at z;have term:∀j,(sgn j*(if(0:Nat)=0 then v j r else v j (0-1))*det n λc q=>if q+1=0 then v (skp j c) r else v (skp j c) (q+1-1))=sgn j*v j r*det n λc=>v (skp j c):=λj=>by
  rw[if_pos rfl];congr 1
 have first:∀(k:Nat) (f:Mt1),sm (k+1) f=f 0+sm k λi=>f (i+1):=λk f=>by
  induction k with
  | zero=>show 0+f 0=f 0+0;lia
  | succ k ih=>show sm (k+1) f+f (k+1)=_;rw[ih];show _=f 0+(sm k (λi=>f (i+1))+f (k+1));lia
 rw[Qas λj _=>term j,first]at z;have t0:(λc=>v (skp 0 c))=m:=by funext c;unfold skp;rw[if_neg ⋯,hvs]
 have tl:∀l,l<n->sgn (l+1)*v (l+1) r*det n (λc=>v (skp (l+1) c))= -(det n (cup m l a)*m l r):=λl hl=>by
  have:(λc=>v (skp (l+1) c))=cyc m a l 0:=by
   funext c;unfold skp cyc;by_cases h0:c=0
   .subst h0;rw[if_pos (show 0<l+1 by lia),if_neg (show ¬0<0 by lia),if_pos rfl,hv0]
   .obtain⟨c',rfl⟩:∃c',c=c'+1:=⟨c-1,⋯⟩;rw[if_neg (show ¬c'+1<0 by lia),if_neg h0];by_cases h1:c'+1<=l
    .rw[if_pos (show c'+1<l+1 by lia),if_pos h1,hvs,ZbA]
    .rw[if_neg (show ¬c'+1<l+1 by lia),if_neg h1,hvs]
  rw[this,Qpv m a hl l 0 ⋯,hvs,QjB];have q:=Qzi l;generalize det n (cup m l a)=d at *;generalize m l r=x at *;have: -sgn l*x*(sgn l*d)= -(sgn l*sgn l*(d*x)):=by
   rw[ZaM,ZaM,Zaq,Zcd x,← Zaq,Zau x d]
  rw[this,q,ZaR]
 rw[t0,hv0]at z;have neg:=Qgd (-1) 0 (λl=>det n (cup m l a)*m l r) (λ_=>0) n;rw[Qas (g:=λl=> -1*(det n (cup m l a)*m l r)+0*0) λl hl=>by rw[tl l hl];lia]at z;have s0:sgn 0=1:=rfl;rw[neg,s0,ZaR]at z;rw[Zau];lia
def QuO(m:Mt2)(u a:Mt1)(hk:k<n)(hi:i<n)(hki:k≠i):det n m*det n (cup (cup m k u) i a)=det n (cup m k u)*det n (cup m i a)-det n (cup m i u)*det n (cup m k a):=by
 have h1:det n m*det n (cup (cup m k u) i a)=det n (cup (cup m i a) k λr=>det n m*u r):=by
  rw[Qit hk,Qcl _ _ _ hki]
 have h2:det n (cup (cup m i a) k λr=>det n m*u r)=det n (cup (cup m i a) k λr=>sm n λl=>det n (cup m l u)*m l r):=by
  refine Qbv λj hj r hr=>?_;by_cases e:j=k
  .subst e;rw[QR,QR];exact QkC m u hr
  .rw[QJ _ _ e,QJ _ _ e]
 rw[h1,h2,Qf4 hk (λl=>det n (cup m l u)) m n];have tk:det n (cup (cup m i a) k (m k))=det n (cup m i a):=by rw[Qcl _ _ _ (Ne.symm hki),Qbg]
 have ti:det n (cup (cup m i a) k (m i))= -det n (cup m k a):=by
  rw[QnX hi hk (Ne.symm hki),Qbg]
 have tn:∀l,l<n->l≠k->l≠i->det n (cup (cup m i a) k (m l))=0:=λl hl h1 h2=>Qga hk hl (Ne.symm h1) (by rw[QR,QJ _ _ h1,QJ _ _ h2]);rcases Nat.lt_or_gt_of_ne hki with h | h
 .rw[Qku h hi λl hl a b=>by rw[tn l hl a b,ZW],tk,ti,ZaE];lia
 .rw[Qku h hk λl hl a b=>by rw[tn l hl b a,ZW],tk,ti,ZaE];lia
def Cng(n:Nat)(m:Mt2)(x y:Mt1):Prop:=∃c:Nat->Int,∀r,r<n->x r-y r=sm n λj=>c j*m j r
def Qm0(f g:Mt1)(n:Nat):sm n (λi=>f i+g i)=sm n f+sm n g:=by
 have:=Qgd 1 1 f g n;simpa using this
def Cng.symm{n:Nat}{m:Mt2}{x y:Mt1}(h:Cng n m x y):Cng n m y x:=by
 obtain⟨c,h⟩:=h;refine⟨λj=> -1*c j,λr hr=>?_⟩;have:=h r hr;have e:=Qgd (-1) 0 (λj=>c j*m j r) (λ_=>0) n;have e2:(sm n λj=> -1*c j*m j r)=sm n λj=> -1*(c j*m j r)+0*0:=Qas λj _=>by rw[Zaq];lia
 rw[e2,e];lia
def Cng.trans{n:Nat}{m:Mt2}{x y z:Mt1}(h:Cng n m x y)(k:Cng n m y z):Cng n m x z:=by
 obtain⟨c,h⟩:=h;obtain⟨d,k⟩:=k;refine⟨λj=>c j+d j,λr hr=>?_⟩;have h1:=h r hr;have h2:=k r hr;have e:(sm n λj=>(c j+d j)*m j r)=sm n λj=>c j*m j r+d j*m j r:=Qas λj _=>ZU _ _ _;rw[e,Qm0];lia
structure Sys (n:Nat) (m:Mt2) (xs:List (Nat->Int)):Prop where
 all:∀y,∃x∈xs,Cng n m y x
 one:xs.Pairwise λx y=>¬Cng n m x y
def QjO{n:Nat}{m:Mt2}:∀(xs ys:List (Nat->Int)),(∀x∈xs,∃y∈ys,Cng n m x y)->(xs.Pairwise λx y=>¬Cng n m x y)->xs.length<=ys.length
 | [],_,_,_=>ZF _
 | x::xs,ys,h,p=>by
  have p1:=ZaD.mp p;obtain⟨y,hy,hxy⟩:=h x Ze;obtain⟨a,b,rfl⟩:=List.append_of_mem hy;have:=QjO xs (a++b) (λz hz=>?_) p1.2
  .rw[Zn]at this ⊢;rw[ZI,ZI];lia
  .obtain⟨w,hw,hzw⟩:=h z (Zb _ hz);rcases Zr.mp hw with hw | hw
   .exact⟨w,Zg _ hw,hzw⟩
   .rcases Zm.mp hw with rfl | hw
    .exact absurd (hxy.trans hzw.symm) (p1.1 z hz)
    .exact⟨w,Zf _ hw,hzw⟩
def Qhi(f:Mt1):∀(n j:Nat),j<n+1->sm (n+1) f=f j+sm n λc=>f (skp j c)
 | 0,j,h=>by
  obtain rfl:j=0:= ⋯
  show 0+f 0=f 0+0;lia
 | n+1,j,h=>by
  by_cases e:j=n+1
  .subst e;show sm (n+1) f+f (n+1)=_;rw[Qas (g:=λc=>f (skp (n+1) c)) λc hc=>by unfold skp;rw[if_pos hc]];lia
  .have ih:=Qhi f n j ⋯;show sm (n+1) f+f (n+1)=f j+(sm n _+f (skp j n));rw[ih,show skp j n=n+1 from by unfold skp;rw[if_neg ⋯]];lia
def Qts(j c:Nat):skp j c≠j:=by unfold skp;split<;>lia
def QyC{j c n:Nat}(hc:c<n):skp j c<n+1:=by unfold skp;split<;>lia
noncomputable def Qqw(j i:Nat):Nat:=if i<j then i else i-1
def Qvx(j c:Nat):Qqw j (skp j c)=c:=by
 unfold Qqw skp;by_cases h:c<j
 .rw[if_pos h,if_pos h]
 .rw[if_neg h,if_neg ⋯];lia
def Qw1{n:Nat}{m:Mt2}{i k:Nat}(hi:i<n)(hk:k<n)(ne:i≠k)(q:Int):det n (cup m k λr=>m k r+q*m i r)=det n m:=by
 have e:=Qis 1 q (m k) (m i) n m k hk (m k) (m i);rw[Qbg,Qga (m:=cup m k (m i)) hi hk ne (by rw[QR,QJ _ _ ne])]at e;rw[show(λr=>m k r+q*m i r)=λr=>1*m k r+q*m i r from funext λr=> ⋯,e];lia
def Qpp{n:Nat}{m:Mt2}{i k:Nat}(hi:i<n)(hk:k<n)(ne:i≠k)(q:Int){x y:Mt1}(h:Cng n (cup m k λr=>m k r+q*m i r) x y):Cng n m x y:=by
 obtain⟨c,h⟩:=h;refine⟨λj=>c j+if j=i then q*c k else 0,λr hr=>?_⟩;rw[h r hr];have e:(sm n λj=>(c j+if j=i then q*c k else 0)*m j r)=sm n λj=>c j*m j r+(if j=i then q*c k else 0)*m j r:=Qas λj _=>ZU _ _ _;have e1:(sm n λj=>(if j=i then q*c k else 0)*m j r)=q*c k*m i r:=by
  rw[Qco hi λj _ hj=>by rw[if_neg hj,ZQ],if_pos rfl]
 rw[e,Qm0,e1];have e2:(sm n λj=>c j*cup m k (λr=>m k r+q*m i r) j r)=sm n λj=>c j*m j r+(if j=k then c k*(q*m i r)else 0):=Qas λj _=>by
  by_cases z:j=k
  .rw[z,QR,if_pos rfl,Zbg]
  .rw[QJ _ _ z,if_neg z,ZaP]
 have e3:(sm n λj=>if j=k then c k*(q*m i r)else 0)=c k*(q*m i r):=by
  rw[Qco hk λj _ hj=>if_neg hj,if_pos rfl]
 rw[e2,Qm0,e3]
 grind
def Qve{n:Nat}{m:Mt2}{i k:Nat}(hi:i<n)(hk:k<n)(ne:i≠k)(q:Int){x y:Mt1}(h:Cng n m x y):Cng n (cup m k λr=>m k r+q*m i r) x y:=by
 refine Qpp hi hk ne (-q) ?_;have e:(cup (cup m k λr=>m k r+q*m i r) k λr=>cup m k (λr=>m k r+q*m i r) k r+ -q*cup m k (λr=>m k r+q*m i r) i r)=m:=by
  rw[QpD,QR,QJ _ _ ne,show(λr=>m k r+q*m i r+ -q*m i r)=m k from funext λr=>by grind];exact Qbg m k
 rw[e];exact h
noncomputable def szN(n:Nat)(f:Mt1):Nat:=((List.range n).map λj=>(f j).natAbs).sum
def QsG{f g:Mt1}{k:Nat}:∀{n:Nat},k<n->(∀j,j<n->j≠k->g j=f j)->(g k).natAbs<(f k).natAbs->szN n g<szN n f
 | 0,h,_,_=> ⋯
 | n+1,h,he,hl=>by
  have s:∀f:Nat->Int,szN (n+1) f=szN n f+(f n).natAbs:=λf=>by unfold szN;rw[Zbx,Zap,List.sum_append];simp
  rw[s,s];by_cases e:k=n
  .subst e;have:szN k g=szN k f:=by
    unfold szN;rw[ZE λj hj=>by rw[he j (by have:=Zq.mp hj;lia) (by have:=Zq.mp hj;lia)]]
   lia
  .have:=QsG (n:=n) ⋯ (λj hj=>he j ⋯) hl;rw[he n ⋯ (Ne.symm e)];lia
noncomputable def Qyh(t:Nat)(x:Mt1):Nat->Int:=λr=>if r=0 then(t:Int)else x (r-1)
def Qlg:∀(n:Nat) (m:Mt2),det n m≠0->∃xs,Sys n m xs/\xs.length=(det n m).natAbs
 | 0,m,_=>⟨[λ_=>0],⟨λy=>⟨_,Ze,λ_=>0,λr hr=> ⋯⟩,List.pairwise_singleton _ _⟩,rfl⟩
 | n+1,m,hd=>by
  generalize hS:szN (n+1) (λj=>m j 0)=S
  induction S using Nat.strongRecOn generalizing m with
  | ind S ih=>
   by_cases two:∃i k,i<n+1/\k<n+1/\i≠k/\m i 0≠0/\(m i 0).natAbs<=(m k 0).natAbs
   .obtain⟨i,k,hi,hk,ne,nz,le⟩:=two;obtain⟨q,hq⟩:∃q:Int,(m k 0+q*m i 0).natAbs<(m k 0).natAbs:=by
     by_cases sg:(0<m i 0/\0<m k 0)∨(m i 0<0/\m k 0<0)
     .exact⟨-1,⋯⟩
     .exact⟨1,⋯⟩
    have sz:szN (n+1) (λj=>cup m k (λr=>m k r+q*m i r) j 0)<S:=by
     rw[← hS];refine QsG hk (λj _ hj=>by rw[QJ _ _ hj]) ?_;show(cup m k (λr=>m k r+q*m i r) k 0).natAbs<_;rw[QR];exact hq
    have dm:=Qw1 (m:=m) hi hk ne q;obtain⟨xs,⟨h1,h2⟩,h3⟩:=ih _ sz (cup m k λr=>m k r+q*m i r) (by rw[dm];exact hd) rfl;refine⟨xs,⟨λy=>?_,h2.imp λh c=>h (Qve hi hk ne q c)⟩,by rw[h3,dm]⟩;obtain⟨x,hx,c⟩:=h1 y;exact⟨x,hx,Qpp hi hk ne q c⟩
   .have only:∀i k,i<n+1->k<n+1->i≠k->m i 0≠0->m k 0=0:=λi k hi hk ne nz=>by
     by_cases z:m k 0=0
     .exact z
     .rcases Nat.le_total (m i 0).natAbs (m k 0).natAbs with h | h
      .exact absurd ⟨i,k,hi,hk,ne,nz,h⟩ two
      .exact absurd ⟨k,i,hk,hi,Ne.symm ne,z,h⟩ two
    obtain⟨j,hj,nz⟩:∃j,j<n+1/\m j 0≠0:=by
     refine ZT λno=>hd ?_;show sm (n+1) _=0;refine QdB λj hj=>?_;have:m j 0=0:=ZT λz=>no ⟨j,hj,z⟩;rw[this,ZW,ZQ]
    have off:∀c,c<n->m (skp j c) 0=0:=λc hc=>only j _ hj (QyC hc) (Ne.symm (Qts j c)) nz;have de:det (n+1) m=sgn j*m j 0*det n λc r=>m (skp j c) (r+1):=by
     show sm (n+1) _=_;exact Qco hj λi hi ne=>by rw[only j i hj hi (Ne.symm ne) nz,ZW,ZQ]
    have dn:(det n λc r=>m (skp j c) (r+1))≠0:=λz=>hd (by rw[de,z,ZW]);obtain⟨ys,⟨a1,a2⟩,a3⟩:=Qlg n (λc r=>m (skp j c) (r+1)) dn;have sg:(sgn j).natAbs=1:=by unfold sgn;split<;>rfl
    refine⟨(List.range (m j 0).natAbs).flatMap λt=>ys.map (Qyh t),⟨λy=>?_,?_⟩,?_⟩
    .obtain⟨x,hx,c,hc⟩:=a1 λr=>y (r+1)-y 0 / m j 0*m j (r+1);have t0:0<=y 0 % m j 0:=ZM _ nz;have t1:(y 0 % m j 0).toNat<(m j 0).natAbs:=by have:=Int.emod_lt (y 0) nz;lia
     refine⟨Qyh (y 0 % m j 0).toNat x,List.mem_flatMap.mpr ⟨_,Zq.mpr t1,ZK.mpr ⟨x,hx,rfl⟩⟩,λi=>if i=j then y 0 / m j 0 else c (Qqw j i),λr hr=>?_⟩;rw[Qhi _ n j hj];dsimp only;rw[if_pos rfl];have e:(sm n λc'=>(if skp j c'=j then y 0 / m j 0 else c (Qqw j (skp j c')))*m (skp j c') r)=sm n λc'=>c c'*m (skp j c') r:=Qas λc' _=>by rw[if_neg (Qts j c'),Qvx]
     rw[e];cases r with
     | zero=>
      rw[QdB λc' hc'=>by rw[off c' hc',ZW]];show y 0-((y 0 % m j 0).toNat:Int)=_;have:=Zbk (y 0) (m j 0);rw[Zau (y 0 / m j 0)];lia
     | succ r=>
      have:=hc r ⋯;have this:y (r+1)-y 0 / m j 0*m j (r+1)-x r=sm n λc'=>c c'*m (skp j c') (r+1):=this;rw[← this];show y (r+1)-x r=_;lia
    .rw[List.pairwise_flatMap];refine⟨λt ht=>Zbm.mpr (a2.imp ?_),?_⟩
     .intro x x' hx hc;refine hx ?_;obtain⟨c,hc⟩:=hc;have c0:=hc 0 ⋯;rw[Qhi _ n j hj,QdB λc' hc'=>by rw[off c' hc',ZW]]at c0;have z:c j=0:=by
       have:c j*m j 0=0:=by rw[← ZaP (c j*m j 0),← c0];show(t:Int)-t=0;lia
       rcases Int.mul_eq_zero.mp this with h | h
       .exact h
       .exact absurd h nz
      refine⟨λi=>c (skp j i),λr hr=>?_⟩;have c1:=hc (r+1) ⋯;rw[Qhi _ n j hj,z,ZQ,Int.zero_add]at c1;exact c1
     .refine List.Pairwise.imp_of_mem (λ{t s} ht hs lt=>?_) (List.pairwise_lt_range);intro x hx x' hx' hc;obtain⟨x,_,rfl⟩:=ZK.mp hx;obtain⟨x',_,rfl⟩:=ZK.mp hx';obtain⟨c,hc⟩:=hc;have c0:=hc 0 ⋯;rw[Qhi _ n j hj,QdB λc' hc'=>by rw[off c' hc',ZW]]at c0;have c0:(t:Int)-s=c j*m j 0+0:=c0;have ts:=Zq.mp hs;have d:m j 0∣(t:Int)-s:=⟨c j,by rw[c0,ZaP,Zau]⟩;have:=ZaT.mpr d;have:=ZbN ⋯ this;lia
    .rw[de,Zbf,Zbf,sg,Nat.one_mul,← a3];generalize (m j 0).natAbs=N
     induction N with
     | zero=>simp
     | succ N ihN=>rw[Zbx,List.flatMap_append,Zn,ihN];simp[Nat.succ_mul]
def Sys.many{n:Nat}{m:Mt2}{xs:List (Nat->Int)}(h:Sys n m xs)(hd:det n m≠0):xs.length=(det n m).natAbs:=by
 obtain⟨ys,h2,e⟩:=Qlg n m hd;rw[← e];exact Zcz (QjO xs ys (λx _=>h2.all x) h.one) (QjO ys xs (λx _=>h.all x) h2.one)
def QvB{n:Nat}{m:Mt2}{xs:List (Nat->Int)}(h:xs.Pairwise λx y=>¬Cng n m x y)(hd:det n m≠0):xs.length<=(det n m).natAbs:=by
 obtain⟨ys,h2,e⟩:=Qlg n m hd;rw[← e];exact QjO xs ys (λx _=>h2.all x) h
noncomputable def Qef(n:Nat)(f:Mt1):List Int:=(List.range n).map f
noncomputable def fnL(k:List Int):Nat->Int:=λi=>k.getD i 0
noncomputable def QdW(a:Nat):Nat->Int:=λj=>if j=a then 1 else 0
noncomputable def putL(ks:List (List Int))(k:List Int):List (List Int):=if ks.contains k then ks else ks++[k]
def Qn7(n:Nat)(f:Mt1):(Qef n f).length=n:=by simp[Qef]
def Qqp(n:Nat)(f:Mt1):Qc n f=QK (Qef n f):=by unfold Qc QK Qef;rw[ZZ];rfl
def Qp2{n:Nat}{f:Mt1}{i:Nat}(h:i<n):fnL (Qef n f) i=f i:=by
 unfold fnL Qef;rw[Zal,Zp,ZL h];rfl
def Qt2{n:Nat}{f g:Mt1}(h:∀j,j<n->f j=g j):Qef n f=Qef n g:=ZE λj hj=>h j (Zq.mp hj)
def QlL{n:Nat}{k:List Int}(h:k.length=n):Qef n (fnL k)=k:=by
 subst h;refine ZaA λi=>?_;unfold Qef;rw[Zp];by_cases z:i<k.length
 .rw[ZL z,ZH z];simp[fnL,Zal,ZH z]
 .rw[Zs (by simp;lia),Zs ⋯];rfl
def Qje{n:Nat}{k:List Int}(h:k.length=n):QK k=Qc n (fnL k):=by rw[Qqp,QlL h]
def Qeo:∀k:List Int,intsOf (k.map .int)=some k
 | []=>rfl
 | x::k=>by
  show(intsOf (k.map .int)).map (x:: ·)=_;rw[Qeo k];rfl
def QvG{x:Nat}{ks:List (List Int)}{k:List Int}{fs:DA}{ra:RA}{U:En}{Q:Out->Prop}(hx:U[x]? =some (some (.dk ks,true)))(ha:fs U=some ra)(e:ra.ds=[QK k])(hl:ks.length<16777216)(q:Q (.nx (U.set x (some (.dk (putL ks k),true))))):Run (Qfp x fs) U Q:=by
 refine⟨_,?_,q⟩;unfold Qfp;rw[hx];show(fs U).bind _=_;rw[ha,Za,e];show(intsOf (k.map .int)).bind _=_;rw[Qeo,Za,if_pos (by rw[QdU];exact hl)];rfl
section
variable {fa fb:DE}{U:En}{ra rb:R}{a b:Int}
def Qf6(ha:fa U=some ra)(ea:ra.d= .int a)(hb:fb U=some rb)(eb:rb.d= .int b):dOp gGt fa fb U=some (reT (.bl (decide (b<a)))):=Qan ha hb (by rw[ea,eb];rfl)
def Qy2(ha:fa U=some ra)(ea:ra.d= .int a)(hb:fb U=some rb)(eb:rb.d= .int b):dOp gLt fa fb U=some (reT (.bl (decide (a<b)))):=Qan ha hb (by rw[ea,eb];rfl)
def Qt5{g:D->D->Option D}{i:Nat}{d d':D}{bb:Bool}{Q:Out->Prop}(hx:U[i]? =some (some (d,bb)))(ha:fa U=some ra)(hg:g d ra.d=some d')(q:Q (.nx (U.set i (some (d',true))))):Run (Qg5 g i fa) U Q:=by
 refine⟨_,?_,q⟩;unfold Qg5;rw[hx];show(fa U).bind _=_;rw[ha,Za,hg];rfl
end
def QrF(h:0<b)(h2:b<2^200):QbE b=true:=by
 unfold QbE;have h3:b.natAbs<2^8000:=Zu (by lia:b.natAbs<2^200) (ZP ∅ ∅);simp only[Zk,decide_eq_true_eq];exact⟨⋯,h3⟩
def Esc(m:Nat)(W:List (Int×Int×Bool)):Prop:=∀A:Nat->Prop,(∃p,p<m/\A p)->∃w∈W,w.1<m/\A w.1.toNat/\(w.2.1=m∨¬A w.2.1.toNat)
def Esc.mono{m:Nat}{W W':List (Int×Int×Bool)}(h:Esc m W)(s:∀w∈W,w∈W'):Esc m W':=λA hA=>let ⟨w,hw,r⟩:=h A hA;⟨w,s w hw,r⟩
noncomputable def Qv(m:Nat)(g:Mt1):Int:=((List.range m).map g).sum
def Qal(m:Nat)(g:Mt1):Qv (m+1) g=Qv m g+g m:=by
 unfold Qv;rw[Zbx,Zap,ZbX];simp
def QP(h:∀i,i<m->f i=g i):Qv m f=Qv m g:=by
 unfold Qv;rw[ZE λi hi=>h i (Zq.mp hi)]
def Qa3(m:Nat)(f g:Mt1):Qv m (λi=>f i+g i)=Qv m f+Qv m g:=by
 induction m with
 | zero=>rfl
 | succ m ih=>rw[Qal,Qal,Qal,ih];lia
def QcV(m:Nat)(f:Mt1):Qv m (λi=> -f i)= -Qv m f:=by
 induction m with
 | zero=>rfl
 | succ m ih=>rw[Qal,Qal,ih];lia
def Qaq(m:Nat):Qv m (λ_=>0)=0:=by
 induction m with
 | zero=>rfl
 | succ m ih=>rw[Qal,ih];rfl
def QcS(m:Nat)(c:Int)(f:Mt1):Qv m (λi=>c*f i)=c*Qv m f:=by
 induction m with
 | zero=>simp[Qv]
 | succ m ih=>rw[Qal,Qal,ih,Zbg]
def Qsc(m n:Nat)(f:Mt2):Qv m (λi=>Qv n λj=>f i j)=Qv n λj=>Qv m λi=>f i j:=by
 induction m with
 | zero=>show 0=Qv n λj=>0;rw[Qaq]
 | succ m ih=>
  rw[Qal,ih,← Qa3];exact QP λj _=>by rw[Qal]
def QcN(hp:p<m)(v:Int)(f:Mt1):Qv m (λi=>(if i=p then v else 0)*f i)=v*f p:=by
 induction m with
 | zero=>lia
 | succ m ih=>
  rw[Qal];by_cases h:p=m
  .subst h;rw[if_pos rfl,QP (g:=λ_=>0) λi hi=>by rw[if_neg ⋯];simp,Qaq];simp
  .rw[ih ⋯,if_neg (λz=>h z.symm)];simp
noncomputable def Qe(m:Nat)(T:Mt2)(f c:Mt1):Nat->Int:=λj=>f j+Qv m λi=>c i*T i j
def Qh3(h:∀i,i<m->f i=g i):Qc m f=Qc m g:=by
 unfold Qc;congr 1;refine ZE λi hi=>?_;rw[h i (Zq.mp hi)]
noncomputable def QiK:DS:=(Qb (QaX (Qab vv1) (.nm 2) (Qb (sIf (QG (dOp gNe (dBf Qao (Qa vv2 Qd)) (Qm vv0 kk0))) (Qb Qx Qh) Qh) Qh)) Qh)
def Qhn(d:Den):Prop:=∀(m:Nat) (R L:Lpp) (fs:List (Nat->Int)),d [QM m R L,.lst (fs.map λf=>Qc m f)]=some (.non,true)
def QwF:Qhn (Qu 3 QiK):=λm R L fs=>by
 have key:Run QiK (Qau 3 [QM m R L,.lst (fs.map λf=>Qc m f)]) (Nx λ_=>True):=by
  refine run_seq (Qay fs (λ_ U=>∃j2,U=[slF (QM m R L),slF (.lst (fs.map λf=>Qc m f)),j2]) rfl rfl ⟨none,rfl⟩ ?_ ?_)
  .rintro i f U _ ⟨j2,rfl⟩;refine⟨_,rfl,?_⟩;refine run_seq (Q5 (b:=false) (QF (Qde (QcJ rfl rfl) rfl (Qc1 rfl rfl).1 rfl) ⋯) (λh=>by cases h) (λ_=>Ql (Ql ⟨_,rfl⟩)))
  .rintro U ⟨j2,rfl⟩;exact Ql trivial
 obtain⟨o,h1,h2⟩:=key;unfold Qu;rw[h1];cases o with
 | nx U=>rfl
 | _=>exact h2.elim
noncomputable def Qx0(Qa9:Den)(Qar:Den):DS:=(Qb (Qbm (Qo 2 Qa9 [] (Qa vv0 (Qa (Qah (Qa vv1 (Qa vv2 Qd))) Qd)))) (Qb (Qp 3 (dList (Qa vv1 Qd))) (Qb (QaX (Qa2 (Qo 1 Qar [] (Qa vv0 Qd)) vv2) (.tp [4,5]) (Qb (Qp 3 (QL (Qa2 vv3 vv4) (.tp [1,2]) [none,none,none,some 5] QW (QC vv1 (Q3 vv3 vv2)))) Qh)) (Qb (QO vv3) Qh))))
def QeH(h:fa U=some r)(q:Q (.nx U)):Run (Qbm fa) U Q:=⟨_,by simp[Qbm,h],q⟩
def QqR(f g:Nat->D):Qhg ((List.range m).map f) ((List.range m).map g)=(List.range m).map λi=> .tup [f i,g i]:=by
 generalize List.range m=l
 induction l with
 | nil=>rfl
 | cons n ns ih=>unfold Qhg at ih ⊢;simp only[ZA,List.zip_cons_cons,ih]
def Qi9(h:fs U=some rs)(e:rs.ds=[Qc m f]):dList fs U=some (reT (Qc m f)):=by
 unfold dList;rw[h,Za,e];simp[Qc,QaA]
def Qbj(ha:fa U=some ra)(ea:ra.d= .lst ((List.range m).map f))(hb:fb U=some rb)(eb:rb.d= .lst ((List.range m).map g)):Qa2 fa fb U=some ⟨(List.range m).map λi=> .tup [f i,g i],ra.M++rb.M⟩:=by
 unfold Qa2;rw[ha,Za,hb,Za,ea,eb];simp only[QqR]
def QxI(i j:Nat)(s:Int×Int):(hit i j s).natAbs<=1:=by unfold hit;split<;>split<;>decide
def QdV(i j:Nat):∀S:List (Int×Int),((S.map (hit i j)).sum).natAbs<=S.length
 | []=>by simp
 | s::S=>by
  have:=QdV i j S;have:=QxI i j s;rw[ZA,ZaI,ZI];lia
def QlM(d:Den):Prop:=∀(m:Nat) (R L:Lpp) (f c:Mt1),m<=1000->R.length+R.length+L.length<=1000000->(∀s∈R,Good m s)->(∀s∈L,Good m s)->d [QM m R L,Qc m f,Qc m c]=some (Qc m (Qe m (Qq m (Qj R L)) f c),true)
def Qu9(hn:Qhn dn)(ht:Qfd dt):QlM (Qu 6 (Qx0 dn dt)):=λm R L f c hm hl hR hL=>by
 have gS:=QbX hR hL;have tb:∀i j,i<m->j<m->(Qq m (Qj R L) i j).natAbs<2^64:=λi j hi hj=>by
  rw[QbZ hi hj λs hs=>⟨(gS s hs).1,(gS s hs).2.1⟩];have:=QdV i j (Qj R L);have:(Qj R L).length<=1000000:=by unfold Qj;simp;lia
  lia
 refine Q0 ?_;refine run_seq (QeH (Qt rfl (hn m R L [f,c]) rfl) ?_);refine rsa (Qi9 rfl rfl) ?_;refine Qbb (P:=λU=>∃j4 j5,U=[slF (QM m R L),slF (Qc m f),slF (Qc m c),slT (Qc m (Qe m (Qq m (Qj R L)) f c)),j4,j5]) ?_ ?_
 .refine Qay (List.range m) (λk U=>∃j4 j5,U=[slF (QM m R L),slF (Qc m f),slF (Qc m c),slT (Qc m (λj=>f j+Qv k λi=>c i*Qq m (Qj R L) i j)),j4,j5]) (Qbj (Qt rfl (ht m R L hm hl hR hL) rfl) rfl rfl rfl) rfl ⟨none,none,?_⟩ ?_ ?_
  .show [slF (QM m R L),slF (Qc m f),slF (Qc m c),slT (Qc m f),none,none]=_;have:Qc m f=Qc m λj=>f j+Qv 0 λi=>c i*Qq m (Qj R L) i j:=Qh3 λi _=>by show f i=f i+0;lia
   rw[← this]
  .rintro k k' U hk ⟨j4,j5,rfl⟩;obtain⟨hkm,rfl⟩:=QeI hk;refine⟨_,rfl,?_⟩;refine run_seq (QH ?_ (Ql ⟨_,_,by rw[Qac];rfl⟩))
   have e:=QI (fi:=Qa2 (Qf 3) (Qf 4)) (t:= .tp [1,2]) (cap:=[none,none,none,some 5]) (fe:=QC (Qf 1) (Q3 (Qf 3) (Qf 2))) (U:=[slF (QM m R L),slF (Qc m f),slF (Qc m c),slT (Qc m (λj=>f j+Qv k λi=>c i*Qq m (Qj R L) i j)),slF (Qc m (Qq m (Qj R L) k)),slI (c k)])
    (List.range m) (Qbj rfl rfl rfl rfl) rfl λj hj=>by
     have hj:=Zq.mp hj;exact⟨[none,slI (f j+Qv k λi=>c i*Qq m (Qj R L) i j),slI (Qq m (Qj R L) k j),slI (c k)],rfl,_,Q6 rfl rfl (Qai rfl rfl rfl rfl (Qcy (tb k j hkm hj))) rfl,rfl,rfl⟩
   refine e.trans ?_;congr 2;show D.lst _=D.lst _;congr 1;refine ZE λj _=>?_;show _=D.int (f j+Qv (k+1) λi=>c i*Qq m (Qj R L) i j);rw[Qal,Int.add_assoc]
  .rintro U ⟨j4,j5,rfl⟩;rw[Zz];exact⟨j4,j5,rfl⟩
 rintro U ⟨j4,j5,rfl⟩;exact Qy rfl ⟨rfl,rfl⟩
structure QaT (m:Nat) (R L:Lpp):Prop where
 ex:∃W,Esc m W/\(∀w∈W,GoodW m w)/\W.length<=200/\R=Qb9 W/\L=QcA W
def QaT.good{m:Nat}{R L:Lpp}(h:QaT m R L):(∀s∈R,Good m s)/\(∀s∈L,Good m s)/\R.length<=200/\L.length<=200/\(∀s∈R,s.1<s.2)/\∀s∈L,s.1<m:=by
 obtain⟨W,_,h2,h3,rfl,rfl⟩:=h.ex;exact⟨λs hs=>(QkG h2 s hs).1,λs hs=>(Qks h2 s hs).1,Zw (Qsk W) h3,Zw (Qtb W) h3,λs hs=>(QkG h2 s hs).2,λs hs=>(Qks h2 s hs).2⟩
def QlW{α:Type}(m:Nat)(g:Nat->α->Int):∀S:List α,Qv m (λj=>(S.map (g j)).sum)=(S.map λs=>Qv m λj=>g j s).sum
 | []=>by simp[Qaq]
 | s::S=>by
  simp only[ZA,ZaI];rw[Qa3,QlW m g S]
def Qpb{α:Type}(c:Int)(f:α->Int):∀S:List α,c*(S.map f).sum=(S.map λs=>c*f s).sum
 | []=>by simp
 | s::S=>by simp only[ZA,ZaI,Zbg,Qpb c f S]
def QuG:Qc m (Qe m T f λ_=>0)=Qc m f:=Qh3 λj _=>by
 unfold Qe;rw[QP (g:=λ_=>0) λi _=>⋯,Qaq];lia
def Qld(ha:fa U=some ra)(ea:ra.d=d)(hb:fb U=some rb)(eb:rb.d=d)(hs:d.sim 8=true):dOp gEq fa fb U=some (reT (.bl true)):=by
 refine Qan ha hb ?_;rw[ea,eb];unfold gEq;rw[hs,QnA hs];rfl
structure TP (m:Nat) (T:Mt2):Prop where
 neg:∀p,p<m->T p p<0
 pos:∀i j,i<m->j<m->i≠j->0<=T i j
 bnd:∀i j,i<m->j<m->(T i j).natAbs<2^64
 wt:∃w:Nat->Int,(∀j,0<=w j)/\∀i,i<m->Qv m (λj=>T i j*w j)<= -1
inductive Leg (m:Nat) (T:Mt2) (f:Mt1):(Nat->Int)->Prop where
 | nil:Leg m T f λ_=>0
 | step {c:Mt1}{p:Nat}{t:Int}:Leg m T f c->p<m->0<=t->t*(0-T p p)<=Qe m T f c p->Leg m T f (up c p (c p+t))
def Stb(m:Nat)(T:Mt2)(g:Mt1):Prop:=∀p,p<m->g p<0-T p p
def Qf9(hp:p<m)(j:Nat):Qe m T f (up c p (c p+v)) j=Qe m T f c j+v*T p j:=by
 unfold Qe;have e2:(λi=>up c p (c p+v) i*T i j)=λi=>c i*T i j+(if i=p then v else 0)*T i j:=by
  funext i;unfold up;by_cases h:i=p
  .subst h;simp only[if_true];rw[ZU]
  .simp[h]
 rw[e2,Qa3,QcN hp];lia
def Leg.nonneg(h:Leg m T f c):∀i,0<=c i:=by
 induction h with
 | nil=>intro i;exact Zbp _
 | step _ _ ht _ ih=>
  intro i;unfold up;split
  .have:=ih ‹Nat›;rename_i p _ _ _ _ _;have:=ih p;lia
  .exact ih i
def QdJ(h:∀i,i<m->f i<=g i):Qv m f<=Qv m g:=by
 induction m with
 | zero=>exact Zbp _
 | succ m ih=>
  rw[Qal,Qal];have:=ih λi hi=>h i ⋯;have:=h m ⋯;lia
def Leg.least(tp:TP m T)(h:Leg m T f c)(h0:∀i,i<m->0<=c' i)(hs:Stb m T (Qe m T f c')):∀i,i<m->c i<=c' i:=by
 induction h with
 | nil=>exact h0
 | @step c p t _ hp ht hle ih=>
  intro i hi;unfold up;split
  .rename_i e;subst e;have key:Qe m T f c i+(c' i-c i)*T i i<=Qe m T f c' i:=by
    unfold Qe;have e1:Qv m (λk=>c k*T k i)+(c' i-c i)*T i i=Qv m (λk=>c k*T k i+(if k=i then c' i-c i else 0)*T k i):=by rw[Qa3,QcN hi]
    have e2:Qv m (λk=>c k*T k i+(if k=i then c' i-c i else 0)*T k i)<=Qv m (λk=>c' k*T k i):=by
     refine QdJ λk hk=>?_;by_cases hki:k=i
     .subst hki;rw[if_pos rfl,← ZU];rw[show c k+(c' k-c k)=c' k by lia];exact Zbp _
     .rw[if_neg hki,ZQ,ZaP];exact Zav (ih k hk) (tp.pos k i hk hi hki)
    lia
   have h1:=hs i hi;have h2:=tp.neg i hi;by_cases hlt:c i+t<=c' i
   .exact hlt
   .exfalso;have h3:(c' i-c i+1)<=t:= ⋯
    have h4:(c' i-c i+1)*(0-T i i)<=t*(0-T i i):=Zav h3 ⋯;have h5:(c' i-c i+1)*(0-T i i)=(0-T i i)-(c' i-c i)*T i i:=by rw[ZU,ZaR,Int.mul_sub,ZW];lia
    lia
  .exact ih i hi
def Leg.unique(tp:TP m T)(hc:Leg m T f c)(hd:Leg m T f d)(sc:Stb m T (Qe m T f c))(sd:Stb m T (Qe m T f d)):∀i,i<m->c i=d i:=λi hi=>by
 have h1:=hc.least tp (λi _=>hd.nonneg i) sd i hi;have h2:=hd.least tp (λi _=>hc.nonneg i) sc i hi;lia
def QpX{m:Nat}{T:Mt2}{f c b:Mt1}(j:Nat):Qe m T (λi=>2*f i+b i) (λi=>2*c i) j=2*Qe m T f c j+b j:=by
 unfold Qe;have e:(λi=>2*c i*T i j)=λi=>2*(c i*T i j):=by funext i;rw[Zaq]
 rw[e,QcS];show 2*f j+b j+2*_=2*(f j+_)+b j;lia
def QaG(j:Nat)(h1:f j=g j)(h2:∀i,i<m->c i=d i):Qe m T f c j=Qe m T g d j:=by
 unfold Qe;rw[h1,QP λi hi=>by rw[h2 i hi]]
def Leg.Qzl(h:Leg m T f c)(b:Mt1)(hb:∀i,0<=b i):∃d,Leg m T (λi=>2*f i+b i) d/\∀i,d i=2*c i:=by
 induction h with
 | nil=>exact⟨_,.nil,λi=>⋯⟩
 | @step c p t _ hp ht hle ih=>
  obtain⟨d,hd,e⟩:=ih;have ed:d=λi=>2*c i:=funext e;subst ed;refine⟨_,.step (t:=2*t) hd hp ⋯ ?_,λi=>?_⟩
  .rw[QpX];have:=hb p;have e2:2*t*(0-T p p)=2*(t*(0-T p p)):=by rw[Zaq]
   lia
  .show up (λi=>2*c i) p (2*c p+2*t) i=2*up c p (c p+t) i;unfold up;split
   .lia
   .rfl
def Leg.cast(h:Leg m T f c)(e:∀i,c i=d i):Leg m T f d:=by
 have:c=d:=funext e;rw[← this];exact h
def Leg.QmJ(h:Leg m T f c)(e:∀i,i<m->f i=g i):Leg m T g c:=by
 induction h with
 | nil=>exact .nil
 | @step c p t _ hp ht hle ih=>exact .step ih hp ht (by rw[← QaG p (e p hp) (λ_ _=>rfl)];exact hle)
noncomputable def wtF(m:Nat)(w g:Mt1):Int:=Qv m λj=>g j*w j
def Qv2(hw:∀i,i<m->Qv m (λj=>T i j*w j)<= -1)(hp:p<m)(ht:0<=t):wtF m w (Qe m T f (up c p (c p+t)))<=wtF m w (Qe m T f c)-t:=by
 unfold wtF;have e:(λj=>Qe m T f (up c p (c p+t)) j*w j)=λj=>Qe m T f c j*w j+t*(T p j*w j):=by
  funext j;rw[Qf9 hp,ZU,Zaq]
 rw[e,Qa3,QcS];have h1:t*Qv m (λj=>T p j*w j)<=t*(-1):=ZR (hw p hp) ht;lia
def Qma(hw:∀j,0<=w j)(hg:∀j,j<m->0<=g j):0<=wtF m w g:=by
 have:=QdJ λi hi=>ZaF (hg i hi) (hw i);rw[Qaq]at this;exact this
def Qfj(I:Nat->En->Prop)(step:∀n U,I n U->∃b,g U=some b/\(b=false->Q (.nx U))/\(b=true->Run fb U λo=>match o with | .nx U2=>∃n',n'<n/\I n' U2 | .ct U2=>∃n',n'<n/\I n' U2 | .bk U2=>Q (.nx U2) | .rt d fr=>Q (.rt d fr))):
  ∀(n:Nat) (U:En),I n U->Run (Qbu g fb) U Q:=by
 intro n
 induction n using Nat.strongRecOn with
 | _ n ih=>
  intro U h;obtain⟨b,hb,hf,ht⟩:=step n U h;unfold Run;rw[Qro,hb,Za];cases b with
  | false=>exact⟨_,⋯,hf rfl⟩
  | true=>
   obtain⟨o,ho,hq⟩:=ht rfl;rw[if_pos rfl,ho,Za];cases o with
   | nx U2=>obtain⟨n',hn,hI⟩:=hq;exact ih n' hn U2 hI
   | ct U2=>obtain⟨n',hn,hI⟩:=hq;exact ih n' hn U2 hI
   | bk U2=>exact⟨_,rfl,hq⟩
   | rt d fr=>exact⟨_,rfl,hq⟩
def QpH(ha:fa U=some ra)(ea:ra.d= .int a)(hb:fb U=some rb)(eb:rb.d= .int b)(h:0<b)(h2:b<2^200):dOp Qbc fa fb U=some (reI (a / b)):=by
 refine Qan ha hb ?_;rw[ea,eb];show(if QbE b=true then some (D.int (Qdb a b))else none)=_;rw[if_pos (QrF h h2),QjI _ _ ⋯]
def QaC{i:Nat}(ha:fa U=some ra)(ea:ra.d=Qc m f)(hb:fb U=some rb)(eb:rb.d= .int i)(h:i<m):Qm fa fb U=some (reI (f i)):=by
 have:=Qk6 ha ea hb eb ⋯ ⋯;rw[Zax]at this;exact this
noncomputable def Qmg:DS:=(Qb (Qp 3 (dList (Qa vv1 Qd))) (Qb (Qp 4 (dList (Qa vv2 Qd))) (Qb (Qp 5 (dC (.bl true))) (Qb (Qbu (QG vv5) (Qb (Qp 5 (dC (.bl false))) (Qb (QaX (Qhx vv0) (.tp [6,7]) (Qb (Qp 8 (dOp Qbc (Qm vv3 vv6) (dOp QaS kk0 (Qm vv7 vv6)))) (Qb (sIf (QG (dOp gGt vv8 kk0)) (Qb (Qp 5 (dC (.bl true))) (Qb (Qdh (gI λi j=>some (.int (i+j))) 4 Qam vv6 vv8) (Qb (Qp 3 (QL (Qa2 vv3 vv7) (.tp [1,2]) [none,none,none,some 8] QW (QC vv1 (Q3 vv3 vv2)))) Qh))) Qh) Qh))) Qh))) (Qb (QO (Qav (Qa vv3 (Qa vv4 Qd)))) Qh)))))
def Qht(d:Den):Prop:=∀(m:Nat) (T:Mt2) (f k:Mt1),m<=1000->TP m T->Leg m T f k->(∀j,j<m->0<=Qe m T f k j)->∃k',d [Qn m m T,Qc m (Qe m T f k),Qc m k]=some (.tup [Qc m (Qe m T f k'),Qc m k'],true)/\Leg m T f k'/\(∀j,j<m->0<=Qe m T f k' j)/\Stb m T (Qe m T f k')
def QjY{h s:Int}(hs:0<s)(ht:¬0<h / s)(h0:0<=h):h<s:=by
 have:=ZcA h0 (by lia:0<=s);have e:h / s=0:= ⋯
 have:=ZO h hs;have:=Zbk h s;rw[e]at this;lia
def Qj9{h s:Int}(hs:0<s):h / s*s<=h:=Int.ediv_mul_le h ⋯
def QqE:Qht (Qu 9 Qmg):=λm T f k hm tp hk hpos=>by
 obtain⟨w,hw0,hw⟩:=tp.wt;have key:Run Qmg (Qau 9 [Qn m m T,Qc m (Qe m T f k),Qc m k]) (Rt λd fr=>∃k',d= .tup [Qc m (Qe m T f k'),Qc m k']/\fr=true/\Leg m T f k'/\(∀j,j<m->0<=Qe m T f k' j)/\Stb m T (Qe m T f k')):=by
  refine rsa (Qi9 rfl rfl) ?_;refine rsa (Qi9 rfl rfl) ?_;refine rsa rfl ?_;refine run_seq (Run.mono (Q:=Nx λU=>∃k' j5 j6 j7 j8,Leg m T f k'/\(∀j,j<m->0<=Qe m T f k' j)/\Stb m T (Qe m T f k')/\U=[slF (Qn m m T),slF (Qc m (Qe m T f k)),slF (Qc m k),slT (Qc m (Qe m T f k')),slT (Qc m k'),j5,j6,j7,j8]) ?_ ?_)
  .refine Qfj (λn U=>∃k' bz j6 j7 j8,Leg m T f k'/\(∀j,j<m->0<=Qe m T f k' j)/\(bz=false->Stb m T (Qe m T f k'))/\n=(wtF m w (Qe m T f k')).toNat+(if bz=true then 1 else 0)/\U=[slF (Qn m m T),slF (Qc m (Qe m T f k)),slF (Qc m k),slT (Qc m (Qe m T f k')),slT (Qc m k'),slT (.bl bz),j6,j7,j8]) ?_ _ _ ⟨k,true,none,none,none,hk,hpos,λh=>by(cases h),rfl,rfl⟩;rintro n U ⟨k',bz,j6,j7,j8,hL,hP,hS,rfl,rfl⟩;refine⟨bz,QF rfl rfl,λh=>⟨k',_,_,_,_,hL,hP,hS h,rfl⟩,λhb=>?_⟩;subst hb;refine rsa rfl ?_;refine QS (Run.mono (Q:=Nx λU=>∃k2 b2 j6 j7 j8,Leg m T f k2/\(∀j,j<m->0<=Qe m T f k2 j)/\(b2=false->Stb m T (Qe m T f k2))/\(wtF m w (Qe m T f k2)+(if b2=true then 1 else 0)<=wtF m w (Qe m T f k'))/\U=[slF (Qn m m T),slF (Qc m (Qe m T f k)),slF (Qc m k),slT (Qc m (Qe m T f k2)),slT (Qc m k2),slT (.bl b2),j6,j7,j8]) ?_ ?_)
   .refine Qay (List.range m) (λi U=>∃k2 b2 j6 j7 j8,Leg m T f k2/\(∀j,j<m->0<=Qe m T f k2 j)/\(b2=false->∀p,p<i->Qe m T f k2 p<0-T p p)/\(wtF m w (Qe m T f k2)+(if b2=true then 1 else 0)<=wtF m w (Qe m T f k'))/\U=[slF (Qn m m T),slF (Qc m (Qe m T f k)),slF (Qc m k),slT (Qc m (Qe m T f k2)),slT (Qc m k2),slT (.bl b2),j6,j7,j8]) rfl (Qkf (α:=Nat) m _) ⟨k',false,_,_,_,hL,hP,λ_ p hp=>absurd hp ⋯,⋯,rfl⟩ ?_ ?_
    .rintro i p U hi ⟨k2,b2,j6,j7,j8,hL2,hP2,hS2,hW2,rfl⟩;have hp':i<m/\i=p:=by
      obtain⟨h1,h2⟩:=Zi.mp hi;simp at h1 h2;exact⟨h1,h2⟩
     obtain⟨him,rfl⟩:=hp';have hneg:=tp.neg i him;have hb:=tp.bnd i i him him;have h0:=hP2 i him;refine⟨_,rfl,?_⟩;refine rsa (QpH (QaC rfl rfl rfl rfl him) rfl (Qan rfl (QaC rfl rfl rfl rfl him) rfl) rfl ⋯ ⋯) ?_;generalize et:Qe m T f k2 i / (0-T i i)=t;have t0:0<=t:=by rw[← et];exact ZcA h0 ⋯
     refine QS (Q5 (QF rfl rfl) (λh=>?_) (λh=>?_))
     .have h:=of_decide_eq_true h;have hle:t*(0-T i i)<=Qe m T f k2 i:=by rw[← et];exact Qj9 ⋯
      refine rsa rfl ?_;refine run_seq (Quu rfl rfl rfl rfl ⋯ ⋯ rfl ?_);rw[Zax];refine run_seq (QH (r:=reT (Qc m (Qe m T f (up k2 i (k2 i+t))))) ?_ (Ql (Ql ?_)))
      .have e:=QI (fi:=Qa2 (Qf 3) (Qf 7)) (t:= .tp [1,2]) (cap:=[none,none,none,some 8]) (fe:=QC (Qf 1) (Q3 (Qf 3) (Qf 2))) (U:=[slF (Qn m m T),slF (Qc m (Qe m T f k)),slF (Qc m k),slT (Qc m (Qe m T f k2)),slT (Qc m (up k2 i (k2 i+t))),slT (.bl true),slI i,slF (Qc m (T i)),slI t])
        (List.range m) (Qbj rfl rfl rfl rfl) rfl λj hj=>by
         have hj:=Zq.mp hj;exact⟨[none,slI (Qe m T f k2 j),slI (T i j),slI t],rfl,_,Q6 rfl rfl (Qai rfl rfl rfl rfl (Qcy (tp.bnd i j him hj))) rfl,rfl,rfl⟩
       refine e.trans ?_;congr 2;show D.lst _=D.lst _;congr 1;refine ZE λj _=>?_;rw[Qf9 him]
      .rw[Qac];have hup:=Qv2 hw (f:=f) (c:=k2) him t0;refine⟨up k2 i (k2 i+t),true,_,_,_,.step hL2 him t0 hle,λj hj=>?_,λz=>(by cases z),?_,rfl⟩
       .rw[Qf9 him];by_cases hji:j=i
        .subst hji;have:t*T j j= -(t*(0-T j j)):=by rw[ZaQ,ZaE,Int.neg_neg]
         lia
        .have:=hP2 j hj;have:=ZaF t0 (tp.pos i j him hj (λz=>hji z.symm));lia
       .rw[if_pos rfl];have:(0:Int)<=if b2=true then 1 else 0:=by split<;>lia
        lia
     .have h:=of_decide_eq_false h;refine Ql (Ql ⟨k2,b2,_,_,_,hL2,hP2,λhb2 p hp=>?_,hW2,rfl⟩);by_cases hpi:p=i
      .subst hpi;exact QjY ⋯ (by rw[et];exact h) h0
      .exact hS2 hb2 p ⋯
    .rintro U ⟨k2,b2,j6,j7,j8,hL2,hP2,hS2,hW2,rfl⟩;rw[Zz]at hS2;exact⟨k2,b2,_,_,_,hL2,hP2,hS2,hW2,rfl⟩
   .intro o ho;cases o with
    | nx U=>
     obtain⟨k2,b2,j6,j7,j8,hL2,hP2,hS2,hW2,rfl⟩:=ho;refine Ql ⟨_,?_,k2,b2,_,_,_,hL2,hP2,hS2,rfl,rfl⟩;have n1:=Qma hw0 hP2;rw[if_pos rfl];cases b2<;>simp at hW2 ⊢ <;>lia
    | _=>exact ho.elim
  .intro o ho;cases o with
   | nx U=>
    obtain⟨k',j5,j6,j7,j8,hL,hP,hS,rfl⟩:=ho;exact Qy rfl ⟨k',rfl,rfl,hL,hP,hS⟩
   | _=>exact ho.elim
 obtain⟨o,h1,h2⟩:=key;cases o with
 | rt d fr=>
  obtain⟨k',rfl,rfl,h3,h4,h5⟩:=h2;exact⟨k',by unfold Qu;rw[h1];rfl,h3,h4,h5⟩
 | _=>exact h2.elim
def Qq0(m:Nat)(S:Lpp):Prop:=∀A:Nat->Prop,(∃p,p<m/\A p)->∃s∈S,s.1<m/\A s.1.toNat/\(s.2=m∨¬A s.2.toNat)
def Qtj(h:Esc m W):Qq0 m (Qj (Qb9 W) (QcA W)):=λA hA=>by
 obtain⟨w,hw,h1,h2,h3⟩:=h A hA;refine⟨(w.1,w.2.1),?_,h1,h2,h3⟩;unfold Qj;cases e:w.2.2 with
 | true=>exact Zf _ (ZK.mpr ⟨w,ZaV.mpr ⟨hw,e⟩,rfl⟩)
 | false=>
  have hr:QcF w∈Qb9 W:=ZK.mpr ⟨w,ZaV.mpr ⟨hw,by simp[e]⟩,rfl⟩;by_cases hlt:w.2.1<w.1
  .refine Zg _ (Zf _ (ZK.mpr ⟨QcF w,hr,?_⟩));unfold QcF;rw[if_pos hlt,if_neg ⋯];rfl
  .refine Zg _ (Zg _ ?_);have:QcF w=(w.1,w.2.1):=by
    unfold QcF;rw[if_neg hlt];by_cases hgt:w.2.1>w.1
    .rw[if_pos hgt]
    .rw[if_neg hgt];rw[show w.2.1=w.1 by lia]
   rw[← this];exact hr
inductive Rk (m:Nat) (S:Lpp):Nat->Nat->Prop where
 | pit {s:Int×Int}{n:Nat}:s∈S->s.2=m->Rk m S (n+1) s.1.toNat
 | step {s:Int×Int}{k n:Nat}:s∈S->s.2≠m->Rk m S k s.2.toNat->k<n->Rk m S n s.1.toNat
def Qn5{P:Nat->Prop}(h:∃n,P n):∃n,P n/\∀k,k<n->¬P k:=by
 obtain⟨n,hn⟩:=h
 induction n using Nat.strongRecOn with
 | _ n ih=>
  by_cases h:∃k,k<n/\P k
  .obtain⟨k,hk,h⟩:=h;exact ih k hk h
  .exact⟨n,hn,λk hk hx=>h ⟨k,hk,hx⟩⟩
def QAV(he:Qq0 m S):∀p,p<m->∃n,Rk m S n p:=λp hp=>by
 by_cases h:∃n,Rk m S n p
 .exact h
 .exfalso;obtain⟨s,hs,h1,h2,h3⟩:=he (λp=>¬ ∃n,Rk m S n p) ⟨p,hp,h⟩;by_cases e:s.2=m
  .exact h2 ⟨1,.pit hs e⟩
  .rcases h3 with h3 | h3
   .exact e h3
   .have:∃n,Rk m S n s.2.toNat:=ZT λz=>h3 z;obtain⟨k,hk⟩:=this;exact h2 ⟨k+1,.step hs e hk ⋯⟩
def QwI{m:Nat}{S:Lpp}(hg:∀s∈S,Good m s)(he:Qq0 m S):∃r:Nat->Nat,r m=0/\∀p,p<m->∃s∈S,s.1=p/\r s.2.toNat<r p:=by
 have h:∀p,∃n,(p<m->Rk m S n p/\∀k,k<n->¬Rk m S k p)/\(p=m->n=0):=λp=>by
  by_cases hp:p<m
  .obtain⟨n,hn⟩:=Qn5 (QAV he p hp);exact⟨n,λ_=>hn,λz=> ⋯⟩
  .exact⟨0,λz=>absurd z hp,λ_=>rfl⟩
 obtain⟨r,hr⟩:=Classical.axiomOfChoice h;refine⟨r,(hr m).2 rfl,λp hp=>?_⟩;have h1:=((hr p).1 hp).1;generalize r p=n at h1;cases h1 with
 | @pit s n hs e=>
  obtain⟨g1,g2,g3,g4,g5⟩:=hg s hs;exact⟨s,hs,⋯,by rw[e,Zax,(hr m).2 rfl];lia⟩
 | @step s k n hs e hk hkn=>
  obtain⟨g1,g2,g3,g4,g5⟩:=hg s hs;refine⟨s,hs,⋯,?_⟩;have hl:s.2.toNat<m:= ⋯
  have:=((hr s.2.toNat).1 hl).2 k;have:¬k<r s.2.toNat:=λz=>this z hk;lia
def QnM(r:Nat->Nat):∀m:Nat,∃N,∀p,p<=m->r p<=N
 | 0=>⟨r 0,λp hp=>by rw[show p=0 by lia];exact Zd _⟩
 | m+1=>by
  obtain⟨N,hN⟩:=QnM r m;refine⟨N+r (m+1),λp hp=>?_⟩;by_cases e:p=m+1
  .subst e;lia
  .have:=hN p ⋯;lia
def Qtp(hi:i<m)(g:Good m s)(w:Mt1)(hw:w m=0):Qv m (λj=>hit i j s*w j)=if s.1=i then w s.2.toNat-w i else 0:=by
 obtain⟨g1,g2,g3,g4,g5⟩:=g;by_cases h:s.1=i
 .rw[if_pos h];have e:Qv m (λj=>hit i j s*w j)=Qv m (λj=>(if j=s.2.toNat then 1 else 0)*w j+(if j=i then-1 else 0)*w j):=QP λj _=>by
   have:hit i j s=(if j=s.2.toNat then 1 else 0)+(if j=i then-1 else 0):=by
    unfold hit;by_cases a:s.2=j
    .by_cases b:i=j
     .rw[if_pos ⟨h,a⟩,if_pos ⟨h,b⟩,if_pos ⋯,if_pos b.symm];lia
     .rw[if_pos ⟨h,a⟩,if_neg (λz=>b z.2),if_pos ⋯,if_neg (λz=>b z.symm)];lia
    .by_cases b:i=j
     .rw[if_neg (λz=>a z.2),if_pos ⟨h,b⟩,if_neg ⋯,if_pos b.symm];lia
     .rw[if_neg (λz=>a z.2),if_neg (λz=>b z.2),if_neg ⋯,if_neg (λz=>b z.symm)];lia
   rw[this,ZU]
  rw[e,Qa3,QcN hi];by_cases hm:s.2.toNat<m
  .rw[QcN hm];lia
  .have e2:Qv m (λj=>(if j=s.2.toNat then 1 else 0)*w j)=0:=by
    rw[QP λj hj=>by rw[if_neg ⋯,ZQ],Qaq]
   rw[e2,show s.2.toNat=m by lia,hw];lia
 .rw[if_neg h];rw[QP (g:=λ_=>0) λj hj=>by
   unfold hit;rw[if_neg (λz=>h z.1),if_neg (λz=>h z.1)];rw[Int.sub_self,ZQ],Qaq]
def Qkw{α:Type}{g:α->Int}{X:Int}:∀S:List α,(∀s∈S,g s<=X)->(S.map g).sum<=S.length*X
 | [],_=>by simp
 | a::S,h=>by
  have h1:=h a ⋯;have h2:=Qkw S λs hs=>h s (by simp[hs]);simp only[ZA,ZaI,ZI,Zby,ZU];rw[show((1:Nat):Int)*X=X by simp];lia
def QjT{α:Type}{g:α->Int}{X Y:Int}:∀(S:List α),(∀s∈S,g s<=X)->(∃s∈S,g s<=Y)->(S.map g).sum<=S.length*X-X+Y
 | [],_,h=>by obtain⟨s,hs,_⟩:=h;exact absurd hs ⋯
 | a::S,h,h2=>by
  obtain⟨s,hs,hy⟩:=h2;have hb:∀s∈S,g s<=X:=λs hs=>h s (by simp[hs]);simp only[ZA,ZaI,ZI,Zby,ZU];rw[show((1:Nat):Int)*X=X by simp];rcases Zm.mp hs with e | hs
  .subst e;have:=Qkw S hb;lia
  .have:=QjT S hb ⟨s,hs,hy⟩;have:=h a ⋯;lia
def QjX{α:Type}{g:α->Int}:∀S:List α,(∀s∈S,0<=g s)->0<=(S.map g).sum
 | [],_=>by simp
 | a::S,h=>by
  have h1:=h a ⋯;have h2:=QjX S λs hs=>h s (by simp[hs]);simp only[ZA,ZaI];lia
def QvE{m:Nat}{S:Lpp}(hg:∀s∈S,Good m s)(he:Qq0 m S)(hl:S.length<2^60):TP m (Qq m S):=by
 have hn:∀s∈S,0<=s.1/\0<=s.2:=λs hs=>⟨(hg s hs).1,(hg s hs).2.1⟩;have pos:∀i j,i<m->j<m->i≠j->0<=Qq m S i j:=λi j hi hj hij=>by
  rw[QbZ hi hj hn];refine QjX S λs _=>?_;unfold hit;rw[if_neg (λz=>hij z.2) (c:=s.1=i/\i=j)];split<;>lia
 obtain⟨r,r0,hr⟩:=QwI hg he;obtain⟨N,hN⟩:=QnM r m;have M1:1<=S.length+1:= ⋯
 have wt:∃w:Nat->Int,(∀j,0<=w j)/\∀i,i<m->Qv m (λj=>Qq m S i j*w j)<= -1:=by
  refine⟨λv=>(((S.length+1)^N:Nat):Int)-(((S.length+1)^(N-r v):Nat):Int),λj=>?_,λi hi=>?_⟩
  .have:=ZP M1 (Nat.sub_le N (r j));show(0:Int)<=(((S.length+1)^N:Nat):Int)-(((S.length+1)^(N-r j):Nat):Int);lia
  .generalize hw:(λv=>(((S.length+1)^N:Nat):Int)-(((S.length+1)^(N-r v):Nat):Int))=w;have hw':∀v,w v=(((S.length+1)^N:Nat):Int)-(((S.length+1)^(N-r v):Nat):Int):=λv=>by rw[← hw]
   have wm:w m=0:=by rw[hw',r0,Zcs];lia
   have e:Qv m (λj=>Qq m S i j*w j)=(S.map λs=>if s.1=(i:Int)then w s.2.toNat-w i else 0).sum:=by
    rw[QP (g:=λj=>(S.map λs=>hit i j s*w j).sum) λj hj=>by
     rw[QbZ hi hj hn,Zau,Qpb];congr 1;exact ZE λs _=>Zau _ _]
    rw[QlW m (λj s=>hit i j s*w j) S];congr 1;exact ZE λs hs=>Qtp hi (hg s hs) w wm
   rw[e];obtain⟨s0,hs0,e0,hlt⟩:=hr i hi;generalize hX:(((S.length+1)^(N-r i):Nat):Int)=X;have X1:1<=X:=by
    have:0<(S.length+1)^(N-r i):=Nat.pow_pos ⋯;lia
   have key:=QjT (Y:=X-(S.length+1)*X) S (λs _=>by
    show(if s.1=i then w s.2.toNat-w i else 0)<=X;split
    .rw[hw',hw' i,hX];have:0<=(((S.length+1)^(N-r s.2.toNat):Nat):Int):=Int.natCast_nonneg _;lia
    .lia) ⟨s0,hs0,by
    show(if s0.1=i then w s0.2.toNat-w i else 0)<=_;rw[if_pos e0,hw',hw' i,hX];have hb:=hN i ⋯;have h1:(S.length+1)^(N-r i+1)<=(S.length+1)^(N-r s0.2.toNat):=ZP M1 ⋯;rw[Nat.pow_succ]at h1;have h2:((((S.length+1)^(N-r i)*(S.length+1):Nat)):Int)<=(((S.length+1)^(N-r s0.2.toNat):Nat):Int):=by exact_mod_cast h1
    rw[Int.natCast_mul,hX,Zau,show((S.length+1:Nat):Int)=(S.length:Int)+1 by lia]at h2;lia⟩
   have:((S.length:Int)+1)*X=S.length*X+X:=by rw[ZU,ZaR]
   lia
 refine⟨λp hp=>?_,pos,λi j hi hj=>?_,wt⟩
 .obtain⟨w,w0,hw⟩:=wt;have h1:=hw p hp;by_cases hneg:Qq m S p p<0
  .exact hneg
  .exfalso;have:0<=Qv m (λj=>Qq m S p j*w j):=by
    have:=QdJ (f:=λ_=>0) (g:=λj=>Qq m S p j*w j) λj hj=>by
     by_cases e:p=j
     .subst e;exact ZaF ⋯ (w0 _)
     .exact ZaF (pos p j hp hj e) (w0 _)
    rw[Qaq]at this;exact this
   lia
 .rw[QbZ hi hj hn];have:=QdV i j S;lia
def QaT.tp{m:Nat}{R L:Lpp}(h:QaT m R L):TP m (Qq m (Qj R L)):=by
 have hg:=h.good;refine QvE (QbX hg.1 hg.2.1) ?_ ?_
 .obtain⟨W,h1,_,_,rfl,rfl⟩:=h.ex;exact Qtj h1
 .unfold Qj;simp only[Zn,Zj];lia
def QaT.neg{m:Nat}{R L:Lpp}(h:QaT m R L){i:Nat}(hi:i<m):0-Qq m (Qj R L) i i=QbV R L i:=by
 have hg:=h.good;have hs:=QbX hg.1 hg.2.1;rw[QbZ hi hi (λs z=>⟨(hs s z).1,(hs s z).2.1⟩),sum_neg _ _ (λs z=>(hs s z).2.2.2.2),Qmb];lia
def Ql9(m:Nat)(f:Mt1):Qc m f= .lst (((List.range m).map f).map D.int):=by
 unfold Qc;rw[ZZ];rfl
def Qpd:∀{ns:List Int},ns≠[]->∃m,Qjm ns=some m
 | [],h=>absurd rfl h
 | [n],_=>⟨n,rfl⟩
 | n::k::r,_=>by
  obtain⟨m,hm⟩:=Qpd (ns:=k::r) ⋯;exact⟨if m<n then m else n,by simp only[Qjm,hm,Zai]⟩
def Qp4:∀{ns:List Int},ns≠[]->∃m,Qja ns=some m
 | [],h=>absurd rfl h
 | [n],_=>⟨n,rfl⟩
 | n::k::r,_=>by
  obtain⟨m,hm⟩:=Qp4 (ns:=k::r) ⋯;exact⟨if n<m then m else n,by simp only[Qja,hm,Zai]⟩
def QrN(h:0<m)(f:Mt1):(List.range m).map f≠[]:=by
 intro z;have:=congrArg List.length z;simp at this;lia
def Qwp(m0:0<m)(f:Mt1):∃v,(∃i,i<m/\v=f i)/\(∀i,i<m->v<=f i)/\∀{fa:DE}{U:En}{r:R},fa U=some r->r.d=Qc m f->dBf Qib (Qa fa Qd) U=some (reI v):=by
 obtain⟨v,hv⟩:=Qpd (QrN m0 f);obtain⟨h1,h2⟩:=QhY hv;refine⟨v,?_,λi hi=>h2 _ (ZK.mpr ⟨i,Zq.mpr hi,rfl⟩),λ{fa U r} h e=>?_⟩
 .obtain⟨i,hi,e⟩:=ZK.mp h1;exact⟨i,Zq.mp hi,e.symm⟩
 .unfold dBf;rw[Qw h (Q8 _),Za];simp only[e,Ql9,Qib,QdL,Za,hv,Zai]
def QpU(m0:0<m)(f:Mt1):∃v,(∃i,i<m/\v=f i)/\(∀i,i<m->f i<=v)/\∀{fa:DE}{U:En}{r:R},fa U=some r->r.d=Qc m f->dBf QgV (Qa fa Qd) U=some (reI v):=by
 obtain⟨v,hv⟩:=Qp4 (QrN m0 f);obtain⟨h1,h2⟩:=Qh8 hv;refine⟨v,?_,λi hi=>h2 _ (ZK.mpr ⟨i,Zq.mpr hi,rfl⟩),λ{fa U r} h e=>?_⟩
 .obtain⟨i,hi,e⟩:=ZK.mp h1;exact⟨i,Zq.mp hi,e.symm⟩
 .unfold dBf;rw[Qw h (Q8 _),Za];simp only[e,Ql9,QgV,QdL,Za,hv,Zai]
noncomputable def QhG(Qa9:Den):DS:=(Qb (Qbm (Qo 2 Qa9 [] (Qa vv0 (Qa vv1 Qd)))) (Qb (QaX (Qab vv1) (.nm 2) (Qb (sIf (QG (dOp gLt (dBf Qib (Qa vv2 Qd)) kk0)) (Qb Qx Qh) Qh) Qh)) Qh))
def Qh7(d:Den):Prop:=∀(m:Nat) (R L:Lpp) (fs:List (Nat->Int)),0<m->(∀f∈fs,∀j,j<m->0<=f j)->d [QM m R L,.lst (fs.map λf=>Qc m f)]=some (.non,true)
def Qvb(hn:Qhn dn):Qh7 (Qu 3 (QhG dn)):=λm R L fs m0 hf=>by
 have key:Run (QhG dn) (Qau 3 [QM m R L,.lst (fs.map λf=>Qc m f)]) (Nx λ_=>True):=by
  refine run_seq (QeH (Qt rfl (hn m R L fs) rfl) ?_);refine run_seq (Qay fs (λ_ U=>∃j2,U=[slF (QM m R L),slF (.lst (fs.map λf=>Qc m f)),j2]) rfl rfl ⟨none,rfl⟩ ?_ ?_)
  .rintro i f U hi ⟨j2,rfl⟩;refine⟨_,rfl,?_⟩;obtain⟨v,⟨q,hq,e⟩,_,hv⟩:=Qwp m0 f;have h0:=hf f (Zao hi) q hq;refine run_seq (Q5 (b:=false) (QF (Qan (hv rfl rfl) rfl rfl) ?_) (λh=>by cases h) (λ_=>Ql (Ql ⟨_,rfl⟩)));show D.bl _=_;rw[decide_eq_false ⋯]
  .rintro U ⟨j2,rfl⟩;exact Ql trivial
 obtain⟨o,h1,h2⟩:=key;unfold Qu;rw[h1];cases o with
 | nx U=>rfl
 | _=>exact h2.elim
noncomputable def Qp6(QbI:Den)(Qar:Den)(Qfi:Den):DS:=(Qb (Qbm (Qo 2 QbI [] (Qa vv0 (Qa (Qah (Qa vv1 Qd)) Qd)))) (Qb (Qp 2 (Qo 1 Qar [] (Qa vv0 Qd))) (Qb (Qp 3 (Q3 (Qah (Qa kk0 Qd)) (Qm vv0 kk0))) (Qb (Qp 4 (Q3 (Qah (Qa kk0 Qd)) (Qm vv0 kk0))) (Qb (Qp 5 (Qav (Qa vv3 (Qa vv4 Qd)))) (Qb (Qp 6 (dBf QgV (Qa vv1 Qd))) (Qb (QaX (Qf3 (dOp QaS (QmD vv6) kk1) (Qls kk1) (Qls kk1)) (.nm 7) (Qb (Qp 3 (QL (Qa2 (Qm vv5 kk0) vv1) (.tp [1,2]) [none,none,none,some 7] QW (QC (Q3 kk2 vv1) (dOp Qad (dOp QoA vv2 vv3) kk2)))) (Qb (Qp 4 (QL (Qab (Qm vv5 kk1)) (.nm 1) [none,none] QW (Q3 kk2 vv1))) (Qb (Qp 5 (Qo 3 Qfi [] (Qa vv2 (Qa vv3 (Qa vv4 Qd))))) Qh)))) (Qb (QO vv5) Qh))))))))
noncomputable def QdT(m:Nat)(T:Mt2)(f c:Mt1):D:= .tup [Qc m (Qe m T f c),Qc m c]
structure Told (m:Nat) (T:Mt2) (f c:Mt1):Prop where
 leg:Leg m T f c
 pos:∀j,j<m->0<=Qe m T f c j
 stb:Stb m T (Qe m T f c)
def Qif(d:Den):Prop:=∀(m:Nat) (R L:Lpp) (f:Mt1),0<m->m<=1000->QaT m R L->(∀j,j<m->0<=f j/\f j<2^200)->∃c,d [QM m R L,Qc m f]=some (QdT m (Qq m (Qj R L)) f c,true)/\Told m (Qq m (Qj R L)) f c
def QsN(ha:fa U=some ra)(ea:ra.d= .int ((n:Int)-1))(hb:fb U=some rb)(eb:rb.d= .int (-1))(hc:fc U=some rc)(ec:rc.d= .int (-1))(hn:n<=16777216):Qf3 fa fb fc U=some ⟨(List.range n).map λ(k:Nat)=> .int ((n:Int)-1-k),[]⟩:=by
 unfold Qf3;rw[ha,Za,hb,Za,hc,Za,ea,eb,ec];show(if(n:Int)-1- -1<=16777216/\_ then _ else _)=_;rw[if_pos ⟨⋯,⋯,⋯,⋯,⋯⟩,show((n:Int)-1- -1).toNat=n by lia];rfl
def Qzn{fa fb:DE}{U:En}{ra rb:R}{a:Int}{k:Nat}(ha:fa U=some ra)(ea:ra.d= .int a)(hb:fb U=some rb)(eb:rb.d= .int k):dOp QoA fa fb U=some (reI (a / 2^k)):=by
 refine Qan ha hb ?_;rw[ea,eb];show(if(0:Int)<=k then some (D.int (a / 2^(k:Int).toNat))else none)=_;rw[if_pos ⋯,Zax]
def Qux(x:Int)(s:Nat):x / 2^s=2*(x / 2^(s+1))+x / 2^s % 2:=by
 have e:x / 2^(s+1)=x / 2^s / 2:=by rw[Int.pow_succ,Int.ediv_ediv_of_nonneg (Int.pow_nonneg ∅)]
 rw[e];lia
def QkO(e:∀j,j<m->f j=g j)(h:Told m T f c):Told m T g c where
 leg:=h.leg.QmJ e
 pos:=λj hj=>by rw[← QaG j (e j hj) (λ_ _=>rfl)];exact h.pos j hj
 stb:=λj hj=>by rw[← QaG j (e j hj) (λ_ _=>rfl)];exact h.stb j hj
def QiB(e:∀j,j<m->f j=g j):QdT m T f c=QdT m T g c:=by
 unfold QdT;rw[Qh3 λj hj=>QaG j (e j hj) λ_ _=>rfl]
def QtB(hn:Qh7 dn)(ht:Qfd dt)(hs:Qht ds):Qif (Qu 8 (Qp6 dn dt ds)):=λm R L f m0 hm hw hf=>by
 have hg:=hw.good;have tp:=hw.tp;have htoll:=ht m R L hm ⋯ hg.1 hg.2.1;generalize hT:Qq m (Qj R L)=T at tp htoll ⊢;obtain⟨top,⟨q,hq,etop⟩,hmax,evmax⟩:=QpU m0 f;have htop0:0<=top:=by rw[etop];exact(hf q hq).1
 have hB:Builtin.Int.intBits top<=200:=by
  rw[intBits_le_iff];have:top<2^200:=by rw[etop];exact(hf q hq).2
  have e2:((2^200:Nat):Int)=(2:Int)^200:=by rw[Int.natCast_pow];rfl
  generalize (2:Int)^200=z at this e2;generalize (2:Nat)^200=z' at e2 ⊢;lia
 have hlt:∀j,j<m->f j / 2^Builtin.Int.intBits top=0:=λj hj=>by
  have h1:=(intBits_le_iff (m:=Builtin.Int.intBits top)).mp (Zd _);refine Int.ediv_eq_zero_of_lt (hf j hj).1 ?_;have h2:=hmax j hj;have e2:((2^Builtin.Int.intBits top:Nat):Int)=(2:Int)^Builtin.Int.intBits top:=by rw[Int.natCast_pow];rfl
  rw[← e2];lia
 generalize hBe:Builtin.Int.intBits top=B at hB hlt;have key:Run (Qp6 dn dt ds) (Qau 8 [QM m R L,Qc m f]) (Rt λd fr=>∃c,d=QdT m T f c/\fr=true/\Told m T f c):=by
  have hneed:=hn m R L [f] m0 (λg hg' j hj=>by rw[Zo.mp hg'];exact(hf j hj).1);refine run_seq (QeH (Qt rfl hneed rfl) ?_);refine rsa (Qt rfl htoll rfl) ?_;refine rsa (Qf1 rfl rfl ⋯) ?_;refine rsa (Qf1 rfl rfl ⋯) ?_;refine run_seq (QH rfl ?_);refine rsa (evmax rfl rfl) ?_;refine Qbb (P:=λU=>∃c j3 j4 j7,Told m T f c/\U=[slF (QM m R L),slF (Qc m f),slT (Qn m m T),j3,j4,some (QdT m T f c,true),slI top,j7]) ?_ ?_
  .refine Qay (List.range B) (λi U=>∃c j3 j4 j7,Told m T (λj=>f j / 2^(B-i)) c/\U=[slF (QM m R L),slF (Qc m f),slT (Qn m m T),j3,j4,some (QdT m T (λj=>f j / 2^(B-i)) c,true),slI top,j7])
    (QsN (Qan (ra:=reI B) (by rw[← hBe];rfl) rfl rfl) rfl rfl rfl rfl rfl ⋯) rfl ⟨λ_=>0,none,none,none,?_,?_⟩ ?_ ?_
   .refine QkO (λj hj=>(hlt j hj).symm) ⟨.nil,λj hj=>?_,λj hj=>?_⟩
    .unfold Qe;rw[QP λi _=>by rw[ZQ],Qaq];exact Zbp _
    .unfold Qe;rw[QP λi _=>by rw[ZQ],Qaq];have:=tp.neg j hj;show(0:Int)+0<_;lia
   .show _=[slF (QM m R L),slF (Qc m f),slT (Qn m m T),none,none,some (QdT m T (λj=>f j / 2^B) λ_=>0,true),slI top,none];rw[← QiB λj hj=>(hlt j hj).symm];unfold QdT;rw[QuG];rfl
   .rintro i i' U hi ⟨c,j3,j4,j7,hc,rfl⟩;obtain⟨hiB,rfl⟩:=QeI hi;obtain⟨s,hsB⟩:∃s:Nat,B-i=s+1:=⟨B-i-1,⋯⟩;have es:(B:Int)-1-i=(s:Int):= ⋯
    have es2:B-(i+1)=s:= ⋯
    rw[hsB]at hc;rw[hsB,es2,es];generalize hF:(λj=>f j / 2^(s+1))=F at hc;have hF':∀j,F j=f j / 2^(s+1):=λj=>by rw[← hF]
    refine⟨_,rfl,?_⟩;have e2:∀j,2*F j+f j / 2^s % 2=f j / 2^s:=λj=>by rw[hF',← Qux]
    have erow:∀j,2*Qe m T F c j+f j / 2^s % 2=Qe m T (λj=>f j / 2^s) (λi=>2*c i) j:=λj=>by
     have:=QpX (m:=m) (T:=T) (f:=F) (c:=c) (b:=λj=>f j / 2^s % 2) j;rw[← this];exact(QaG j (e2 j).symm λ_ _=>rfl).symm
    refine run_seq (QH (r:=reT (Qc m (Qe m T (λj=>f j / 2^s) (λi=>2*c i)))) ?_ ?_)
    .have e:=QI (fi:=Qa2 (Qm (Qf 5) (dC (.int 0))) (Qf 1)) (t:= .tp [1,2]) (cap:=[none,none,none,some 7]) (fe:=QC (Q3 (dC (.int 2)) (Qf 1)) (dOp Qad (dOp QoA (Qf 2) (Qf 3)) (dC (.int 2)))) (U:=[slF (QM m R L),slF (Qc m f),slT (Qn m m T),j3,j4,some (QdT m T F c,true),slI top,slI s])
      (List.range m) (Qbj rfl rfl rfl rfl) rfl λj hj=>
       ⟨[none,slI (Qe m T F c j),slI (f j),slI s],rfl,_,Q6 (Qai rfl rfl rfl rfl (QbQ ∅)) rfl (Qaf (Qzn rfl rfl rfl rfl) rfl rfl rfl ∅) rfl,rfl,rfl⟩
     refine e.trans ?_;congr 2;show D.lst _=D.lst _;congr 1;refine ZE λj _=>?_;rw[erow]
    .rw[Qac];refine run_seq (QH (r:=reT (Qc m (λi=>2*c i))) ?_ ?_)
     .exact QI (List.range m) (Qak rfl rfl) rfl λj hj=>⟨[none,slI (c j)],rfl,_,Qai rfl rfl rfl rfl (QbQ ∅),rfl,rfl⟩
     .rw[Qac];obtain⟨d2,hd2,ed2⟩:=hc.leg.Qzl (λj=>f j / 2^s % 2) (λj=>ZM _ ∅);have hleg:Leg m T (λj=>f j / 2^s) (λi=>2*c i):=(hd2.cast ed2).QmJ λj _=>e2 j;have hpos:∀j,j<m->0<=Qe m T (λj=>f j / 2^s) (λi=>2*c i) j:=λj hj=>by
       rw[← erow];have:=hc.pos j hj;have:=ZM (f j / 2^s) (by decide:(2:Int)≠0);lia
      obtain⟨k',h1,h2,h3,h4⟩:=hs m T _ _ hm tp hleg hpos;refine run_seq (QH (Qt rfl h1 rfl) (Ql ?_));rw[Qac];exact⟨k',_,_,_,⟨h2,h3,h4⟩,rfl⟩
   .rintro U ⟨c,j3,j4,j7,hc,rfl⟩;rw[Zz,Nat.sub_self]at *;have e:∀j,j<m->f j / 2^0=f j:=λj _=>by rw[Int.pow_zero,Int.ediv_one]
    exact⟨c,_,_,_,QkO e hc,by rw[QiB e]⟩
  .rintro U ⟨c,j3,j4,j7,hc,rfl⟩;exact Qy rfl ⟨c,rfl,rfl,hc⟩
 obtain⟨o,h1,h2⟩:=key;cases o with
 | rt d fr=>
  obtain⟨c,rfl,rfl,h3⟩:=h2;exact⟨c,by unfold Qu;rw[h1];rfl,h3⟩
 | _=>exact h2.elim
def Qta{x:Nat}{W:List (Int×Int×Bool)}{U:En}{b:Bool}(h:U[x]? =some (some (Q9 W,b))):QnZ (Qf x) (Qls (dC (.int 1))) U=some (reT (Q9 W.reverse)):=by
 unfold QnZ;rw[Qa6 h,Za];have e:(if(Q9 W).flat=true then HS.R.mk (Q9 W) true []else if b=true then HS.R.mk (Q9 W) true [x]else HS.R.mk (Q9 W) false []).d=Q9 W:=by cases b<;>rfl
 rw[e];show some (QaA (W.map QcC).reverse _)=_;rw[← List.map_reverse];unfold QaA;rw[if_pos (Qqx _)];rfl
def Qt6{m:Nat}{t kind:Int}:Esc m (Qb3 m t kind):=λA Z=>by
 obtain⟨p,hp,hA⟩:=Z;have ex:∃j:Nat,j<m/\A (((j:Int)+t) % m).toNat:=by
  have h1:=ZM ((p:Int)-t) (by lia:(m:Int)≠0);have h2:=ZO ((p:Int)-t) (by lia:(0:Int)<m);refine⟨(((p:Int)-t) % m).toNat,⋯,?_⟩;have e:(((((p:Int)-t) % m).toNat:Int)+t) % m=p:=by
   rw[Int.toNat_of_nonneg h1,Int.emod_add_emod,Int.sub_add_cancel];exact Zcc ⋯ ⋯
  rw[e,Zax];exact hA
 obtain⟨j,⟨hj,hAj⟩,hmin⟩:=Qn5 ex;have s1:=ZM ((j:Int)+t) (by lia:(m:Int)≠0);have s2:=ZO ((j:Int)+t) (by lia:(0:Int)<m);refine⟨Qd9 m t kind j,ZK.mpr ⟨j,Zq.mpr hj,rfl⟩,?_,hAj,?_⟩
 .exact s2
 .show QeN m t j=m∨¬A (QeN m t j).toNat
  unfold QeN;split
  .rename_i h;have n1:=ZM (Qbf t j) (by lia:(j:Int)+1≠0);right;intro z;refine hmin (Qbf t j % ((j:Int)+1)).toNat ⋯ ⟨⋯,?_⟩;rw[Int.toNat_of_nonneg n1];exact z
  .exact .inl rfl
def Qwt{m:Nat}(h:fa U=some r)(e:r.d=Qc m f):dBf Qao (Qa fa Qd) U=some (reI m):=by
 rw[QcJ h e];simp
def Qth(h:fs U=some rs)(hl:rs.ds.length<=64):Qah fs U=some ⟨.lst rs.ds,rs.fr,rs.M⟩:=by
 unfold Qah;rw[h,Za,if_pos hl]
def Qp3(n m:Nat)(f:Mt1):(Qc m f).sim (n+1)=true:=by
 unfold Qc;simp only[D.sim,Zct,Zat];intro p _;cases n<;>rfl
def Qs3(h:∀i,i<m->∀j,j<n->f i j=g i j):Qn m n f=Qn m n g:=by
 unfold Qn Qc;congr 1;refine ZE λi hi=>?_;congr 1;refine ZE λj hj=>?_;rw[h i (Zq.mp hi) j (Zq.mp hj)]
def Qc2{fa fb:DE}{U:En}{ra rb:R}{m n:Nat}{f:Mt2}{i:Int}(ha:fa U=some ra)(ea:ra.d=Qn m n f)(hb:fb U=some rb)(eb:rb.d= .int i)(h0:0<=i)(h:i<m):Qm fa fb U=some ⟨Qc n (f i.toNat),ra.fr,ra.M⟩:=by
 unfold Qm;rw[ha,Za,hb,Za,ea,eb];simp only[Qn,D.items,Za,Qk0 h0 h,Zai];rfl
def Qnf{x m n:Nat}{f:Mt2}{fp fi fa:DE}{U:En}{i j v:Int}{rp ri ra:R}{Q:Out->Prop}(hx:U[x]? =some (slT (Qn m n f)))(hp:fp U=some rp)(ep:rp.d= .int i)(hi:fi U=some ri)(ei:ri.d= .int j)(ha:fa U=some ra)(ea:ra.d= .int v)
  (h0:0<=i) (h:i<m) (k0:0<=j) (k:j<n) (q:Q (.nx (U.set x (slT (Qn m n (up2 f i.toNat j.toNat v)))))):Run (QbF x (Qcr Qam fp) fi fa) U Q:=by
 refine⟨_,?_,q⟩;have hn:ra.norm=(reI v):=by unfold HS.R.norm;rw[ea];rfl
 have hd:Qa0 (Qn m n f) [i]=some (Qc n (f i.toNat)):=by
  simp only[Qa0,Qn,D.items,Za,Qk0 h0 h]
 have hu:QaL [i] (Qn m n f) (.lst (((List.range n).map λk=>D.int (f i.toNat k)).set j.toNat (.int v)))=Qn m n (up2 f i.toNat j.toNat v):=by
  simp only[QaL,Qn,Zj,Zz,Qcq h0 h,Qip];rw[Qd8];congr 2;funext k;unfold up2;split
  .rename_i e;subst e;rfl
  .rfl
 unfold QbF;rw[ha,Za,hx];simp only[Qcr,Qam,Za,hp,ep,ZbR,hi,ei,hd,Qc,Zj,Zz,Qcq k0 k,hn,ea];simp only[kill,List.contains_nil,Bool.not_false,ZcF,decide_true,ZaJ,if_true];rw[hu]
noncomputable def Qli:DS:=(Qb (Qp 1 (QC (Qm (Qf 0) (dC (.int 0))) (dC (.int 1)))) (Qb (Qp 2 (QL (Qaz (Qf 1)) (.nm 1) [none,none,some 1] QW (Q3 (Qah (Qa (dC (.int 0)) Qd)) (Qf 2)))) (Qb (Qp 5 (QC (Qm (Qf 0) (dC (.int 1))) (QL (Qab (Qm (Qf 0) (dC (.int 1)))) (.tp [1,2]) [none,none,none] QW (Qav (Qa (Qf 2) (Qa (Qf 1) Qd)))))) (Qb (QaX (Qab (QC (Qf 5) (Qm (Qf 0) (dC (.int 2))))) (.tp [3,4]) (Qb (QbF 2 (Qcr Qam (Qf 3)) (Qf 3) (dOp QaS (Qm (Qm (Qf 2) (Qf 3)) (Qf 3)) (dC (.int 1)))) (Qb (QbF 2 (Qcr Qam (Qf 3)) (Qf 4) (QC (Qm (Qm (Qf 2) (Qf 3)) (Qf 4)) (dC (.int 1)))) Qh))) (Qb (QO (QL (Qab (Qch (Qf 2) Qbx (Qbw (Qm (Qf 0) (dC (.int 0)))))) (.nm 1) [none,none,some 0] QW (Qch (Qf 1) Qbx (Qbw (Qm (Qf 2) (dC (.int 0))))))) Qh)))))
def QsQ{m n k:Nat}{f:Mt2}(h:n<=m):cutD ((List.range m).map λi=>Qc k (f i)) none (some (n:Int))=(List.range n).map λi=>Qc k (f i):=by
 unfold cutD;simp only[Zj,Zz,HT.Qe5,HT.Qf5,ZcC,Zcs,ZaZ h];rw[← ZcE,List.take_range,ZaZ h]
def TabsOk(d:Den):Prop:=∀(m:Nat) (R L:Lpp),0<m->m<=1000->R.length+R.length+L.length<=1000000->(∀s∈R,Good m s)->(∀s∈L,Good m s)->d [QM m R L]=some (Qn m m (Qq m (Qj R L)),true)
def QwY:TabsOk (Qu 6 Qli):=λm R L m0 hm hl hR hL=>by
 have gS:=QbX hR hL;have it:∀{U:En},U[0]? =some (slF (QM m R L))->Qf 0 U=some (reF (QM m R L)):=λh=>Qa6 h;have fin:Qn m m (Qq (m+1) (Qj R L))=Qn m m (Qq m (Qj R L)):=Qs3 λi hi j hj=>by
  rw[QbZ (m:=m+1) ⋯ ⋯ λs hs=>⟨(gS s hs).1,(gS s hs).2.1⟩,QbZ hi hj λs hs=>⟨(gS s hs).1,(gS s hs).2.1⟩]
 rw[← fin];refine Q0 ?_;refine rsa (Q6 (a:=(m:Int)) (b:=1) (Qc1 (it rfl) rfl).1 rfl rfl rfl) ?_;refine rsa (QI (out:=λ_=>Qc (m+1) λ_=>0) (List.range (m+1)) (QaO (n:=m+1) (r:=reI (m+1:Nat)) rfl rfl ⋯) rfl λx _=>⟨[none,slI x,slI (m+1:Nat)],rfl,_,Qf1 (n:=m+1) (r:=reI (m+1:Nat)) rfl rfl ⋯,rfl,rfl⟩) ?_;refine run_seq (QH (Qew (A:=R) (B:=R.map Prod.swap) (rb:=reT (QX (R.map Prod.swap))) (Qc1 (it rfl) rfl).2.1 rfl ?_ rfl (by simp;lia)) ?_)
 .have e1:(R.map λx=>pairD x.swap)=(R.map Prod.swap).map pairD:=by simp[ZZ,Function.comp_def]
  unfold QX;rw[← e1];exact QI (toD:=pairD) (out:=λx=>pairD x.swap) R (Qak (Qc1 (it rfl) rfl).2.1 rfl) rfl λx _=>⟨[none,slI x.1,slI x.2],rfl,⟨pairD x.swap,true,[]⟩,rfl,rfl,rfl⟩
 rw[Qac];refine Qbb (P:=λU=>∃j3 j4,U=[slF (QM m R L),slI (m+1:Nat),slT (Qn (m+1) (m+1) (Qq (m+1) (Qj R L))),j3,j4,slT (QX (R++R.map Prod.swap))]) ?_ ?_
 .refine Qay (toD:=pairD) (Qj R L) (λi U=>∃j3 j4,U=[slF (QM m R L),slI (m+1:Nat),slT (Qn (m+1) (m+1) (Qq (m+1) ((Qj R L).take i))),j3,j4,slT (QX (R++R.map Prod.swap))]) (ir:=⟨(Qj R L).map pairD,[]⟩) ?_ rfl ⟨none,none,rfl⟩ ?_ ?_
  .exact Qak (Qew (A:=R++R.map Prod.swap) (B:=L) (ra:=⟨QX (R++R.map Prod.swap),true,[5]⟩) rfl rfl (Qc1 (it rfl) rfl).2.2 rfl (by simp;lia)) rfl
  .rintro i s U hi ⟨j3,j4,rfl⟩;obtain⟨s1,s2,s3,s4,s5⟩:=gS s (Zao hi);have c1:s.1<((m+1:Nat):Int):= ⋯
   have c2:s.2<((m+1:Nat):Int):= ⋯
   refine⟨_,rfl,?_⟩;have step:Qq (m+1) ((Qj R L).take (i+1))=stepT (m+1) (Qq (m+1) ((Qj R L).take i)) s:=by
    unfold Qq;rw[List.take_add_one,hi,List.foldl_append];rfl
   have e1:∀{U:En}{f:Mt2}(y:Nat) (k:Int),U[2]? =some (slT (Qn (m+1) (m+1) f))->U[3]? =some (slI s.1)->U[y]? =some (slI k)->0<=k->k<((m+1:Nat):Int)->Qm (Qm (Qf 2) (Qf 3)) (Qf y) U=some (reI (f s.1.toNat k.toNat)):=λ{U f} y k h2 h3 hy k0 kl=>
    Qk6 (Qc2 (Qa6 h2) rfl (QoC h3) rfl s1 c1) rfl (QoC hy) rfl k0 kl
   refine run_seq (Qnf (i:=s.1) (j:=s.1) (m:=m+1) (n:=m+1) rfl rfl rfl rfl rfl (Qan (e1 3 s.1 rfl rfl rfl s1 c1) rfl rfl) rfl s1 c1 s1 c1 ?_);refine run_seq (Qnf (i:=s.1) (j:=s.2) (m:=m+1) (n:=m+1) rfl rfl rfl rfl rfl (Q6 (e1 4 s.2 rfl rfl rfl s2 c2) rfl (QaB (.int 1) _) rfl) rfl s1 c1 s2 c2 (Ql ⟨slI s.1,slI s.2,?_⟩));rw[step];unfold stepT;rw[if_pos ⟨c1,c2⟩,if_pos c1];rfl
  .rintro U ⟨j3,j4,rfl⟩;rw[Zcm];exact⟨j3,j4,rfl⟩
 rintro U ⟨j3,j4,rfl⟩;refine Qy (QI (toD:=λ(i:Nat)=>Qc (m+1) (Qq (m+1) (Qj R L) i)) (out:=λ(i:Nat)=>Qc m (Qq (m+1) (Qj R L) i)) (ir:=⟨(List.range m).map λi=>Qc (m+1) (Qq (m+1) (Qj R L) i),[2]⟩) (List.range m) ?_ rfl λi hi=>⟨[none,slF (Qc (m+1) (Qq (m+1) (Qj R L) i)),slF (QM m R L)],rfl,_,Qp0 (m:=m+1) (n:=m) (ra:=reF (Qc (m+1) (Qq (m+1) (Qj R L) i))) rfl rfl (Qc1 (r:=reF (QM m R L)) rfl rfl).1 rfl ⋯,rfl,rfl⟩) ⟨rfl,rfl⟩;refine Qak (r:=⟨.lst ((List.range m).map λi=>Qc (m+1) (Qq (m+1) (Qj R L) i)),false,[2]⟩) ?_ rfl;unfold Qch Qbx Qbw;rw[Qa6 (d:=Qn (m+1) (m+1) (Qq (m+1) (Qj R L))) (b:=true) rfl,(Qc1 (it rfl) rfl).1];show some (QaA (cutD ((List.range (m+1)).map λi=>Qc (m+1) (Qq (m+1) (Qj R L) i)) none (some (m:Int))) [2])=_;rw[QsQ ⋯];unfold QaA;have:Q7 ((List.range m).map λi=>Qc (m+1) (Qq (m+1) (Qj R L) i))=false:=by
  cases m with
  | zero=>lia
  | succ m=>rw[ZbG];rfl
 rw[this];rfl
abbrev Qem(i:Int):Prop:=Builtin.Int.intBits i<=2^20
def Qqo(h:i.natAbs<2^300):Qem i:=Zw (Zcn h) ∅
noncomputable def Qvs:DS:=(Qb (QO (QL (Qab vv0) (.nm 1) [none,none,some 1] QW (Qm vv1 vv2))) Qh)
def Qgr(d:Den):Prop:=∀(n m:Nat) (f:Mt2) (j:Nat),j<m->d [Qn n m f,.int j]=some (Qc n (λi=>f i j),true)
def Qse:Qgr (Qu 2 Qvs):=λn m f j hj=>
 Q0 (Qy (QI (List.range n) (Qak rfl rfl) rfl λi _=>⟨_,rfl,reI (f i j),QaC rfl rfl rfl rfl hj,rfl,rfl⟩) ⟨rfl,rfl⟩)
noncomputable def Qvo(QdE:Den):DS:=(Qb (QO (QL (Qaz (dBf Qao (Qa vv0 Qd))) (.nm 1) [none,none,some 0] QW (Qo 2 QdE [] (Qa vv2 (Qa vv1 Qd))))) Qh)
def Qez{n:Nat}(h:fa U=some r)(e:r.d=Qn n m f):dBf Qao (Qa fa Qd) U=some (reI n):=by
 rw[QcJ h e];simp
def Qjd(d:Den):Prop:=∀(n:Nat) (f:Mt2),n<=1000->d [Qn n n f]=some (Qn n n (λj i=>f i j),true)
def QrX(hc:Qgr dc):Qjd (Qu 1 (Qvo dc)):=λn f hn=>
 Q0 (Qy (QI (List.range n) (QaO (Qez rfl rfl) rfl ⋯) rfl λj hj=>⟨[none,slI j,slF (Qn n n f)],rfl,reT (Qc n (λi=>f i j)),Qt rfl (hc n n f j (Zq.mp hj)) rfl,rfl,rfl⟩) ⟨rfl,rfl⟩)
noncomputable def Qjw(Qdx:Den):DS:=(Qb (sIf (bOr (Qcm (QG (Qjt "list" vv0))) (QG (dOp gNe (dBf Qao (Qa vv0 Qd)) vv1))) (Qb (QO (dC (.bl false))) Qh) Qh) (Qb (QO (dOp gEq (dBf Qao (Qa (QL (Qab vv0) (.nm 1) [none,none] (QG (Qo 1 Qdx [] (Qa vv1 Qd))) vv1) Qd)) vv1)) Qh))
def QnD(d:Den):Prop:=∀(n:Nat) (a:Mt1),d [Qc n a,.int n]=some (.bl true,true)
def Qw3(hw:Qlf dw):QnD (Qu 2 (Qjw dw)):=λn a=>by
 refine Q0 ?_;refine QS (Q5 (Qc9 (Qdi (b:=true) (QF rfl rfl)) (QF (r:=reT (.bl false)) ((Qde (Qwt rfl rfl) rfl rfl rfl).trans ⋯) rfl)) (λh=>by cases h) (λ_=>Ql ?_));have ec:=QfW (fi:=Qab (Qf 0)) (t:= .nm 1) (cap:=[none,none]) (ft:=QG (Qo 1 dw [] (Qa (Qf 1) Qd))) (fe:=Qf 1) (U:=[slF (Qc n a),slI n]) (List.range n) (Qak rfl rfl) rfl λi _=>⟨[none,slI (a i)],rfl,QF (Qt rfl (hw (a i)) rfl) rfl,λ_=>⟨(reI (a i)),rfl,rfl,rfl⟩⟩;have el:=QcJ ec rfl;rw[Zj,ZbW.mpr λ_ _=>rfl,Zz]at el;exact Qy (r:=reT (.bl true)) ((Qa4 el rfl rfl rfl).trans ⋯) ⟨rfl,rfl⟩
noncomputable def Qbh(j r:Nat):Int:=if j=r then 1 else 0
def Qjg:∀n,det n Qbh=1
 | 0=>rfl
 | n+1=>by
  unfold det;rw[Qco (c:=0) ⋯ λi _ ne=>by unfold Qbh;rw[if_neg ne,ZW,ZQ]];have:(λc r=>Qbh (skp 0 c) (r+1))=Qbh:=by
   funext c r;have e:skp 0 c=c+1:=by unfold skp;rw[if_neg ⋯]
   rw[e];unfold Qbh;by_cases h:c=r
   .rw[if_pos h,if_pos ⋯]
   .rw[if_neg h,if_neg ⋯]
  rw[this,Qjg n];unfold Qbh sgn;simp
def Qnx(a:Mt1)(hi:i<n):det n (cup Qbh i a)=a i:=by
 have:=QkC Qbh a hi;rw[Qjg,ZaR,Qco (c:=i) hi λl _ ne=>by rw[show Qbh l i=0 by unfold Qbh;rw[if_neg ne],ZW]]at this;rw[this,show Qbh i i=1 by unfold Qbh;rw[if_pos rfl],ZbB]
structure Clr (n N k:Nat) (A m R:Mt2) (d:Int):Prop where
 le:k<=n
 det:HS.det n m=d
 nz:d≠0
 ent:∀i j,i<n->j<N->R i j=HS.det n (cup m i (A j))
 own:∀j,j<k->m j=A j
def Clr.start(n N:Nat)(A:Mt2):Clr n N 0 A Qbh (λi j=>A j i) 1:=⟨⋯,Qjg n,∅,λi j hi _=>(Qnx (A j) hi).symm,λj hj=> ⋯⟩
def Clr.exact{n N k:Nat}{A m R:Mt2}{d:Int}(h:Clr n N k A m R d)(hk:k<n)(kN:k<N){i j:Nat}(hi:i<n)(hj:j<N)(ne:i≠k):R k k*R i j-R i k*R k j=d*HS.det n (cup (cup m k (A k)) i (A j)):=by
 rw[h.ent k k hk kN,h.ent i j hi hj,h.ent i k hi kN,h.ent k j hk hj,← QuO m (A k) (A j) hk hi (Ne.symm ne),h.det]
def Clr.step{n N k:Nat}{A m R R':Mt2}{d:Int}(h:Clr n N k A m R d)(hk:k<n)(kN:k<N)(hp:R k k≠0)(h1:∀j,j<N->R' k j=R k j)(h2:∀i j,i<n->i≠k->j<N->∀q,R k k*R i j-R i k*R k j=d*q->R' i j=q):Clr n N (k+1) A (cup m k (A k)) R' (R k k):=by
 refine⟨hk,(h.ent k k hk kN).symm,hp,λi j hi hj=>?_,λj hj=>?_⟩
 .by_cases e:i=k
  .subst e;rw[h1 j hj,h.ent i j hi hj,QpD]
  .exact h2 i j hi e hj _ (h.exact hk kN hi hj e)
 .by_cases e:j=k
  .subst e;rw[QR]
  .rw[QJ _ _ e];exact h.own j ⋯
def Clr.tell{n N k:Nat}{A m R:Mt2}{d:Int}(h:Clr n N k A m R d){j r:Nat}(hj:j<N)(hr:r<n):d*A j r=sm n λl=>R l j*m l r:=by
 have:=QkC m (A j) hr;rw[h.det]at this;rw[this];exact Qas λl hl=>by rw[h.ent l j hl hj]
noncomputable def bnd(B:Nat):Nat->Nat
 | 0=>1
 | n+1=>(n+1)*(B*bnd B n)
def Qti:∀{n:Nat},(∀i,i<n->(f i).natAbs<=C)->(sm n f).natAbs<=n*C
 | 0,_=>by simp[sm]
 | n+1,h=>by
  unfold sm;have h1:=Qti (n:=n) λi hi=>h i ⋯;have h2:=h n ⋯;have:=Int.natAbs_add_le (sm n f) (f n);rw[Nat.succ_mul];lia
def QwK(j:Nat):(sgn j).natAbs=1:=by unfold sgn;split<;>rfl
def QfX:∀{n:Nat}{m:Mt2},(∀j,j<n->∀r,r<n->(m j r).natAbs<=B)->(det n m).natAbs<=bnd B n
 | 0,_,_=>by show(1:Int).natAbs<=1;decide
 | n+1,m,h=>by
  unfold det bnd;refine Qti λj hj=>?_;rw[Zbf,Zbf,QwK,Nat.one_mul];refine Nat.mul_le_mul (h j hj 0 ⋯) (QfX λc hc r hr=>h _ ?_ _ ⋯);unfold skp;split<;>lia
def QhC(hn:n<=8):bnd (2^200) n<2^2000:=by
 have h:∀k,k<9->bnd (2^200) k<2^2000:= nofun
 exact h n ⋯
def Qqn(n:Nat)(m:Mt2):Prop:=∀j,j<n->∀r,r<n->(m j r).natAbs<=2^200
def QfC(n:Nat)(A:Mt2):Prop:=∀k,k<n->∀c:Nat->Int,(∀r,r<=k->sm (k+1) (λl=>c l*A l r)=0)->c k=0
structure QcD (n N k:Nat) (A m R:Mt2) (d:Int):Prop where
 clr:Clr n N k A m R d
 unit:∀l,k<=l->l<n->m l=Qbh l
 col:Qqn n m
def Qqn.put(h:Qqn n m)(ha:∀r,r<n->(a r).natAbs<=2^200):Qqn n (cup m i a):=λj hj r hr=>by
 by_cases e:j=i
 .subst e;rw[QR];exact ha r hr
 .rw[QJ _ _ e];exact h j hj r hr
def QcD.start(n N:Nat)(A:Mt2):QcD n N 0 A Qbh (λi j=>A j i) 1:=⟨Clr.start n N A,λ_ _ _=>rfl,λj _ r _=>by unfold Qbh;split<;>decide⟩
def QcD.small{n N k:Nat}{A m R:Mt2}{d:Int}(h:QcD n N k A m R d)(hn:n<=8)(hA:∀j,j<N->∀r,r<n->(A j r).natAbs<=2^200):d.natAbs<2^2000/\∀i j,i<n->j<N->(R i j).natAbs<2^2000:=by
 have b:=QhC hn;refine⟨?_,λi j hi hj=>?_⟩
 .rw[← h.clr.det];exact ZaS (QfX h.col) b
 .rw[h.clr.ent i j hi hj];exact ZaS (QfX (h.col.put (hA j hj))) b
def Qgv:∀{n:Nat},k<=n->(∀i,k<=i->i<n->f i=0)->sm n f=sm k f
 | 0,h,_=>by rw[Nat.le_zero.mp h]
 | n+1,h,z=>by
  by_cases e:k=n+1
  .rw[e]
  .show sm n f+f n=sm k f;rw[Qgv (n:=n) ⋯ λi h1 h2=>z i h1 ⋯,z n ⋯ ⋯,ZaP]
def QcD.Qv8{n N k:Nat}{A m R:Mt2}{d:Int}(h:QcD n N k A m R d)(hk:k<n)(kN:k<N)(hl:QfC n A):R k k≠0:=λz=>by
 refine h.clr.nz ?_;have:=hl k hk (λl=>if l=k then-d else R l k) λr hr=>by
  have t:=h.clr.tell kN (show r<n by lia);rw[Qgv (k:=k) ⋯]at t
  .show(sm k λl=>(if l=k then-d else R l k)*A l r)+(if k=k then-d else R k k)*A k r=0;rw[if_pos rfl,Qas (g:=λl=>R l k*m l r) λl hl=>by rw[if_neg ⋯,h.clr.own l hl],← t,ZaM];lia
  .intro l h1 h2;by_cases e:l=k
   .rw[e,z,ZQ]
   .rw[h.unit l ⋯ h2,show Qbh l r=0 by unfold Qbh;rw[if_neg ⋯],ZW]
 rw[if_pos rfl]at this;lia
def QcD.step{n N k:Nat}{A m R R':Mt2}{d:Int}(h:QcD n N k A m R d)(hk:k<n)(kN:k<N)(hA:∀j,j<N->∀r,r<n->(A j r).natAbs<=2^200)(hp:R k k≠0)(h1:∀j,j<N->R' k j=R k j)(h2:∀i j,i<n->i≠k->j<N->∀q,R k k*R i j-R i k*R k j=d*q->R' i j=q):QcD n N (k+1) A (cup m k (A k)) R' (R k k):=
 ⟨h.clr.step hk kN hp h1 h2,λl h3 h4=>by rw[QJ _ _ ⋯];exact h.unit l ⋯ h4,h.col.put (hA k kN)⟩
def Qby(h:i.natAbs<2^2000):Qem i:=Zw (Zcn h) ∅
def QqS(hd:d≠0)(h:a=d*q):Qdb a d=q:=by
 rw[Qk1,h,Int.mul_fdiv_cancel_left q hd]
def Qdg(ha:fa U=some ra)(ea:ra.d= .int a)(hb:fb U=some rb)(eb:rb.d= .int b):dOp QaS fa fb U=some (reI (a-b)):=by
 refine Qan ha hb ?_;rw[ea,eb];rfl
def QlE(ha:fa U=some ra)(ea:ra.d= .int a)(hb:fb U=some rb)(eb:rb.d= .int b)(hz:b≠0)(h2:b.natAbs<2^2000)(h:a=b*q):dOp Qbc fa fb U=some (reI q):=by
 refine Qan ha hb ?_;rw[ea,eb];show(if QbE b=true then some (D.int (Qdb a b))else none)=_;have:QbE b=true:=by
  unfold QbE;simp only[Zk,decide_eq_true_eq];exact⟨hz,Zu h2 (ZP ∅ ∅)⟩
 rw[if_pos this,QqS hz h]
noncomputable def Qo6:DS:=(Qb (QO (QL (Qa2 vv0 vv1) (.tp [1,2]) [none,none,none,some 2,some 3,some 0,some 1] QW (dOp Qbc (dOp QaS (Q3 (Qm vv6 vv3) vv1) (Q3 (Qm vv5 vv3) vv2)) vv4))) Qh)
def QlT(d:Den):Prop:=∀(N k:Nat) (a p q:Mt1) (b:Int),k<N->b≠0->b.natAbs<2^2000->(∀j,j<N->(a j).natAbs<2^2000/\(p j).natAbs<2^2000)->(∀j,j<N->p k*a j-a k*p j=b*q j)->d [Qc N a,Qc N p,.int k,.int b]=some (Qc N q,true)
def Qt7:QlT (Qu 4 Qo6):=λN k a p q b hk hb hb2 hs hq=>
 Q0 (Qy (QI (List.range N) (Qbj rfl rfl rfl rfl) rfl λi hi=>⟨[none,slI (a i),slI (p i),slI k,slI b,slF (Qc N a),slF (Qc N p)],rfl,reI (q i),by
  have hi':=Zq.mp hi;refine QlE (Qdg (Qai (QaC rfl rfl rfl rfl hk) rfl rfl rfl (Qgf (Qby (hs k hk).2) (Qby (hs i hi').1))) rfl (Qai (QaC rfl rfl rfl rfl hk) rfl rfl rfl (Qgf (Qby (hs k hk).1) (Qby (hs i hi').2))) rfl) rfl rfl rfl hb hb2 (hq i hi'),rfl,rfl⟩) ⟨rfl,rfl⟩)
noncomputable def QqJ:Option Int->D
 | none=> .non
 | some i=> .int i
@[simp] theorem QtL(o:Option Int):(QqJ o).flat=true:=by cases o<;>rfl
noncomputable def QBL(m:Nat)(F:Nat->Option Int):D:= .lst ((List.range m).map λi=>QqJ (F i))
@[simp] theorem QCf(m:Nat)(F:Nat->Option Int):(QBL m F).flat=false:=rfl
@[simp] theorem QBx(m:Nat)(F:Nat->Option Int):Q7 ((List.range m).map λi=>QqJ (F i))=true:=Qbo (f:=λi=>QqJ (F i)) (λ_=>QtL _) _
def Qr1{fa fb:DE}{U:En}{ra rb:R}{i j:Int}{n:Nat}(ha:fa U=some ra)(ea:ra.d= .int i)(hb:fb U=some rb)(eb:rb.d= .int j)(hn:(n:Int)=j-i)(hl:n<=16777216)(h1: -(2^62)<=i)(h2:i<2^61):Qet fa fb U=some ⟨(List.range n).map λ(k:Nat)=> .int (i+k),[]⟩:=by
 unfold Qet;rw[ha,Za,hb,Za,ea,eb];show(if j-i<=16777216/\_ then _ else _)=_;rw[if_pos ⟨⋯,⋯,⋯,⋯,⋯⟩,show(j-i).toNat=n by lia];rfl
noncomputable def Qno(Qb1:Den):DS:=(Qb (Qp 2 (QL (Qet vv1 (dBf Qao (Qa vv0 Qd))) (.nm 1) [none,none,some 1,some 0] (QG (dOp gNe (Qm (Qm vv3 vv1) vv2) kk0)) vv1)) (Qb (sIf (bOr (Qcm (QG vv2)) (QG (dOp gEq (Qm vv2 kk0) vv1))) (Qb (QO vv0) Qh) Qh) (Qb (Qp 3 (dList (Qa vv0 Qd))) (Qb (QbF 3 Qam vv1 (Qm vv0 (Qm vv2 kk0))) (Qb (QbF 3 Qam (Qm vv2 kk0) (Qo 1 Qb1 [] (Qa (Qm vv0 vv1) Qd))) (Qb (QO vv3) Qh))))))
def Qlt(d:Den):Prop:=∀(n N k:Nat) (f:Mt2),k<n->n<=1000->k<N->f k k≠0->d [Qn n N f,.int k]=some (Qn n N f,false)
def QtV:Qlt (Qu 4 (Qno dop)):=λn N k f hk hn kN hp=>by
 have eI:=QfW (fi:=Qet (Qf 1) (dBf Qao (Qa (Qf 0) Qd))) (t:= .nm 1) (cap:=[none,none,some 1,some 0]) (ft:=QG (dOp gNe (Qm (Qm (Qf 3) (Qf 1)) (Qf 2)) (dC (.int 0)))) (fe:=Qf 1) (U:=[slF (Qn n N f),slI k,none,none])
  (toD:=λ(i:Nat)=> .int ((k:Int)+i)) (keep:=λi=> !decide (f (k+i) k=0)) (out:=λ(i:Nat)=> .int ((k:Int)+i)) (List.range (n-k)) (Qr1 (i:=k) (j:=n) (n:=n-k) (ra:=reI k) rfl rfl (Qez (n:=n) (m:=N) (f:=f) (r:=reF (Qn n N f)) rfl rfl) rfl ⋯ ⋯ ⋯ ⋯) rfl λi hi=>⟨[none,slI ((k:Int)+i),slI k,slF (Qn n N f)],rfl,by
   have hi':=Zq.mp hi;refine QF (Qde (a:=f (k+i) k) (b:=0) (QaC (m:=N) (f:=f (k+i)) (i:=k) ((Qc2 (m:=n) (n:=N) (f:=f) (i:=(k:Int)+i) (ra:=reF (Qn n N f)) (rb:=reI ((k:Int)+i)) rfl rfl rfl rfl ⋯ ⋯).trans (by rw[show((k:Int)+i).toNat=k+i by lia])) rfl (rb:=reI k) rfl rfl kN) rfl rfl rfl) rfl,λ_=>⟨(reI ((k:Int)+i)),rfl,rfl,rfl⟩⟩
 have hr:List.range (n-k)=0::(List.range (n-k-1)).map (· +1):=by
  rw[show n-k=(n-k-1)+1 by lia,ZbG];rfl
 rw[hr,List.filter_cons,if_pos (by show(!decide (f (k+0) k=0))=true;rw[Nat.add_zero,decide_eq_false hp];rfl),ZA]at eI;generalize ((((List.range (n-k-1)).map (· +1)).filter λi=> !decide (f (k+i) k=0)).map λ(i:Nat)=>D.int ((k:Int)+i))=xs at eI;refine Q0 ?_;refine rsa eI ?_;refine QS (Q5 (b:=true) ((Qc9 (a:=false) (b:=true) (Qdi (b:=true) (show QG (Qf 2) _=some true from rfl)) (QF (b:=true) (Qa4 (a:=k) (b:=k) (ra:=reI k) ?_ rfl (rb:=reI k) rfl rfl) ⋯)).trans rfl) (λ_=>?_) (λh=>by cases h))
 .unfold Qm;show((D.items (.lst (.int ((k:Int)+(0:Nat))::xs))).bind λys=>(atI ys (0:Int)).map λd=>(HS.R.mk d true [2]).norm)=_;simp only[D.items,Za];rw[Qes (show(0:Int)<=0 by decide) ⋯];show some (HS.R.mk (.int ((k:Int)+(0:Nat))) true [2]).norm=_;rw[show(k:Int)+(0:Nat)=k by lia];rfl
 .exact QS (Qgg (r:=reF (Qn n N f)) rfl ⟨rfl,rfl⟩)
noncomputable def Qhy(Qdu:Den)(QdQ:Den):DS:=(Qb (Qp 1 (Qbq vv0)) (Qb (Qp 2 kk1) (Qb (QaX (Qaz (dBf Qao (Qa vv0 Qd))) (.nm 3) (Qb (Qp 1 (Qo 2 Qdu [] (Qa vv1 (Qa vv3 Qd)))) (Qb (Qp 4 (Qbq (Qm vv1 vv3))) (Qb (sIf (QG (dOp gEq (Qm vv4 vv3) kk0)) (Qb (QO (Qav (Qa vv1 (Qa kk0 Qd)))) Qh) Qh) (Qb (Qp 1 (QL (Qab vv1) (.nm 1) [none,none,some 3,some 2,some 4] QW (Qo 4 QdQ [] (Qa vv1 (Qa vv4 (Qa vv2 (Qa vv3 Qd))))))) (Qb (QbF 1 Qam vv3 vv4) (Qb (Qp 2 (Qbq (Qm vv4 vv3))) Qh))))))) (Qb (QO (Qav (Qa vv1 (Qa vv2 Qd)))) Qh))))
def QeG(h:fs U=some r)(e:den (r.ds++dfl)=some (d,false))(hn:r.ds.length+dfl.length=n):Qo n den dfl fs U=some (R.norm ⟨d,false,r.M⟩):=by
 unfold Qo;rw[h,Za,if_pos hn,e];rfl
def QsO{k:Nat}(hx:U[x]? =some (slT (Qn n N g)))(hi:fi U=some (reI k))(ha:fa U=some (reF (Qc N p)))(hk:k<n)
  (q:Q (.nx (U.set x (slF (Qn n N (λi j=>if i=k then p j else g i j)))))):Run (QbF x Qam fi fa) U Q:=by
 refine⟨_,?_,q⟩;unfold QbF;rw[ha,Za,hx];have hn:(HS.R.mk (Qc N p) false []).norm=(reF (Qc N p)):=by unfold R.norm Qc;rfl
 simp only[Qam,Za,hi,Qn,Qa0,Zj,Zz,hn];rw[Qcq (show(0:Int)<=k by lia) ⋯];simp only[Za,Zax];have e:((List.range n).map λi=>Qc N (g i)).set k (Qc N p)=(List.range n).map λi=>Qc N (λj=>if i=k then p j else g i j):=by
  refine ZaA λi=>?_;rw[List.getElem?_set];by_cases h:k=i
  .subst h;rw[if_pos rfl,if_pos (by simpa using hk),Zp,ZL hk];simp
  .rw[if_neg h,Zp,Zp];by_cases h2:i<n
   .rw[ZL h2];simp only[Zai,if_neg (Ne.symm h)]
   .rw[Zs (by simpa using h2)];rfl
 rw[e];rfl
def Qfq(d:Den):Prop:=∀(n N:Nat) (A:Mt2),n<=8->n<=N->(∀j,j<N->∀r,r<n->(A j r).natAbs<=2^200)->QfC n A->∃m R b,d [Qn n N (λi j=>A j i)]=some (.tup [Qn n N R,.int b],false)/\QcD n N n A m R b
def Qrc(hp:Qlt dp)(ht:QlT dt):Qfq (Qu 5 (Qhy dp dt)):=λn N A n8 hN hA hl=>by
 have key:Run (Qhy dp dt) [slF (Qn n N (λi j=>A j i)),none,none,none,none] λo=>match o with | .rt d fr=>fr=false/\∃m R b,d= .tup [Qn n N R,.int b]/\QcD n N n A m R b | _=>False:=by
  refine run_seq (QH (Qjr (r:=reF (Qn n N (λi j=>A j i))) rfl) ?_);refine rsa (d:= .int 1) rfl ?_;refine QS (Qay (toD:=λ(k:Nat)=> .int (k:Int)) (List.range n) (λk U=>∃m R b j3 j4,QcD n N k A m R b/\U=[slF (Qn n N (λi j=>A j i)),slF (Qn n N R),slI b,j3,j4]) (QaO (n:=n) (Qez (n:=n) (m:=N) (f:=λi j=>A j i) (r:=reF (Qn n N (λi j=>A j i))) rfl rfl) rfl ⋯) rfl ⟨_,_,_,none,none,QcD.start n N A,rfl⟩ ?_ ?_)
  .rintro k k' U hk ⟨m,R,b,j3,j4,C,rfl⟩;obtain⟨hkn,rfl⟩:=QeI hk;have kN:k<N:= ⋯
   have pv:=C.Qv8 hkn kN hl;obtain⟨sb,sR⟩:=C.small n8 hA;have ep:=hp n N k R hkn ⋯ kN pv;refine⟨[slF (Qn n N (λi j=>A j i)),slF (Qn n N R),slI b,slI k,j4],rfl,?_⟩;refine run_seq (QH (r:=reF (Qn n N R)) ((QeG (r:=⟨[Qn n N R,.int k],false,[]⟩) rfl ep rfl).trans rfl) ?_);refine run_seq (QH (r:=reF (Qc N (R k))) ((Qjr (Qc2 (m:=n) (n:=N) (f:=R) (i:=k) (ra:=reF (Qn n N R)) (rb:=reI k) rfl rfl rfl rfl ⋯ ⋯)).trans rfl) ?_);refine QS (Q5 (b:=false) (QF (Qa4 (a:=R k k) (b:=0) (QaC (m:=N) (f:=R k) (i:=k) (ra:=reF (Qc N (R k))) (rb:=reI k) rfl rfl rfl rfl kN) rfl rfl rfl) (by simp[pv])) (λh=>by cases h) (λ_=>Ql ?_));have ex:∀i j,∃q,i<n->i≠k->j<N->R k k*R i j-R i k*R k j=b*q:=λi j=>by
    by_cases h:i<n/\i≠k/\j<N
    .exact⟨_,λh1 h2 h3=>C.clr.exact hkn kN h1 h3 h2⟩
    .exact⟨0,λh1 h2 h3=>absurd ⟨h1,h2,h3⟩ h⟩
   have zz:∀j,R k k*R k j-R k k*R k j=b*0:=λj=>by rw[Int.sub_self,ZW]
   have eT:∀i,i<n->dt [Qc N (R i),Qc N (R k),.int k,.int b]=slT (Qc N (λj=>if i=k then 0 else(ex i j).choose)):=λi hi=>
    ht N k (R i) (R k) _ b kN C.clr.nz sb (λj hj=>⟨sR i j hi hj,sR k j hkn hj⟩) λj hj=>by
     by_cases e:i=k
     .rw[if_pos e,e];exact zz j
     .rw[if_neg e];exact(ex i j).choose_spec hi e hj
   refine rsa (d:=Qn n N (λi j=>if i=k then 0 else(ex i j).choose)) (QI (toD:=λ(i:Nat)=>Qc N (R i)) (out:=λ(i:Nat)=>Qc N (λj=>if i=k then 0 else(ex i j).choose)) (List.range n) (Qak (r:=reF (Qn n N R)) rfl rfl) rfl λi hi=>⟨[none,slF (Qc N (R i)),slI k,slI b,slF (Qc N (R k))],rfl,reT (Qc N (λj=>if i=k then 0 else(ex i j).choose)),Qt (r:=⟨[Qc N (R i),Qc N (R k),.int k,.int b],false,[]⟩) rfl (eT i (Zq.mp hi)) rfl,rfl,rfl⟩) ?_;refine run_seq (QsO (n:=n) (N:=N) (k:=k) (p:=R k) (g:=λi j=>if i=k then 0 else(ex i j).choose) rfl rfl rfl hkn ?_);refine run_seq (QH (r:=reF (.int (R k k))) ((Qjr (QaC (m:=N) (f:=R k) (i:=k) (ra:=reF (Qc N (R k))) (rb:=reI k) rfl rfl rfl rfl kN)).trans rfl) (Ql ?_));rw[QeQ rfl];refine⟨_,_,_,_,_,C.step (R':=λi j=>if i=k then R k j else(λi j=>if i=k then 0 else(ex i j).choose) i j) hkn kN hA pv (λj _=>by show(if k=k then R k j else _)=_;rw[if_pos rfl]) (λi j hi ne hj q hq=>?_),rfl⟩;show(if i=k then R k j else if i=k then 0 else(ex i j).choose)=q;rw[if_neg ne,if_neg ne];exact Zbu C.clr.nz (((ex i j).choose_spec hi ne hj).symm.trans hq)
  .rintro U ⟨m,R,b,j3,j4,C,rfl⟩;rw[Zz]at C;exact Qy (r:=reF (.tup [Qn n N R,.int b])) rfl ⟨rfl,m,R,b,rfl,C⟩
 obtain⟨o,h1,h2⟩:=key;cases o with
 | rt d fr=>
  obtain⟨rfl,m,R,b,rfl,C⟩:=h2;exact⟨m,R,b,by show Option.bind (Qhy dp dt [slF (Qn n N (λi j=>A j i)),none,none,none,none]) outD=_;rw[h1];rfl,C⟩
 | _=>exact h2.elim
def Leg.mono(h:Leg m T f c)(e:∀i,i<m->f i<=g i):Leg m T g c:=by
 induction h with
 | nil=>exact .nil
 | @step c p t _ hp ht hle ih=>
  refine .step ih hp ht ?_;have:=e p hp;unfold Qe at hle ⊢;lia
def Qnl(j:Nat):Qe m T (Qe m T f c) d j=Qe m T f (λi=>c i+d i) j:=by
 unfold Qe;have e:(λi=>(c i+d i)*T i j)=λi=>c i*T i j+d i*T i j:=by funext i;rw[ZU]
 rw[e,Qa3];show f j+Qv m (λi=>c i*T i j)+_=_;lia
def Leg.trans(h:Leg m T f c)(h2:Leg m T (Qe m T f c) d):Leg m T f (λi=>c i+d i):=by
 induction h2 with
 | nil=>exact h.cast λi=>by simp
 | @step d p t _ hp ht hle ih=>
  rw[Qnl]at hle;refine(Leg.step ih hp ht hle).cast λi=>?_;unfold up;split
  .rename_i e;subst e;show c i+d i+t=c i+(d i+t);lia
  .rfl
def Told.lay(hC:Told m T F C)(hF:∀j,j<m->F j<=F' j)(hh:∀j,j<m->h j=Qe m T F C j+(F' j-F j))(hc:Told m T h c):Told m T F' (λi=>C i+c i)/\∀j,j<m->Qe m T h c j=Qe m T F' (λi=>C i+c i) j:=by
 have e1:∀j,j<m->h j=Qe m T F' C j:=λj hj=>by
  rw[hh j hj];unfold Qe;lia
 have e2:∀j,j<m->Qe m T h c j=Qe m T F' (λi=>C i+c i) j:=λj hj=>by
  rw[← Qnl];exact QaG j (e1 j hj) λ_ _=>rfl
 exact⟨⟨(hC.leg.mono hF).trans (hc.leg.QmJ e1),λj hj=>by rw[← e2 j hj];exact hc.pos j hj,λj hj=>by rw[← e2 j hj];exact hc.stb j hj⟩,e2⟩
def Told.one(tp:TP m T)(h:Told m T f c)(g:Told m T f d):∀i,i<m->c i=d i:=h.leg.unique tp g.leg h.stb g.stb
def Qcz(f:Mt1):∀n,sm n f=Qv n f
 | 0=>rfl
 | n+1=>by rw[Qal,← Qcz f n];rfl
def QlP(h:∀i,i<m->0<=f i):0<=Qv m f:=by
 have:=QdJ h;rw[Qaq]at this;exact this
def QnQ{m k:Nat}{T:Mt2}(tp:TP m T){c:Mt1}(h0:∀l,k<l->c l=0)(h:∀r,r<m->r<=k->0<=Qv m (λl=>c l*T l r)):∀l,l<m->c l<=0:=by
 obtain⟨w,w0,hw⟩:=tp.wt;have p0:∀l,0<=(if 0<c l then c l else 0):=λl=>by split<;>lia
 have v0:∀r,r<m->0<=Qv m (λl=>(if 0<c l then c l else 0)*T l r):=λr hr=>by
  by_cases h1:0<c r
  .have hrk:r<=k:=by
    by_cases z:k<r
    .rw[h0 r z]at h1;lia
    .lia
   have e:Qv m (λl=>(if 0<c l then c l else 0)*T l r)=Qv m (λl=>((if 0<c l then c l else 0)-c l)*T l r)+Qv m (λl=>c l*T l r):=by
    rw[← Qa3 m (λl=>((if 0<c l then c l else 0)-c l)*T l r) (λl=>c l*T l r)];exact QP λl _=>by rw[← ZU];congr 1;lia
   rw[e];refine Int.add_nonneg ?_ (h r hr hrk);refine QlP λl hl=>?_;by_cases e2:l=r
   .subst e2;rw[if_pos h1,Int.sub_self,ZQ];exact Zbp _
   .refine ZaF ?_ (tp.pos l r hl hr e2);split<;>lia
  .refine QlP λl hl=>?_;by_cases e2:l=r
   .subst e2;rw[if_neg h1,ZQ];exact Zbp _
   .exact ZaF (p0 l) (tp.pos l r hl hr e2)
 have s1:0<=Qv m λr=>Qv m (λl=>(if 0<c l then c l else 0)*T l r)*w r:=by
  have:Qv m (λ_=>(0:Int))<=Qv m λr=>Qv m (λl=>(if 0<c l then c l else 0)*T l r)*w r:=QdJ λr hr=>ZaF (v0 r hr) (w0 r);rw[Qaq]at this;exact this
 have s2:(Qv m λr=>Qv m (λl=>(if 0<c l then c l else 0)*T l r)*w r)=Qv m λl=>(if 0<c l then c l else 0)*Qv m λr=>T l r*w r:=by
  have e1:(λr=>Qv m (λl=>(if 0<c l then c l else 0)*T l r)*w r)=λr=>Qv m λl=>(if 0<c l then c l else 0)*(T l r*w r):=by
   funext r;rw[Zau,← QcS];exact QP λl _=>by rw[Zau (w r),Zaq]
  rw[e1,Qsc];exact QP λl _=>by rw[QcS]
 have s3:(Qv m λl=>(if 0<c l then c l else 0)*Qv m λr=>T l r*w r)<=Qv m λl=> -(if 0<c l then c l else 0):=QdJ λl hl=>by
  have:=ZR (hw l hl) (p0 l);lia
 rw[QcV]at s3;intro l hl;have big:(if 0<c l then c l else 0)<=Qv m λl=>(if 0<c l then c l else 0):=by
  have:=QcN (m:=m) hl (if 0<c l then c l else 0) (λ_=>1);have h2:Qv m (λi=>(if i=l then(if 0<c l then c l else 0)else 0)*1)<=Qv m λl=>(if 0<c l then c l else 0):=QdJ λi _=>by
   rw[ZbB];by_cases e:i=l
   .subst e;rw[if_pos rfl];exact Zbp _
   .rw[if_neg e];exact p0 i
  lia
 by_cases z:0<c l
 .rw[if_pos z]at big;lia
 .lia
def Qpo{m k:Nat}{T:Mt2}(tp:TP m T){c:Mt1}(h0:∀l,k<l->c l=0)(h:∀r,r<m->r<=k->Qv m (λl=>c l*T l r)=0):∀l,l<m->c l<=0:=QnQ tp h0 λr hr hk=>Int.le_of_eq (h r hr hk).symm
def QlB{m:Nat}{T:Mt2}(tp:TP m T):QfC m λl r=>0-T l r:=λk hk c h=>by
 have ext:∀r,r<=k->Qv m (λl=>(if l<=k then c l else 0)*T l r)=0:=λr hr=>by
  have e:=h r hr;rw[← Qcz,Qgv (k:=k+1) ⋯]
  .have n:=Qgd (-1) 0 (λl=>c l*(0-T l r)) (λ_=>0) (k+1);rw[e]at n;rw[Qas (g:=λl=> -1*(c l*(0-T l r))+0*0) λl hl=>by rw[if_pos ⋯,ZaQ,ZaE];lia,n];lia
  .intro l h1 h2;rw[if_neg ⋯,ZQ]
 have a:=Qpo tp (λl hl=>by show(if l<=k then c l else 0)=0;rw[if_neg ⋯]) (λr _ hr=>ext r hr) k hk;have b:=Qpo (k:=k) tp (λl hl=>by show(if l<=k then-c l else 0)=0;rw[if_neg ⋯]) (λr _ hr=>by
  have:=ext r hr;rw[QP (g:=λl=> -((if l<=k then c l else 0)*T l r)) λl _=>by split<;>simp[ZaM],QcV,this];rfl) k hk
 have a:(if k<=k then c k else 0)<=0:=a;have b:(if k<=k then-c k else 0)<=0:=b;rw[if_pos (Zd k)]at a b;lia
noncomputable def Qqs:DS:=(Qb (QO (QL (Qab vv0) (.nm 1) [none,none] QW (dOp QaS kk0 vv1))) Qh)
def QqF(d:Den):Prop:=∀(n:Nat) (a:Mt1),d [Qc n a]=some (Qc n λi=>0-a i,true)
def Qz2:QqF (Qu 1 Qqs):=λn a=>Q0 (Qy (QI (List.range n) (Qak rfl rfl) rfl λi _=>⟨[none,slI (a i)],rfl,reI (0-a i),rfl,rfl,rfl⟩) ⟨rfl,rfl⟩)
noncomputable def Qo7(Qb1:Den)(Qar:Den):DS:=(Qb (QO (QL (Qab (Qo 1 Qar [] (Qa vv0 Qd))) (.nm 1) [none,none] QW (Qo 1 Qb1 [] (Qa vv1 Qd)))) Qh)
def QgL(d:Den):Prop:=∀(m:Nat) (R L:Lpp),m<=1000->R.length+R.length+L.length<=1000000->(∀s∈R,Good m s)->(∀s∈L,Good m s)->d [QM m R L]=some (Qn m m λi j=>0-Qq m (Qj R L) i j,true)
def QrI(ho:QqF dop)(ht:Qfd dt):QgL (Qu 1 (Qo7 dop dt)):=λm R L hm hl hR hL=>by
 have et:=ht m R L hm hl hR hL;generalize Qq m (Qj R L)=T at *;exact Q0 (Qy (QI (List.range m) (Qak (Qt rfl et rfl) rfl) rfl λi _=>⟨[none,slF (Qc m (T i))],rfl,reT (Qc m λj=>0-T i j),Qt rfl (ho m (T i)) rfl,rfl,rfl⟩) ⟨rfl,rfl⟩)
noncomputable def Qju:DS:=(Qb (Qp 1 kk0) (Qb (QaX (Qab vv0) (.nm 2) (Qb (Qp 3 (Qbq vv2)) (Qb (Qbu (QG (dOp gNe vv3 kk0)) (Qb (Qp 4 (dOp Qad vv1 vv3)) (Qb (Qp 1 (Qbq vv3)) (Qb (Qp 3 (Qbq vv4)) Qh)))) Qh))) (Qb (QO (dBf Qrj (Qa vv1 Qd))) Qh)))
def Qup:(t∣b/\t∣QcZ a b)↔(t∣a/\t∣b):=by
 have e:QcZ a b=a-b*Qdb a b:=by
  rw[Qk1,show QcZ a b=a.fmod b from Qlx a b,Int.fmod_def]
 rw[e];constructor
 .rintro⟨h1,h2⟩;refine⟨?_,h1⟩;have:=Int.dvd_add h2 (Zco (c:=Qdb a b) h1);rwa[Int.sub_add_cancel]at this
 .rintro⟨h1,h2⟩;exact⟨h2,Int.dvd_sub h1 (Zco h2)⟩
def QxQ(h:b≠0):(QcZ a b).natAbs<b.natAbs:=by
 rw[show QcZ a b=a.fmod b from Qlx a b];by_cases hb:0<b
 .have h1:=Zcu a hb;have h2:=Int.fmod_lt_of_pos a hb;lia
 .have hb':0< -b:= ⋯
  have h1:=Zcu (-a) hb';have h2:=Int.fmod_lt_of_pos (-a) hb';have h3:=Int.neg_fmod_neg a b;lia
def Qjy(d:Den):Prop:=∀(xs:List Int),∃g:Int,d [QK xs]=some (.int g,true)/\0<=g/\∀t,t∣g↔∀x∈xs,t∣x
def QsU:Qjy (Qu 5 Qju):=λxs=>by
 have key:Run Qju [slF (QK xs),none,none,none,none] λo=>match o with | .rt d fr=>fr=true/\∃g,d= .int g/\0<=g/\∀t,t∣g↔∀x∈xs,t∣x | _=>False:=by
  refine rsa rfl ?_;refine QS (Qay xs (λk U=>∃g j2 j3 j4,(∀t,t∣g↔∀x∈xs.take k,t∣x)/\U=[slF (QK xs),slI g,j2,j3,j4]) (Qak rfl rfl) rfl ⟨0,none,none,none,λt=>⋯,rfl⟩ ?_ ?_)
  .rintro k x U hk ⟨g,j2,j3,j4,hg,rfl⟩;refine⟨[slF (QK xs),slI g,slI x,j3,j4],rfl,?_⟩;refine run_seq (QH rfl ?_);rw[QeQ rfl];refine Qbb (P:=λU=>∃g' j4,(∀t,t∣g'↔(t∣g/\t∣x))/\U=[slF (QK xs),slI g',slI x,slI 0,j4]) ?_ ?_
   .refine Qfj (λn U=>∃g' r j4,n=r.natAbs/\(∀t,(t∣g'/\t∣r)↔(t∣g/\t∣x))/\U=[slF (QK xs),slI g',slI x,slI r,j4]) ?_ x.natAbs _ ⟨g,x,j4,rfl,λ_=>Iff.rfl,rfl⟩;rintro n U ⟨g',r,j4,rfl,hd,rfl⟩;refine⟨!decide (r=0),QF (Qde rfl rfl rfl rfl) rfl,λh=>?_,λh=>?_⟩
    .have hr:r=0:=by simpa using h
     subst hr;exact⟨g',j4,λt=>by rw[← hd t];simp,rfl⟩
    .have hr:r≠0:=by simpa using h
     refine rsa (Qan rfl rfl (by show(if r≠0 then some (D.int (QcZ g' r))else none)=_;rw[if_pos hr])) ?_;refine run_seq (QH rfl ?_);rw[QeQ rfl];refine run_seq (QH rfl (Ql ?_));rw[QeQ rfl];exact⟨_,QxQ hr,r,QcZ g' r,_,rfl,λt=>Qup.trans (hd t),rfl⟩
   .rintro U ⟨g',j4,hd,rfl⟩;refine Ql ⟨g',_,_,_,λt=>?_,rfl⟩;rw[hd t,hg t,List.take_succ,hk];simp only[Zr,Option.toList_some,Zo];exact⟨λ⟨a,b⟩ y hy=>hy.elim (a y) λe=>e▸b,λa=>⟨λy hy=>a y (.inl hy),a x (.inr rfl)⟩⟩
  .rintro U ⟨g,j2,j3,j4,hg,rfl⟩;rw[Zcm]at hg;refine Qy rfl ⟨rfl,_,rfl,by split<;>lia,λt=>?_⟩;rw[← hg t];split
   .exact Int.dvd_neg
   .exact Iff.rfl
 obtain⟨o,h1,h2⟩:=key;cases o with
 | rt d fr=>
  obtain⟨rfl,g,rfl,g0,hg⟩:=h2;exact⟨g,by show Option.bind (Qju [slF (QK xs),none,none,none,none]) outD=_;rw[h1];rfl,g0,hg⟩
 | _=>exact h2.elim
def Qy5(h:fa U=some ⟨.tup [a,b],fr,M⟩):Qm fa (dC (.int 1)) U=some (HS.R.norm ⟨b,fr,M⟩):=by
 unfold Qm;rw[h];rfl
noncomputable def QhH(Qcn:Den):DS:=(Qb (QO (Qm (Qo 1 Qcn [] (Qa vv0 Qd)) kk1)) Qh)
noncomputable def QkH(Qcn:Den):DS:=(Qb (Qp 1 (Qo 1 Qcn [] (Qa vv0 Qd))) (Qb (sIf (QG (dOp gEq (Qm vv1 kk1) kk0)) (Qb Qx Qh) Qh) (Qb (QO vv1) Qh)))
def QgW(d:Den):Prop:=∀(n N:Nat) (A:Mt2),n<=8->n<=N->(∀j,j<N->∀r,r<n->(A j r).natAbs<=2^200)->QfC n A->∃m R b,d [Qn n N (λi j=>A j i)]=some (.tup [Qn n N R,.int b],false)/\QcD n N n A m R b
def Qo9(hc:Qfq dc):QgW (Qu 2 (QkH dc)):=λn N A n8 hN hA hl=>by
 obtain⟨m,R,b,ec,C⟩:=hc n N A n8 hN hA hl;refine⟨m,R,b,Q0 ?_,C⟩;refine run_seq (QH ((QeG (r:=⟨[Qn n N (λi j=>A j i)],false,[]⟩) rfl ec rfl).trans rfl) ?_);refine QS (Q5 (b:=false) (QF (Qa4 rfl rfl rfl rfl) (by simp[C.clr.nz])) (λh=>by cases h) (λ_=>Ql ?_));exact Qy rfl ⟨rfl,rfl⟩
noncomputable def Qnc(QgR:Den)(Qcf:Den)(QdE:Den)(QgC:Den):DS:=(Qb (Qp 2 (dBf Qao (Qa vv0 Qd))) (Qb (sIf (QG (dOp gNe (dBf Qao (Qa vv1 Qd)) vv2)) (Qb Qx Qh) Qh) (Qb (Qp 3 (Qo 1 Qcf [] (Qa (QL (Qa2 (Qo 1 QgR [] (Qa vv0 Qd)) vv1) (.tp [1,2]) [none,none,none] QW (QC vv1 (Qah (Qa vv2 Qd)))) Qd))) (Qb (Qp 4 (Qo 2 QdE [] (Qa (Qm vv3 kk0) (Qa vv2 Qd)))) (Qb (Qp 5 (Qo 1 QgC [] (Qa (QC vv4 (Qah (Qa (Qm vv3 kk1) Qd))) Qd))) (Qb (sIf (QG (dOp gLt (Qm vv3 kk1) kk0)) (Qb (Qp 5 (dOp QaS kk0 vv5)) Qh) Qh) (Qb (QO (Qav (Qa (QL (Qab vv4) (.nm 1) [none,none,some 5] QW (dOp Qbc vv1 vv2)) (Qa (dOp Qbc (Qm vv3 kk1) vv5) Qd)))) Qh)))))))
def Qm3(ha:fa U=some ra)(ea:ra.d=Qc m f)(hb:fb U=some (reI x))(hm:m<=1000):QC fa (Qah (Qa fb Qd)) U=some (reT (Qc (m+1) (up f m x))):=by
 have hb:Qah (Qa fb Qd) U=some (reT (.lst [.int x])):=(Qth (Qw hb (Q8 _)) ⋯).trans rfl;unfold QC;rw[ha,Za,hb,Za,ea];simp only[Qc,Zj,Zz,QdU];rw[if_pos (by simp;lia)];unfold QaA;rw[if_pos (by rw[Qci,Zk];exact⟨Qbo (λ_=>rfl) _,rfl⟩)];congr 3;rw[Zbx,Zap];congr 1
 .refine ZE λi hi=>?_;rw[Qf8,if_neg (by have:=Zq.mp hi;lia)]
 .show _=[D.int (up f m x m)];rw[Qf8,if_pos rfl]
def QtF(n:Nat)(f:Mt1):Qc n f=QK ((List.range n).map f):=by unfold Qc QK;rw[ZZ];rfl
def Qjl(d:Den):Prop:=∀(n:Nat) (f:Mt2) (row:Mt1),n<=8->(∀j r,j<n->r<n->(f j r).natAbs<=2^200)->(∀r,r<n->(row r).natAbs<=2^200)->QfC n f->∃tops q,d [Qn n n f,Qc n row]=some (.tup [Qc n tops,.int q],true)/\0<q/\q.natAbs<2^2000/\(∀r,r<n->q*row r=sm n λl=>tops l*f l r)/\(∀l,l<n->(tops l).natAbs<2^2000)/\(q≠1->∃l,l<n/\¬q∣tops l)
def Qs9(ht:Qjd dt)(hc:QgW dc)(hl:Qgr dl)(hm:Qjy dm):Qjl (Qu 6 (Qnc dt dc dl dm)):=λn f row n8 hf hr hL=>by
 have hA:∀j,j<n+1->∀r,r<n->((λj r=>if j=n then row r else f j r) j r).natAbs<=2^200:=λj hj r hr'=>by
  show(if j=n then row r else f j r).natAbs<=_;split
  .exact hr r hr'
  .exact hf j r ⋯ hr'
 have hL':QfC n λj r=>if j=n then row r else f j r:=λk hk c h=>hL k hk c λr hr=>by
  rw[← h r hr];exact Qas λl hl=>by show c l*f l r=c l*(if l=n then row r else f l r);rw[if_neg ⋯]
 obtain⟨m,R,b,ec,C⟩:=hc n (n+1) _ n8 ⋯ hA hL';obtain⟨sb,sR⟩:=C.small n8 hA;obtain⟨g,eg,g0,hg⟩:=hm ((List.range (n+1)).map (up (λi=>R i n) n b));have gb:g∣b:=(hg g).mp ⟨1,⋯⟩ b (ZK.mpr ⟨n,Zq.mpr ⋯,by rw[Qf8,if_pos rfl]⟩);have gR:∀i,i<n->g∣R i n:=λi hi=>(hg g).mp ⟨1,⋯⟩ _ (ZK.mpr ⟨i,Zq.mpr ⋯,by rw[Qf8,if_neg ⋯]⟩);have bz:=C.clr.nz;have gz:g≠0:=λz=>by rw[z]at gb;obtain⟨x,hx⟩:=gb;rw[ZQ]at hx;exact bz hx
 obtain⟨p,hp⟩:∃p,p=if b<0 then 0-g else g:=⟨_,rfl⟩;have pz:p≠0:=by rw[hp];split<;>lia
 have pd:∀x,g∣x->∃y,x=p*y:=λx Z=>by
  obtain⟨y,hy⟩:=Z;rw[hp];split
  .exact⟨-y,by rw[hy,ZaQ,Int.neg_mul_neg]⟩
  .exact⟨y,hy⟩
 obtain⟨q,hq⟩:=pd b gb;have tp:∀i,∃y,i<n->R i n=p*y:=λi=>by
  by_cases h:i<n
  .obtain⟨y,hy⟩:=pd _ (gR i h);exact⟨y,λ_=>hy⟩
  .exact⟨0,λh'=>absurd h' h⟩
 have gle:g.natAbs<=b.natAbs:=ZaT.mpr gb |> λh=>ZbN ⋯ h;have ple:p.natAbs<2^2000:=by rw[hp];split<;>lia
 have q0:0<q:=by
  by_cases h:b<0
  .rw[if_pos h]at hp;refine ZT λz=>?_;have:=Int.mul_nonneg_of_nonpos_of_nonpos (a:=p) (b:=q) ⋯ ⋯;lia
  .rw[if_neg h]at hp;refine ZT λz=>?_;have:=Int.mul_nonpos_of_nonneg_of_nonpos (a:=p) (b:=q) ⋯ ⋯;lia
 have qle:q.natAbs<2^2000:=by
  have:q∣b:=⟨p,by rw[hq,Zau]⟩;have:=ZbN ⋯ (ZaT.mpr this);lia
 have tops_small:∀l,l<n->((tp l).choose).natAbs<2^2000:=λl hl=>by
  have h:=(tp l).choose_spec hl;have:=sR l n hl ⋯;by_cases z:(tp l).choose=0
  .rw[z];exact ZaS (ZF _) this
  .have d:(tp l).choose∣R l n:=⟨p,by rw[Zau];exact h⟩;have nz:R l n≠0:=by rw[h];exact Int.mul_ne_zero pz z
   have:=ZbN ⋯ (ZaT.mpr d);lia
 have low:q≠1->∃l,l<n/\¬q∣(tp l).choose:=λq1=>ZT λhno=>by
  have all:∀l,l<n->q∣(tp l).choose:=λl hl=>ZT λz=>hno ⟨l,hl,z⟩;have bg:b∣g:=(hg b).mpr λx hx=>by
   obtain⟨i,hi,rfl⟩:=ZK.mp hx;rw[Qf8];split
   .exact⟨1,⋯⟩
   .rename_i z;have hi':i<n:=by have:=Zq.mp hi;lia
    obtain⟨y,hy⟩:=all i hi';exact⟨y,by rw[(tp i).choose_spec hi',hy,hq,Zaq]⟩
  have h1:=ZbN ⋯ (ZaT.mpr bg);have pg:p.natAbs=g.natAbs:=by rw[hp];split<;>lia
  have h2:b.natAbs=g.natAbs*q.natAbs:=by rw[hq,Zbf,pg]
  have h3:2<=q.natAbs:= ⋯
  have h4:=Nat.mul_le_mul_left g.natAbs h3;lia
 refine⟨λi=>(tp i).choose,q,Q0 ?_,q0,qle,λr hr'=>?_,tops_small,low⟩
 .refine rsa (Qez (n:=n) (m:=n) (f:=f) (r:=reF (Qn n n f)) rfl rfl) ?_;refine QS (Q5 (b:=false) (QF (b:=false) (r:=reT (.bl false)) ((Qde ((QcJ rfl rfl).trans (by rw[Zj,Zz])) rfl rfl rfl).trans ⋯) rfl) (λh=>by cases h) (λ_=>Ql ?_));have et:=ht n f ⋯;have eZ:QL (Qa2 (Qo 1 dt [] (Qa (Qf 0) Qd)) (Qf 1)) (.tp [1,2]) [none,none,none] QW (QC (Qf 1) (Qah (Qa (Qf 2) Qd))) [slF (Qn n n f),slF (Qc n row),slI n,none,none,none]=some (reT (Qn n (n+1) (λi j=>(λj r=>if j=n then row r else f j r) j i))):=by
   refine(QI (List.range n) (Qbj (Qt (r:=⟨[Qn n n f],false,[]⟩) rfl et rfl) rfl rfl rfl) rfl λi hi=>⟨[none,slF (Qc n (λj=>f j i)),slI (row i)],rfl,reT (Qc (n+1) (up (λj=>f j i) n (row i))),Qm3 rfl rfl rfl ⋯,rfl,rfl⟩).trans ?_;have eT:Qn n (n+1) (λi j=>(λj r=>if j=n then row r else f j r) j i)= .lst ((List.range n).map λi=>Qc (n+1) (up (λj=>f j i) n (row i))):=by
    unfold Qn;refine congrArg D.lst (ZE λi _=>?_);unfold Qc;exact congrArg D.lst (ZE λj _=>by rw[Qf8])
   rw[eT]
  refine run_seq (QH ((QeG (Qw eZ (Q8 _)) ec rfl).trans rfl) ?_);refine rsa (Qt rfl (hl n (n+1) R n ⋯) rfl) ?_;refine rsa (Qt (Qw (Qm3 rfl rfl rfl ⋯) (Q8 _)) (by show dm [Qc (n+1) (up (λi=>R i n) n b)]=_;rw[QtF];exact eg) rfl) ?_;refine Qbb (P:=λU=>U=[slF (Qn n n f),slF (Qc n row),slI n,slF (.tup [Qn n (n+1) R,.int b]),slT (Qc n (λi=>R i n)),slI p]) ?_ ?_
  .refine Q5 (QF (Qan rfl rfl rfl) rfl) (λh=>?_) (λh=>?_)
   .refine run_seq (QH rfl (Ql ?_));rw[Qac,hp,if_pos (of_decide_eq_true h)];rfl
   .refine Ql ?_;rw[hp,if_neg (of_decide_eq_false h)];rfl
  .rintro U rfl;refine Qy (r:=reT (.tup [Qc n λi=>(tp i).choose,.int q])) ?_ ⟨rfl,rfl⟩;unfold Qav;refine(congrArg (λz=>Option.bind z _) (Qw (QI (List.range n) (Qak rfl rfl) rfl λi hi=>⟨[none,slI (R i n),slI p],rfl,reT (.int (tp i).choose),QlE rfl rfl rfl rfl pz ple ((tp i).choose_spec (Zq.mp hi)),rfl,rfl⟩) (Qw (QlE rfl rfl rfl rfl pz ple hq) (Q8 _)))).trans ?_;rfl
 .have t:=C.clr.tell (j:=n) ⋯ hr';have t:b*row r=sm n λl=>R l n*m l r:=by
   have e:(if n=n then row r else f n r)=row r:=if_pos rfl;rw[← e];exact t
  rw[Qas (g:=λl=>((tp l).choose*f l r)*p) λl hl=>by
   rw[C.clr.own l hl];show R l n*(if l=n then row r else f l r)=_;rw[if_neg ⋯,Zau _ p,← Zaq,← (tp l).choose_spec hl],QpV,hq]at t
  refine Zbu pz ?_;rw[← Zaq,t,Zau]
noncomputable def QfQ:DS:=(Qb (sIf (QG (dOp gLt vv1 (dBf Qao (Qa vv0 Qd)))) (Qb (QO (Qm vv0 vv1)) Qh) Qh) (Qb (Qp 2 (QC (Q3 QsW vv1) kk5)) (Qb (sIf (QG (dOp gGt (dBf Qao (Qa vv0 Qd)) kk0)) (Qb (Qp 2 (dOp Qad (QC (Q3 (Qm vv0 (dOp Qad vv1 (dBf Qao (Qa vv0 Qd)))) QlO) (Q3 vv1 QsW)) Qdd)) Qh) Qh) (Qb (QO (dOp Qad (Q3 vv2 vv2) Qnu)) Qh))))
def Qgh(d:Den):Prop:=∀ns:List Int,ns.length<=63->(∀k,Qem (ns.getD k 0))->∃F:Nat->Int,∀k:Nat,k<=1000->d [.lst (ns.map .int),.int k]=some (.int (F k),true)/\Qem (F k)
set_option exponentiation.threshold 400 in
def Qvj:Qgh (Qu 3 QfQ):=λns hl hb=>by
 have key:∀k:Nat,k<=1000->∃v,Qu 3 QfQ [.lst (ns.map .int),.int k]=slI v/\Qem v:=λk hk=>by
  have elen:∀(U:En),U[0]? =some (slF (.lst (ns.map .int)))->dBf Qao (Qa (Qf 0) Qd) U=some (reI ns.length):=λU h=>by
   rw[QcJ (Qa6 h) rfl,Zj]
  have run:Run QfQ (Qau 3 [.lst (ns.map .int),.int k]) (Rt λd fr=>∃v,d= .int v/\fr=true/\Qem v):=by
   refine QS (Q5 (QF (Qan rfl (elen _ rfl) rfl) rfl) (λh=>?_) (λh=>Ql ?_))
   .have h:=of_decide_eq_true h;obtain⟨c,hc⟩:∃c,ns[k]? =some c:=⟨_,ZH ⋯⟩;refine QS (Qgg (Qph rfl rfl rfl rfl ⋯ (by simpa using hc)) ⟨c,rfl,rfl,?_⟩);have:=hb k;rw[Zal,hc]at this;exact this
   have h:=of_decide_eq_false h;refine rsa (Q6 (Qai rfl rfl rfl rfl (QbQ ∅)) rfl rfl rfl) ?_;refine Qbb (P:=λU=>∃v:Int,0<=v/\v<2147483647/\U=[slF (.lst (ns.map .int)),slI k,slI v]) ?_ ?_
   .refine Q5 (QF (Qan (elen _ rfl) rfl rfl) rfl) (λh2=>?_) (λh2=>Ql ⟨7919*k+5,⋯,⋯,rfl⟩);have h2:=of_decide_eq_true h2;have x0:=ZM (k:Int) (by lia:(ns.length:Int)≠0);have x1:=ZO (k:Int) h2;obtain⟨c,hc⟩:∃c,ns[((k:Int) % (ns.length:Int)).toNat]? =some c:=⟨_,ZH ⋯⟩;refine run_seq (QH (Qaf (Q6 (Qai (Qph rfl rfl (Qaf rfl rfl (elen _ rfl) rfl ⋯) rfl x0 hc) rfl rfl rfl (Qcy ∅)) rfl (Qai rfl rfl rfl rfl (Qcy ∅)) rfl) rfl rfl rfl ∅) (Ql ?_));rw[Qac];exact⟨_,ZM _ ∅,ZO _ ∅,rfl⟩
   rintro U ⟨v,v0,v1,rfl⟩;have y0:=ZM (v*v) (by decide:(2147483629:Int)≠0);have y1:=ZO (v*v) (by decide:(0:Int)<2147483629);refine Qy (Qaf (Qai rfl rfl rfl rfl (QbQ ⋯)) rfl rfl rfl ∅) ⟨v*v % 2147483629,rfl,rfl,Qqo (by
    have:(v*v % 2147483629).natAbs<2147483629:= ⋯
    exact Zcq this ∅)⟩
  obtain⟨o,h1,h2⟩:=run;cases o with
  | rt d fr=>
   obtain⟨v,rfl,rfl,h3⟩:=h2;exact⟨v,by unfold Qu;rw[h1];rfl,h3⟩
  | _=>exact h2.elim
 refine⟨λk=>if h:k<=1000 then(key k h).choose else 0,λk hk=>?_⟩;dsimp only;rw[dif_pos hk];exact(key k hk).choose_spec
def QuK(ha:fa U=some ra)(ea:ra.d=Qc m f)(hb:fb U=some rb)(eb:rb.d=Qc k g)(hl:m+k<=1000):QC fa fb U=some (reT (Qc (m+k) (λi=>if i<m then f i else g (i-m)))):=by
 have e:Qc (m+k) (λi=>if i<m then f i else g (i-m))= .lst (((List.range m).map λi=>D.int (f i))++((List.range k).map λi=>D.int (g i))):=by
  unfold Qc;rw[List.range_add,Zap,ZZ];congr 2
  .refine ZE λi hi=>?_;show D.int (if i<m then f i else g (i-m))=_;rw[if_pos (Zq.mp hi)]
  .refine ZE λi hi=>?_;show D.int (if m+i<m then f (m+i)else g (m+i-m))=_;rw[if_neg ⋯,Zbe]
 rw[e];unfold QC;rw[ha,Za,hb,Za,ea,eb];simp only[Qc,Zj,Zz,QdU];rw[if_pos ⋯];unfold QaA;rw[if_pos];rw[Qci,Zk];exact⟨Qbo (λ_=>rfl) _,Qbo (λ_=>rfl) _⟩
noncomputable def Qmr(QbA:Den)(Qc5:Den):DS:=(Qb (Qp 2 (Qo 2 Qc5 [] (Qa (Qo 1 QbA [] (Qa vv0 Qd)) (Qa vv1 Qd)))) (Qb (QO (QL (Qab (Qm vv2 kk0)) (.nm 1) [none,none,some 2] QW (dOp Qbc vv1 (Qm vv2 kk1)))) Qh))
def Qp8(ha:fa U=some ra)(ea:ra.d= .int a)(hb:fb U=some rb)(eb:rb.d= .int b)(h:0<b)(h2:b.natAbs<2^2000):dOp Qbc fa fb U=some (reI (a / b)):=by
 refine Qan ha hb ?_;rw[ea,eb];show(if QbE b=true then some (D.int (Qdb a b))else none)=_;have:QbE b=true:=by
  unfold QbE;simp only[Zk,decide_eq_true_eq];exact⟨⋯,Zu h2 (ZP ∅ ∅)⟩
 rw[if_pos this,QjI _ _ ⋯]
def Quq(h:∀i,i<m-> -C<=f i/\f i<=C): -(m*C)<=Qv m f/\Qv m f<=m*C:=by
 induction m with
 | zero=>simp[Qv]
 | succ m ih=>
  rw[Qal];have h1:=ih λi hi=>h i ⋯;have h2:=h m ⋯;have e:((m+1:Nat):Int)*C=m*C+C:=by rw[Zby,ZU];simp
  lia
def Qsi{m:Nat}{T:Mt2}(hm:m<=8)(hT:∀i j,i<m->j<m->(T i j).natAbs<2^64){f tops:Mt1}{q:Int}(q0:0<q)(h:∀r,r<m->q*f r=sm m λl=>tops l*(0-T l r)):∀r,r<m-> -(2^67)<=Qe m T f (λl=>tops l / q) r/\Qe m T f (λl=>tops l / q) r<=2^67:=λr hr=>by
 have e:q*Qe m T f (λl=>tops l / q) r=Qv m λl=> -(tops l % q)*T l r:=by
  unfold Qe;rw[Zbg,h r hr,Qcz,← QcS,← Qa3];refine QP λl _=>?_;have:=Zbk (tops l) q;have e2:q*(tops l / q*T l r)=(q*(tops l / q))*T l r:=by rw[Zaq]
  rw[e2,show q*(tops l / q)=tops l-tops l % q by lia,ZaQ,ZaE,Int.sub_mul,ZaM];lia
 have b:=Quq (f:=λl=> -(tops l % q)*T l r) (C:=q*2^64) λl hl=>by
  have h1:=ZM (tops l) (by lia:q≠0);have h2:=ZO (tops l) q0;have h3:=hT l r hl hr;have h4:tops l % q*(T l r)<=q*2^64/\ -(q*2^64)<=tops l % q*(T l r):=by
   have a1:tops l % q*T l r<=tops l % q*2^64:=ZR ⋯ h1;have a2:tops l % q*2^64<=q*2^64:=Zav ⋯ ∅;have a3:tops l % q*(-(2^64))<=tops l % q*T l r:=ZR ⋯ h1;rw[ZaE]at a3;lia
  rw[ZaM];lia
 rw[← e]at b;have hm':(m:Int)*(q*2^64)<=8*(q*2^64):=Zav ⋯ ⋯;generalize Qe m T f (λl=>tops l / q) r=x at b ⊢;constructor
 .refine ZT λz=>?_;have:=ZR (show x<= -(2^67)-1 by lia) (show 0<=q by lia);rw[Int.mul_sub,ZaE,ZbB]at this;lia
 .refine ZT λz=>?_;have:=ZR (show(2^67+1:Int)<=x by lia) (show 0<=q by lia);rw[Zbg,ZbB]at this;lia
def Qlr(d:Den):Prop:=∀(m:Nat) (R L:Lpp) (f:Mt1),m<=8->QaT m R L->(∀j,j<m->(f j).natAbs<=2^200)->∃c,d [QM m R L,Qc m f]=some (Qc m c,true)/\∀r,r<m-> -(2^67)<=Qe m (Qq m (Qj R L)) f c r/\Qe m (Qq m (Qj R L)) f c r<=2^67
def Qtz(ht:QgL dt)(hs:Qjl ds):Qlr (Qu 3 (Qmr dt ds)):=λm R L f m8 hw hf=>by
 have hg:=hw.good;have tp:=hw.tp;have et:=ht m R L ⋯ ⋯ hg.1 hg.2.1;generalize Qq m (Qj R L)=T at *;obtain⟨tops,q,es,q0,q1,hq,_,_⟩:=hs m (λi j=>0-T i j) f m8 (λj r hj hr=>by have:=tp.bnd j r hj hr;have:(2:Nat)^64<=2^200:=ZP ∅ ∅;lia) hf (QlB tp);refine⟨λl=>tops l / q,Q0 ?_,Qsi m8 tp.bnd q0 hq⟩;refine rsa (Qt (Qw (Qt rfl et rfl) (Qw rfl (Q8 _))) es rfl) ?_;refine Qy (QI (List.range m) (Qak rfl rfl) rfl λi _=>⟨[none,slI (tops i),slF (.tup [Qc m tops,.int q])],rfl,reI (tops i / q),Qp8 rfl rfl rfl rfl q0 q1,rfl,rfl⟩) ⟨rfl,rfl⟩
noncomputable def QjW(QdO:Den):DS:=(Qb (QO (QL (Qab (Qo 1 QdO [] (Qa vv0 Qd))) (.nm 1) [none,none] QW (Q3 kk2 vv1))) Qh)
def Qhj(d:Den):Prop:=∀(m:Nat) (R L:Lpp),m<=1000->R.length+R.length+L.length<=1000000->(∀s∈R,Good m s)->(∀s∈L,Good m s)->d [QM m R L]=some (Qc m λi=>2*QbV R L i,true)
def Qq9(hs:QmM ds):Qhj (Qu 1 (QjW ds)):=λm R L hm hl hR hL=>
 Q0 (Qy (QI (List.range m) (Qak (Qt rfl (hs m R L hm hl hR hL) rfl) rfl) rfl λi _=>⟨[none,slI (QbV R L i)],rfl,reI (2*QbV R L i),Qai rfl rfl rfl rfl (QbQ ∅),rfl,rfl⟩) ⟨rfl,rfl⟩)
def Qn9(hN:n<=N)(hA:∀j,j<N->∀r,r<n->(A j r).natAbs<=2^200)(hl:QfC n A):∀k,k<=n->∃m R d,QcD n N k A m R d
 | 0,_=>⟨_,_,_,QcD.start n N A⟩
 | k+1,hk=>by
  obtain⟨m,R,d,C⟩:=Qn9 hN hA hl k ⋯;have pv:=C.Qv8 (show k<n by lia) ⋯ hl;have ex:∀i j,∃q,i<n->i≠k->j<N->R k k*R i j-R i k*R k j=d*q:=λi j=>by
   by_cases h:i<n/\i≠k/\j<N
   .exact⟨_,λh1 h2 h3=>C.clr.exact ⋯ ⋯ h1 h3 h2⟩
   .exact⟨0,λh1 h2 h3=>absurd ⟨h1,h2,h3⟩ h⟩
  refine⟨_,λi j=>if i=k then R k j else(ex i j).choose,_,C.step ⋯ ⋯ hA pv (λj _=>by rw[if_pos rfl]) λi j hi ne hj q hq=>?_⟩;rw[if_neg ne];exact Zbu C.clr.nz (((ex i j).choose_spec hi ne hj).symm.trans hq)
def Qna{n N:Nat}(n8:n<=8){A:Mt2}{g v:Mt1}(hA:∀j,j<n->∀r,r<n->(A j r).natAbs<=2^200)(hl:QfC n A)(hg:∀r,r<n->(g r).natAbs<=2^200)(h:∀r,r<n->g r=sm n λl=>v l*A l r):∀l,l<n->(v l).natAbs<2^2000:=λl hln=>by
 obtain⟨m,R,d,C⟩:=Qn9 (Zd n) hA hl n (Zd n);have e1:det n (cup A l g)=v l*det n A:=by
  have e:det n (cup A l g)=det n (cup A l λr=>sm n λi=>v i*A i r):=by
   refine Qbv λj hj r hr=>?_;by_cases q:j=l
   .subst q;rw[QR,QR];exact h r hr
   .rw[QJ _ _ q,QJ _ _ q]
  rw[e,Qf4 hln v A n,Qco hln λi hi ne=>by rw[Qga hln hi (Ne.symm ne) (by rw[QR,QJ _ _ ne]),ZW],Qbg]
 have e2:det n A=d:=by
  rw[← C.clr.det];exact Qbv λj hj r _=>by rw[C.clr.own j hj]
 have b:=ZaS (QfX (m:=cup A l g) λj hj r hr=>by
  by_cases q:j=l
  .subst q;rw[QR];exact hg r hr
  .rw[QJ _ _ q];exact hA j hj r hr) (QhC n8)
 rw[e1,e2,Zbf]at b;have dz:=C.clr.nz;have:=Nat.le_mul_of_pos_right (v l).natAbs (show 0<d.natAbs by lia);lia
noncomputable def QB(m:Nat)(T:Mt2)(v:Mt1):Nat->Int:=λj=>2*(0-T j j)-Qe m T (λj=>2*(0-T j j)) v j
def Qd0(j:Nat):QB m T v j= -Qv m λi=>v i*T i j:=by
 unfold QB Qe;show 2*(0-T j j)-(2*(0-T j j)+_)=_;lia
def Rec(m:Nat)(T:Mt2)(v x:Mt1):Prop:=∃(y u:Mt1),(∀j,j<m->0<=y j)/\Told m T (λj=>y j+QB m T v j) u/\∀j,j<m->x j=Qe m T (λj=>y j+QB m T v j) u j
structure Dbl (m:Nat) (T:Mt2) (v:Mt1):Prop where
 told:Told m T (λj=>2*(0-T j j)) v
def Dbl.big(h:Dbl m T v)(hj:j<m):(0-T j j)+1<=QB m T v j/\QB m T v j<=2*(0-T j j):=by
 have h1:=h.told.stb j hj;have h2:=h.told.pos j hj;unfold QB;lia
noncomputable def Qx5(Qa9:Den)(QcQ:Den)(Qir:Den)(Qbt:Den)(QdG:Den):DS:=(Qb (Qbm (Qo 2 Qa9 [] (Qa vv0 (Qa (Qah (Qa vv1 Qd)) Qd)))) (Qb (Qp 2 (Qo 2 QcQ [] (Qa vv0 (Qa vv1 Qd)))) (Qb (Qp 3 (Qo 3 Qir [] (Qa vv0 (Qa vv1 (Qa vv2 Qd))))) (Qb (Qp 4 (Qo 2 QdG [] (Qa vv0 (Qa (Qo 1 Qbt [] (Qa vv0 Qd)) Qd)))) (Qb (Qp 5 (QL (Qa2 (Qo 1 Qbt [] (Qa vv0 Qd)) (Qm vv4 kk0)) (.tp [1,2]) [none,none,none] QW (dOp QaS vv1 vv2))) (Qb (Qp 6 (QC (dBf QgV (Qa (QC (Qah (Qa kk0 Qd)) (QL (Qa2 vv3 vv5) (.tp [1,2]) [none,none,none] QW (dOp QaS kk0 (dOp Qbc vv1 vv2)))) Qd)) kk1)) (Qb (Qp 7 (QL (Qa2 vv3 vv5) (.tp [1,2]) [none,none,none,some 6] QW (QC vv1 (Q3 vv3 vv2)))) (Qb (Qp 8 (Qo 2 QdG [] (Qa vv0 (Qa vv7 Qd)))) (Qb (Qp 9 (QL (Qgj vv2 (Qm vv4 kk1) (Qm vv8 kk1)) (.tp [1,2,3]) [none,none,none,none,some 6] QW (QC (dOp QaS vv1 (Q3 vv4 vv2)) vv3))) (Qb (QO (Qav (Qa (Qm vv8 kk0) (Qa vv9 Qd)))) Qh))))))))))
def QBa:Qfk ((List.range m).map f) ((List.range m).map g) ((List.range m).map h)=(List.range m).map λi=> .tup [f i,g i,h i]:=by
 unfold Qfk;refine ZaA λi=>?_;by_cases hi:i<m
 .have a:∀(k:Nat->D),((List.range m).map k)[i]? =some (k i):=λk=>by rw[Zp,ZL hi];rfl
  have e1:(((List.range m).map g).zip ((List.range m).map h))[i]? =some (g i,h i):=ZaG.mpr ⟨a g,a h⟩;have e2:(((List.range m).map f).zip (((List.range m).map g).zip ((List.range m).map h)))[i]? =some (f i,(g i,h i)):=ZaG.mpr ⟨a f,e1⟩;rw[Zp,e2,a];rfl
 .rw[Zs (by simp;lia),Zs (by simp;lia)]
def Qjj(ha:fa U=some ra)(ea:ra.d= .lst ((List.range m).map f))(hb:fb U=some rb)(eb:rb.d= .lst ((List.range m).map g))(hc:fc U=some rc)(ec:rc.d= .lst ((List.range m).map h)):Qgj fa fb fc U=some ⟨(List.range m).map λi=> .tup [f i,g i,h i],ra.M++(rb.M++rc.M)⟩:=by
 unfold Qgj;rw[ha,Za,hb,Za,hc,Za,ea,eb,ec];show(if _ then _ else _)=_;rw[if_pos ⋯,QBa]
def Qk7(d:Den):Prop:=∀(m:Nat) (R L:Lpp) (f:Mt1),0<m->m<=8->QaT m R L->(∀j,j<m->(f j).natAbs<=2^200)->∃k v,d [QM m R L,Qc m f]=some (.tup [Qc m (Qe m (Qq m (Qj R L)) f k),Qc m k],true)/\Dbl m (Qq m (Qj R L)) v/\Rec m (Qq m (Qj R L)) v (Qe m (Qq m (Qj R L)) f k)/\Stb m (Qq m (Qj R L)) (Qe m (Qq m (Qj R L)) f k)/\∀j,j<m->0<=Qe m (Qq m (Qj R L)) f k j
set_option maxHeartbeats 0 in
def QtI{dn dc da dd ds:Den}(hn:Qhn dn)(hc:Qlr dc)(ha:QlM da)(hd:Qhj dd)(hs:Qif ds):Qk7 (Qu 10 (Qx5 dn dc da dd ds)):=λm R L f m0 m8 hw hf=>by
 have hg:=hw.good;have tp:=hw.tp;obtain⟨c,ec,bc⟩:=hc m R L f m8 hw hf;have ea:=ha m R L f c ⋯ ⋯ hg.1 hg.2.1;have ed:=hd m R L ⋯ ⋯ hg.1 hg.2.1;have sp:∀j,j<m->QbV R L j=0-Qq m (Qj R L) j j:=λj hj=>(hw.neg hj).symm;rw[show(Qc m λi=>2*QbV R L i)=Qc m λi=>2*(0-Qq m (Qj R L) i i)from congrArg D.lst (ZE λi hi=>by show D.int (2*QbV R L i)=D.int (2*(0-Qq m (Qj R L) i i));rw[sp i (Zq.mp hi)])]at ed;obtain⟨v,ev,hv⟩:=hs m R L (λi=>2*(0-Qq m (Qj R L) i i)) m0 ⋯ hw λj hj=>by
  have:=tp.neg j hj;have:=tp.bnd j j hj hj;have:(2:Int)^66<=2^200:= ∅
  lia
 have DD:Dbl m (Qq m (Qj R L)) v:=⟨hv⟩;have still:=hs m R L;generalize Qq m (Qj R L)=T at *;generalize hlow:Qe m T f c=low at *;have big:=λj hj=>DD.big (j:=j) hj;have hmo:∀j,j<m->2*(0-T j j)-Qe m T (λi=>2*(0-T i i)) v j=QB m T v j:=λj hj=>rfl;generalize hmore:QB m T v=mo at *;have vb:∀l,l<m->(v l).natAbs<2^2000:=Qna (N:=m) m8 (g:=mo) (λj hj r hr=>by have:=tp.bnd j r hj hr;have:(2:Nat)^64<=2^200:=ZP ∅ ∅;lia) (QlB tp) (λr hr=>by
  have b:=big r hr;have:=tp.neg r hr;have:=tp.bnd r r hr hr;have:(2:Nat)^66<=2^200:=ZP ∅ ∅;lia) λr hr=>by
  rw[← hmore,Qd0,Qcz,← QcV];exact QP λi _=>by rw[ZaQ,ZaE]
 obtain⟨top,⟨i0,hi0,etop⟩,hmax,evmax⟩:=QpU (m:=1+m) ⋯ (λi=>if i<1 then 0 else 0-low (i-1) / mo (i-1));have top0:0<=top:=by have:=hmax 0 ⋯;rw[if_pos ⋯]at this;exact this
 have topj:∀j,j<m->0-low j / mo j<=top:=λj hj=>by
  have:=hmax (j+1) ⋯;rw[if_neg ⋯,ZbA]at this;exact this
 have mo0:∀j,j<m->0<mo j:=λj hj=>by have:=big j hj;have:=tp.neg j hj;lia
 have mo1:∀j,j<m->mo j<2^66:=λj hj=>by have:=big j hj;have:=tp.bnd j j hj hj;lia
 have topU:top<=2^67:=by
  rw[etop];split
  .decide
  .rename_i h;have hj:i0-1<m:= ⋯
   have b:=bc (i0-1) hj;have p:=mo0 (i0-1) hj;have: -(2^67)<=low (i0-1) / mo (i0-1):=by
    rw[Int.le_ediv_iff_mul_le p];have:=ZR (show(1:Int)<=mo (i0-1) by lia) (show(0:Int)<=2^67 by decide);rw[ZaM];lia
   lia
 have y0:∀j,j<m->0<=low j+top*mo j:=λj hj=>by
  have h1:=Zav (topj j hj) (show 0<=mo j from Int.le_of_lt (mo0 j hj));have h2:=Zbk (low j) (mo j);have h3:=ZM (low j) (by have:=mo0 j hj;lia:mo j≠0);rw[ZaQ,ZaM,Zau (low j / mo j)]at h1;lia
 have hi:∀j,j<m->0<=low j+(top+1)*mo j/\low j+(top+1)*mo j<2^200:=λj hj=>by
  have h1:=y0 j hj;have h2:=mo0 j hj;have h3:=mo1 j hj;have h4:=Int.mul_le_mul (show top+1<=2^67+1 by lia) (show mo j<=2^66 by lia) ⋯ ∅;have h5:(2:Int)^67+(2^67+1)*2^66<2^200:= ∅
  have h6:=(bc j hj).2;rw[ZU,ZaR]at h4 ⊢;lia
 obtain⟨u,eu,hu⟩:=still (λj=>low j+(top+1)*mo j) m0 ⋯ hw hi;have key:∀j,Qe m T (λj=>low j+(top+1)*mo j) u j=Qe m T f (λi=>c i-(top+1)*v i+u i) j:=λj=>by
  rw[← hlow,← hmore];unfold Qe;show f j+Qv m (λi=>c i*T i j)+(top+1)*QB m T v j+Qv m (λi=>u i*T i j)=f j+Qv m λi=>(c i-(top+1)*v i+u i)*T i j;rw[Qd0,ZaE,← QcS];have:(λi=>(c i-(top+1)*v i+u i)*T i j)=λi=>(c i*T i j+ -((top+1)*(v i*T i j)))+u i*T i j:=by
   funext i;rw[ZU,Int.sub_mul,Zaq];lia
  rw[this,Qa3,Qa3,QcV];lia
 have row:Qc m (Qe m T (λj=>low j+(top+1)*mo j) u)=Qc m (Qe m T f (λi=>c i-(top+1)*v i+u i)):=congrArg D.lst (ZE λj _=>by rw[key j]);refine⟨λi=>c i-(top+1)*v i+u i,v,Q0 ?_,DD,⟨λj=>low j+top*mo j,u,y0,?_,λj _=>?_⟩,λj hj=>?_,λj hj=>?_⟩
 .refine run_seq (QeH (Qt rfl (hn m R L [f]) rfl) ?_);refine rsa (Qt rfl ec rfl) ?_;refine rsa (Qt rfl ea rfl) ?_;refine rsa (Qt (Qw rfl (Qw (Qt rfl ed rfl) (Q8 _))) ev rfl) ?_;refine rsa (d:=Qc m mo) (QI (List.range m) (Qbj (Qt rfl ed rfl) rfl rfl rfl) rfl λj hj=>⟨[none,slI (2*(0-T j j)),slI (Qe m T (λi=>2*(0-T i i)) v j)],rfl,reI (2*(0-T j j)-Qe m T (λi=>2*(0-T i i)) v j),rfl,by rw[← hmo j (Zq.mp hj)],rfl⟩) ?_;refine rsa (Q6 (evmax (QuK rfl rfl (QI (List.range m) (Qbj rfl rfl rfl rfl) rfl λj hj=>⟨[none,slI (low j),slI (mo j)],rfl,reI (0-low j / mo j),Qdg rfl rfl (Qp8 rfl rfl rfl rfl (mo0 j (Zq.mp hj)) (by have:=mo0 j (Zq.mp hj);have:=mo1 j (Zq.mp hj);have:(2:Nat)^66<=2^2000:=ZP ∅ ∅;lia)) rfl,rfl,rfl⟩) rfl ⋯) rfl) rfl rfl rfl) ?_;refine rsa (QI (List.range m) (Qbj rfl rfl rfl rfl) rfl λj hj=>⟨[none,slI (low j),slI (mo j),slI (top+1)],rfl,reI (low j+(top+1)*mo j),Q6 rfl rfl (Qai rfl rfl rfl rfl (Qgf (Qby (by have:(2:Nat)^68<=2^2000:=ZP ∅ ∅;lia)) (Qby (by have:=mo0 j (Zq.mp hj);have:=mo1 j (Zq.mp hj);have:(2:Nat)^66<=2^2000:=ZP ∅ ∅;lia)))) rfl,rfl,rfl⟩) ?_;refine rsa (Qt rfl eu rfl) ?_;refine run_seq (QH (QI (List.range m) (Qjj rfl rfl rfl rfl rfl rfl) rfl λi hi=>⟨[none,slI (c i),slI (v i),slI (u i),slI (top+1)],rfl,reI (c i-(top+1)*v i+u i),Q6 (Qdg rfl rfl (Qai rfl rfl rfl rfl ?_) rfl) rfl rfl rfl,rfl,rfl⟩) ?_)
  rotate_left
  .rw[Qac];refine Qy (r:=⟨.tup [Qc m (Qe m T (λj=>low j+(top+1)*mo j) u),Qc m λi=>c i-(top+1)*v i+u i],true,[8,9]⟩) rfl ⟨by rw[row],rfl⟩
  .exact Qgf (Qby (by have:(2:Nat)^68<=2^2000:=ZP ∅ ∅;lia)) (Qby (vb i (Zq.mp hi)))
 .refine⟨hu.leg.QmJ λj hj=>?_,λj hj=>?_,λj hj=>?_⟩
  .show _=low j+top*mo j+QB m T v j;rw[hmore,ZU,ZaR];lia
  .have:=hu.pos j hj;rw[QaG (g:=λj=>low j+top*mo j+QB m T v j) j (by show _=low j+top*mo j+QB m T v j;rw[hmore,ZU,ZaR];lia) λi _=>rfl]at this;exact this
  .have:=hu.stb j hj;rw[QaG (g:=λj=>low j+top*mo j+QB m T v j) j (by show _=low j+top*mo j+QB m T v j;rw[hmore,ZU,ZaR];lia) λi _=>rfl]at this;exact this
 .rw[← key j];exact QaG j (by show _=low j+top*mo j+QB m T v j;rw[hmore,ZU,ZaR];lia) λi _=>rfl
 .rw[← key j];exact hu.stb j hj
 .rw[← key j];exact hu.pos j hj
def Dbl.round{m:Nat}{T:Mt2}{v:Mt1}(h:Dbl m T v)(tp:TP m T){y u:Mt1}(y0:∀j,j<m->0<=y j)(hu:Told m T (λj=>y j+QB m T v j) u):Told m T (λj=>y j+QB m T v j+QB m T v j) (λi=>v i+u i)/\∀j,j<m->Qe m T (λj=>y j+QB m T v j) u j=Qe m T (λj=>y j+QB m T v j+QB m T v j) (λi=>v i+u i) j:=by
 refine h.told.lay (λj hj=>?_) (λj hj=>?_) hu
 .have b:=h.big hj;have:=h.told.stb j hj;have e:QB m T v j=2*(0-T j j)-Qe m T (λj=>2*(0-T j j)) v j:=rfl;have:=y0 j hj;lia
 .have e:QB m T v j=2*(0-T j j)-Qe m T (λj=>2*(0-T j j)) v j:=rfl;lia
def Rec.comes{m:Nat}{T:Mt2}{v x w:Mt1}(tp:TP m T)(h:Dbl m T v)(hr:Rec m T v x)(hw:Told m T (λj=>x j+QB m T v j) w):∀j,j<m->Qe m T (λj=>x j+QB m T v j) w j=x j:=λj hj=>by
 obtain⟨y,u,y0,hu,ex⟩:=hr;obtain⟨t2,e2⟩:=h.round tp y0 hu;obtain⟨t1,e1⟩:=hu.lay (F':=λj=>y j+QB m T v j+QB m T v j) (λj hj=>by have:=h.big hj;have:=tp.neg j hj;show _<=y j+QB m T v j+QB m T v j;lia) (λj hj=>by show x j+_=_;rw[ex j hj];lia) hw;have one:=t1.one tp t2;rw[e1 j hj,ex j hj,e2 j hj];exact QaG j rfl one
def Dbl.pos(tp:TP m T)(h:Dbl m T v)(hj:j<m):1<=v j:=by
 refine ZT λz=>?_;have v0:v j=0:=by have:=h.told.leg.nonneg j;lia
 have s:=h.told.stb j hj;have:0<=Qv m λi=>v i*T i j:=QlP λi hi=>by
  by_cases e:i=j
  .rw[e,v0,ZQ];exact Zbp _
  .exact ZaF (h.told.leg.nonneg i) (tp.pos i j hi hj e)
 have e:Qe m T (λj=>2*(0-T j j)) v j=2*(0-T j j)+Qv m λi=>v i*T i j:=rfl;have:=tp.neg j hj;lia
def Rec.QvR{m:Nat}{T:Mt2}{v y u:Mt1}(tp:TP m T)(h:Dbl m T v)(y0:∀j,j<m->0<=y j)(hu:Told m T (λj=>y j+QB m T v j) u):∀N:Nat,Told m T (λj=>(y j+N*QB m T v j)+QB m T v j) (λi=>u i+N*v i)/\∀j,j<m->Qe m T (λj=>(y j+N*QB m T v j)+QB m T v j) (λi=>u i+N*v i) j=Qe m T (λj=>y j+QB m T v j) u j
 | 0=>by
  have e1:(λj=>(y j+((0:Nat):Int)*QB m T v j)+QB m T v j)=λj=>y j+QB m T v j:=by funext j;simp
  have e2:(λi=>u i+((0:Nat):Int)*v i)=u:=by funext i;simp
  rw[e1,e2];exact⟨hu,λ_ _=>rfl⟩
 | N+1=>by
  obtain⟨t,e⟩:=Rec.QvR tp h y0 hu N;obtain⟨t2,e2⟩:=h.round tp (λj hj=>by
   have:=h.big hj;have:=tp.neg j hj;have:=ZaF (show(0:Int)<=N by lia) (show 0<=QB m T v j by lia);have:=y0 j hj;show 0<=y j+N*QB m T v j;lia) t
  have e3:(λj=>(y j+((N+1:Nat):Int)*QB m T v j)+QB m T v j)=λj=>y j+N*QB m T v j+QB m T v j+QB m T v j:=by
   funext j;rw[Zby,ZU];simp;lia
  have e4:(λi=>u i+((N+1:Nat):Int)*v i)=λi=>v i+(u i+N*v i):=by
   funext i;rw[Zby,ZU];simp;lia
  rw[e3,e4];exact⟨t2,λj hj=>by rw[← e2 j hj,e j hj]⟩
def Qpf(j:Nat):Qe m T (Qe m T f c) d j=Qe m T f (λi=>c i+d i) j:=by
 unfold Qe;have:(λi=>(c i+d i)*T i j)=λi=>c i*T i j+d i*T i j:=by funext i;rw[ZU]
 rw[this,Qa3];lia
def Qor(d:Mt1):∃N:Nat,∀i,i<m-> -(N:Int)<=d i:=by
 induction m with
 | zero=>exact⟨0,λi hi=> ⋯⟩
 | succ m ih=>
  obtain⟨N,h⟩:=ih;refine⟨N+(d m).natAbs,λi hi=>?_⟩;by_cases e:i=m
  .subst e;lia
  .have:=h i ⋯;lia
def Rec.least{m:Nat}{T:Mt2}{v x d:Mt1}(tp:TP m T)(h:Dbl m T v)(hr:Rec m T v x)(hs:Stb m T (Qe m T x d)):∀i,i<m->0<=d i:=by
 obtain⟨y,u,y0,hu,ex⟩:=hr;obtain⟨N,hN⟩:=Qor d;obtain⟨t,e⟩:=Rec.QvR tp h y0 hu N;have:=t.leg.least tp (c':=λi=>(u i+N*v i)+d i) (λi hi=>by
  have h1:=h.pos tp hi;have h2:=hu.leg.nonneg i;have h3:=hN i hi;have h4:=ZR h1 (show(0:Int)<=N by lia);show 0<=u i+N*v i+d i;lia) (λp hp=>by
  have:=hs p hp;rw[← Qpf];have e2:Qe m T (Qe m T (λj=>(y j+N*QB m T v j)+QB m T v j) λi=>u i+N*v i) d p=Qe m T x d p:=QaG p (by rw[e p hp,ex p hp]) λ_ _=>rfl;rw[e2];exact this)
 intro i hi;have:=this i hi;lia
def Rec.one(tp:TP m T)(h:Dbl m T v)(h':Dbl m T v')(hr:Rec m T v x)(hr':Rec m T v' x')(sx:Stb m T x)(sx':Stb m T x')(e:∀j,j<m->x' j=Qe m T x d j):∀i,i<m->d i=0:=λi hi=>by
 have a:=hr.least tp h (λp hp=>by rw[← e p hp];exact sx' p hp) i hi;have b:=hr'.least tp h' (λp hp=>by
  have:Qe m T x' (λi=> -d i) p=x p:=by
   have q:Qe m T x' (λi=> -d i) p=Qe m T (Qe m T x d) (λi=> -d i) p:=QaG p (e p hp) λ_ _=>rfl;rw[q,Qpf];unfold Qe;rw[QP λi _=>by show(d i+ -d i)*T i p=0;rw[Int.add_right_neg,ZQ],Qaq];lia
  rw[this];exact sx p hp) i hi
 lia
noncomputable def QnG(w:Int×Int×Bool):Int×Int×Bool:=(w.1,w.2.1,false)
def Qs8(he:Esc m W)(hg:∀w∈W,GoodW m w)(hl:W.length<=200):QaT m (W.map QcF) []:=by
 refine⟨W.map QnG,λA hA=>?_,λw hw=>?_,by rw[Zj];exact hl,?_,?_⟩
 .obtain⟨w,h1,h2⟩:=he A hA;exact⟨QnG w,ZK.mpr ⟨w,h1,rfl⟩,h2⟩
 .obtain⟨w',h1,rfl⟩:=ZK.mp hw;exact⟨(hg w' h1).1,λz=>by cases z⟩
 .unfold Qb9;rw[ZbW.mpr λw hw=>by obtain⟨w',_,rfl⟩:=ZK.mp hw;rfl,ZZ];rfl
 .unfold QcA;rw[List.filter_eq_nil_iff.mpr λw hw=>by obtain⟨w',_,rfl⟩:=ZK.mp hw;simp[QnG]];rfl
noncomputable def Qgi(Qaj:Den)(QdR:Den)(QdP:Den):DS:=(Qb (Qp 3 (QC kk1 (dOp Qad (Qo 2 Qaj [] (Qa vv0 (Qa kk0 Qd))) vv1))) (Qb (Qp 4 (dOp Qad (dOp Qbc (Qo 2 Qaj [] (Qa vv0 (Qa kk1 Qd))) kk6) QrM)) (Qb (Qp 5 (dOp Qad (Qo 2 Qaj [] (Qa vv0 (Qa kk1 Qd))) kk6)) (Qb (Qp 6 (QL (Qaz (dOp Qad (Qo 2 Qaj [] (Qa vv0 (Qa kk2 Qd))) (QC vv2 kk1))) (.nm 1) [none,none,some 0] QW (Qo 2 Qaj [] (Qa vv2 (Qa (QC kk3 vv1) Qd))))) (Qb (Qp 7 (Qo 4 QdP [] (Qa (Qo 3 QdR [] (Qa vv3 (Qa vv4 (Qa vv5 Qd)))) (Qa vv6 (Qa vv3 (Qa vv5 Qd)))))) (Qb (sIf (QG (dOp gEq (dOp Qad vv4 kk2) kk1)) (Qb (Qp 7 (QnZ vv7 (Qls kk1))) Qh) Qh) (Qb (Qp 8 (QL (Qab vv7) (.tp [1,2,3]) [none,none,none,none] (Qcm (QG vv3)) (Qav (Qa (dBf Qkt (Qa vv1 (Qa vv2 Qd))) (Qa (dBf QjR (Qa vv1 (Qa vv2 Qd))) Qd))))) (Qb (Qp 9 (QL (Qab vv7) (.tp [1,2,3]) [none,none,none,none] (QG vv3) (Qav (Qa vv1 (Qa vv2 Qd))))) (Qb (QO (Qav (Qa vv3 (Qa vv8 (Qa vv9 Qd))))) Qh)))))))))
def Qlk(d:Den):Prop:=∀(ns:List Int) (most upto:Nat),ns.length<=63->(∀k,Qem (ns.getD k 0))->0<most->most<=8->upto<=20->∃(m:Nat) (R L:Lpp),d [.lst (ns.map .int),.int most,.int upto]=some (QM m R L,true)/\0<m/\m<=most/\QaT m R L
def Qum(hc:Qgh dc)(hb:Qow db)(hm:QnY dm):Qlk (Qu 10 (Qgi dc db dm)):=λns most upto hl hbits hm0 hm8 hup=>by
 obtain⟨F,hF⟩:=hc ns hl hbits;have b1:=ZM (F 0) (by lia:(most:Int)≠0);have b2:=ZO (F 0) (by lia:(0:Int)<most);obtain⟨m1,em1⟩:∃m:Nat,(m:Int)=1+F 0 % most:=⟨(1+F 0 % most).toNat,⋯⟩;have t1:=ZM (F 1 / 6) (by decide:(1000003:Int)≠0);have t2:=ZO (F 1 / 6) (by decide:(0:Int)<1000003);generalize et:F 1 / 6 % 1000003=t at t1 t2;generalize ek:F 1 % 6=kind;have u1:=ZM (F 2) (by lia:(upto:Int)+1≠0);have u2:=ZO (F 2) (by lia:(0:Int)<(upto:Int)+1);obtain⟨n,en⟩:∃n:Nat,(n:Int)=F 2 % ((upto:Int)+1):=⟨(F 2 % ((upto:Int)+1)).toNat,⋯⟩;have key:Run (Qgi dc db dm) (Qau 10 [.lst (ns.map .int),.int most,.int upto]) (Rt λd fr=>∃(m:Nat) (R L:Lpp),d=QM m R L/\fr=true/\0<m/\m<=most/\QaT m R L):=by
  have cell:∀(U:En) (k:Nat),k<=1000->U[0]? =some (slF (.lst (ns.map .int)))->Qo 2 dc [] (Qa (Qf 0) (Qa (dC (.int k)) Qd)) U=some (reI (F k)):=λU k hk h0=>Qt (Qw (Qa6 h0) (Qw (QaB _ _) (Q8 _))) (hF k hk).1 rfl;refine rsa (Q6 rfl rfl (Qaf (cell _ 0 ∅ rfl) rfl rfl rfl ⋯) rfl) ?_;rw[← em1];refine rsa (Qaf (QeB (cell _ 1 ∅ rfl) rfl rfl rfl ∅ ∅) rfl rfl rfl ∅) ?_;rw[et];refine rsa (Qaf (cell _ 1 ∅ rfl) rfl rfl rfl ∅) ?_;rw[ek];have m0:0<m1:= ⋯
  have m8:m1<=most:= ⋯
  have er:dOp Qad (Qo 2 dc [] (Qa (Qf 0) (Qa (dC (.int 2)) Qd))) (QC (Qf 2) (dC (.int 1))) [slF (.lst (ns.map .int)),slI most,slI upto,slI m1,slI t,slI kind,none,none,none,none]=some (reI n):=
   (Qaf (cell _ 2 ∅ rfl) rfl (Q6 rfl rfl rfl rfl) rfl ⋯).trans (by rw[en])
  refine rsa (d:= .lst (((List.range n).map λk=>F (3+k)).map .int)) ((QI (List.range n) (QaO er rfl ⋯) rfl λk hk=>⟨[none,slI k,slF (.lst (ns.map .int))],rfl,reI (F (3+k)),Qt (Qw rfl (Qw (Q6 (b:=k) rfl rfl rfl rfl) (Q8 _))) (by show dc [.lst (ns.map .int),.int (3+(k:Int))]=_;rw[show(3:Int)+k=((3+k:Nat):Int) by lia];exact(hF (3+k) (by have:=Zq.mp hk;lia)).1) rfl,rfl,rfl⟩).trans (by rw[ZZ];rfl)) ?_;generalize hcs:(List.range n).map (λk=>F (3+k))=cs;have hcl:cs.length<=20:=by rw[← hcs,Zj,Zz];lia
  have hbase:=hb m1 t kind ⋯ ⋯ t1 ⋯;obtain⟨W',fr,hmore,hw1,hw2⟩:=hm m1 (Qb3 m1 t kind) cs kind ⋯ ⋯ (by rw[Qnt];lia) QnN;have gW:∀w∈Qb3 m1 t kind++W',GoodW m1 w:=λw hw=>(Zr.mp hw).elim (QnN w) (hw2 w);have easgM:∀fr,asg 7 (if fr=true then(reT (Q9 (Qb3 m1 t kind++W')))else R.norm ⟨Q9 (Qb3 m1 t kind++W'),false,[6]⟩) [slF (.lst (ns.map .int)),slI most,slI upto,slI m1,slI t,slI kind,slT (.lst (cs.map .int)),none,none,none]=[slF (.lst (ns.map .int)),slI most,slI upto,slI m1,slI t,slI kind,some (.lst (cs.map .int),fr),some (Q9 (Qb3 m1 t kind++W'),fr),none,none]:=λfr=>by cases fr<;>rfl
  refine run_seq (QH (r:=if fr=true then(reT (Q9 (Qb3 m1 t kind++W')))else R.norm ⟨Q9 (Qb3 m1 t kind++W'),false,[6]⟩) ?_ ?_)
  .have eargs:Qa (Qo 3 db [] (Qa (Qf 3) (Qa (Qf 4) (Qa (Qf 5) Qd)))) (Qa (Qf 6) (Qa (Qf 3) (Qa (Qf 5) Qd))) [slF (.lst (ns.map .int)),slI most,slI upto,slI m1,slI t,slI kind,slT (.lst (cs.map .int)),none,none,none]=some ⟨[Q9 (Qb3 m1 t kind),.lst (cs.map .int),.int m1,.int kind],true,[6]⟩:=
    Qw (Qt (r:=⟨[.int m1,.int t,.int kind],true,[]⟩) rfl hbase rfl) (rs:=⟨[.lst (cs.map .int),.int m1,.int kind],true,[6]⟩) rfl
   exact(Qn3 eargs hmore rfl).trans (by cases fr<;>rfl)
  refine(congrArg (λU=>Run _ U _) (easgM fr)).mpr ?_;refine Qbb (P:=λU=>∃W b,(∀w∈Qb3 m1 t kind,w∈W)/\(∀w∈W,GoodW m1 w)/\W.length<=200/\U=[slF (.lst (ns.map .int)),slI most,slI upto,slI m1,slI t,slI kind,some (.lst (cs.map .int),fr),some (Q9 W,b),none,none]) ?_ ?_
  .have hlen:(Qb3 m1 t kind++W').length<=200:=by rw[Zn,Qnt];lia
   refine Q5 (QF (Qa4 (Qaf rfl rfl rfl rfl ∅) rfl rfl rfl) rfl) (λ_=>?_) (λ_=>?_)
   .refine run_seq (QH (Qta rfl) (Ql ?_));rw[Qac];exact⟨_,true,λw hw=>ZbL.mpr (Zg _ hw),λw hw=>gW w (ZbL.mp hw),by rw[ZbU];exact hlen,rfl⟩
   .exact Ql ⟨_,fr,λw hw=>Zg _ hw,gW,hlen,rfl⟩
  .rintro U ⟨W,b,w1,w2,w3,rfl⟩;refine rsa (QuS (Qa6 rfl) (by cases b<;>rfl)) ?_;refine rsa (Qud (Qa6 rfl) (by cases b<;>rfl)) ?_;exact Qy rfl ⟨m1,Qb9 W,QcA W,rfl,rfl,m0,m8,⟨W,Qt6.mono w1,w2,w3,rfl,rfl⟩⟩
 obtain⟨o,h1,h2⟩:=key;cases o with
 | rt d fr=>
  obtain⟨m,R,L,rfl,rfl,h3,h4,h5⟩:=h2;exact⟨m,R,L,by unfold Qu;rw[h1];rfl,h3,h4,h5⟩
 | _=>exact h2.elim
noncomputable def QjZ:DS:=(Qb (QO (Qav (Qa (Qm vv0 kk0) (Qa (dList (Qa (Qm vv0 kk1) Qd)) (Qa (dList (Qa (Qm vv0 kk2) Qd)) Qd))))) Qh)
def Qk3(d:Den):Prop:=∀(m:Int) (R L:Lpp),d [QM m R L]=some (QM m R L,true)
def Qu5:Qk3 (Qu 1 QjZ):=λm R L=>by
 refine Q0 (Qy (r:=reT (QM m R L)) ?_ ⟨rfl,rfl⟩);obtain⟨h1,h2,h3⟩:=Qc1 (fa:=Qf 0) (U:=[slF (QM m R L)]) rfl rfl;unfold Qav;refine(congrArg (λz=>Option.bind z _) (Qw h1 (Qw (Qi1 (Qw h2 (Q8 _)) rfl rfl) (Qw (Qi1 (Qw h3 (Q8 _)) rfl rfl) (Q8 _))))).trans ?_;rfl
noncomputable def Qc3:DS:=(Qb (Qp 2 (dC (.bl true))) (Qb (Qbu (QG vv2) (Qb (Qp 2 (dC (.bl false))) (Qb (QaX (Qaz (dBf Qao (Qa vv1 Qd))) (.nm 3) (Qb (Qp 4 (dOp Qbc (Qm vv1 vv3) (dOp QaS kk0 (Qm (Qm vv0 vv3) vv3)))) (Qb (sIf (QG (dOp gGt vv4 kk0)) (Qb (Qp 1 (QL (Qa2 vv1 (Qm vv0 vv3)) (.tp [1,2]) [none,none,none,some 4] QW (QC vv1 (Q3 vv3 vv2)))) (Qb (Qp 2 (dC (.bl true))) Qh)) Qh) Qh))) Qh))) (Qb (QO vv1) Qh)))
def QmU(d:Den):Prop:=∀(m:Nat) (T:Mt2) (f:Mt1),m<=1000->TP m T->(∀j,j<m->0<=f j)->∃c fr,d [Qn m m T,Qc m f]=some (Qc m (Qe m T f c),fr)/\Told m T f c
def QnK{m:Nat}{T:Mt2}{f:Mt1}:Qe m T f (λ_=>0)=f:=by
 funext j;unfold Qe;rw[QP λi _=>ZQ _,Qaq,ZaP]
def Qwb:QmU (Qu 5 Qc3):=λm T f hm tp hpos=>by
 obtain⟨w,hw0,hw⟩:=tp.wt;have key:Run Qc3 [slF (Qn m m T),slF (Qc m f),none,none,none] (Rt λd fr=>∃k',d=Qc m (Qe m T f k')/\Leg m T f k'/\(∀j,j<m->0<=Qe m T f k' j)/\Stb m T (Qe m T f k')):=by
  refine rsa (d:= .bl true) rfl ?_;refine run_seq (Run.mono (Q:=Nx λU=>∃k' bh j2 j3 j4,Leg m T f k'/\(∀j,j<m->0<=Qe m T f k' j)/\Stb m T (Qe m T f k')/\U=[slF (Qn m m T),some (Qc m (Qe m T f k'),bh),j2,j3,j4]) ?_ ?_)
  .refine Qfj (λn U=>∃k' bz bh j3 j4,Leg m T f k'/\(∀j,j<m->0<=Qe m T f k' j)/\(bz=false->Stb m T (Qe m T f k'))/\n=(wtF m w (Qe m T f k')).toNat+(if bz=true then 1 else 0)/\U=[slF (Qn m m T),some (Qc m (Qe m T f k'),bh),slT (.bl bz),j3,j4]) ?_ _ _ ⟨λ_=>0,true,false,none,none,.nil,λj hj=>by rw[QnK];exact hpos j hj,λh=>by(cases h),rfl,by rw[QnK];rfl⟩;rintro n U ⟨k',bz,bh,j3,j4,hL,hP,hS,rfl,rfl⟩;refine⟨bz,QF (b:=bz) rfl rfl,λh=>⟨k',_,_,_,_,hL,hP,hS h,rfl⟩,λhb=>?_⟩;subst hb;refine rsa rfl ?_;refine QS (Run.mono (Q:=Nx λU=>∃k2 b2 bh j3 j4,Leg m T f k2/\(∀j,j<m->0<=Qe m T f k2 j)/\(b2=false->Stb m T (Qe m T f k2))/\(wtF m w (Qe m T f k2)+(if b2=true then 1 else 0)<=wtF m w (Qe m T f k'))/\U=[slF (Qn m m T),some (Qc m (Qe m T f k2),bh),slT (.bl b2),j3,j4]) ?_ ?_)
   .refine Qay (List.range m) (λi U=>∃k2 b2 bh j3 j4,Leg m T f k2/\(∀j,j<m->0<=Qe m T f k2 j)/\(b2=false->∀p,p<i->Qe m T f k2 p<0-T p p)/\(wtF m w (Qe m T f k2)+(if b2=true then 1 else 0)<=wtF m w (Qe m T f k'))/\U=[slF (Qn m m T),some (Qc m (Qe m T f k2),bh),slT (.bl b2),j3,j4]) (QaO ((by cases bh;exact QcJ rfl rfl;exact QcJ rfl rfl:dBf Qao (Qa (Qf 1) Qd) _=some (reT (.int ((List.range m).map λi=>D.int (Qe m T f k' i)).length))).trans (by rw[Zj,Zz])) rfl ⋯) rfl ⟨k',false,_,_,_,hL,hP,λ_ p hp=>absurd hp ⋯,⋯,rfl⟩ ?_ ?_
    .rintro i p U hi ⟨k2,b2,bh,j3,j4,hL2,hP2,hS2,hW2,rfl⟩;have hp':i<m/\i=p:=by
      obtain⟨h1,h2⟩:=Zi.mp hi;simp at h1 h2;exact⟨h1,h2⟩
     obtain⟨him,rfl⟩:=hp';have hneg:=tp.neg i him;have hb:=tp.bnd i i him him;have h0:=hP2 i him;refine⟨[slF (Qn m m T),some (Qc m (Qe m T f k2),bh),slT (.bl b2),slI i,j4],rfl,?_⟩;have eT:Qm (Qf 0) (Qf 3) [slF (Qn m m T),some (Qc m (Qe m T f k2),bh),slT (.bl b2),slI i,j4]=some (reF (Qc m (T i))):=(Qc2 rfl rfl rfl rfl ⋯ ⋯).trans rfl;have eh:Qm (Qf 1) (Qf 3) [slF (Qn m m T),some (Qc m (Qe m T f k2),bh),slT (.bl b2),slI i,j4]=some (reI (Qe m T f k2 i)):=by
      cases bh
      .exact QaC rfl rfl rfl rfl him
      .exact QaC rfl rfl rfl rfl him
     refine rsa (QpH eh rfl (Qdg rfl rfl (QaC eT rfl rfl rfl him) rfl) rfl ⋯ ⋯) ?_;generalize et:Qe m T f k2 i / (0-T i i)=t;have t0:0<=t:=by rw[← et];exact ZcA h0 ⋯
     refine QS (Q5 (QF rfl rfl) (λh=>?_) (λh=>?_))
     .have h:=of_decide_eq_true h;have hle:t*(0-T i i)<=Qe m T f k2 i:=by rw[← et];exact Qj9 ⋯
      refine run_seq (QH (r:=reT (Qc m (Qe m T f (up k2 i (k2 i+t))))) ?_ ?_)
      .have e:=QI (fi:=Qa2 (Qf 1) (Qm (Qf 0) (Qf 3))) (t:= .tp [1,2]) (cap:=[none,none,none,some 4]) (fe:=QC (Qf 1) (Q3 (Qf 3) (Qf 2))) (U:=[slF (Qn m m T),some (Qc m (Qe m T f k2),bh),slT (.bl b2),slI i,slI t])
        (List.range m) (ir:=⟨(List.range m).map λj=> .tup [.int (Qe m T f k2 j),.int (T i j)],if bh=true then [1]else []⟩) (by
         have eT':Qm (Qf 0) (Qf 3) [slF (Qn m m T),some (Qc m (Qe m T f k2),bh),slT (.bl b2),slI i,slI t]=some (reF (Qc m (T i))):=(Qc2 rfl rfl rfl rfl ⋯ ⋯).trans rfl;cases bh
         .exact Qbj (ra:=reF (Qc m (Qe m T f k2))) rfl rfl eT' rfl
         .exact Qbj (ra:=⟨Qc m (Qe m T f k2),true,[1]⟩) rfl rfl eT' rfl) rfl λj hj=>by
         have hj:=Zq.mp hj;exact⟨[none,slI (Qe m T f k2 j),slI (T i j),slI t],rfl,_,Q6 rfl rfl (Qai rfl rfl rfl rfl (Qcy (tp.bnd i j him hj))) rfl,rfl,rfl⟩
       refine e.trans ?_;congr 2;show D.lst _=D.lst _;congr 1;refine ZE λj _=>?_;rw[Qf9 him]
      .rw[Qac];refine run_seq (QH rfl (Ql (Ql ?_)));rw[Qac];have hup:=Qv2 hw (f:=f) (c:=k2) him t0;refine⟨up k2 i (k2 i+t),true,true,_,_,.step hL2 him t0 hle,λj hj=>?_,λz=>(by cases z),?_,rfl⟩
       .rw[Qf9 him];by_cases hji:j=i
        .subst hji;have:t*T j j= -(t*(0-T j j)):=by rw[ZaQ,ZaE,Int.neg_neg]
         lia
        .have:=hP2 j hj;have:=ZaF t0 (tp.pos i j him hj (λz=>hji z.symm));lia
       .rw[if_pos rfl];have:(0:Int)<=if b2=true then 1 else 0:=by split<;>lia
        lia
     .have h:=of_decide_eq_false h;refine Ql (Ql ⟨k2,b2,bh,_,_,hL2,hP2,λhb2 p hp=>?_,hW2,rfl⟩);by_cases hpi:p=i
      .subst hpi;exact QjY ⋯ (by rw[et];exact h) h0
      .exact hS2 hb2 p ⋯
    .rintro U ⟨k2,b2,bh,j3,j4,hL2,hP2,hS2,hW2,rfl⟩;rw[Zz]at hS2;exact⟨k2,b2,bh,_,_,hL2,hP2,hS2,hW2,rfl⟩
   .intro o ho;cases o with
    | nx U=>
     obtain⟨k2,b2,bh,j3,j4,hL2,hP2,hS2,hW2,rfl⟩:=ho;refine Ql ⟨_,?_,k2,b2,bh,_,_,hL2,hP2,hS2,rfl,rfl⟩;have n1:=Qma hw0 hP2;rw[if_pos rfl];cases b2<;>simp at hW2 ⊢ <;>lia
    | _=>exact ho.elim
  .intro o ho;cases o with
   | nx U=>
    obtain⟨k',bh,j2,j3,j4,hL,hP,hS,rfl⟩:=ho;cases bh
    .exact Qy rfl ⟨k',rfl,hL,hP,hS⟩
    .exact Qy rfl ⟨k',rfl,hL,hP,hS⟩
   | _=>exact ho.elim
 obtain⟨o,h1,h2⟩:=key;cases o with
 | rt d fr=>
  obtain⟨k',rfl,h3,h4,h5⟩:=h2;exact⟨k',fr,by show Option.bind (Qc3 [slF (Qn m m T),slF (Qc m f),none,none,none]) outD=_;rw[h1];rfl,h3,h4,h5⟩
 | _=>exact h2.elim
noncomputable def QjJ(Qa5:Den):DS:=(Qb (QaX (Qaz (dBf Qao (Qa vv1 Qd))) (.nm 2) (Qb (sIf (bOr (QG (dOp gLt (Qm vv1 vv2) kk0)) (QG (dOp gGe (Qm vv1 vv2) (dOp QaS kk0 (Qm (Qm vv0 vv2) vv2))))) (Qb (QO (dC (.bl false))) Qh) Qh) Qh)) (Qb (Qp 3 (QL (Qaz (dBf Qao (Qa vv1 Qd))) (.nm 1) [none,none,some 0] QW (dOp QaS kk0 (Q3 kk2 (Qm (Qm vv2 vv1) vv1))))) (Qb (Qp 4 (Qo 2 Qa5 [] (Qa vv0 (Qa vv3 Qd)))) (Qb (Qp 5 (QL (Qgj vv1 vv3 vv4) (.tp [1,2,3]) [none,none,none,none] QW (dOp QaS (QC vv1 vv2) vv3))) (Qb (QO (dOp gEq (Qo 2 Qa5 [] (Qa vv0 (Qa vv5 Qd))) vv1)) Qh)))))
def QhP(d:Den):Prop:=∀(m:Nat) (T:Mt2) (x v:Mt1),0<m->m<=8->TP m T->Dbl m T v->Rec m T v x->Stb m T x->(∀j,j<m->0<=x j)->d [Qn m m T,Qc m x]=some (.bl true,true)
def Rec.of{m:Nat}{T:Mt2}{v v' x:Mt1}(tp:TP m T)(h:Dbl m T v)(h':Dbl m T v'):∀j,QB m T v' j=QB m T v j:=λj=>by
 have e:=h.told.one tp h'.told;rw[Qd0,Qd0];exact congrArg (λz=> -z) (QP λi hi=>by rw[e i hi])
def QqB{dm:Den}(hm:QmU dm):QhP (Qu 6 (QjJ dm)):=λm T x v m0 m8 tp Dv hr sx x0=>by
 have neg:=tp.neg;obtain⟨v',fr1,e1,t1⟩:=hm m T (λj=>2*(0-T j j)) ⋯ tp λj hj=>by have:=neg j hj;lia
 have D':Dbl m T v':=⟨t1⟩;have mo:=Rec.of (x:=x) tp Dv D';have hz:∀j,x j+2*(0-T j j)-Qe m T (λj=>2*(0-T j j)) v' j=x j+QB m T v j:=λj=>by
  rw[← mo j];unfold QB;lia
 obtain⟨w,fr2,e2,t2⟩:=hm m T (λj=>x j+QB m T v j) ⋯ tp λj hj=>by
  have:=x0 j hj;have:=Dv.big hj;have:=neg j hj;lia
 have back:=hr.comes tp Dv t2;have eb:Qc m (Qe m T (λj=>x j+QB m T v j) w)=Qc m x:=congrArg D.lst (ZE λj hj=>by rw[back j (Zq.mp hj)]);rw[eb]at e2;have elen:∀{U:En},U[1]? =some (slF (Qc m x))->dBf Qao (Qa (Qf 1) Qd) U=some (reI m):=λ{U} h=>(QcJ (Qa6 h) rfl).trans (by rw[Zj,Zz]);refine Q0 ?_;refine QS (Qay (List.range m) (λ_ U=>∃j2,U=[slF (Qn m m T),slF (Qc m x),j2,none,none,none]) (QaO (elen rfl) rfl ⋯) rfl ⟨none,rfl⟩ ?_ ?_)
 .rintro i p U hi ⟨j2,rfl⟩;have hp':i<m/\i=p:=by
   obtain⟨h1,h2⟩:=Zi.mp hi;simp at h1 h2;exact⟨h1,h2⟩
  obtain⟨him,rfl⟩:=hp';have ex:Qm (Qf 1) (Qf 2) [slF (Qn m m T),slF (Qc m x),slI i,none,none,none]=some (reI (x i)):=QaC rfl rfl rfl rfl him;have eT:Qm (Qm (Qf 0) (Qf 2)) (Qf 2) [slF (Qn m m T),slF (Qc m x),slI i,none,none,none]=some (reI (T i i)):=QaC ((Qc2 rfl rfl rfl rfl ⋯ ⋯).trans rfl) rfl rfl rfl him;refine⟨[slF (Qn m m T),slF (Qc m x),slI i,none,none,none],rfl,?_⟩;refine QS (Q5 (b:=false) ((Qc9 (a:=false) (QF (Qan ex rfl ?_) rfl) (QF (Qan ex (Qdg rfl rfl eT rfl) ?_) rfl)).trans rfl) (λh=>by cases h) (λ_=>Ql (Ql ⟨_,rfl⟩)))
  .show some (D.bl (decide (x i<0)))=_;rw[decide_eq_false (by have:=x0 i him;lia)]
  .show some (D.bl (decide (0-T i i<=x i)))=_;rw[decide_eq_false (by have:=sx i him;lia)]
 rintro U ⟨j2,rfl⟩;refine rsa (QI (List.range m) (QaO (elen rfl) rfl ⋯) rfl λj hj=>⟨[none,slI j,slF (Qn m m T)],rfl,reI (0-2*T j j),Qdg rfl rfl (Qai rfl rfl (QaC ((Qc2 rfl rfl rfl rfl ⋯ (by have:=Zq.mp hj;lia)).trans rfl) rfl rfl rfl (Zq.mp hj)) rfl (QbQ ∅)) rfl,by show D.int (0-2*T j j)=D.int (2*(0-T j j));rw[show 0-2*T j j=2*(0-T j j) by lia],rfl⟩) ?_;have ea:∀fr,asg 4 (if fr=true then(reT (Qc m (Qe m T (λj=>2*(0-T j j)) v')))else R.norm ⟨Qc m (Qe m T (λj=>2*(0-T j j)) v'),false,[3]⟩) [slF (Qn m m T),slF (Qc m x),j2,slT (Qc m λj=>2*(0-T j j)),none,none]=[slF (Qn m m T),slF (Qc m x),j2,some (Qc m λj=>2*(0-T j j),fr),some (Qc m (Qe m T (λj=>2*(0-T j j)) v'),fr),none]:=λfr=>by cases fr<;>rfl
 refine run_seq (QH (Qn3 rfl e1 rfl) ?_);refine(congrArg (λU=>Run _ U _) (ea fr1)).mpr ?_;refine run_seq (QH (QI (List.range m) (ir:=⟨(List.range m).map λj=> .tup [.int (x j),.int (2*(0-T j j)),.int (Qe m T (λj=>2*(0-T j j)) v' j)],if fr1=true then [3,4]else []⟩) (by
  cases fr1
  .exact Qjj (ra:=reF (Qc m x)) rfl rfl (rb:=reF (Qc m λj=>2*(0-T j j))) rfl rfl (rc:=reF (Qc m (Qe m T (λj=>2*(0-T j j)) v'))) rfl rfl
  .exact Qjj (ra:=reF (Qc m x)) rfl rfl (rb:=⟨Qc m λj=>2*(0-T j j),true,[3]⟩) rfl rfl (rc:=⟨Qc m (Qe m T (λj=>2*(0-T j j)) v'),true,[4]⟩) rfl rfl) rfl λj _=>⟨[none,slI (x j),slI (2*(0-T j j)),slI (Qe m T (λj=>2*(0-T j j)) v' j)],rfl,reI (x j+2*(0-T j j)-Qe m T (λj=>2*(0-T j j)) v' j),Qdg (Q6 rfl rfl rfl rfl) rfl rfl rfl,by rw[hz j],rfl⟩) ?_)
 rw[Qac];cases fr2
 .exact Qy (Qld ((QeG (r:=⟨[Qn m m T,Qc m λj=>x j+QB m T v j],false,[5]⟩) rfl e2 rfl).trans rfl) rfl rfl rfl (Qp3 7 _ _)) ⟨rfl,rfl⟩
 .exact Qy (Qld (Qt rfl e2 rfl) rfl rfl rfl (Qp3 7 _ _)) ⟨rfl,rfl⟩
noncomputable def Qqi(QbI:Den)(QdG:Den):DS:=(Qb (Qbm (Qo 2 QbI [] (Qa vv0 (Qa (Qah (Qa vv1 (Qa vv2 Qd))) Qd)))) (Qb (QO (Qm (Qo 2 QdG [] (Qa vv0 (Qa (QL (Qa2 vv1 vv2) (.tp [1,2]) [none,none,none] QW (QC vv1 vv2)) Qd))) kk0)) Qh))
def Qn1(d:Den):Prop:=∀(m:Nat) (R L:Lpp) (a b:Mt1),0<m->m<=8->QaT m R L->(∀j,j<m->0<=a j/\a j<=2^100)->(∀j,j<m->0<=b j/\b j<=2^100)->∃c,d [QM m R L,Qc m a,Qc m b]=some (Qc m (Qe m (Qq m (Qj R L)) (λj=>a j+b j) c),true)/\Told m (Qq m (Qj R L)) (λj=>a j+b j) c
def QpW(h:fa U=some r)(e:r.d= .tup [a,b]):Qm fa (dC (.int 0)) U=some (HS.R.norm ⟨a,r.fr,r.M⟩)/\Qm fa (dC (.int 1)) U=some (HS.R.norm ⟨b,r.fr,r.M⟩):=by
 unfold Qm;rw[h];simp only[Za,e,QaB];exact⟨rfl,rfl⟩
def QxV(hn:Qh7 dn)(hs:Qif ds):Qn1 (Qu 3 (Qqi dn ds)):=λm R L a b m0 m8 hw ha hb=>by
 obtain⟨c,ec,tc⟩:=hs m R L (λj=>a j+b j) m0 ⋯ hw λj hj=>by
  have h1:=ha j hj;have h2:=hb j hj;have:(2:Int)^100+2^100<2^200:= ∅
  show 0<=a j+b j/\a j+b j<2^200;lia
 refine⟨c,Q0 ?_,tc⟩;refine run_seq (QeH (Qt rfl (hn m R L [a,b] m0 λf hf j hj=>?_) rfl) ?_)
 .rcases Zm.mp hf with rfl | hf
  .exact(ha j hj).1
  .rw[Zo.mp hf];exact(hb j hj).1
 refine Qy (QpW (Qt (Qw rfl (Qw (QI (List.range m) (Qbj rfl rfl rfl rfl) rfl λj _=>⟨[none,slI (a j),slI (b j)],rfl,reI (a j+b j),rfl,rfl,rfl⟩) (Q8 _))) ec rfl) rfl).1 ⟨rfl,rfl⟩
structure QB6 (m:Nat) (T:Mt2) (f k:Mt1):Prop where
 ex:∃v,Dbl m T v/\Rec m T v (Qe m T f k)
 stb:Stb m T (Qe m T f k)
 nn:∀j,j<m->0<=Qe m T f k j
noncomputable def Qvw(Qic:Den):DS:=(Qb (QO (Qm (Qo 2 Qic [] (Qa vv0 (Qa (Q3 (Qah (Qa kk0 Qd)) (Qm vv0 kk0)) Qd))) kk0)) Qh)
def Qjs(d:Den):Prop:=∀(m:Nat) (R L:Lpp),0<m->m<=8->QaT m R L->∃k,d [QM m R L]=some (Qc m (Qe m (Qq m (Qj R L)) (λ_=>0) k),true)/\QB6 m (Qq m (Qj R L)) (λ_=>0) k
def QrB(ha:Qk7 da):Qjs (Qu 1 (Qvw da)):=λm R L m0 m8 hw=>by
 obtain⟨k,v,ek,h1,h2,h3,h4⟩:=ha m R L (λ_=>0) m0 m8 hw λj _=>by simp
 refine⟨k,Q0 ?_,⟨⟨v,h1,h2⟩,h3,h4⟩⟩;exact Qy (QpW (Qt (Qw rfl (Qw (Qf1 rfl rfl ⋯) (Q8 _))) ek rfl) rfl).1 ⟨rfl,rfl⟩
def Qxb{m:Nat}{T:Mt2}{v x y c:Mt1}(tp:TP m T)(hd:Dbl m T v)(hr:Rec m T v x)(y0:∀j,j<m->0<=y j)(hc:Told m T (λj=>x j+y j) c):Rec m T v (Qe m T (λj=>x j+y j) c):=by
 obtain⟨z,u,z0,hu,ex⟩:=hr;obtain⟨t1,e1⟩:=hu.lay (F':=λj=>z j+y j+QB m T v j) (λj hj=>by have:=y0 j hj;show z j+QB m T v j<=z j+y j+QB m T v j;lia) (λj hj=>by show x j+y j=_+(z j+y j+QB m T v j-(z j+QB m T v j));rw[ex j hj];lia) hc;exact⟨λj=>z j+y j,λi=>u i+c i,λj hj=>by have:=z0 j hj;have:=y0 j hj;show 0<=z j+y j;lia,t1,e1⟩
def QxF(j:Nat):Qe m T f (λ_=>0) j=f j:=by
 unfold Qe;rw[QP λi _=>by rw[ZQ],Qaq,ZaP]
def Qu1{n:Nat}(ha:fa U=some ra)(ea:ra.d=Qc m f)(hb:fb U=some rb)(eb:rb.d= .int n)(h:n<=m):Qch fa (Qbw fb) Qbx U=some (reT (Qc (m-n) λi=>f (n+i))):=by
 have cut:cutD ((List.range m).map λi=>D.int (f i)) (some (n:Int)) none=(List.range (m-n)).map λi=>D.int (f (n+i)):=by
  unfold cutD;simp only[Zj,Zz,HT.Qe5,HT.Qf5];rw[ZaZ h,← List.map_drop,← ZcE];have e:((List.range m).drop n).take (m-n)=(List.range (m-n)).map λi=>n+i:=by
   rw[ZaO ⋯];refine ZaA λi=>?_;rw[Zca,Zp];by_cases hi:i<m-n
   .rw[ZL ⋯,ZL hi];rfl
   .rw[Zs (by simp;lia),Zs (by simp;lia)];rfl
  rw[e,ZZ];rfl
 unfold Qch Qbx Qbw;simp only[ha,hb,Za,ea,eb,Qc,cut,QaA];have:Q7 ((List.range (m-n)).map λi=>D.int (f (n+i)))=true:=by
  have:=Qq5 ((List.range (m-n)).map λi=>f (n+i));rw[ZZ]at this;exact this
 rw[if_pos this]
def Qm2(ds:List D)(M:List Nat):(QaA ds M).d= .lst ds:=by unfold QaA;split<;>rfl
def QuH{fa fb:DE}{U:En}{ra rb:R}{xs:List D}{n:Nat}(ha:fa U=some ra)(ea:ra.d= .lst xs)(hb:fb U=some rb)(eb:rb.d= .int n)(h:n<=xs.length):∃r:HS.R,Qch fa Qbx (Qbw fb) U=some r/\r.d= .lst (xs.take n):=by
 unfold Qch Qbx Qbw;simp only[ha,hb,Za,ea,eb];refine⟨_,rfl,?_⟩;rw[Qm2];unfold cutD;simp only[HT.Qe5,HT.Qf5,ZcC,Zcs];rw[ZaZ h]
def Qvv{fa fb:DE}{U:En}{ra rb:R}{xs:List D}{n:Nat}(ha:fa U=some ra)(ea:ra.d= .lst xs)(hb:fb U=some rb)(eb:rb.d= .int n)(h:n<=xs.length):∃r:HS.R,Qch fa (Qbw fb) Qbx U=some r/\r.d= .lst (xs.drop n):=by
 unfold Qch Qbx Qbw;simp only[ha,hb,Za,ea,eb];refine⟨_,rfl,?_⟩;rw[Qm2];unfold cutD;simp only[HT.Qe5,HT.Qf5];rw[ZaZ h,ZaO ⋯]
def Qvd(ha:fa U=some ra)(ea:ra.d= .lst xs)(hb:fb U=some rb)(eb:rb.d= .lst ys)(h:xs.length+ys.length<=1000):∃r:HS.R,QC fa fb U=some r/\r.d= .lst (xs++ys):=by
 unfold QC;rw[ha,Za,hb,Za,ea,eb];refine⟨_,if_pos (Zw h ∅),Qm2 _ _⟩
def Qvz(hk:k<n+1)(g:Nat->D):((List.range (n+1)).map g).take k++((List.range (n+1)).map g).drop (k+1)=(List.range n).map λc=>g (skp k c):=by
 refine ZaA λi=>?_;by_cases hi:i<n
 .rw[Zp,ZL hi,List.getElem?_append];have l1:(((List.range (n+1)).map g).take k).length=k:=by rw[ZS,Zj,Zz];lia
  rw[l1];unfold skp;by_cases q:i<k
  .rw[if_pos q,List.getElem?_take,if_pos q,Zp,ZL ⋯];simp[q]
  .rw[if_neg q,Zca,Zp,show k+1+(i-k)=i+1 by lia,ZL ⋯];simp[q]
 .rw[Zs (by simp;lia),Zs (by simp;lia)]
noncomputable def Qlq(QbP:Den):DS:=(Qb (sIf (QG (dOp gEq (dBf Qao (Qa vv0 Qd)) kk1)) (Qb (QO (Qm (Qm vv0 kk0) kk0)) Qh) Qh) (Qb (Qp 1 kk0) (Qb (QaX (Qaz (dBf Qao (Qa vv0 Qd))) (.nm 2) (Qb (sIf (QG (dOp gNe (Qm (Qm vv0 vv2) kk0) kk0)) (Qb (Qp 3 (Qo 1 QbP [] (Qa (QL (Qab (QC (Qch vv0 Qbx (Qbw vv2)) (Qch vv0 (Qbw (QC vv2 kk1)) Qbx))) (.nm 1) [none,none] QW (Qch vv1 (Qbw kk1) Qbx)) Qd))) (Qb (Qp 1 (QC vv1 (Q3 (Q3 (dOp QaS kk1 (Q3 kk2 (dOp Qad vv2 kk2))) (Qm (Qm vv0 vv2) kk0)) vv3))) Qh)) Qh) Qh)) (Qb (QO vv1) Qh))))
def QdZ(N:Nat)(d:Den):Prop:=∀(n:Nat) (A:Mt2),1<=n->n<=N->n<=8->(∀j,j<n->∀r,r<n->(A j r).natAbs<=2^200)->d [Qn n n A]=some (.int (det n A),true)
def Qys:QdZ 0 (λ_=>none):=λn A h1 h2=> ⋯
def Qy3(k:Nat):1-2*((k:Int) % 2)=sgn k:=by
 unfold sgn;split<;>lia
set_option maxHeartbeats 0 in
def Qhv(ih:QdZ N d):QdZ (N+1) (Qu 4 (Qlq d)):=λn A h1 hN h8 hA=>by
 have len:∀{U:En},U[0]? =some (slF (Qn n n A))->dBf Qao (Qa (Qf 0) Qd) U=some (reI n):=λ{U} h=>Qez (Qa6 h) rfl;have entry:∀{U:En}{fk:DE}{k:Nat},U[0]? =some (slF (Qn n n A))->fk U=some (reI k)->k<n->Qm (Qm (Qf 0) fk) (dC (.int 0)) U=some (reI (A k 0)):=λ{U fk k} h hk hkn=>QaC (Qc2 (Qa6 h) rfl hk rfl ⋯ ⋯) rfl (QaB _ _) rfl ⋯;refine Q0 ?_;refine QS (Q5 (QF (Qa4 (len rfl) rfl (QaB _ _) rfl) rfl) (λh=>?_) (λh=>Ql ?_))
 .have e:n=1:=by have:=of_decide_eq_true h;lia
  subst e;refine QS (Qgg (entry rfl (QaB _ _) ∅) ⟨?_,rfl⟩);show D.int (A 0 0)= .int (sm 1 λj=>sgn j*A j 0*1);congr 1;show A 0 0=0+1*A 0 0*1;lia
 have n2:2<=n:=by have:=of_decide_eq_false h;lia
 obtain⟨p,rfl⟩:∃p,n=p+1:=⟨n-1,⋯⟩;refine rsa rfl ?_;refine Qbb (P:=λU=>∃j2 j3,U=[slF (Qn (p+1) (p+1) A),slI (det (p+1) A),j2,j3]) ?_ ?_
 .refine Qay (List.range (p+1)) (λi U=>∃j2 j3,U=[slF (Qn (p+1) (p+1) A),slI (sm i λj=>sgn j*A j 0*det p λc r=>A (skp j c) (r+1)),j2,j3]) (QaO (len rfl) rfl ⋯) rfl ⟨none,none,rfl⟩ ?_ ?_
  .rintro k k' U hk ⟨j2,j3,rfl⟩;obtain⟨hkp,rfl⟩:=QeI hk;have bm:(det p λc r=>A (skp k c) (r+1)).natAbs<2^2000:=ZaS (QfX λc hc r hr=>hA (skp k c) (by unfold skp;split<;>lia) (r+1) ⋯) (QhC ⋯);refine⟨_,rfl,?_⟩;refine run_seq (Q5 (QF (Qde (entry rfl rfl hkp) rfl (QaB _ _) rfl) rfl) (λh=>?_) (λh=>?_))
   .obtain⟨r1,q1,d1⟩:=QuH (fa:=Qf 0) (fb:=Qf 2) (U:=[slF (Qn (p+1) (p+1) A),slI (sm k λj=>sgn j*A j 0*det p λc r=>A (skp j c) (r+1)),slI k,j3]) rfl rfl rfl rfl (by simp;lia);obtain⟨r2,q2,d2⟩:=Qvv (fa:=Qf 0) (fb:=QC (Qf 2) (dC (.int 1))) (U:=[slF (Qn (p+1) (p+1) A),slI (sm k λj=>sgn j*A j 0*det p λc r=>A (skp j c) (r+1)),slI k,j3]) rfl rfl (Q6 rfl rfl (QaB _ _) rfl) rfl (by simp;lia);obtain⟨r3,q3,d3⟩:=Qvd q1 d1 q2 d2 (by simp;lia);rw[Qvz hkp]at d3;refine run_seq (QH (Qt (Qw (QI (List.range p) (Qak q3 d3) rfl λc _=>⟨[none,slF (Qc (p+1) (A (skp k c)))],rfl,reT (Qc p λr=>A (skp k c) (1+r)),Qu1 (m:=p+1) rfl rfl (QaB _ _) rfl ⋯,rfl,rfl⟩) (Q8 _)) (d:= .int (det p λc r=>A (skp k c) (r+1))) ?_ rfl) ?_)
    .have:=ih p (λc r=>A (skp k c) (r+1)) ⋯ ⋯ ⋯ λc hc r hr=>hA (skp k c) (by unfold skp;split<;>lia) (r+1) ⋯;have e:(List.range p).map (λc=>Qc p λr=>A (skp k c) (1+r))=(List.range p).map λc=>Qc p λr=>A (skp k c) (r+1):=ZE λc _=>Qh3 λr _=>by rw[Nat.add_comm]
     show d [.lst ((List.range p).map λc=>Qc p λr=>A (skp k c) (1+r))]=_;rw[e];exact this
    rw[Qac];refine run_seq (QH (Q6 rfl rfl (Qai (Qai ((Qdg rfl rfl (Qai rfl rfl (Qaf rfl rfl (QaB _ _) rfl ∅) rfl (QbQ ∅)) rfl).trans (by rw[Qy3])) rfl (entry rfl rfl hkp) rfl (QbQ (by unfold sgn;split<;>decide))) rfl rfl rfl (Qgf (Qby ?_) (Qby bm))) rfl) (Ql (Ql ?_)))
    .have:=hA k hkp 0 ⋯;have b:(2:Nat)^200<2^2000:=Nat.pow_lt_pow_right ∅ ∅;rw[Zbf];have s:(sgn k).natAbs=1:=by unfold sgn;split<;>rfl
     rw[s,Nat.one_mul];lia
    rw[Qac];exact⟨_,_,rfl⟩
   .have z:A k 0=0:=by simpa using h
    refine Ql (Ql ⟨slI k,j3,?_⟩);have e:(sm (k+1) λj=>sgn j*A j 0*det p λc r=>A (skp j c) (r+1))=sm k λj=>sgn j*A j 0*det p λc r=>A (skp j c) (r+1):=by
     show(sm k λj=>sgn j*A j 0*det p λc r=>A (skp j c) (r+1))+sgn k*A k 0*(det p λc r=>A (skp k c) (r+1))=_;rw[z,ZW,ZQ,ZaP]
    rw[e];rfl
  .rintro U ⟨j2,j3,rfl⟩;rw[Zz];exact⟨_,_,rfl⟩
 rintro U ⟨j2,j3,rfl⟩;exact Qy rfl ⟨rfl,rfl⟩
def QuW{n:Nat}{A:Mt2}{g v:Mt1}{l:Nat}(hl:l<n)(h:∀r,r<n->g r=sm n λi=>v i*A i r):det n (cup A l g)=v l*det n A:=by
 have e:det n (cup A l g)=det n (cup A l λr=>sm n λi=>v i*A i r):=by
  refine Qbv λj hj r hr=>?_;by_cases q:j=l
  .subst q;rw[QR,QR];exact h r hr
  .rw[QJ _ _ q,QJ _ _ q]
 rw[e,Qf4 hl v A n,Qco (c:=l) hl λi hi ne=>by rw[Qga hl hi (Ne.symm ne) (by rw[QR,QJ _ _ ne]),ZW],Qbg]
def Qxc(hA:∀j,j<n->∀r,r<n->(A j r).natAbs<=2^200)(hl:QfC n A):det n A≠0:=by
 obtain⟨m,R,d,C⟩:=Qn9 (Zd n) hA hl n (Zd n);have e2:det n A=d:=by
  rw[← C.clr.det];exact Qbv λj hj r _=>by rw[C.clr.own j hj]
 rw[e2];exact C.clr.nz
def QaT.small{m:Nat}{R L:Lpp}(hw:QaT m R L){i j:Nat}(hi:i<m)(hj:j<m):(Qq m (Qj R L) i j).natAbs<=600:=by
 have g:=hw.good;have gs:=QbX g.1 g.2.1;rw[QbZ hi hj λs hs=>⟨(gs s hs).1,(gs s hs).2.1⟩];refine Zw (QdV i j _) ?_;unfold Qj;rw[Zn,Zn,Zj];lia
noncomputable def QU(T:Mt2):Nat->Nat->Int:=λi j=>0-T i j
def QaT.big{m:Nat}{R L:Lpp}(hw:QaT m R L):∀j,j<m->∀r,r<m->(QU (Qq m (Qj R L)) j r).natAbs<=2^200:=λj hj r hr=>by
 have:=hw.small hj hr;have:(600:Nat)<=2^200:= ∅
 unfold QU;lia
def Quy(h:fi U=some ir)(hx:ir.items=(List.range m).map λi=>Qc m (T i)):QL fi (.nm 1) [none,none] QW (QL (Qab (Qf 1)) (.nm 1) [none,none] QW (dOp QaS (dC (.int 0)) (Qf 1))) U=some (reT (Qn m m (QU T))):=
 QI (toD:=λ(i:Nat)=>Qc m (T i)) (out:=λ(i:Nat)=>Qc m (QU T i)) (List.range m) h hx λi _=>⟨[none,slF (Qc m (T i))],rfl,reT (Qc m (QU T i)),QI (toD:=λ(j:Nat)=> .int (T i j)) (out:=λ(j:Nat)=> .int (QU T i j)) (List.range m) (Qak (r:=reF (Qc m (T i))) rfl rfl) rfl λj _=>⟨[none,slI (T i j)],rfl,reI (QU T i j),rfl,rfl,rfl⟩,rfl,rfl⟩
noncomputable def QqI:DS:=(Qb (QO (QL (Qaz vv0) (.nm 1) [none,none,some 1] QW (dIf (QG (dOp gEq vv1 vv2)) kk1 kk0))) Qh)
def QnJ(d:Den):Prop:=∀(n p:Nat),n<=1000->d [.int n,.int p]=some (Qc n λi=>if i=p then 1 else 0,true)
def QwN:QnJ (Qu 2 QqI):=λn p hn=>by
 refine Q0 (Qy (QI (List.range n) (QaO rfl rfl ⋯) rfl λi _=>⟨[none,slI i,slI p],rfl,reI (if i=p then 1 else 0),?_,rfl,rfl⟩) ⟨rfl,rfl⟩);unfold dIf;rw[QF (Qa4 rfl rfl rfl rfl) rfl,Za];by_cases z:i=p
 .rw[if_pos z,if_pos (by rw[z];simp)];rfl
 .rw[if_neg z,if_neg (by simp;lia)];rfl
end HS
namespace HS
open PySem PySem.Spec L2 PyProof.Rows
def QtD(x:QaH P w H h a o):∃u,h.get? a=some u:=by
 cases o with
 | lst xs=>obtain⟨_,_,_,_,e⟩:=x;exact⟨_,e⟩
 | tup xs=>obtain⟨_,_,_,ob,e,_⟩:=x;exact⟨_,e⟩
 | dK kvs=>obtain⟨_,_,_,_,o,_,_,e,_⟩:=x;exact⟨_,e⟩
 | dT kvs=>obtain⟨_,_,_,_,o,_,_,e,_⟩:=x;exact⟨_,e⟩
 | set S n=>obtain⟨o,_,_,_,e,_⟩:=x;exact⟨_,e⟩
 | ins C dx fs=>obtain⟨_,_,_,e,_⟩:=x;exact⟨_,e⟩
 | own y=>exact x
 | xd fs=>obtain⟨_,⟨_,_,_,e,_⟩,_⟩:=x;exact⟨_,e⟩
 | rng lo hi=>obtain⟨_,_,_,e⟩:=x;exact⟨_,e⟩
 | frz ob u=>obtain⟨e,_⟩:=x;exact⟨_,e⟩
 | tbl ps=>exact⟨_,show h.get? a=some _ from x⟩
 | met f y=>exact⟨_,show h.get? a=some _ from x⟩
 | ext φ=>obtain⟨_,e,_⟩:=x;exact e
section
variable {P:Program}{w:World}{H H':Hp}{h0 h h' B:Heap}{fs:LAd}
def Cov(H:Hp)(B:Heap):Prop:=∀b u,H b=some u->∃o,B.get? b=some o
def Qla(hok:HOk P w H h)(hB:B.StaysIn h)(hB':B.StaysIn h')(cov:Cov H B):HOk P w H h':=λa o e=>
 (hok a o e).QfE (λc v hc q=>by
  have:∃u,H c=some u:=by
   rcases hc with rfl | hc
   .exact⟨_,e⟩
   .exact⟨_,hc⟩
  obtain⟨u,hu⟩:=this;obtain⟨o',ho'⟩:=cov c u hu;have:=hB _ _ ho';rw[q]at this;cases this;exact hB' _ _ ho') (λ_ q=>q) λ_ _ q=>q
def Qog(u:Un fs [] H H' h0 h)(hB:B.StaysIn h)(hB':B.StaysIn h')(up:h.UpToSlots h')(old:∀b o,h0.get? b=some o->b∉fs->∃o',B.get? b=some o')
  (dat:∀b o,h0.get? b=some o->b∈fs->∀vs,o.data≠ .fields vs) (frf:∀b∈fs,H b=none):Un fs [] H H' h0 h' where
 keep:=λb o e n hb hx=>by
  obtain⟨o',e1⟩:=old b o e hb;have:=hB _ _ e1;rw[u.keep b o e n hb hx]at this;cases this;exact hB' _ _ e1
 slot:=λb o e n hb hx=>by
  obtain⟨sl,e1⟩:=u.slot b o e n hb hx;obtain⟨sl',e2⟩:=up b _ e1 (dat b o e hb);exact⟨sl',e2⟩
 free:=u.free
 there:=λb o e hx=>by
  by_cases hb:b∈fs
  .obtain⟨sl,e1⟩:=u.slot b o e (frf b hb) hb hx;obtain⟨sl',e2⟩:=up b _ e1 (dat b o e hb);exact⟨_,e2⟩
  .obtain⟨o',e1⟩:=old b o e hb;exact⟨_,hB' _ _ e1⟩
 tups:=u.tups
 frzs:=u.frzs
 tbls:=u.tbls
end
noncomputable def CXR(P:Program)(w:World):CXT:=λouter H s E e s'=>∃ea C H' B a0,e=Value.ref ea/\s'.os=s.os/\AllBare s'.gens/\Un (frs outer) [] H H' s.heap s'.heap/\HOk P w H' s'.heap/\Heap.FlyingW B outer ea C a0 s'.heap∧
 Cov H' B/\(∀b o,s.heap.get? b=some o->b∉frs outer->∃o',B.get? b=some o')/\E C none H'
def QqC(B:Heap)(l:List Env)(e:Addr)(cls a0 fl:Value)(h:Heap):Prop:=B.StaysIn h/\B.get? e=none/\h.FunFrames B l/\h.TracedAtW B e cls a0 fl
section
variable {M:Model}{A:Around}{E:Value->Shared->Prop}{s:Shared}{B:Heap}{env:Env}{outer:List Env}{L e:Addr}{cls a0 fl:Value}{Q:Unit->Shared->Prop}
def QnI(hfr:A.frames=some (env::outer))(hf:env.frame=some L)(hh:QqC B (env::outer) e cls a0 fl s.heap)(hQ:∀h',Heap.HeldW B (env::outer) e cls a0 L h'->s.heap.UpToSlots h'->Q () {s with heap:=h'}):wpAny M A (noteFrame (.ref e) env) Q E s:=by
 obtain⟨g1,g2,g3,tr⟩:=hh;by_cases hq:fl=rawInt L
 .subst hq;exact wpAny_noteFrame_againW hf tr (hQ _ ⟨g1,g2,g3,tr⟩ (Heap.UpToSlots.refl _))
 obtain⟨o1,v1,T,o2,v2,e1,⟨c1,c2⟩,d1,f1,nT,ne,e2,d2,f3⟩:=tr;subst c1;unfold noteFrame;rw[hf];refine wpAny_bind (wpAny_field e1 d1 f1 ?_);rw[if_pos ⋯];refine wpAny_bind (wpAny_field e2 d2 f3 ?_);rw[if_neg (by simpa using hq)];refine wpAny_bind (wpAny_setField e2 d2 (Array.getElem?_eq_some_iff.mp f3).1 ?_);have oth:∀b,b≠T->(s.heap.update T (Obj.mapFields (·.setIfInBounds 3 Value.none))).get? b=s.heap.get? b:=λb n=>ZbD _ _ n.symm;have far:∀b o,s.heap.get? b=some o->(∀vs,o.data≠ .fields vs)->b≠T:=λb o x y z=>by
  subst z;cases x.symm.trans e2;exact y _ d2
 refine wpAny_entryW hfr (g3.of_keeps λb o x y=>⟨o,(oth b (far b o x y)).trans x,rfl⟩) hf ((oth e ne.symm).trans e1) (λb o x=>(oth b λz=>by subst z;rw[nT]at x;cases x).trans (g1 b o x)) g2 d1 (Array.getElem?_eq_some_iff.mp f1).1 c2 λh' ⟨k1,k2,k3,k4⟩=>
  hQ h' ⟨k1,g2,k2,k3⟩ λb o x y=>k4 b o ((oth b (far b o x y)).trans x) y
def QrP(hfr:A.frames=some (env::outer))(hf:env.frame=some L)(hh:QqC B (env::outer) e cls a0 fl s.heap)(hQ:∀h',Heap.FlyingW B outer e cls a0 h'->s.heap.UpToSlots h'->Q () {s with heap:=h'}):wpAny M A (leaving env (.ref e)) Q E s:=by
 unfold leaving;refine wpAny_bind (QnI hfr hf hh λh1 hd up=>?_);refine wpAny_landsW (s:={s with heap:=h1}) hd λh2 ⟨k1,k2,⟨_,_,k3⟩,k4⟩ up2=>?_;exact hQ h2 ⟨k1,k2,k3,k4⟩ (up.trans up2)
end
def Qox(X:Cx)(H0:Hp)(A0:LAd)(hs:List (V×D×List Addr))(U:En)(C:Value)(ea:Addr)(s':Shared):Prop:=∃pins σ H F,Rel X.K H0 A0 hs U F σ H∧
 ((∃sg args,Inv X pins σ H sg/\Heap.MadeExcOf sg.heap s'.heap ea C args/\s'.os=sg.os/\s'.gens=sg.gens)∨
  ∃B a0 fl,Inv X pins σ H s'/\QqC B X.stack ea C a0 fl s'.heap/\Cov H B/\(∀b o,X.s₀.heap.get? b=some o->b∉X.fs->∃o',B.get? b=some o')/\∀p∈X.pn++pins,∃o,B.get? p.1=some o)
def QrR(I:Inv X pins σ H s)(hx:X.ex=[])(e:X.s₀.heap.get? b=some o)(hb:b∉X.fs):(∃o',s.heap.get? b=some o')/\b∉frs X.stack:=by
 refine⟨I.base.there b o e (by rw[hx];simp),λz=>?_⟩;rcases Zm.mp (I.QeV b z)with q | q
 .have h1:=Zt e;have h2:=I.ok.above;rw[q]at h1;exact absurd (Zu h1 h2) (Zaa _)
 .exact hb q
def Qkd{X:Cx}(ok:X.Ok){b:Addr}{o:Obj}(e:X.s₀.heap.get? b=some o)(hb:b∈X.fs):∀vs,o.data≠ .fields vs:=by
 obtain⟨_,o',e',h⟩:=ok.Qda.mem hb;rw[e]at e';cases e';exact h
def Qnw(I:Inv X pins σ H s)(hx:X.ex=[]):∃B:Heap,B.StaysIn s.heap/\s.heap.FunFrames B X.stack/\Cov H B/\(∀b o,X.s₀.heap.get? b=some o->b∉X.fs->∃o',B.get? b=some o')/\∀p∈X.pn++pins,∃o,B.get? p.1=some o:=by
 refine⟨PySem.W.hideAll s.heap (frs X.stack),λb o e=>PySem.W.of_hideAll _ e,PySem.W.funFrames_hide I.stack λenv he a ha=>Zbh.mpr ⟨env,he,ha⟩,λb u e=>?_,λb o e hb=>?_,λp hp=>?_⟩
 .obtain⟨o,ho⟩:=QtD (I.hok b u e);exact⟨o,Zbv _ ho λz=>by rw[I.Qly b z]at e;cases e⟩
 .obtain⟨⟨o',h1⟩,h2⟩:=QrR I hx e hb;exact⟨o',Zbv _ h1 h2⟩
 .obtain⟨e,_,ne,nf,_⟩:=I.pin p hp;exact⟨_,Zbv _ e λz=>(Zm.mp (I.QeV _ z)).elim ne nf⟩
def QnF{X:Cx}{P:Program}{w:World}{E:XK}{H0:Hp}{A0:LAd}{hs:List (V×D×List Addr)}{U:En}{C:Value}{ea:Addr}{s':Shared}{env:Env}{outer:List Env}{Er:Value->Shared->Prop}
  (hp:X.prog=P) (hw:X.w=w) (hx:X.ex=[]) (hst:X.stack=env::outer) (hfs:X.outer=outer) (hen:X.env=env) (hf:env.frame=some X.env.locals) (T:Qox X H0 A0 hs U C ea s')
  (hE:∀H,QN H0 H->E C none H):wpAny (model P w) X.A (leaving env (.ref ea)) (λ_ s''=>CXR P w outer X.H₀ X.s₀ E (.ref ea) s'') Er s':=by
 subst hp hw hfs;obtain⟨pins,σ,H,F,rel,⟨sg,args,I,hm,ho,hg⟩ | ⟨B,a0,f0,I,fl,cov,old,_⟩⟩:=T
 .obtain⟨B,b1,b2,cov,old,_⟩:=Qnw I hx;rw[hst]at b2;have hfr:=I.ok.frames;rw[hst]at hfr;refine wpAny_leaves_madeW hfr hf b1 b2 hm λh' t fl _ _ up=>?_;have up':sg.heap.UpToSlots h':=(Heap.UpToSlots.of_keeps hm.keeps).trans up;have hb:=I.base;rw[hx]at hb;exact⟨ea,C,H,B,_,rfl,ho.trans I.os,hg▸I.bare,Qog hb b1 fl.1 up' old (λb o e hb=>Qkd I.ok e hb) I.ok.frf,Qla I.hok b1 fl.1 cov,fl,cov,old,hE H rel.same⟩
 .have hfr:=I.ok.frames;rw[hst]at hfr fl;refine QrP hfr hf fl λh' fl' up=>?_;have hb:=I.base;rw[hx]at hb;exact⟨ea,C,H,B,_,rfl,I.os,I.bare,Qog hb fl.1 fl'.1 up old (λb o e hb=>Qkd I.ok e hb) I.ok.frf,Qla I.hok fl.1 fl'.1 cov,fl',cov,old,hE H rel.same⟩
section
variable {X:Cx}{pins:List (Addr×Obj)}{σ:L2.St}{H:Hp}{s s':Shared}{B:Heap}
def Qmf{h h':Heap}{c:Addr}{v:Option Value}(up:h.UpToSlots h')(z:h.IsCell c v):h'.IsCell c v:=by
 obtain⟨o,e,d⟩:=z;obtain⟨sl,e'⟩:=up c o e λvs q=>by rw[d]at q;cases q
 exact⟨_,e',d⟩
def Qkl(I:Inv X pins σ H s)(ho:s'.os=s.os)(hg:AllBare s'.gens)(hx:X.ex=[])(b1:B.StaysIn s.heap)(b2:B.StaysIn s'.heap)(up:s.heap.UpToSlots s'.heap)(cov:Cov H B)
  (old:∀b o,X.s₀.heap.get? b=some o->b∉X.fs->∃o',B.get? b=some o') (pb:∀p∈X.pn++pins,∃o,B.get? p.1=some o):Inv X pins σ H s' where
 ok:=I.ok
 os:=ho.trans I.os
 bare:=hg
 base:=by
  have hb:=I.base;rw[hx]at hb ⊢;exact Qog hb b1 b2 up old (λb o e hb=>Qkd I.ok e hb) I.ok.frf
 loc:=by
  obtain⟨m,hn,hl⟩:=I.loc;refine⟨m,up.ns hn,λi x v e1 e2 e3=>?_⟩;obtain⟨u,r,q⟩:=hl i x v e1 e2 e3;refine⟨u,r,?_⟩;rcases q with q | ⟨k,c,e,z⟩
  .exact .inl q
  .exact .inr ⟨k,c,e,Qmf up z⟩
 cell:=λx c e=>by
  obtain⟨v,z⟩:=I.cell x c e;exact⟨v,Qmf up z⟩
 free:=I.free
 freeC:=I.freeC
 pin:=λp hp=>by
  obtain⟨e,n,ne,nf,d⟩:=I.pin p hp;obtain⟨o,eo⟩:=pb p hp;have:=b1 _ _ eo;rw[e]at this;cases this;exact⟨b2 _ _ eo,n,ne,nf,d⟩
 hok:=Qla I.hok b1 b2 cov
 len:=I.len
end
noncomputable abbrev DX:=En->Option (Str×En)
def ClsAt(K:Fgg)(x:Str)(C:Addr):Prop:=PySem.W.nsIn K mainGlobals x=some (some (.ref C))
def cRz(X:Cx)(H0:Hp)(A0:LAd)(fx:DX)(σ:L2.St)(H:Hp):Prop:=∃U hs F x U',Rel X.K H0 A0 hs U F σ H/\fx U=some (x,U')/\∀C ea s',ClsAt X.K x C->Qox X H0 A0 hs U' (.ref C) ea s'->X.xe (.ref ea) s'
noncomputable def tRz(X:Cx)(H0:Hp)(A0:LAd)(fx:DX):TS:=λ_ σ H=>cRz X H0 A0 fx σ H
noncomputable def eRz(X:Cx)(H0:Hp)(A0:LAd)(fx:DX):TE:=λσ H _=>cRz X H0 A0 fx σ H
def Rz(X:Cx)(st:Stmt)(fx:DX):Prop:=∀H0 A0,PS X st (tRz X H0 A0 fx)
def RzS(X:Cx)(sts:List Stmt)(fx:DX):Prop:=∀H0 A0,PSs X sts (tRz X H0 A0 fx)
def RzE(X:Cx)(e:Expr)(fx:DX):Prop:=∀H0 A0,PE X e (eRz X H0 A0 fx)
noncomputable def xNo:DX:=λ_=>none
noncomputable def Qe3(x:Str)(fs:DA):DX:=λU=>(fs U).bind λr=>if r.ds.length<=1 then some (x,U)else none
noncomputable def QdM(n:Nat)(xd:List D->Option Str)(fs:DA):DX:=λU=>(fs U).bind λr=>if r.ds.length=n then(xd r.ds).map λc=>(c,U)else none
noncomputable def xIf(g:DT)(fa fb:DX):DX:=λU=>(g U).bind λb=>if b=true then fa U else fb U
noncomputable def Qcc(f:DS)(fx fr:DX):DX:=λU=>match f U with
 | some (.nx U')=>fr U'
 | some _=>none
 | none=>fx U
noncomputable def spX(K:Fgg)(n:Nat)(xd:List D->Option Str):Sp:=λvs H _ E=>∃ds L x,Rps K H ds vs L/\ds.length=n/\xd ds=some x/\∀C H',ClsAt K x C->QN H H'->E (.ref C) none H'
def QwE{K:Fgg}{n:Nat}{xd:List D->Option Str}{ps:List Str}(hn:ps.length=n):∀vs H Q E,spX K n xd vs H Q E->vs.length=ps.length:=λvs H Q E ⟨ds,L,x,r,hl,_⟩=>by rw[hn,← hl,r.length]
section
variable {X:Cx}{st:Stmt}{sts:List Stmt}{e:Expr}{es:List Expr}{fs:DA}{f:DS}{fx fr fy:DX}{g:DT}{pos p np cpos:Pos}{x:Str}{k n:Nat}{fa:Addr}{fd:FuncData}{ps:List Str}{xd:List D->Option Str}
def Qio:Rz X st xNo:=λH0 A0 pins s σ H Dd I ⟨U,hs,F,x,U',rel,e,q⟩=>by cases e
def QxE:RzS X [] xNo:=λH0 A0 pins s σ H Dd I ⟨U,hs,F,x,U',rel,e,q⟩=>by cases e
def RzC(X:Cx)(e:Expr)(fx:DX):Prop:=∀H0 A0 pins s σ H U hs F c U' (Er:Value->Shared->Prop),Inv X pins σ H s->Rel X.K H0 A0 hs U F σ H->fx U=some (c,U')->(∀v s',X.xe v s'->Er v s')→
 (∀C ea s' H' s1 H1 B a0,ClsAt X.K c C->Inv X pins σ H1 s1->QN H H'->Inv X pins σ H' s'->Heap.FlyingW B X.stack ea (.ref C) a0 s'.heap->Cov H' B->(∀b o,s1.heap.get? b=some o->b∉frs X.stack->∃o',B.get? b=some o')->U'=U->Er (.ref ea) s')→
 wpAny (model X.prog X.w) X.A (eval e X.env) (λ_ _=>False) Er s
def Qxl(Fk:QbL X.prog X.w X.K X.mg X.base (CXR X.prog X.w) k fa fd ps (spX X.K n xd))(hr:QaQ k X.A)(hg:Gl X x)(hm:X.mg x=some (.ref fa))(hk:PySem.W.keepIn X.K (.ref fa)=true)(hb:Binds X.K fd ps [])(hn:ps.length=n)
  (ha:SA X (e::es) fs) (hdb:(x == ("__debug__" :Str))=false) (he:starEach (e::es) X.env=(false,eval e X.env)::starEach es X.env) (hpl:(backTo pos (starEach es X.env)).any (·.1)=false):
  RzC X (.Call (.Name x p) (e::es) [] pos) (QdM n xd fs):=λH0 A0 pins s σ H U hs F c U' Er I rel ex hxe q=>by
 refine Qg ex λra e1 ex=>?_;split at ex
 .rename_i hl;obtain⟨c',e2,e3⟩:=Zh.mp ex;cases e3;refine wpAny_Call_Name_kw (Qeu I hg hm ?_ hdb);refine PySem.W.callWith_K (h₀:=X.base) I.ok.mod.kin hk (wpAny_mono (ha H0 A0 pos pins s σ H (λvs H1=>∃G,Qqz X.K U F H H1 ra vs G) I ⟨U,hs,F,ra,rel,e1,λvs H1 G p1=>⟨G,p1⟩⟩) (λus s1 ⟨vs,H1,I1,rv,G,p1⟩=>⟨I1.kIn,?_⟩) hxe) he hpl;have hlen:(us++[]).length=ps.length:=by rw[Zas,← rv.length,← p1.rp.length,hl,hn]
  have hbb:=hb s1 us I1.kIn hlen;rw[Zas]at hbb;refine wpAny_call (codeAny_mono (Fk.run X.A X.stack s1 H1 ⟨us,[]⟩ us vs (λ_ _=>False) (λc' _ H'=>∃C,c'= .ref C/\ClsAt X.K c C/\QN H1 H') hr I1.QzB hbb rv ⟨ra.ds,G,c,p1.rp,hl,e2,λC H' hC sm=>⟨C,rfl,hC,sm⟩⟩) λr s' hq=>?_);cases r with
  | error ev=>
   obtain⟨ea,C',H',B,a0,rfl,os,bare,un,hok,fl,cov,old,C,rfl,hC,sm⟩:=hq;exact q C ea s' H' s1 H1 B a0 hC I1 (p1.same.trans sm) (I1.QvU os un hok bare (λb z=>absurd z ⋯)) fl cov old rfl
  | ok fl=>
   cases fl with
   | ret u=>obtain⟨v,H',_,_,_,_,_,z⟩:=hq;exact z.elim
   | next=>exact False.elim hq
   | brk=>exact False.elim hq
   | cont=>exact False.elim hq
 .cases ex
def QA6(hx:X.ex=[])(h:RzC X e fx):RzE X e fx:=λH0 A0 pins s σ H Q I=>λ⟨U,hs,F,c,U',rel,ex,q⟩=>
 thn (h H0 A0 pins s σ H U hs F c U' X.xe I rel ex (λ_ _ z=>z) λC ea s' H' s1 H1 B a0 hC I1 sm I' fl cov old z=>q C ea s' hC ⟨pins,σ,H',F,by subst z;exact rel.ext sm,.inr ⟨B,a0,.none,I',fl,cov,λb o eb hbf=>by
  obtain⟨⟨o',h1⟩,h2⟩:=QrR I1 hx eb hbf;exact old b o' h1 h2,λp hp=>by
  obtain⟨e,_,ne,nf,_⟩:=I1.pin p hp;exact old _ _ e λz=>(Zm.mp (I1.QeV _ z)).elim ne nf⟩⟩) λ_ _ z=>z.elim
def QxB(h:RzE X e fx)(hs:swapsWith e none pos.line X.env=pure false):Rz X (.Expr e pos) fx:=λH0 A0=>Qie (h H0 A0) hs
def Qz3{i:Nat}(hN:X.N.Nodup)(h1:X.N[i]? =some x)(h2:Loc X.env.scope x)(h3:X.fn x=true∨X.env.scope.names.lookup x=some .local)(h:RzE X e fx)(hs:swapsWith e (some (.Name x p)) pos.line X.env=pure false):Rz X (.Assign [.Name x p] e pos) fx:=λH0 A0=>QhU hN h1 h2 (h H0 A0) hs h3
def QA7(hc:ST X c g)(ha:RzS X a fx)(hb:RzS X b fy):Rz X (.If c a b pos) (xIf g fx fy):=λH0 A0=>(QvJ (hc H0 A0) (ha H0 A0) (hb H0 A0)).mono λDd σ H Z=>by
 obtain⟨U,hs,F,x,U',rel,e,q⟩:=Z;refine Qg e λc e1 e=>?_;refine⟨U,hs,F,c,rel,e1,λH1 s1=>?_⟩;cases c with
 | true=>exact Qrb ⟨U,hs,F,x,U',rel.ext s1,e,q⟩
 | false=>exact QqQ ⟨U,hs,F,x,U',rel.ext s1,e,q⟩
def QA9{t u:TS}(h1:PS X st t)(h2:PS X st u):PS X st (λDd σ H=>t Dd σ H∨u Dd σ H):=λpins s σ H Dd I q=>q.elim (h1 pins s σ H Dd I) (h2 pins s σ H Dd I)
def Qt0(h1:S1 X st f)(h2:Rz X st fx)(h3:RzS X sts fr):RzS X (st::sts) (Qcc f fx fr):=λH0 A0=>(Qnm (QA9 (h1 H0 A0) (h2 H0 A0)) (h3 H0 A0)).mono λDd σ H Z=>by
 obtain⟨U,hs,F,x,U',rel,e,q⟩:=Z;unfold Qcc at e;split at e
 .rename_i U1 e1;exact .inl ⟨U,hs,F,_,rel,e1,λσ' H' F' rel'=>⟨U1,hs,F',x,U',rel',e,q⟩⟩
 .cases e
 .exact .inr ⟨U,hs,F,x,U',rel,e,q⟩
end
noncomputable abbrev QBR:List Value:=[.type "ValueError",.type "Exception",.type "BaseException",.type "object"]
structure Qhd (K:Fgg) (x:Str):Prop where
 ex:∃C,ClsAt K x C/\PySem.W.excIn K C QBR "ValueError.__new__" =true
def QuR{K:Fgg}{C:Addr}{bmB:List Value}{newId:String}(q:PySem.W.excIn K C bmB newId=true){h:Heap}(X:K.In h):∃bm N nm qn bs hdct sn sub ab col dd k0 k1 k2 k3 k5 mN,
  h.get? C=some (excClassObj nm qn C N bs bm hdct sn sub ab col dd k0 k1 k2 k3 k5 newId)/\h.Ns N mN/\mN "__init__" =none/\OwnTail h bmB bm:=by
 rw[PySem.W.excIn.eq_def]at q;split at q
 case h_2=>cases q
 rename_i dd cd sl ho;split at q
 case h_2=>cases q
 rename_i C1 bm k0 k1 k2 k3 nid k5 em es;simp only[Zk,beq_iff_eq,Zan]at q;obtain⟨⟨⟨⟨⟨z1,z2⟩,nodel⟩,tl⟩,okN⟩,noInit⟩:=q;subst z1 z2;have hget:=X _ _ ho;have hsl:sl= #[k0,k1,k2,k3,some (.builtin nid),k5]:=Array.ext' es;rw[hsl]at hget;refine⟨bm,cd.ns,cd.name,cd.qualname,cd.bases,cd.hasDict,cd.slotNames,cd.subclasses,cd.abstract,cd.collection,dd,k0,k1,k2,k3,k5,_,?_,.of_isNs (PySem.W.isNs_of_in X okN),PySem.W.nsMap_none_of_in X okN noInit,PySem.W.tail_of_in X tl⟩;rw[hget];cases cd with
 | mk c1 c2 c3 c4 c5 c6 c7 c8 c9 c10 c11=>
  dsimp only at em nodel;rw[em,nodel]
section
variable {X:Cx}{e:Expr}{fs:DA}{x:Str}{np cpos pos:Pos}
def Qul(hc:X.calm=true)(hg:Gl X x)(hk:Qhd X.K x)(hdb:(x == ("__debug__" :Str))=false)(ha:SA X [e] fs)(he:starEach [e] X.env=(false,eval e X.env)::starEach [] X.env):
  Rz X (.Raise (some (.Call (.Name x np) [e] [] cpos)) none pos) (Qe3 x fs):=λH0 A0 pins s σ H Dd I Z=>by
 obtain⟨U,hs,F,c,U',rel,ex,q⟩:=Z;refine Qg ex λra e1 e2=>?_;split at e2
 case isFalse=>cases e2
 rename_i hl;cases e2;obtain⟨C,hC,hq⟩:=hk.ex;obtain⟨bm,N,nm,qn,bs,hdct,sn,sub,ab,col,dd,k0,k1,k2,k3,k5,mN,o1,o2,o3,o4⟩:=QuR hq I.ok.mod.kin;have hm:X.mg x=some (.ref C):=Zbb I.ok.mod.kin I.ok.mod.glob hC
 refine wpAny_Raise_call_subT (C:=C) (nm:=nm) (q:=qn) (N:=N) (bs:=bs) (bm:=bm) (hdct:=hdct) (sn:=sn) (sub:=sub) (ab:=ab) (col:=col) (dd:=dd) (k0:=k0) (k1:=k1) (k2:=k2) (k3:=k3) (k5:=k5)
  PySem.F.excBase_ValueError (mN:=mN) (o4.hasType PySem.F.excBase_ValueError.hasBase) (I.ok.hd hc) (by rw[he];rfl) o3 (Qeu I hg hm ⟨rfl,?_⟩ hdb)
 have hargs:=ha H0 A0 cpos pins s σ H (λvs H1=>∃G,Qqz X.K U F H H1 ra vs G) I ⟨U,hs,F,ra,rel,e1,λvs H1 G p1=>⟨G,p1⟩⟩;rw[he]at hargs ⊢;refine Calls.evalArgs_plain (thn hargs λus s2 ⟨vs,H1,I1,rv,G,p1⟩=>⟨rfl,?_,I1.bk _ _ o1,o2.keeps I1.bk,o4.keeps I1.bk,λh' ea hm=>?_⟩)
 .show us.length<=sizeLine;rw[← rv.length,← p1.rp.length];exact Zw hl ∅
 .exact q C ea _ hC ⟨pins,σ,H1,F,rel.ext p1.same,.inl ⟨s2,us,I1,hm,rfl,rfl⟩⟩
end
structure ThX where
 Γx:List (Str×(Nat×(List D->Option Str)))
 cls:List Str
structure XOk (X:Cx) (YX:ThX):Prop where
 ex:X.ex=[]
 stk:X.stack=X.env::X.outer
 fr:X.env.frame=some X.env.locals
 fx:∀x r,look x YX.Γx=some r->∃k f fd ps,QbL X.prog X.w X.K X.mg X.base (CXR X.prog X.w) k f fd ps (spX X.K r.1 r.2)/\QaQ k X.A/\X.mg x=some (.ref f)/\PySem.W.keepIn X.K (.ref f)=true/\Binds X.K fd ps []/\ps.length=r.1
 cl:∀x∈YX.cls,Qhd X.K x
noncomputable def xc0(n:Nat)(Y:Th)(YX:ThX)(e:Expr):DX:=match e with
 | .Call (.Name x _) (a::as) [] _=>if Y.gl x then(match look x YX.Γx with
  | some r=>(match Qbi n Y (a::as)with | some fs=>QdM r.1 r.2 fs | none=>xNo)
  | none=>xNo)else xNo
 | _=>xNo
noncomputable abbrev xcE:=xc0
noncomputable def xaE(n:Nat)(Y:Th)(YX:ThX)(e:Expr):DX:=
 xcE n Y YX e
noncomputable def QuP:List Expr->Option Str
 | [e]=>Qc7 e
 | _=>none
def QmA{e:Expr}{x:Str}{G:Expr->Prop}(h:Qc7 e=some x)(g:∀p,G (.Name x p)):G e:=by
 cases e with
 | Name z p=>cases h;exact g p
 | _=>exact nn h
noncomputable def QA2:Expr->Option (Str×Expr)
 | .Call f as kw _=>match kw with
  | _::_=>none
  | []=>match as with
   | []=>none
   | a::as=>match as with
    | _::_=>none
    | []=>(Qc7 f).map λx=>(x,a)
 | _=>none
mutual
noncomputable def QqP(n:Nat)(Y:Th)(YX:ThX)(st:Stmt):Option DX:=match n with
 | 0=>none
 | n+1=>match st with
  | .Raise v c _=>match c with
   | some _=>none
   | none=>v.bind λe=>(QA2 e).bind λq=>if Y.gl q.1 && YX.cls.contains q.1 then(Qbi n Y [q.2]).map λfs=>Qe3 q.1 fs else none
  | .Expr e _=>some (xcE n Y YX e)
  | .Assign ts e _=>match QuP ts with
   | none=>some xNo
   | some x=>(Y.QbC x).map λ_=>xaE n Y YX e
  | .If c a b _=>(QaM n Y c).bind λg=>(Qe9 n Y YX a).bind λfa=>(Qe9 n Y YX b).map λfb=>xIf g fa fb
  | _=>some xNo
noncomputable def Qe9(n:Nat)(Y:Th)(YX:ThX)(sts:List Stmt):Option DX:=match n with
  | 0=>none
  | n+1=>match sts with
    | []=>some xNo
    | st::r=>
     (Qkk n Y st).bind λf=>(QqP n Y YX st).bind λfx=>(Qe9 n Y YX r).map λfr=>Qcc f fx fr
end
section
variable {X:Cx}{Y:Th}{YX:ThX}
def XFx(X:Cx)(YX:ThX):Prop:=∀x r,look x YX.Γx=some r->∃k f fd ps,QbL X.prog X.w X.K X.mg X.base (CXR X.prog X.w) k f fd ps (spX X.K r.1 r.2)/\QaQ k X.A/\X.mg x=some (.ref f)/\PySem.W.keepIn X.K (.ref f)=true/\Binds X.K fd ps []/\ps.length=r.1
def QjU{e:Expr}:RzC X e xNo:=λH0 A0 pins s σ H U hs F c U' Er I rel ex=>by cases ex
def Qyc{n:Nat}(ok:QY X Y)(xf:XFx X YX)(e:Expr):RzC X e (xc0 n Y YX e):=by
 unfold xc0;split
 .split
  .rename_i hg;obtain⟨g1,g2,g3⟩:=QcP ok.toCtxB hg;split
   .rename_i r hr;split
    .rename_i fs hfs;obtain⟨k,f,fd,ps,F1,F2,F3,F4,F5,F6⟩:=xf _ r hr;obtain⟨s1,s2⟩:=callArgs (X:=X) hfs rfl _;exact Qxl F1 F2 g1 F3 F4 F5 F6 ((Qb7 n).A X Y _ fs ok hfs) g2 s1 s2
    .exact QjU
   .exact QjU
  .exact QjU
 .exact QjU
def Qty{n:Nat}{e:Expr}(h:xc0 n Y YX e≠xNo):∃x p a as pos,e= .Call (.Name x p) (a::as) [] pos:=by
 unfold xc0 at h;split at h
 .exact⟨_,_,_,_,_,rfl⟩
 .exact absurd rfl h
def QyI{n:Nat}(ok:QY X Y)(xk:XOk X YX)(e:Expr):RzE X e (xc0 n Y YX e)/\(xc0 n Y YX e≠xNo->∃x p a as pos,e= .Call (.Name x p) (a::as) [] pos):=⟨QA6 xk.ex (Qyc ok xk.fx e),Qty⟩
def QrT{n:Nat}(ok:QY X Y)(xk:XOk X YX)(e:Expr):RzE X e (xcE n Y YX e)/\(xcE n Y YX e≠xNo->∃x p a as pos,e= .Call (.Name x p) (a::as) [] pos):=QyI ok xk e
def Qze{n:Nat}(ok:QY X Y)(xk:XOk X YX)(e:Expr):RzE X e (xaE n Y YX e)/\(xaE n Y YX e≠xNo->Qge e=true):=by
 obtain⟨h1,h2⟩:=QrT (n:=n) ok xk e;refine⟨h1,λz=>?_⟩;obtain⟨y,p,a,as,pos,rfl⟩:=h2 z;rfl
structure Qzu (n:Nat):Prop where
 X:∀X Y YX st f,QY X Y->XOk X YX->QqP n Y YX st=some f->Rz X st f
 Xs:∀X Y YX sts f,QY X Y->XOk X YX->Qe9 n Y YX sts=some f->RzS X sts f
def Qyi{n:Nat}(ih:Qzu n):∀X Y YX st f,QY X Y->XOk X YX->QqP (n+1) Y YX st=some f->Rz X st f:=by
 intro X Y YX st f ok xk h;have hN:X.N.Nodup:=by rw[ok.N];exact ok.nd
 cases st with
 | Raise v c pos=>
  cases c with
  | some _=>exact nn h
  | none=>
   refine Qg (show v.bind _=some _ from h) λe he h=>?_;cases he;refine Qg h λq hq h'=>?_;clear h;split at h'
   .rename_i hc;simp only[Zk]at hc;refine mapR h' λfs h1=>?_;clear h';obtain⟨g1,g2,g3⟩:=QcP ok.toCtxB hc.1;obtain⟨s1,s2⟩:=callArgs (X:=X) h1 rfl pos;cases e with
    | Call fn as kw cp=>
     rcases kw with _ | ⟨k1,k2⟩
     .rcases as with _ | ⟨a,_ | ⟨a2,as⟩⟩
      .cases hq
      .obtain⟨x,hx,rfl⟩:=Zh.mp (show(Qc7 fn).map _=some q from hq);exact QmA (G:=λt=>Rz X (.Raise (some (.Call t [a] [] cp)) none pos) (Qe3 x fs)) hx λnp=>Qul ok.calm g1 (xk.cl x (by simpa using hc.2)) g2 ((Qb7 n).A X Y _ fs ok h1) s1
      .cases hq
     .cases hq
    | _=>exact nomatch (show(none:Option (Str×Expr))=some _ from hq)
   .cases h'
 | Expr e pos=>
  cases(show some (xcE n Y YX e)=some f from h);obtain⟨h1,h2⟩:=QrT (n:=n) ok xk e;by_cases hz:xcE n Y YX e=xNo
  .rw[hz];exact Qio
  .obtain⟨x,p,a,as,pos',rfl⟩:=h2 hz;exact QxB h1 rfl
 | Assign ts e pos=>
  rcases ts with _ | ⟨t,_ | ⟨t2,ts⟩⟩
  .cases(show some xNo=some f from h);exact Qio
  .cases t with
   | Name x p=>
    refine mapR (show(Y.QbC x).map _=some f from h) λi hi=>?_;obtain⟨g1,g2,g3⟩:=Qck ok.toCtxB hi;obtain⟨h1,h2⟩:=Qze (n:=n) ok xk e;by_cases hz:xaE n Y YX e=xNo
    .rw[hz];exact Qio
    .exact Qz3 hN g1 g2 g3 h1 (Qfo (h2 hz))
   | _=>cases(show some xNo=some f from h);exact Qio
  .cases(show some xNo=some f from h);exact Qio
 | If c a b pos=>
  refine Qg (show(QaM n Y c).bind _=some f from h) λg h1 h=>?_;exact bindR h λfa fb h2 h3=>QA7 ((Qb7 n).T X Y c g ok h1) (ih.Xs X Y YX a fa ok xk h2) (ih.Xs X Y YX b fb ok xk h3)
 | _=>cases(show some xNo=some f from h);exact Qio
def Qqv:∀n,Qzu n
 | 0=>⟨λ_ _ _ _ _ _ _ h=>(nn h),λ_ _ _ _ _ _ _ h=>(nn h)⟩
 | n+1=>by
  have ih:=Qqv n;refine⟨Qyi ih,λX Y YX sts f ok xk h=>?_⟩;cases sts with
  | nil=>cases(show some xNo=some f from h);exact QxE
  | cons st r=>
   refine Qg (show(Qkk n Y st).bind _=some f from h) λfs h1 h=>?_;exact bindR h λfx fr h2 h3=>Qt0 (Qsq ok h1) (ih.X X Y YX st fx ok xk h2) (ih.Xs X Y YX r fr ok xk h3)
end
noncomputable def QgH(k:Nat)(f:DX):List D->Option Str:=λds=>(f (Qau k ds)).map (·.1)
section
variable (P:Program) (w:World) (K:Fgg) (mg:Str->Option Value) (base:Heap)
def Qgm(k:Nat)(x:Str)(r:Nat×(List D->Option Str)):Prop:=∃f fd ps,QbL P w K mg base (CXR P w) k f fd ps (spX K r.1 r.2)/\mg x=some (.ref f)/\PySem.W.keepIn K (.ref f)=true/\Binds K fd ps []/\ps.length=r.1
def Qee(k:Nat)(Γx:List (Str×(Nat×(List D->Option Str)))):Prop:=∀x r,look x Γx=some r->Qgm P w K mg base k x r
end
section
variable {P:Program}{w:World}{K:Fgg}{mg:Str->Option Value}{base:Heap}
def Qee.nil{k:Nat}:Qee P w K mg base k []:=λx r h=>by cases h
def Qgm.mono{j k:Nat}{x:Str}{r:Nat×(List D->Option Str)}(h:Qgm P w K mg base j x r)(hk:j<=k):Qgm P w K mg base k x r:=by
 obtain⟨f,fd,ps,h1,h2⟩:=h;exact⟨f,fd,ps,h1.mono hk,h2⟩
def Qee.mono{j k:Nat}{Γ:List (Str×(Nat×(List D->Option Str)))}(t:Qee P w K mg base j Γ)(hk:j<=k):Qee P w K mg base k Γ:=λx r e=>(t x r e).mono hk
def Qee.cons{k:Nat}{Γ:List (Str×(Nat×(List D->Option Str)))}{x:Str}{r:Nat×(List D->Option Str)}(t:Qee P w K mg base k Γ)(h:Qgm P w K mg base (k+1) x r):Qee P w K mg base (k+1) ((x,r)::Γ):=λy q e=>by
 unfold look at e;split at e
 .rename_i z;cases e;subst z;exact h
 .exact(t y q e).mono (ZaK _)
def Qwz{h:Heap}{x:Str}{st:Stmt}{ps:List Str}{k n:Nat}{Γ:List (Str×FnR)}{Γx:List (Str×(Nat×(List D->Option Str)))}{cls:List Str}{cs:List (Str×Cn)}{g:DX}(X:K.In h)(G:h.Ns mainGlobals mg)(F:Fact K x st)(S:QbM (namesOf (Qr st)) ps (Qr st))(B:Qba x st ps)(M:QdN mg cs)(tab:QbD P w K mg base k Γ)(tabx:Qee P w K mg base k Γx)
  (hcl:∀x∈cls,Qhd K x) (hc:Qe9 n (QeY st Γ cs) ⟨Γx,cls⟩ (QaR st)=some g):Qgm P w K mg base (k+1) x (ps.length,QgH (namesOf (Qr st)).length g):=by
 obtain⟨f,fd,Fn,a⟩:=F.ex;refine⟨f,fd,ps,?_,Zbb X G a,Fn.kp,Fn.binds (B ·),rfl⟩;obtain⟨oc,od,kV,doc,pm,an,cdv,ct,osl,rfl,lk,hcd⟩:=Fn.ex;refine QvX lk hcd S (QwE rfl) λA outer s H vs Q E hr hsp=>?_;obtain⟨ds,L,y,rps,hl,hd,hE⟩:=hsp;have ok:QY (Qec (CXR P w) P w K mg base (namesOf (Qr st)) x (Qr st) f cdv A outer s H E) (QeY st Γ cs):=QpB (CX:=CXR P w) (E:=E) S M tab hr PassesOwn.leaving;have xk:XOk (Qec (CXR P w) P w K mg base (namesOf (Qr st)) x (Qr st) f cdv A outer s H E) ⟨Γx,cls⟩:=⟨rfl,rfl,rfl,λz r e=>by
  obtain⟨f',fd',ps',h1,h2,h3,h4,h5⟩:=tabx z r e;exact⟨k,f',fd',ps',h1,hr,h2,h3,h4,h5⟩,hcl⟩
 refine⟨_,(Qqv n).Xs _ _ _ _ g ok xk hc H L,?_⟩;obtain⟨F0,rel⟩:=QhV (N:=namesOf (Qr st)) rps;obtain⟨⟨y',U'⟩,e1,e2⟩:=Zh.mp hd;cases e2;exact⟨_,[],F0,y',U',rel,e1,λC ea s' hC T=>QnF rfl rfl rfl rfl rfl rfl rfl T λH' sm=>hE C H' hC sm⟩
end
end HS
namespace HS
open PySem PySem.Spec L2 PyProof.Rows
section
variable {X:Cx}{pins:List (Addr×Obj)}{σ:L2.St}{H:Hp}{s s':Shared}{B:Heap}
def QwM{ea C:Addr}{a0:Value}(I:Inv X pins σ H s)(hx:X.ex=[])(fl:Heap.FlyingW B X.stack ea (.ref C) a0 s.heap)(cov:Cov H B)(old:∀b o,X.s₀.heap.get? b=some o->b∉X.fs->∃o',B.get? b=some o')
  (pb:∀p∈X.pn++pins,∃o,B.get? p.1=some o):H ea=none/\Inv X pins σ (upd H ea (.ext (QcX ea C))) s:=by
 obtain⟨oe,vs,he,hc,hd,_⟩:=fl.first
 have ne:∀{b o},B.get? b=some o->b≠ea:=λ{b o} e z=>by rw[z,fl.2.1]at e;cases e
 have hn:H ea=none:=by
  cases q:H ea with
  | none=>rfl
  | some u=>obtain⟨o,e⟩:=cov ea u q;exact absurd rfl (ne e)
 have nd:∀{b o},s.heap.get? b=some o->(∀vs,o.data≠ .fields vs)->b≠ea:=λ{b o} e h z=>by
  rw[z,he]at e;cases e;exact h vs hd
 have tr:∀b u,H b=some u->upd H ea (.ext (QcX ea C)) b=some u:=λb u e=>by
  obtain⟨o,eo⟩:=cov b u e;rw[QA (ne eo)];exact e
 refine⟨hn,I.ok,I.os,I.bare,⟨I.base.keep,I.base.slot,λb o e n hxx=>?_,I.base.there,λb xs q=>tr _ _ (I.base.tups b xs q),λb o u q=>tr _ _ (I.base.frzs b o u q),λb ps q=>?_⟩,I.loc,I.cell,?_,λx c e=>?_,λp hp=>?_,λb u e=>?_,I.len⟩
 .rw[QA]
  .exact I.base.free b o e n hxx
  .by_cases hb:b∈X.fs
   .obtain⟨sl,e1⟩:=I.base.slot b o e n hb hxx;exact nd e1 λvs q=>Qkd I.ok e hb vs q
   .obtain⟨o',e1⟩:=old b o e hb;exact ne e1
 .obtain⟨more,q⟩:=I.base.tbls b ps q;exact⟨more,tr _ _ q⟩
 .rw[QA]
  .exact I.free
  .obtain⟨m,⟨o,es,ep,e,d,_⟩,_⟩:=I.loc;exact nd e λvs q=>by rw[d]at q;cases q
 .rw[QA]
  .exact I.freeC x c e
  .obtain⟨v,o,eo,d⟩:=I.cell x c e;exact nd eo λvs q=>by rw[d]at q;cases q
 .obtain⟨e,n,ne',nf,d⟩:=I.pin p hp;obtain⟨o,eo⟩:=pb p hp;exact⟨e,by rw[QA (ne eo)];exact n,ne',nf,d⟩
 .by_cases hb:b=ea
  .subst hb;rw[Q4]at e;cases e;refine⟨⟨oe,vs,he,hc,hd⟩,⟨oe,he⟩,λh1 h2 ⟨o,w,e1,e2,e3⟩ k=>⟨o,w,k _ e1,e2,e3⟩⟩
  .rw[QA hb]at e;exact(I.hok b u e).QfE (λc v _ q=>q) (λc q=>tr _ _ q) λc xs q=>tr _ _ q
def Qka{M:Model}{A:Around}{E:Value->Shared->Prop}{i:Nat}{x:Str}{pos:Pos}{Q:Unit->Shared->Prop}(I:Inv X pins σ H s)(hN:X.N.Nodup)(hi:X.N[i]? =some x)(hx:X.env.scope.names.lookup x=some .local)
  (h:∀s',Inv X pins (σ.set i none) H s'->Q () s'):wpAny M A (do bindName X.env x .none;unbindBehindTheSuite X.env x pos) Q E s:=by
 refine wpAny_bind (wpAny_bindName (QeP (v:= .non) I hN hi (.inl hx) rfl (λs1 I1=>?_) (.inr hx)));have hcls:(X.env.scope.kind == .class || (X.env.scope.kind == .module && X.env.locals != X.env.globals))=false:=by rw[I.ok.kind];rfl
 have hiσ:i<σ.length:=by rw[I.len];exact(Zi.mp hi).1
 obtain⟨m,hn,hl⟩:=id I1.loc;obtain⟨u,_,q⟩:=hl i x .non hi (Zx hiσ) (.inl hx);have hm:m x=some u:=by
  rcases q with⟨_,e⟩ | ⟨k,_⟩
  .exact e
  .have hx':X.env.kindOf x=some .local :=hx;rcases k with k | k<;>rw[hx']at k<;>cases k
 unfold unbindBehindTheSuite;refine wpAny_onRaise (wpAny_unbindName_local hx hn hm hcls λh' u' hn' hs=>h _ ?_);have cne:=I1.cne;obtain⟨oL,_,_,hoL,_⟩:=id hn;refine⟨I1.ok,I1.os,I1.bare,⟨λb o e n hb hx=>?_,λb o e n hb hx=>?_,I1.base.free,λb o e hx=>?_,I1.base.tups,I1.base.frzs,I1.base.tbls⟩,⟨_,hn',λj y v' e1 e2 e3=>?_⟩,λy c e=>?_,I1.free,I1.freeC,λp hp=>?_,λb ob e=>?_,by simpa using I1.len⟩
 .exact(hs.2 b (ZJ (Zu (Zt e) I.ok.above))).trans (I1.base.keep b o e n hb hx)
 .obtain⟨sl,e1⟩:=I1.base.slot b o e n hb hx;exact⟨sl,(hs.2 b (ZJ (Zu (Zt e) I.ok.above))).trans e1⟩
 .obtain⟨o',e1⟩:=I1.base.there b o e hx;exact⟨o',(hs.2 b (ZJ (Zu (Zt e) I.ok.above))).trans e1⟩
 .by_cases hj:j=i
  .subst hj;rw[Zx hiσ]at e2;cases e2
  .rw[Zl (Ne.symm hj)]at e2;have e2':(σ.set i (some V.non))[j]? =some (some v'):=by rw[Zl (Ne.symm hj)];exact e2
   obtain⟨u1,r1,q1⟩:=hl j y v' e1 e2' e3;refine⟨u1,r1,?_⟩;rcases q1 with⟨k,e⟩ | ⟨k,c,e,z⟩
   .refine .inl ⟨k,?_⟩;have:y≠x:=λe=>hj (Qjp hN e1 (e▸hi));simp[this,e]
   .exact .inr ⟨k,c,e,z.sameBut hs (cne y c e)⟩
 .obtain⟨w',z⟩:=I1.cell y c e;exact⟨w',z.sameBut hs (cne y c e)⟩
 .obtain⟨e,n,ne,nf,d⟩:=I1.pin p hp;exact⟨(hs.2 p.1 ne).trans e,n,ne,nf,d⟩
 .refine(I1.hok b ob e).QfE (λc w' hc q=>(hs.2 c ?_).trans q) (λ_ q=>q) λ_ _ q=>q;rintro rfl;have hfree:=I1.free;rcases hc with rfl | hc
  .rw[hfree]at e;cases e
  .rw[hfree]at hc;cases hc
end
noncomputable abbrev inH(X:Cx)(ea:Addr):Cx:={X with A:=X.A.mark (some (.ref ea)),calm:=false,xe:=λ_ _=>False}
def Fly(X:Cx)(pins:List (Addr×Obj))(H:Hp)(ea C:Addr)(s:Shared):Prop:=∃B a0,Heap.FlyingW B X.stack ea (.ref C) a0 s.heap/\Cov H B/\(∀b o,X.s₀.heap.get? b=some o->b∉X.fs->∃o',B.get? b=some o')/\∀p∈X.pn++pins,∃o,B.get? p.1=some o
section
variable {X:Cx}{pins:List (Addr×Obj)}{σ:L2.St}{H:Hp}{s s':Shared}{B:Heap}{ea C:Addr}
def _root_.L2.Inv.inH(I:Inv X pins σ H s):Inv (HS.inH X ea) pins σ H s:=
 ⟨⟨I.ok.mod,I.ok.kind,I.ok.glob,I.ok.blt,I.ok.above,I.ok.inj,I.ok.has,I.ok.cab,λz=>(by cases z),I.ok.frames,I.ok.stk,I.ok.exf,I.ok.bs,I.ok.bsz,I.ok.noex,I.ok.exfs,I.ok.Qda,I.ok.frf⟩,I.os,I.bare,I.base,I.loc,I.cell,I.free,I.freeC,I.pin,I.hok,I.len⟩
def _root_.L2.Inv.QfM(ok:X.Ok)(I:Inv (HS.inH X ea) pins σ H s):Inv X pins σ H s:=⟨ok,I.os,I.bare,I.base,I.loc,I.cell,I.free,I.freeC,I.pin,I.hok,I.len⟩
def Qpa{E:Value->Shared->Prop}{Qk:Shared->Prop}{H0:Hp}{A0:LAd}{hs:List (V×D×List Addr)}{U:En}(T:Qox X H0 A0 hs U (.ref C) ea s')(hx:X.ex=[])(hst:X.stack=X.env::X.outer)(hf:X.env.frame=some X.env.locals)
  (k:∀pins σ H F s'',Rel X.K H0 A0 hs U F σ H->Inv X pins σ H s''->Fly X pins H ea C s''->Qk s''):
  wpAny (model X.prog X.w) X.A (noteFrame (.ref ea) X.env) (λ_ s₂=>wpAny (model X.prog X.w) X.A (setFlight (.ref ea) none) (λ_ s₃=>Qk s₃) E s₂) E s':=by
 obtain⟨pins,σ,H,F,rel,⟨sg,args,I,hm,ho,hg⟩ | ⟨B,a0,f0,I,fl,cov,old,pb⟩⟩:=T
 .obtain⟨B,b1,b2,cov,old,pb⟩:=Qnw I hx;have hfr:=I.ok.frames;rw[hst]at hfr b2;obtain⟨t,he,htn,ht⟩:=hm.there;have fresh:B.get? ea=none:=by
   cases q:B.get? ea with
   | none=>rfl
   | some o=>have:=b1 _ _ q;rw[hm.new]at this;cases this
  have note:∀Q:Unit->Shared->Prop,(∀h',Heap.NotedW B (X.env::X.outer) ea (.ref C) (.ref t) (rawInt X.env.locals) s'.heap h'->Q () {s' with heap:=h'})->wpAny (model X.prog X.w) X.A (noteFrame (.ref ea) X.env) Q E s':=λQ hq=>by
   unfold noteFrame;simp only[hf];refine wpAny_bind (wpAny_field (x:= .none) he rfl rfl ?_);rw[if_neg ∅];exact wpAny_entryW (a0:= .ref t) hfr (b2.of_keeps λb o hb _=>⟨o,hm.keeps b o hb,rfl⟩) hf he (λb o hb=>hm.keeps b o (b1 b o hb)) fresh rfl (by show 1<6;decide) rfl hq
  refine note _ λh1 Z=>?_;obtain⟨n1,n2,n3,n4⟩:=Z;refine wpAny_landsW (s:={s' with heap:=h1}) (L:=X.env.locals) ⟨n1,fresh,n2,n3⟩ λh2 fl up=>?_;have up':sg.heap.UpToSlots h2:=((Heap.UpToSlots.of_keeps hm.keeps).trans n4).trans up;refine k pins σ H F _ rel (Qkl I ho (by show AllBare s'.gens;rw[hg];exact I.bare) hx b1 fl.1 up' cov old pb) ⟨B,_,by rw[hst];exact fl,cov,old,pb⟩
 .have hfr:=I.ok.frames;rw[hst]at hfr fl;refine QnI hfr hf fl λh1 hd up1=>?_;refine wpAny_landsW (s:={s' with heap:=h1}) hd λh2 fl2 up2=>?_;exact k pins σ H F _ rel (Qkl I rfl I.bare hx fl.1 fl2.1 (up1.trans up2) cov old pb) ⟨B,a0,by rw[hst];exact fl2,cov,old,pb⟩
def QqD(K:Fgg)(sub:Str->Str->Option Bool):Prop:=∀x y b,sub x y=some b->∃C c,ClsAt K x C/\PySem.W.KtsName K y c/\PySem.W.exmOne K (.ref C) c=some b
def Qr2{E:Value->Shared->Prop}{y:Str}{c:Value}{np:Pos}{Q:Value->Shared->Prop}(I:Inv X pins σ H s)(hg:Gl X y)(hdb:(y == ("__debug__" :Str))=false)(k:PySem.W.KtsName X.K y c)(h:Q c s):wpAny (model X.prog X.w) X.A (eval (.Name y np) X.env) Q E s:=by
 rcases k with k | ⟨k1,k2,k3⟩
 .exact Qeu I hg (Zbb I.ok.mod.kin I.ok.mod.glob k) h hdb
 .exact QcI I hg (PySem.W.mg_none_of I.ok.mod.kin I.ok.mod.glob k1) k2 h k3 hdb
def Qg4{K:Fgg}{x:Str}{C C':Addr}(a:ClsAt K x C)(b:ClsAt K x C'):C=C':=by
 unfold ClsAt at a b;rw[a]at b;exact Value.ref.inj (Option.some.inj (Option.some.inj b))
def Rel.Qk4{K:Fgg}{H0:Hp}{A0:LAd}{hs:List (V×D×List Addr)}{U:En}{F:Nat->List Addr}{i:Nat}(r:Rel K H0 A0 hs U F σ H):Rel K H0 A0 hs (U.set i none) F (σ.set i none) H:=by
 have w:=r.weak (QlV (U:=U) i);refine⟨by simpa using r.len,λj d b e=>?_,w.own,w.src,w.held,w.same⟩;obtain⟨v,h1,h2⟩:=w.val j d b e;refine⟨v,?_,h2⟩;by_cases hj:i=j
 .subst hj;exfalso;by_cases hl:i<U.length
  .rw[Zx hl]at e;cases e
  .rw[Zs (by simp;lia)]at e;cases e
 .rw[Zl hj];exact h1
noncomputable def Qyy(i:Nat):Out->Out
 | .nx U=> .nx (U.set i none)
 | .bk U=> .bk (U.set i none)
 | .ct U=> .ct (U.set i none)
 | .rt d fr=> .rt d fr
noncomputable abbrev Hd:=Str×Option Nat×DS
noncomputable def QmX(sub:Str->Str->Option Bool)(x:Str)(U:En):List Hd->Option Out
 | []=>none
 | h::r=>(sub x h.1).bind λb=>if b=true then(match h.2.1 with
  | none=>h.2.2 U
  | some i=>(h.2.2 (U.set i (some (.exc x,true)))).map (Qyy i))else QmX sub x U r
noncomputable def QgN(f:DS)(fx:DX)(sub:Str->Str->Option Bool)(hl:List Hd):DS:=λU=>match f U with
 | some o=>some o
 | none=>(fx U).bind λq=>QmX sub q.1 q.2 hl
inductive QfF (X:Cx):List ExceptHandler->List Hd->Prop
 | nil:QfF X [] []
 | bare {y:Str}{np pos:Pos}{b₀:Stmt}{suite:List Stmt}{r:List ExceptHandler}{hr:List Hd}{f:DS}(hg:Gl X y) (hdb:(y == ("__debug__" :Str))=false) (hS:∀ea,SS (inH X ea) (b₀::suite) f) (t:QfF X r hr):
   QfF X (.ExceptHandler (some (.Name y np)) none (b₀::suite) pos::r) ((y,none,f)::hr)
 | as {y n:Str}{np pos:Pos}{b₀:Stmt}{suite:List Stmt}{r:List ExceptHandler}{hr:List Hd}{f:DS}{i:Nat}(hg:Gl X y) (hdb:(y == ("__debug__" :Str))=false) (hi:X.N[i]? =some n) (hl:X.env.scope.names.lookup n=some .local) (hS:∀ea,SS (inH X ea) (b₀::suite) f) (t:QfF X r hr):
   QfF X (.ExceptHandler (some (.Name y np)) (some n) (b₀::suite) pos::r) ((y,some i,f)::hr)
def _root_.L2.SP.QfM{Dd:Ends}{f:Flow}(ok:X.Ok)(h:SP (HS.inH X ea) pins Dd f s):SP X pins Dd f s:=by
 cases f with
 | next=>obtain⟨σ',H',I,q⟩:=h;exact⟨σ',H',I.QfM ok,q⟩
 | brk=>obtain⟨σ',H',I,q⟩:=h;exact⟨σ',H',I.QfM ok,q⟩
 | cont=>obtain⟨σ',H',I,q⟩:=h;exact⟨σ',H',I.QfM ok,q⟩
 | ret u=>obtain⟨v,σ',H',I,r,q⟩:=h;exact⟨v,σ',H',I.QfM ok,r,q⟩
def QrZ{sub:Str->Str->Option Bool}{x:Str}{H0:Hp}{A0:LAd}{hs:List (V×D×List Addr)}{U:En}{Dd:Ends}{o:Out}(hN:X.N.Nodup)(hx:X.ex=[])(hsub:QqD X.K sub)(hC:ClsAt X.K x C):
  ∀{hds:List ExceptHandler}{hl:List Hd},QfF X hds hl->∀{F:Nat->List Addr}{σ:L2.St}{H:Hp}{s:Shared},Inv X pins σ H s->Rel X.K H0 A0 hs U F σ H->Fly X pins H ea C s->QmX sub x U hl=some o->Fits X.K H0 A0 hs Dd o→
   wpAny (model X.prog X.w) X.A (handleBy (.ref ea) X.env hds) (SP X pins Dd) X.xe s:=by
 intro hds hl h
 have test:∀{y:Str}{np pos:Pos}{nm:Option Str}{b₀:Stmt}{suite:List Stmt}{r:List ExceptHandler}{b:Bool}{σ:L2.St}{H:Hp}{s:Shared},Gl X y->(y == ("__debug__" :Str))=false->sub x y=some b->Inv X pins σ H s->Fly X pins H ea C s→
   (b=true->codeAny (model X.prog X.w) (X.A.mark (some (.ref ea))) (.handlers (.ref ea) [.ExceptHandler none nm (b₀::suite) pos] X.env) (λr s₂=>match r with
     | .ok f=>(match nm with
      | none=>SP X pins Dd f s₂
      | some n=>wpAny (model X.prog X.w) X.A (do bindName X.env n .none;unbindBehindTheSuite X.env n pos) (λ_ s₃=>SP X pins Dd f s₃) X.xe s₂)
     | .error x=>cameBackBy (model X.prog X.w) X.A X.env X.xe x s₂) s)→
   (b=false->wpAny (model X.prog X.w) X.A (handleBy (.ref ea) X.env r) (SP X pins Dd) X.xe s)->wpAny (model X.prog X.w) X.A (handleBy (.ref ea) X.env (.ExceptHandler (some (.Name y np)) nm (b₀::suite) pos::r)) (SP X pins Dd) X.xe s:=by
  intro y np pos nm b₀ suite r b σ H s hg hdb e1 I fly ht hf;obtain⟨C',c,k1,k2,k3⟩:=hsub x y b e1;cases Qg4 hC k1;obtain⟨B,a0,fl,_⟩:=fly;obtain⟨ob,hob,hc⟩:=fl.there;have LT:PySem.W.Looks (model X.prog X.w) s.heap (typeOf (.ref ea)) (.ref C):=hc▸(PySem.W.Looks.ld hob).andThen .now;refine wpAny_handleBy_cons (codeAny_handlers_test (Qr2 (X:=HS.inH X ea) (I.inH (ea:=ea)) hg hdb k2 ((PySem.W.exm_one I.kIn LT k3).here ?_))) (by intro q;cases q);cases b with
  | true=>exact ht rfl
  | false=>exact hf rfl
 induction h with
 | nil=>intro F σ H s I rel fly e q;cases e
 | @bare y np pos b₀ suite r hr f hg hdb hS t ih=>
  intro F σ H s I rel fly e q;refine Qg e λb e1 e=>?_;refine test hg hdb e1 I fly (λhb=>?_) λhb=>?_
  .subst hb;rw[if_pos rfl]at e;obtain⟨B,a0,fl,cov,old,pb⟩:=fly;refine codeAny_handlers_suite (lands_againW fl λh' fl' up=>?_);have I1:=Qkl (s':={s with heap:=h'}) I rfl I.bare hx fl.1 fl'.1 up cov old pb;exact wpAny_mono (hS ea H0 A0 pins _ σ H Dd (I1.inH (ea:=ea)) ⟨U,hs,F,o,rel,e,q⟩) (λf s2 hq=>SP.QfM I.ok hq) λ_ _ z=>z.elim
  .subst hb;rw[if_neg Zac]at e;exact ih I rel fly e q
 | @as y n np pos b₀ suite r hr f i hg hdb hi hl hS t ih=>
  intro F σ H s I rel fly e q;refine Qg e λb e1 e=>?_;refine test hg hdb e1 I fly (λhb=>?_) λhb=>?_
  .subst hb;rw[if_pos rfl]at e;obtain⟨o1,e2,e3⟩:=Zh.mp e;subst e3;obtain⟨B,a0,fl,cov,old,pb⟩:=fly;refine codeAny_handlers_suite_as (lands_againW fl λh' fl' up=>?_);have I1:=Qkl (s':={s with heap:=h'}) I rfl I.bare hx fl.1 fl'.1 up cov old pb;obtain⟨hn,I2⟩:=QwM I1 hx fl' cov old pb;have sm:QN H (upd H ea (.ext (QcX ea C))):=λb u eb=>by rw[QA (λz=>by rw[z,hn]at eb;cases eb)];exact eb
   refine QeP (X:=HS.inH X ea) (v:= .ref ea) (I2.inH (ea:=ea)) hN hi (.inl hl) rfl (λs3 I3=>?_) (.inr hl);obtain⟨F',rel'⟩:=(rel.ext sm).QyQ (i:=i) (d:= .exc x) (v:= .ref ea) (by rw[Rp];exact⟨⟨ea,rfl,C,hC,Q4⟩,rfl⟩) rfl;refine wpAny_mono (hS ea H0 A0 pins _ _ _ ⟨λσ' H'=>Dd.nx (σ'.set i none) H',Dd.rt,λσ' H'=>Dd.bk (σ'.set i none) H',λσ' H'=>Dd.ct (σ'.set i none) H'⟩ I3 ⟨_,hs,F',o1,rel',e2,?_⟩) (λf s4 hq=>?_) λ_ _ z=>z.elim
   .cases o1 with
    | nx U1=>exact λσ' H' F' rel'=>q _ _ _ rel'.Qk4
    | bk U1=>exact λσ' H' F' rel'=>q _ _ _ rel'.Qk4
    | ct U1=>exact λσ' H' F' rel'=>q _ _ _ rel'.Qk4
    | rt d fr=>exact q
   .cases f with
    | next=>obtain⟨σ',H',I4,q4⟩:=hq;exact Qka (I4.QfM I.ok) hN hi hl λs5 I5=>⟨_,H',I5,q4⟩
    | brk=>obtain⟨σ',H',I4,q4⟩:=hq;exact Qka (I4.QfM I.ok) hN hi hl λs5 I5=>⟨_,H',I5,q4⟩
    | cont=>obtain⟨σ',H',I4,q4⟩:=hq;exact Qka (I4.QfM I.ok) hN hi hl λs5 I5=>⟨_,H',I5,q4⟩
    | ret u=>obtain⟨v,σ',H',I4,r4,q4⟩:=hq;exact Qka (I4.QfM I.ok) hN hi hl λs5 I5=>⟨v,_,H',I5,r4,q4⟩
  .subst hb;rw[if_neg Zac]at e;exact ih I rel fly e q
noncomputable abbrev Cx.chg(X:Cx)(xe:Value->Shared->Prop)(pn:List (Addr×Obj)):Cx:={X with xe:=xe,pn:=pn}
def _root_.L2.Inv.chg{xe:Value->Shared->Prop}(I:Inv X pins σ H s):Inv (Cx.chg X xe (X.pn++pins)) [] σ H s:=
 ⟨⟨I.ok.mod,I.ok.kind,I.ok.glob,I.ok.blt,I.ok.above,I.ok.inj,I.ok.has,I.ok.cab,I.ok.hd,I.ok.frames,I.ok.stk,I.ok.exf,I.ok.bs,I.ok.bsz,I.ok.noex,I.ok.exfs,I.ok.Qda,I.ok.frf⟩,I.os,I.bare,I.base,I.loc,I.cell,I.free,I.freeC,λp hp=>I.pin p (by simpa using hp),I.hok,I.len⟩
def _root_.L2.Inv.Qj0{xe:Value->Shared->Prop}{pins':List (Addr×Obj)}(ok:X.Ok)(I:Inv (Cx.chg X xe (X.pn++pins)) pins' σ H s):Inv X pins σ H s:=
 ⟨ok,I.os,I.bare,I.base,I.loc,I.cell,I.free,I.freeC,λp hp=>I.pin p (Zg _ hp),I.hok,I.len⟩
def QzU{sub:Str->Str->Option Bool}{body:List Stmt}{h₀:ExceptHandler}{hds:List ExceptHandler}{hl:List Hd}{f:DS}{fx:DX}{pos:Pos}(hN:X.N.Nodup)(hx:X.ex=[])(hst:X.stack=X.env::X.outer)(hf:X.env.frame=some X.env.locals)(hsub:QqD X.K sub)
  (hb:∀xe pn,PassesOwn (model X.prog X.w) X.A X.env xe->SS (Cx.chg X xe pn) body f/\RzS (Cx.chg X xe pn) body fx) (hh:QfF X (h₀::hds) hl):S1 X (.Try body (h₀::hds) [] [] pos) (QgN f fx sub hl):=λH0 A0 pins s σ H Dd I=>exK λU hs F o rel e q=>by
 refine wpAny_Try_except ?_;have pass:PassesOwn (model X.prog X.w) X.A X.env (λe s₁=>wpAny (model X.prog X.w) X.A (noteFrame e X.env) (λ_ s₂=>wpAny (model X.prog X.w) X.A (setFlight e none) (λ_ s₃=>wpAny (model X.prog X.w) X.A (handleBy e X.env (h₀::hds)) (SP X pins Dd) X.xe s₃) X.xe s₂) X.xe s₁):=PassesOwn.looking;obtain⟨b1,b2⟩:=hb _ (X.pn++pins) pass;unfold QgN at e;split at e
 .rename_i o' eo;cases e;refine thn (b1 H0 A0 [] s σ H Dd I.chg ⟨U,hs,F,o,rel,eo,q⟩) λfl s1 hq=>?_;cases fl with
  | next=>obtain⟨σ',H',I1,q1⟩:=hq;exact wpAny_execs_nil ⟨σ',H',I1.Qj0 I.ok,q1⟩
  | brk=>obtain⟨σ',H',I1,q1⟩:=hq;exact⟨σ',H',I1.Qj0 I.ok,q1⟩
  | cont=>obtain⟨σ',H',I1,q1⟩:=hq;exact⟨σ',H',I1.Qj0 I.ok,q1⟩
  | ret u=>obtain⟨v,σ',H',I1,r1,q1⟩:=hq;exact⟨v,σ',H',I1.Qj0 I.ok,r1,q1⟩
 .obtain⟨⟨x,U'⟩,e1,e⟩:=bind1 e;refine thn (b2 H0 A0 [] s σ H ⟨λ_ _=>False,λ_ _=>False,λ_ _=>False,λ_ _=>False⟩ I.chg ⟨U,hs,F,x,U',rel,e1,λC ea s' hC T=>?_⟩) λfl s1 hq=>?_
  .refine Qpa (X:=Cx.chg X _ (X.pn++pins)) (E:=X.xe) (Qk:=λs₃=>wpAny (model X.prog X.w) X.A (handleBy (.ref ea) X.env (h₀::hds)) (SP X pins Dd) X.xe s₃) T hx hst hf λpins' σ' H' F' s'' rel' I' fly=>?_;obtain⟨B,a0,fl,cov,old,pb⟩:=fly;exact QrZ hN hx hsub hC hh (I'.Qj0 I.ok) rel' ⟨B,a0,fl,cov,old,λp hp=>pb p (Zg _ hp)⟩ e q
  .cases fl with
   | next=>obtain⟨σ',H',I1,q1⟩:=hq;exact q1.elim
   | brk=>obtain⟨σ',H',I1,q1⟩:=hq;exact q1.elim
   | cont=>obtain⟨σ',H',I1,q1⟩:=hq;exact q1.elim
   | ret u=>obtain⟨v,σ',H',I1,r1,q1⟩:=hq;exact q1.elim
end
end HS
namespace HS
open PySem PySem.Spec L2 PyProof.Rows PySem.W
structure QgF (K:Frag) (C:Addr):Prop where
 cl:(clsIn K C).isSome=true
 ga:findIn K (.ref C) "__getattribute__" =some (some (.builtin "BaseException.__getattribute__"))
 hk:findIn K (.ref C) "__getattr__" =some none
 ca:findIn K (.ref C) "__class__" =some (some (.builtin "object.__class__"))
 mo:mroIn K C (.type "object")=some true
 be:subIn K (.ref C) (.type "BaseException")=some true
section
variable {prog:Program}{w:World}{A:Around}{E:Value->Shared->Prop}{s:Shared}{K:Frag}{a C:Addr}
def QhL{M:Model}{h:Heap}(x:QcX a C h):Looks M h (typeOf (.ref a)) (.ref C):=by
 obtain⟨o,vs,e,c,_⟩:=x;exact c▸(Looks.ld e).andThen .now
def QxM{R:Result->Shared->Prop}{tp:Value}(z:QgF K C)(X:K.In s.heap)(x:QcX a C s.heap)(h:R (.ok (.ret (.ref C))) s):
  codeAny (model prog w) A (.call (.builtin "getset_descriptor.__get__") ⟨[.builtin "object.__class__",.ref a,tp],[]⟩) R s:=by
 obtain⟨hh,g,dr,t,os⟩:=s;have T0:=QhL (M:=model prog w) x;have T1:=looks_mroIn (M:=model prog w) X z.mo
 refine codeAny_call_builtin KF.slot_gs.plain KF.entry_gs
  (KF.slot_gs.check _ _ _ _ _ _ _ _ KF.type_class (KF.args_gs _ _ _) ?_)
 unfold Builtin.«getset_descriptor.__get__» Builtin.Getset_descriptor.descrGet;rw[dga_obj];refine wpAny_bind (wpAny_pure ?_)
 unfold Builtin.Getset_descriptor.descrGetter Builtin.Getset_descriptor.descrCheckInstance
  Builtin.Getset_descriptor.descrNameAndClass isInstance
 simp only[KF.owner_class]
 repeat lk
 refine⟨Code.quiet_builtin _ nofun,
  codeAny_builtin KF.entry_class ?_⟩
 unfold Builtin.«object.__class__» shownTypeOf;repeat lk
 exact h
def QsV{tk:Tok}{Q:Fin->Shared->Prop}(z:QgF K C)(X:K.In s.heap)(x:QcX a C s.heap)(h:Q (.done (.ret (.ref C))) s):
  wpAny (model prog w) A (Builtin.«object.__getattribute__» ⟨[.ref a,.str "__class__" tk],[]⟩) Q E s:=by
 obtain⟨hh,g,dr,t,os⟩:=s;have T0:=QhL (M:=model prog w) x;have T1:=looks_findIn (M:=model prog w) X z.ca;have f5:=F.typeOf_object_class;have f6:=F.slot_gs_get.lookup;have f7:=F.slot_gs_set.lookup;obtain⟨o,vs,hx,hc,hd⟩:=id x;have hT5:(⟨hh,g,dr,t,os⟩:Shared).TypeIs (.builtin "object.__class__") "getset_descriptor" :=f5
 repeat (any_goals (first | assumption | (with_reducible refine wpAny_loadPart_at hx ?_;rw[hc]) | with_reducible refine T1.at ?_ | wp_step))
 refine QxM z X x ?_
 repeat (any_goals (first | assumption | wp_step))
def Qtk{M:Model}{nameV:Value}{Q:Unit->Shared->Prop}(z:QgF K C)(X:K.In s.heap)(x:QcX a C s.heap)(h:Q () s):wpAny M A (checkBuiltinCall "BaseException.__getattribute__" ⟨[.ref a,nameV],[]⟩) Q E s:=by
 obtain⟨hh,g,dr,t,os⟩:=s;have k1:builtinKind "BaseException.__getattribute__" =some .slot:= nofun
 have k2:splitId "BaseException.__getattribute__" =some ("BaseException","__getattribute__"):= nofun
 have T0:=QhL (M:=M) x;have T1:=looks_subIn (M:=M) X z.be;have T2:Looks M hh (isInstance (.ref a) (.type "BaseException")) true:=T0.andThen T1;have k3:=F.args_bexc_ga (.ref a) nameV;simp only[checkBuiltinCall,k1,k2];refine wpAny_bind (T2.at ?_);rw[if_neg ∅];have k4:Q () ⟨hh,g,dr,t,os⟩:=h
 repeat (any_goals (first | assumption | wp_step))
def Qzg{tk:Tok}{Q:Value->Shared->Prop}(z:QgF K C)(X:K.In s.heap)(x:QcX a C s.heap)(h:Q (.ref C) s):wpAny (model prog w) A (getAttrBy (.ref a) (.str "__class__" tk) false) Q E s:=by
 obtain⟨hh,g,dr,t,os⟩:=s;have T0:=QhL (M:=model prog w) x;have T1:=looks_findIn (M:=model prog w) X z.ga;have T2:=looks_findIn (M:=model prog w) X z.hk;have f3:=PySem.F.attr_ValueError.ga.bind (.ref a);have n2:(Value.builtin "BaseException.__getattribute__" == Value.builtin "object.__getattribute__")=false:= nofun
 have n1:(onTheHeap (Value.ref C) && Value.builtin "BaseException.__getattribute__" == Value.builtin "object.__getattribute__")=false:=by rw[n2];rfl
 obtain⟨o,vs,hx,hc,hd⟩:=id x
 repeat (any_goals (first | assumption | (with_reducible refine wpAny_loadPart_at hx ?_;rw[hc]) | with_reducible refine T1.at ?_ | with_reducible refine T2.at ?_ | wp_step))
 refine codeAny_call_builtin PySem.F.attr_ValueError.ga.plain F.entry_bexc_ga (Qtk z X x (QsV z X x ?_));have k4:Q (.ref C) ⟨hh,g,dr,t,os⟩:=h
 repeat (any_goals (first | assumption | wp_step))
def Qt9{Q:Option Value->Shared->Prop}(z:QgF K C)(X:K.In s.heap)(x:QcX a C s.heap)(h:Q (some (.ref C)) {s with toks:=s.toks+1}):wpAny (model prog w) A (getAttr? (.ref a) "__class__") Q E s:=by
 obtain⟨hh,g,dr,t,os⟩:=s;have k4:Q (some (.ref C)) ⟨hh,g,dr,t+1,os⟩:=h;have X':K.In (⟨hh,g,dr,t+1,os⟩:Shared).heap:=X;have x':QcX a C (⟨hh,g,dr,t+1,os⟩:Shared).heap:=x;unfold getAttr? getAttrBy?
 repeat (any_goals (first | assumption | with_reducible apply Qzg z X' x' | wp_step))
def Qn4(z:QgF K C):KitX K (.ref a) (.ref C) (QcX a C) where
 ty:=λ_ _ _ x=>QhL x
 it:=λ_ _ X _=>by
  have h0:=z.cl;unfold clsIn at h0;split at h0
  .rename_i ho;intro A' Q' E' s' k q;unfold isType loadHead;refine wpAny_bind ?_;exact wpAny_loadPart (k _ _ (X _ _ ho)) (wpAny_pure q)
  .cases h0
 ne:=λh tp dd its n sl X htp=>by
  have h0:=z.cl;refine Bool.eq_false_iff.mpr λq=>?_;obtain rfl:C=tp:=Value.ref.inj (beq_iff_eq.mp q);unfold clsIn at h0;split at h0
  .rename_i ho;have e:=X _ _ ho;rw[htp]at e;cases e
  .cases h0
 ca:=λX x k=>Qt9 z X x k
end
end HS
namespace HS
open PySem PySem.Spec L2 PyProof.Rows
def Qwo(K:Fgg)(x y:Str)(b:Bool):Prop:=∃C c,ClsAt K x C/\PySem.W.KtsName K y c/\PySem.W.exmOne K (.ref C) c=some b/\PySem.W.kitOne K (.ref C) c=some b/\QgF K C
def QbS(K:Fgg)(sub:Str->Str->Option Bool):Prop:=∀x y b,sub x y=some b->Qwo K x y b
def QbS.ok{K:Fgg}{sub:Str->Str->Option Bool}(h:QbS K sub):QqD K sub:=λx y b e=>by
 obtain⟨C,c,h1,h2,h3,_⟩:=h x y b e;exact⟨C,c,h1,h2,h3⟩
noncomputable def vC:Value->V
 | .ref a=> .ref a
 | .type n=> .ty n
 | _=> .non
def Qtr{K:Fgg}{C:Addr}{c:Value}{b:Bool}(h:PySem.W.kitOne K (.ref C) c=some b):RelV (vC c) c:=by
 cases c with
 | ref a=>exact rfl
 | type n=>exact rfl
 | _=>
  unfold PySem.W.kitOne at h;split at h
  .rename_i q;have:=beq_iff_eq.mp q;cases this
  .cases h
noncomputable def anyS(sub:Str->Str->Option Bool)(x:Str):List Str->Option Bool
 | []=>some false
 | y::r=>(sub x y).bind λb=>(anyS sub x r).map λd=>b || d
noncomputable def QgX(sub:Str->Str->Option Bool)(ys:List Str)(fa:DE):DE:=λU=>(fa U).bind λr=>match r.d with
 | .exc x=>(anyS sub x ys).map λb=>⟨.bl b,true,[]⟩
 | _=>none
section
variable {X:Cx}{a:Expr}{fa:DE}{p p2 pos:Pos}{sub:Str->Str->Option Bool}
def QCi(K:Fgg):List V->Hp->VK->Prop:=λxs H Q=>∃C a y,xs=[.ref a,y]/\H a=some (.ext (QcX a C))/\QgF K C∧
 ((∃c b,y=vC c/\PySem.W.kitOne K (.ref C) c=some b/\Q (.bl b) H)∨∃tp cs b,y= .ref tp/\H tp=some (.tup (cs.map vC))/\(∀c∈cs,RelV (vC c) c)/\PySem.W.kitAny K (.ref C) cs=some b/\Q (.bl b) H)
def Qnr{v:V}{c c':Value}(hv:v=vC c)(h:RelV (vC c) c)(h':RelV v c'):c'=c:=by
 subst hv;cases c with
 | ref a=>exact h'
 | type n=>exact h'
 | none=>cases h';rfl
 | _=>cases h
def QnO:∀{cs:List Value}{us:List Value},(∀c∈cs,RelV (vC c) c)->Qz (cs.map vC) us->us=cs
 | [],_,_,.nil=>rfl
 | c::cs,_,h,.cons r t=>by
  rw[Qnr rfl (h c Ze) r,QnO (λc hc=>h c (Zb _ hc)) t]
def Quo:Qb6 X (.builtin "isinstance") (QCi X.K):=by
 intro pins s σ H xs us Q I r h;obtain⟨C,a,y,rfl,hH,z,h⟩:=h;obtain⟨u,w,rfl,ru,rw'⟩:=vals2 r;cases(show u=Value.ref a from ru);have xo:QcX a C s.heap:=(show QaH X.prog X.w H s.heap a (.ext (QcX a C))from I.hok a _ hH).1;rcases h with⟨c,b,rfl,k,q⟩ | ⟨tp,cs,b,rfl,ht,hr,k,q⟩
 .cases Qnr rfl (Qtr k) rw';exact ZaY (Qn4 z) I.kIn xo k (λz=>nomatch z) λtk=>⟨.bl b,H,I.tok _,rfl,q⟩
 .cases(show w=Value.ref tp from rw');obtain⟨_,its,rv,o,e1,e2,n,e3⟩:=(show QaH X.prog X.w H s.heap tp (.tup (cs.map vC))from I.hok tp _ ht);have hits:=QnO hr rv;subst hits;obtain⟨oc,od,odat,osl⟩:=o;dsimp only at e2 e3;subst e2 e3;exact PySem.W.kia_tup (Qn4 z) I.kIn xo e1 k (λz=>nomatch z) λtk=>⟨.bl b,H,I.tok _,rfl,q⟩
def QzN{y:Str}{c:Value}{np:Pos}(hg:Gl X y)(hdb:(y == ("__debug__" :Str))=false)(k:PySem.W.KtsName X.K y c)(hr:RelV (vC c) c):PE X (.Name y np) (tC (vC c)):=λpins s σ H Q I h=>Qr2 I hg hdb k ⟨vC c,H,I,hr,h⟩
def Qwr{y:Str}(hsub:QbS X.K sub)(hg:Gl X "isinstance")(hm:X.mg "isinstance" =none)(hy:Gl X y)(hdb:(y == ("__debug__" :Str))=false)(ha:SE X a fa)(he:starEach [a,.Name y p2] X.env=(false,eval a X.env)::starEach [.Name y p2] X.env):
  SE X (.Call (.Name "isinstance" p) [a,.Name y p2] [] pos) (QgX sub [y] fa):=λH0 A0 pins s σ H Q I=>exK λU hs F r' rel e q=>by
 refine Qg e λr e1 e=>?_;split at e
 .rename_i x hd;obtain⟨b,eb,rfl⟩:=Zh.mp e;have eb':sub x y=some b:=by
   unfold anyS at eb;refine Qg eb λb' h1 h2=>?_;cases b' with
   | true=>cases h2;exact h1
   | false=>cases h2;exact h1
  obtain⟨C,c,k1,k2,k3,k4,k5⟩:=hsub x y b eb';refine QgE Quo hg hm ZbS (Qax (ha H0 A0) (Qax (QzN hy hdb k2 (Qtr k4)) QcM) he) ∅ ∅ he (by rfl) pins s σ H Q I ?_;refine⟨U,hs,F,r,rel,e1,λv H1 G p=>?_⟩;have rp:=p.rp;rw[hd,Rp]at rp;obtain⟨⟨ea,rfl,C',hC',hH⟩,rfl⟩:=rp;cases Qg4 k1 hC';exact⟨C,ea,_,rfl,hH,k5,.inl ⟨c,b,rfl,k4,q _ H1 [] (.flat p.same .Qbs)⟩⟩
 .cases e
end
def Qfx(X:Cx)(hΓ:List (Str×FnR)):Prop:=True
def Qfx.inH{X:Cx}{hΓ:List (Str×FnR)}{ea:Addr}(h:Qfx X hΓ):Qfx (HS.inH X ea) hΓ:=h
def QlI(P:Program)(w:World)(K:Fgg)(mg:Str->Option Value)(base:Heap)(k:Nat)(Γ:List (Str×FnR)):Prop:=True
def QlI.nil{P:Program}{w:World}{K:Fgg}{mg:Str->Option Value}{base:Heap}{k:Nat}:QlI P w K mg base k []:=trivial
def QAF{X:Cx}{hΓ:List (Str×FnR)}{k:Nat}(hr:QaQ k X.A)(t:QlI X.prog X.w X.K X.mg X.base k hΓ):Qfx X hΓ:=trivial
noncomputable def Qyt:Const->Option DE
 | .bool b=>some (dC (.bl b))
 | _=>none
noncomputable def QB9:List Expr->Option (Expr×Expr)
 | [a,y]=>some (a,y)
 | _=>none
noncomputable def QzT(Y:Th):Expr->Option (List Str)
 | .Name y _=>if Y.gl y=true then some [y]else none
 | _=>none
mutual
noncomputable def Qen(n:Nat)(Y:Th)(sub:Str->Str->Option Bool)(hΓ:List (Str×FnR))(e:Expr):Option DE:=match n with
 | 0=>none
 | n+1=>match e with
  | .Name x _=>(Y.slot x).map Qf
  | .Constant v _ _=>Qyt v
  | .UnaryOp o a _=>match o with
   | .Not=>(Qen n Y sub hΓ a).map QhM
   | _=>none
  | .BoolOp o es p=>match es with
   | []=>none
   | a::r=>match r with
    | []=>Qen n Y sub hΓ a
    | b::r=>match o with
     | .And=>(Qen n Y sub hΓ a).bind λfa=>(Qen n Y sub hΓ (.BoolOp .And (b::r) p)).map λfb=>Qb0 fa fb
     | .Or=>none
  | .Call f as kw _=>match kw with
   | _::_=>none
   | []=>(Qc7 f).bind λx=>if Y.gl x=true then if x= "isinstance" then(QB9 as).bind λp=>(QzT Y p.2).bind λys=>(Qen n Y sub hΓ p.1).map λfa=>QgX sub ys fa
    else none
    else none
  | _=>none
end
def QAB{n:Nat}{Y:Th}{sub:Str->Str->Option Bool}{hΓ:List (Str×FnR)}{e:Expr}{f:DE}(h:Qen n Y sub hΓ e=some f)(es:List Expr)(env:Env):starEach (e::es) env=(false,eval e env)::starEach es env:=by
 cases n with
 | zero=>exact nn h
 | succ n=>cases e<;>first | rfl | exact nn h
def QCb{X:Cx}{Y:Th}{sub:Str->Str->Option Bool}{a e:Expr}{fa:DE}{ys:List Str}{p pos:Pos}(ok:CtxB X Y)(hs:QbS X.K sub)(g1:Y.gl "isinstance" =true)(h:QzT Y e=some ys)(ha:SE X a fa)(he:starEach [a,e] X.env=(false,eval a X.env)::starEach [e] X.env):SE X (.Call (.Name "isinstance" p) [a,e] [] pos) (QgX sub ys fa):=by
 obtain⟨a1,a2,a3⟩:=QcP ok g1;cases e with
 | Name y p2=>
  change(if Y.gl y=true then some [y]else none)=some ys at h;split at h
  .rename_i g2;cases h;obtain⟨b1,b2,b3⟩:=QcP ok g2;exact Qwr hs a1 (ok.mg _ nofun) b1 b2 ha he
  .cases h
 | _=>exact nomatch (show(none:Option (List Str))=some _ from h)
structure QzF (n:Nat):Prop where
 E:∀X Y sub hΓ e f,CtxB X Y->QbS X.K sub->Qfx X hΓ->Qen n Y sub hΓ e=some f->SE X e f
def Qym{n:Nat}(ih:QzF n)(X:Cx)(Y:Th)(sub:Str->Str->Option Bool)(hΓ:List (Str×FnR))(e:Expr)(f:DE)(ok:CtxB X Y)(hs:QbS X.K sub)(hu:Qfx X hΓ)(h:Qen (n+1) Y sub hΓ e=some f):SE X e f:=by
 have ihE:=λe f=>ih.E X Y sub hΓ e f ok hs hu;cases e with
 | Name x p=>exact mapR (show Option.map _ _=some _ from h) λi h1=>QrD (Qik ok h1)
 | Constant v k p=>
  change Qyt v=some f at h;cases v with
  | bool b=>cases h;exact QhA QmK (λ_ _=> .Qbs) rfl
  | _=>exact nn h
 | UnaryOp o a p=>
  cases o with
  | Not=>exact mapR (show Option.map _ _=some _ from h) λfa h1=>Qst (ihE _ fa h1)
  | _=>exact nn h
 | BoolOp o es p=>
  cases es with
  | nil=>exact nn h
  | cons a r=>
   cases r with
   | nil=>exact Qot (ihE _ f h)
   | cons b r=>
    cases o with
    | And=>exact bindR h λfa fb h1 h2=>Qrs (ihE _ fa h1) (ihE _ fb h2)
    | Or=>exact nn h
 | Call fn as kw p=>
  cases kw with
  | cons _ _=>exact nn h
  | nil=>
   refine Qg (show(Qc7 fn).bind _=some _ from h) λx hx h=>QmA (G:=λt=>SE X (.Call t as [] p) f) hx λnp=>?_;split at h
   .rename_i hg;split at h
    .rename_i hi;subst hi;refine Qg h λq hq h=>?_;rcases as with _ | ⟨a,_ | ⟨y,_ | ⟨z,as⟩⟩⟩
     .cases hq
     .cases hq
     .cases hq;exact bindR h λys fa h1 h2=>QCb ok hs hg h1 (ihE _ fa h2) (QAB h2 _ _)
     .cases hq
    .cases h
   .cases h
 | _=>exact nn h
def Qv9:∀n,QzF n
 | 0=>⟨λ_ _ _ _ _ _ _ _ _ h=>nomatch (show(none:Option DE)=some _ from h)⟩
 | n+1=>⟨Qym (Qv9 n)⟩
noncomputable def Qtf(Y:Th)(sub:Str->Str->Option Bool)(hΓ:List (Str×FnR))(st:Stmt):Option DS:=match st with
 | .Assign ts e _=>(QuP ts).bind λx=>(Y.QbC x).bind λi=>if Qh0 e=false/\Qge e=true then(Qen 20 Y sub hΓ e).map λfa=>Qp i fa else none
 | _=>none
def Qsh{X:Cx}{Y:Th}{sub:Str->Str->Option Bool}{hΓ:List (Str×FnR)}{st:Stmt}{f:DS}(ok:CtxB X Y)(hs:QbS X.K sub)(hu:Qfx X hΓ)(h:Qtf Y sub hΓ st=some f):S1 X st f:=by
 cases st with
 | Assign ts e p=>
  refine Qg (show(QuP ts).bind _=some _ from h) λx hx h'=>?_;clear h;rcases ts with _ | ⟨t,_ | ⟨t2,ts⟩⟩
  .cases hx
  .refine QmA (G:=λt=>S1 X (.Assign [t] e p) f) hx λq=>?_;refine Qg h' λi hi h=>?_;split at h
   .rename_i hc;refine mapR h λfa h1=>?_;obtain⟨a1,a2,a3⟩:=Qck ok hi;exact Qky λH0 A0=>QhU (by rw[ok.N];exact ok.nd) a1 a2 ((Qv9 20).E X Y sub hΓ _ fa ok hs hu h1 H0 A0) (Qfo hc.2) a3
   .cases h
  .cases hx
 | _=>exact nn h
noncomputable def QnS(Y:Th)(sub:Str->Str->Option Bool)(hΓ:List (Str×FnR)):List Stmt->Option DS
 | []=>some Qh
 | st::r=>(Qtf Y sub hΓ st).bind λf=>(QnS Y sub hΓ r).map λg=>Qb f g
def Ql5{X:Cx}{Y:Th}{sub:Str->Str->Option Bool}{hΓ:List (Str×FnR)}(ok:CtxB X Y)(hs:QbS X.K sub)(hu:Qfx X hΓ):∀(sts:List Stmt) (f:DS),QnS Y sub hΓ sts=some f->SS X sts f
 | [],f,h=>by cases(show some Qh=some f from h);exact Qrt
 | st::r,f,h=>bindR h λf g h1 h2=>Qpq (Qsh ok hs hu h1) (Ql5 ok hs hu r g h2)
noncomputable def hd1(Y:Th)(y:Str)(f:DS):Option Str->Option Hd
 | none=>some (y,none,f)
 | some nm=>if look nm Y.sc=some .local then(Y.QbC nm).map λi=>(y,some i,f)else none
noncomputable def QnT(Y:Th)(sub:Str->Str->Option Bool)(hΓ:List (Str×FnR)):List ExceptHandler->Option (List Hd)
 | []=>some []
 | .ExceptHandler t nm bs _::r=>match bs with
  | []=>none
  | b::bs=>t.bind λt=>(Qc7 t).bind λy=>if Y.gl y=true then(QnS Y sub hΓ (b::bs)).bind λf=>(hd1 Y y f nm).bind λq=>(QnT Y sub hΓ r).map λl=>q::l else none
def QuN{X:Cx}{Y:Th}{ea:Addr}(ok:CtxB X Y):CtxB (inH X ea) Y:=⟨ok.N,ok.nd,ok.lc,ok.ce,ok.fe,ok.gl,ok.units,ok.mg,ok.cs⟩
def Ql2{X:Cx}{Y:Th}{sub:Str->Str->Option Bool}{hΓ:List (Str×FnR)}(ok:CtxB X Y)(hs:QbS X.K sub)(hu:Qfx X hΓ):∀(hds:List ExceptHandler) (hl:List Hd),QnT Y sub hΓ hds=some hl->QfF X hds hl
 | [],f,h=>by cases(show some []=some f from h);exact .nil
 | .ExceptHandler t nm bs p::r,l,h=>by
  cases bs with
  | nil=>exact nomatch (show(none:Option (List Hd))=some _ from h)
  | cons b bs=>
   refine Qg (show t.bind _=some _ from h) λt ht h=>?_;cases ht;refine Qg h λy hy h=>QmA (G:=λt=>QfF X (.ExceptHandler (some t) nm (b::bs) p::r) l) hy λnp=>?_;split at h
   .rename_i hc;obtain⟨g1,g2,_⟩:=QcP ok hc;refine Qg h λf h1 h=>?_;refine bindR h λq l hq h2=>?_;have hS:=λea=>Ql5 (QuN (ea:=ea) ok) hs hu.inH _ f h1;have tl:=Ql2 ok hs hu r l h2;cases nm with
    | none=>cases(show some (y,none,f)=some q from hq);exact .bare g1 g2 hS tl
    | some nm=>
     change(if look nm Y.sc=some .local then(Y.QbC nm).map λi=>(y,some i,f)else none)=some q at hq;split at hq
     .rename_i hn;refine mapR (M:=λq=>QfF X (.ExceptHandler (some (.Name y np)) (some nm) (b::bs) p::r) (q::l)) hq λi hi=>?_;obtain⟨a1,a2,a3⟩:=Qck ok hi;exact .as g1 g2 a1 (ok.lc nm hn) hS tl
     .cases hq
   .cases h
noncomputable def QtJ(n:Nat)(Y:Th)(YX:ThX)(sub:Str->Str->Option Bool)(hΓ:List (Str×FnR))(st:Stmt):Option DS:=match st with
 | .Try body (h::hs) [] [] _=>(QaN n Y body).bind λf=>(Qe9 n Y YX body).bind λfx=>(QnT Y sub hΓ (h::hs)).map λhl=>QgN f fx sub hl
 | _=>none
def Qw0{X:Cx}{Y:Th}{xe:Value->Shared->Prop}{pn:List (Addr×Obj)}(ok:QY X Y)(ht:∀st f,Y.tr st=some f->∀X,S1 X st f)(hte:∀e f,Y.te e=some f->∀X,SE X e f)(hp:PassesOwn (model X.prog X.w) X.A X.env xe):QY (Cx.chg X xe pn) Y:=
 ⟨⟨ok.N,ok.nd,ok.lc,ok.ce,ok.fe,ok.gl,ok.units,ok.mg,ok.cs⟩,ok.calm,hp,ok.fns,λst f h=>ht st f h _,λe f h=>hte e f h _⟩
def Qwh{X:Cx}{Y:Th}{YX:ThX}{sub:Str->Str->Option Bool}{hΓ:List (Str×FnR)}{n:Nat}{st:Stmt}{f:DS}(ok:QY X Y)(ht:∀st f,Y.tr st=some f->∀X,S1 X st f)(hte:∀e f,Y.te e=some f->∀X,SE X e f)(xk:XOk X YX)(hs:QbS X.K sub)(hu:Qfx X hΓ)(h:QtJ n Y YX sub hΓ st=some f):S1 X st f:=by
 unfold QtJ at h;split at h
 .rename_i body h0 hds pos;refine Qg h λfb h1 h=>?_;obtain⟨fx,hl,h2,h3,rfl⟩:=QaZ h;have hN:X.N.Nodup:=by rw[ok.N];exact ok.nd
  refine QzU hN xk.ex xk.stk xk.fr hs.ok (λxe pn hp=>?_) (Ql2 ok.toCtxB hs hu _ hl h3);have ok':=Qw0 (pn:=pn) ok ht hte hp;have xk':XOk (Cx.chg X xe pn) YX:=⟨xk.ex,xk.stk,xk.fr,xk.fx,xk.cl⟩;exact⟨(Qj7 n).Ss _ _ _ fb ok' h1,(Qqv n).Xs _ _ _ _ fx ok' xk' h2⟩
 .cases h
noncomputable def thT(n:Nat)(st:Stmt)(Γ:List (Str×FnR))(cs:List (Str×Cn))(YX:ThX)(sub:Str->Str->Option Bool)(hΓ:List (Str×FnR)):Th:={QeY st Γ cs with tr:=QtJ n (QeY st Γ cs) YX sub hΓ}
section
variable {P:Program}{w:World}{K:Fgg}{mg:Str->Option Value}{base:Heap}
def QpP{h:Heap}{x:Str}{st:Stmt}{ps:List Str}{k n m:Nat}{Γ:List (Str×FnR)}{Γx:List (Str×(Nat×(List D->Option Str)))}{cls:List Str}{cs:List (Str×Cn)}{sub:Str->Str->Option Bool}{hΓ:List (Str×FnR)}{g:DS}(X:K.In h)(G:h.Ns mainGlobals mg)(F:Fact K x st)(S:QbM (namesOf (Qr st)) ps (Qr st))(B:Qba x st ps)(M:QdN mg cs)(tab:QbD P w K mg base k Γ)(tabx:Qee P w K mg base k Γx)
  (hcl:∀x∈cls,Qhd K x) (hs:QbS K sub) (tabh:QlI P w K mg base k hΓ) (hc:QaN n (thT m st Γ cs ⟨Γx,cls⟩ sub hΓ) (QaR st)=some g):Known P w K mg base (k+1) x ⟨ps.length,[],Qu (namesOf (Qr st)).length g⟩:=by
 obtain⟨f,fd,Fn,a⟩:=F.ex;refine⟨f,fd,ps,?_,Zbb X G a,Fn.kp,λm hm=>⟨[],[],Fn.binds (B ·),.nil,λH=>by simp[Rps]⟩⟩;refine Fn.ok S (Qpn rfl) λcdv A outer s H vs Q E hr h=>?_;obtain⟨ds,L,d,fr,rps,hl,hd,q⟩:=h;have ok:=QrK (P:=P) (w:=w) (K:=K) (base:=base) (qual:=x) (f:=f) (outer:=outer) (H:=H) (E:=E) S M tab hr;have xk:XOk (Qec CX0 P w K mg base (namesOf (Qr st)) x (Qr st) f cdv A outer s H E).nox ⟨Γx,cls⟩:=⟨rfl,rfl,rfl,λz r e=>by
  obtain⟨f',fd',ps',h1,h2,h3,h4,h5⟩:=tabx z r e;exact⟨k,f',fd',ps',h1,hr,h2,h3,h4,h5⟩,hcl⟩
 have ok2:QY (Qec CX0 P w K mg base (namesOf (Qr st)) x (Qr st) f cdv A outer s H E).nox (thT m st Γ cs ⟨Γx,cls⟩ sub hΓ):=
  ⟨⟨ok.N,ok.nd,ok.lc,ok.ce,ok.fe,ok.gl,ok.units,ok.mg,ok.cs⟩,ok.calm,ok.pass,ok.fns,λst' f' h'=>Qwh ok (λ_ _ h=>(nomatch h)) (λ_ _ h=>(nomatch h)) xk hs (QAF hr tabh) h',λ_ _ h=>(nomatch h)⟩
 refine⟨_,(Qj7 n).Ss _ _ _ g ok2 hc H L,?_⟩;obtain⟨F0,rel⟩:=QhV (N:=namesOf (Qr st)) rps;unfold Qu at hd;refine Qg hd λo ho hd=>?_;refine⟨_,[],F0,o,rel,ho,?_⟩;cases o with
 | nx U=>
  cases hd;exact λσ H' F' rel'=>q .non H' [] ⟨rel'.same,.QkN,λa ha=>by simp at ha,λ_=>⟨ZaJ,rfl,λa ha=>by simp at ha⟩⟩
 | bk U=>cases hd
 | ct U=>cases hd
 | rt d' fr'=>
  cases hd;exact λv H' G r=>q v H' G r
end
end HS
namespace HS
open PySem PySem.Spec L2 PyProof.Rows
section
variable {K:Fgg}{x y:Str}{C C':Addr}{v:Bool}
def QxZ(a:PySem.W.nsIn K mainGlobals x=some (some (.ref C)))(b:PySem.W.excIn K C [.type "ValueError",.type "Exception",.type "BaseException",.type "object"] "ValueError.__new__" =true):Qhd K x:=⟨⟨C,a,b⟩⟩
def XK1(K:Fgg)(x:Str):Prop:=∃C,ClsAt K x C/\QgF K C
def QAt(a:PySem.W.nsIn K mainGlobals x=some (some (.ref C)))(h1:PySem.W.isClsIn K C=true)(h2:PySem.W.findIn K (.ref C) "__getattribute__" =some (some (.builtin "BaseException.__getattribute__")))(h3:PySem.W.findIn K (.ref C) "__getattr__" =some none)
  (h4:PySem.W.findIn K (.ref C) "__class__" =some (some (.builtin "object.__class__"))) (h5:PySem.W.mroIn K C (.type "object")=some true) (h6:PySem.W.subIn K (.ref C) (.type "BaseException")=some true):XK1 K x:=⟨C,a,h1,h2,h3,h4,h5,h6⟩
def Qmy(K:Fgg)(x y:Str)(b:Bool):Prop:=∃C c,ClsAt K x C/\PySem.W.KtsName K y c/\PySem.W.exmOne K (.ref C) c=some b/\PySem.W.kitOne K (.ref C) c=some b
def QvA(a:PySem.W.nsIn K mainGlobals x=some (some (.ref C)))(b:PySem.W.nsIn K mainGlobals y=some (some (.ref C')))(c:PySem.W.exmOne K (.ref C) (.ref C')=some v)(d:PySem.W.kitOne K (.ref C) (.ref C')=some v):Qmy K x y v:=⟨C,_,a,.inl b,c,d⟩
def Qxq(a:PySem.W.nsIn K mainGlobals x=some (some (.ref C)))(b:PySem.W.nsIn K mainGlobals "ValueError" =some none)(c:PySem.W.exmOne K (.ref C) (.type "ValueError")=some v)(d:PySem.W.kitOne K (.ref C) (.type "ValueError")=some v):Qmy K x "ValueError" v:=
 ⟨C,_,a,.inr ⟨b,PyProof.Rows.Boot.«ValueError»,∅⟩,c,d⟩
def QlH(K:Fgg)(x:Str):List (Str×Bool)->Prop
 | []=>True
 | q::r=>Qmy K x q.1 q.2/\QlH K x r
def SubL(K:Fgg):List (Str×List (Str×Bool))->Prop
 | []=>True
 | q::r=>(XK1 K q.1/\QlH K q.1 q.2)/\SubL K r
noncomputable def QvP(tab:List (Str×List (Str×Bool))):Str->Str->Option Bool:=λx y=>(look x tab).bind λr=>look y r
def Qi5{α:Type}:∀{x:Str}{l:List (Str×α)}{a:α},look x l=some a->(x,a)∈l
 | x,[],a,h=>by cases h
 | x,(y,b)::r,a,h=>by
  unfold look at h;split at h
  .rename_i e;cases h;subst e;exact Ze
  .exact Zb _ (Qi5 h)
def QlH.mem:∀{r:List (Str×Bool)},QlH K x r->∀q∈r,Qmy K x q.1 q.2
 | [],_,q,h=>by simp at h
 | p::r,h,q,hq=>by
  rcases Zm.mp hq with rfl | hq
  .exact h.1
  .exact QlH.mem h.2 q hq
def SubL.mem:∀{t:List (Str×List (Str×Bool))},SubL K t->∀q∈t,XK1 K q.1/\QlH K q.1 q.2
 | [],_,q,h=>by simp at h
 | p::r,h,q,hq=>by
  rcases Zm.mp hq with rfl | hq
  .exact h.1
  .exact SubL.mem h.2 q hq
def QwL{tab:List (Str×List (Str×Bool))}(h:SubL K tab):QbS K (QvP tab):=λx y b e=>by
 refine Qg e λr h1 h2=>?_;obtain⟨⟨C,k1,k2⟩,k3⟩:=h.mem _ (Qi5 h1);obtain⟨C',c,m1,m2,m3,m4⟩:=k3.mem _ (Qi5 h2);cases Qg4 k1 m1;exact⟨C,c,k1,m2,m3,m4,k2⟩
def Qzw(K:Fgg):List Str->Prop
 | []=>True
 | x::r=>Qhd K x/\Qzw K r
def Qpx:∀{l:List Str},Qzw K l->∀x∈l,Qhd K x
 | [],_,x,h=>by simp at h
 | y::l,h,x,hx=>by
  rcases Zm.mp hx with rfl | hx
  .exact h.1
  .exact Qpx h.2 x hx
end
end HS
namespace HS
open PySem PySem.Spec L2
def Ap(f:DS)(fx:DX):Prop:=∀U,fx U≠none->f U=none
def ApF(d:Den)(xd:List D->Option Str):Prop:=∀ds,xd ds≠none->d ds=none
def QmE{f:DS}:Ap f xNo:=λU h=>absurd rfl h
def Qjk{x:Str}{fs:DA}:Ap Qx (Qe3 x fs):=λU h=>rfl
def Qkg{f g:DS}{fx gx:DX}(a:Ap f fx)(b:Ap g gx):Ap (Qb f g) (Qcc f fx gx):=λU h=>by
 unfold Qcc at h;unfold Qb;split at h
 .rename_i U' e;rw[e];exact b U' h
 .exact absurd rfl h
 .rename_i e;rw[e];rfl
def QvI{c:DT}{f g:DS}{fx gx:DX}(a:Ap f fx)(b:Ap g gx):Ap (sIf c f g) (xIf c fx gx):=λU h=>by
 unfold xIf at h;unfold sIf;cases e:c U with
 | none=>rfl
 | some v=>
  rw[e,Za]at h;rw[Za];cases v with
  | true=>rw[if_pos rfl]at h ⊢;exact a U h
  | false=>rw[if_neg Zac]at h ⊢;exact b U h
def QwH{n:Nat}{d:Den}{xd:List D->Option Str}{fs:DA}(a:ApF d xd){U:En}(h:QdM n xd fs U≠none):Qo n d [] fs U=none:=by
 unfold QdM at h;unfold Qo;cases e:fs U with
 | none=>rfl
 | some r=>
  rw[e,Za]at h;rw[Za];split at h
  .rename_i hl;rw[if_pos (by simpa using hl),Zas,a r.ds (λz=>h (by rw[z];rfl))];rfl
  .exact absurd rfl h
def Qf2{n:Nat}{d:Den}{xd:List D->Option Str}{fs:DA}(a:ApF d xd):Ap (Qbm (Qo n d [] fs)) (QdM n xd fs):=λU h=>by unfold Qbm;rw[QwH a h];rfl
def QAj{k:Nat}{f:DS}{fx:DX}(a:Ap f fx):ApF (Qu k f) (QgH k fx):=λds h=>by
 unfold QgH at h;unfold Qu;rw[a _ λz=>h (by rw[z];rfl)];rfl
def Qjc(f:DX)(U:En)(x:Str):Prop:=∃U',f U=some (x,U')
def Qvm{x:Str}{fs:DA}{U:En}{r:RA}(h:fs U=some r)(hl:r.ds.length<=1):Qjc (Qe3 x fs) U x:=⟨U,by unfold Qe3;rw[h,Za,if_pos hl]⟩
def QAl{g:DT}{fa fb:DX}{b:Bool}{U:En}{x:Str}(h:g U=some b)(q1:b=true->Qjc fa U x)(q2:b=false->Qjc fb U x):Qjc (xIf g fa fb) U x:=by
 cases b with
 | true=>obtain⟨o,h1⟩:=q1 rfl;exact⟨o,by simp[xIf,h,h1]⟩
 | false=>obtain⟨o,h1⟩:=q2 rfl;exact⟨o,by simp[xIf,h,h1]⟩
def QpG{f:DS}{fx fr:DX}{U:En}{x:Str}(a:Ap f fx)(q:Qjc fx U x):Qjc (Qcc f fx fr) U x:=by
 obtain⟨o,h⟩:=q;exact⟨o,by unfold Qcc;rw[a U (by rw[h];exact λz=>by cases z)];exact h⟩
def QBh{k:Nat}{f:DX}{ds:List D}{x:Str}(h:Qjc f (Qau k ds) x):QgH k f ds=some x:=by
 obtain⟨U,e⟩:=h;unfold QgH;rw[e];rfl
def Quw{f:DS}{fx:DX}{sub:Str->Str->Option Bool}{y:Str}{h:DS}{r:List Hd}{x:Str}{U U':En}{Q:Out->Prop}(a:Ap f fx)(e:fx U=some (x,U'))(hs:sub x y=some true)(q:Run h U' Q):Run (QgN f fx sub ((y,none,h)::r)) U Q:=by
 obtain⟨o,h1,h2⟩:=q;refine⟨o,?_,h2⟩;unfold QgN;rw[a U (by rw[e];exact λz=>by cases z)];dsimp only;rw[e,Za];unfold QmX;rw[hs,Za,if_pos rfl];exact h1
def Qvg{f:DS}{fx:DX}{sub:Str->Str->Option Bool}{y:Str}{i:Nat}{h:DS}{r:List Hd}{x:Str}{U U':En}{Q:Out->Prop}(a:Ap f fx)(e:fx U=some (x,U'))(hs:sub x y=some true)(q:Run h (U'.set i (some (.exc x,true))) λo=>Q (Qyy i o)):Run (QgN f fx sub ((y,some i,h)::r)) U Q:=by
 obtain⟨o,h1,h2⟩:=q;refine⟨_,?_,h2⟩;unfold QgN;rw[a U (by rw[e];exact λz=>by cases z)];dsimp only;rw[e,Za];unfold QmX;rw[hs,Za,if_pos rfl];dsimp only;rw[h1];rfl
end HS
namespace HS
open PySem L2
def Qss{n:Nat}{d:Den}{xd:List D->Option Str}{fs:DA}{U:En}{r:RA}{x:Str}(a:ApF d xd)(h:fs U=some r)(hl:r.ds.length=n)(hx:xd r.ds=some x):Qcc (Qbm (Qo n d [] fs)) (QdM n xd fs) xNo U=some (x,U):=by
 have e:QdM n xd fs U=some (x,U):=by unfold QdM;rw[h,Za,if_pos hl,hx];rfl
 unfold Qcc;rw[Qf2 a U (by rw[e];exact λz=>by cases z)];exact e
def Qko{sub:Str->Str->Option Bool}{ys:List Str}{fa:DE}{U:En}{x:Str}{b:Bool}(h:fa U=some ⟨.exc x,true,[]⟩)(hs:anyS sub x ys=some b):QgX sub ys fa U=some (reT (.bl b)):=by
 unfold QgX;rw[h,Za];dsimp only;rw[hs];rfl
def any_cons{sub:Str->Str->Option Bool}{x y:Str}{ys:List Str}{b c:Bool}(h:sub x y=some b)(t:anyS sub x ys=some c):anyS sub x (y::ys)=some (b || c):=by
 unfold anyS;rw[h,Za,t];rfl
def Qiq{fa fb:DE}{U:En}{a b:Bool}(ha:fa U=some (reT (.bl a)))(hb:fb U=some (reT (.bl b))):Qb0 fa fb U=some (reT (.bl (a && b))):=by
 unfold Qb0;rw[ha,Za];cases a with
 | true=>rw[hb];rfl
 | false=>rfl
def QpK{fa:DE}{U:En}{a:Bool}(ha:fa U=some (reT (.bl a))):QhM fa U=some (reT (.bl (!a))):=by
 unfold QhM;rw[ha];rfl
section
end
def at0(x:D)(xs:List D):atI (x::xs) (0:Int)=some x:=by rw[Qes (show(0:Int)<=0 by decide) ⋯];rfl
def ix0(x:D)(xs:List D):ixN (x::xs).length (0:Int)=some 0:=by rw[Qcq (show(0:Int)<=0 by decide) ⋯];rfl
def Qt8{x:Nat}{xs rs:List D}{fa:DE}{U:En}{v:Int}{Q:Out->Prop}(hx:U[x]? =some (slT (.lst (.lst xs::rs))))(ha:fa U=some (reI v))(hl:xs.length<16777216)(q:Q (.nx (U.set x (slT (.lst (.lst (xs++[.int v])::rs)))))):Run (Qds x (Qcr Qam (dC (.int 0))) fa) U Q:=by
 refine⟨_,?_,q⟩;have hn:(HS.R.mk (.int v) true []).norm=(reI v):=rfl;unfold Qds;rw[hx];have hp:Qcr Qam (dC (.int 0)) U=some [0]:=rfl;have hd:Qa0 (.lst (.lst xs::rs)) [0]=some (.lst xs):=by
  simp only[Qa0,D.items,Za,at0]
 have hu:∀d,QaL [0] (.lst (.lst xs::rs)) d= .lst (d::rs):=λd=>by
  simp only[QaL,ix0];rfl
 simp only[hp,Za,ha,hd,Qid,hn,QdU,hu];simp[hl,kill]
def Qso{x y:Nat}{fa:DE}{U:En}{d:D}{xs:List D}{Q:Out->Prop}(hx:U[x]? =some (slT (.lst xs)))(ha:fa U=some ⟨d,true,[y]⟩)(hf:d.flat=false)(hxy:x≠y)(hl:xs.length<16777216)(q:Q (.nx ((U.set y none).set x (slT (.lst (xs++[d])))))):Run (Qds x Qam fa) U Q:=by
 refine⟨_,?_,q⟩;have hn:(HS.R.mk d true [y]).norm=⟨d,true,[y]⟩:=by unfold R.norm;rw[if_neg (by rw[hf];exact Zac)]
 unfold Qds;rw[hx];simp only[Qam,Za,ha,Qa0,Qid,hn,QdU];simp[hl,kill,QaL,hxy]
def QpM(d:Den):Prop:=∀(m:Nat) (R L:Lpp),m<=8->QaT m R L->d [QM m R L]=some (Qn m m (QU (Qq m (Qj R L))),true)
def Qxy(h:QgL d):QpM d:=λm R L m8 hw=>by
 have hg:=hw.good;exact h m R L ⋯ ⋯ hg.1 hg.2.1
section
variable {m n0:Nat}{T Lf Rt Lb Rb:Mt2}{len:Mt1}
end
def QnV:∀(n:Nat) (m:Mt2),(∀r,r<n->m n r=0)->m n n=1->det (n+1) m=det n m
 | 0,m,_,h=>by show(0:Int)+sgn 0*m 0 0*1=1;rw[h];rfl
 | n+1,m,h0,h1=>by
  show sm (n+1) _+sgn (n+1)*m (n+1) 0*_=sm (n+1) _;rw[h0 0 ⋯,ZW,ZQ,ZaP];refine Qas λj hj=>?_;have e:skp j n=n+1:=by unfold skp;rw[if_neg ⋯]
  rw[QnV n (λc r=>m (skp j c) (r+1)) (λr hr=>by show m (skp j n) (r+1)=0;rw[e];exact h0 (r+1) ⋯) (by show m (skp j n) (n+1)=1;rw[e];exact h1)]
def Qg8(tp:TP m T):∀k,k<=m->0<det k λl r=>0-T l r
 | 0,_=>by show(0:Int)<1;decide
 | k+1,hk=>by
  have ih:=Qg8 tp k ⋯;have big:∀j,j<m->∀r,r<m->(0-T j r).natAbs<=2^200:=λj hj r hr=>by
   have:=tp.bnd j r hj hr;have:(2:Nat)^64<=2^200:=ZP ∅ ∅;lia
  have nz:=Qxc (n:=k+1) (λj hj r hr=>big j ⋯ r ⋯) λk' hk'=>QlB tp k' ⋯;by_cases neg:(det (k+1) λl r=>0-T l r)<0
  .have cr:=λr (hr:r<k+1)=>QkC (λl r=>0-T l r) (λr=>if r=k then(1:Int)else 0) hr;generalize (det (k+1) λl r=>0-T l r)=D at *;have ck:det (k+1) (cup (λl r=>0-T l r) k λr=>if r=k then 1 else 0)=det k λl r=>0-T l r:=by
    rw[QnV k _ (λr hr=>by rw[QR,if_neg ⋯]) (by rw[QR,if_pos rfl])];exact Qbv λj hj r _=>by rw[QJ _ _ ⋯]
   have z:=QnQ (k:=k) tp (c:=λl=>if l<=k then det (k+1) (cup (λl r=>0-T l r) l λr=>if r=k then 1 else 0)else 0) (λl hl=>if_neg ⋯) (λr _ hr=>?_) k ⋯
   .have z:(if k<=k then det (k+1) (cup (λl r=>0-T l r) k λr=>if r=k then 1 else 0)else 0)<=0:=z;rw[if_pos (Zd k),ck]at z;lia
   .have e:=cr r ⋯;have e2:Qv m (λl=>(if l<=k then det (k+1) (cup (λl r=>0-T l r) l λr=>if r=k then 1 else 0)else 0)*T l r)= -(D*if r=k then 1 else 0):=by
     rw[e,← Qcz,Qgv (k:=k+1) ⋯ λi h1 _=>by rw[if_neg ⋯,ZQ],Qcz,Qcz,← QcV];exact QP λl hl=>by rw[if_pos ⋯,ZaQ,ZaE,Int.neg_neg]
    rw[e2];split<;>lia
  .lia
section
variable {m n0:Nat}{T Lf Rt Lb Rb:Mt2}{len:Mt1}
end
noncomputable def QkM(QbA:Den)(Qd3:Den):DS:=(Qb (QO (Qo 1 Qd3 [] (Qa (Qo 1 QbA [] (Qa vv0 Qd)) Qd))) Qh)
structure RcH (m:Nat) (T:Mt2) (x:Mt1):Prop where
 ex:∃v,Dbl m T v/\Rec m T v x
 stb:Stb m T x
 nn:∀j,j<m->0<=x j
section
variable {m:Nat}{T:Mt2}
def QlR(x c:Mt1):Cng m (QU T) x (Qe m T x c):=⟨c,λr hr=>by
 rw[Qcz];have e:(Qv m λj=>c j*QU T j r)= -Qv m λj=>c j*T j r:=by
  rw[← QcV];exact QP λj _=>by unfold QU;rw[ZaQ,ZaE]
 rw[e];unfold Qe;lia⟩
def Qvt{x y:Mt1}(h:Cng m (QU T) x y):∃c,∀r,r<m->y r=Qe m T x c r:=by
 obtain⟨c,h⟩:=h;refine⟨c,λr hr=>?_⟩;have e:(Qv m λj=>c j*QU T j r)= -Qv m λj=>c j*T j r:=by
  rw[← QcV];exact QP λj _=>by unfold QU;rw[ZaQ,ZaE]
 have:=h r hr;rw[Qcz,e]at this;unfold Qe;lia
def Cng.plus{n:Nat}{M:Mt2}{x y:Mt1}(h:Cng n M x y)(z:Mt1):Cng n M (λj=>x j+z j) (λj=>y j+z j):=by
 obtain⟨c,h⟩:=h;exact⟨c,λr hr=>by have:=h r hr;show x r+z r-(y r+z r)=_;lia⟩
def Cng.ext{n:Nat}{M:Mt2}{x x' y:Mt1}(h:Cng n M x y)(e:∀j,j<n->x' j=x j):Cng n M x' y:=by
 obtain⟨c,h⟩:=h;exact⟨c,λr hr=>by rw[e r hr];exact h r hr⟩
def RcH.one(tp:TP m T){x y:Mt1}(hx:RcH m T x)(hy:RcH m T y)(h:Cng m (QU T) x y):∀j,j<m->x j=y j:=λj hj=>by
 obtain⟨d,e⟩:=Qvt h;obtain⟨v,a1,a2⟩:=hx.ex;obtain⟨v',b1,b2⟩:=hy.ex;have z:=Rec.one tp a1 b1 a2 b2 hx.stb hy.stb e;rw[e j hj,QaG j rfl z,QxF]
def RcH.add(tp:TP m T){x y c:Mt1}(hx:RcH m T x)(y0:∀j,j<m->0<=y j)(hc:Told m T (λj=>x j+y j) c):RcH m T (Qe m T (λj=>x j+y j) c):=by
 obtain⟨v,a1,a2⟩:=hx.ex;exact⟨⟨v,a1,Qxb tp a1 a2 y0 hc⟩,hc.stb,hc.pos⟩
structure RcL (m:Nat) (T:Mt2) (rs:List (List Int)):Prop where
 len:∀r∈rs,r.length=m
 rc:∀r∈rs,RcH m T (fnL r)
 nd:rs.Nodup
def QxT{m:Nat}{r s:List Int}(hr:r.length=m)(hs:s.length=m)(h:∀j,j<m->fnL r j=fnL s j):r=s:=by
 rw[← QlL hr,← QlL hs];exact Qt2 h
def RcL.apart(tp:TP m T){rs:List (List Int)}(h:RcL m T rs):(rs.map fnL).Pairwise λx y=>¬Cng m (QU T) x y:=by
 rw[Zbm];refine(List.Pairwise.and_mem.mp h.nd).imp λ{r s} q c=>q.2.2 ?_;exact QxT (h.len r q.1) (h.len s q.2.1) ((h.rc r q.1).one tp (h.rc s q.2.1) c)
def RcL.le(tp:TP m T){rs:List (List Int)}(h:RcL m T rs):(rs.length:Int)<=det m (QU T):=by
 have p:0<det m (QU T):=Qg8 tp m (Zd m);have:=QvB (h.apart tp) ⋯;rw[Zj]at this;lia
def Clo(m:Nat)(T:Mt2)(rs:List (List Int))(x:Mt1):Prop:=∀p,p<m->∃r∈rs,Cng m (QU T) (λj=>x j+QdW p j) (fnL r)
def RcL.many(tp:TP m T){rs:List (List Int)}(h:RcL m T rs)(h0:∃r∈rs,Cng m (QU T) (λ_=>0) (fnL r))(hd:∃v,Dbl m T v)(hc:∀r∈rs,Clo m T rs (fnL r)):(rs.length:Int)=det m (QU T)/\∀y:Nat->Int,∃r∈rs,Cng m (QU T) y (fnL r):=by
 have p0:0<det m (QU T):=Qg8 tp m (Zd m);have one:∀(y:Mt1) (p:Nat),p<m->(∃r∈rs,Cng m (QU T) y (fnL r))->∃r∈rs,Cng m (QU T) (λj=>y j+QdW p j) (fnL r):=λy p hp ⟨r,hr,e⟩=>by
  obtain⟨s,hs,e2⟩:=hc r hr p hp;exact⟨s,hs,(e.plus _).trans e2⟩
 have times:∀(t:Nat) (y:Mt1) (p:Nat),p<m->(∃r∈rs,Cng m (QU T) y (fnL r))->∃r∈rs,Cng m (QU T) (λj=>y j+t*QdW p j) (fnL r):=λt=>by
  induction t with
  | zero=>intro y p _ ⟨r,hr,e⟩;exact⟨r,hr,e.ext λj _=>by show y j+((0:Nat):Int)*_=_;lia⟩
  | succ t ih=>
   intro y p hp h;obtain⟨r,hr,e⟩:=one _ p hp (ih y p hp h);exact⟨r,hr,e.ext λj _=>by show y j+((t+1:Nat):Int)*QdW p j=y j+t*QdW p j+QdW p j;rw[Int.natCast_succ,ZU];lia⟩
 have nn:∀(y:Mt1),(∀j,j<m->0<=y j)->∃r∈rs,Cng m (QU T) y (fnL r):=λy hy=>by
  have key:∀k,k<=m->∃r∈rs,Cng m (QU T) (λj=>if j<k then y j else 0) (fnL r):=λk=>by
   induction k with
   | zero=>intro _;obtain⟨r,hr,e⟩:=h0;exact⟨r,hr,e.ext λj _=>if_neg ⋯⟩
   | succ k ih=>
    intro hk;obtain⟨r,hr,e⟩:=times (y k).toNat _ k hk (ih ⋯);refine⟨r,hr,e.ext λj hj=>?_⟩;have:=hy k hk;show(if j<k+1 then y j else 0)=(if j<k then y j else 0)+((y k).toNat:Int)*QdW k j;unfold QdW;by_cases z:j=k
    .subst z;rw[if_pos ⋯,if_neg ⋯,if_pos rfl];lia
    .rw[if_neg z];by_cases z2:j<k
     .rw[if_pos ⋯,if_pos z2];lia
     .rw[if_neg ⋯,if_neg z2];lia
  obtain⟨r,hr,e⟩:=key m (Zd m);exact⟨r,hr,e.ext λj hj=>(if_pos hj).symm⟩
 have all:∀y:Nat->Int,∃r∈rs,Cng m (QU T) y (fnL r):=λy=>by
  obtain⟨v,dv⟩:=hd;obtain⟨N,hN⟩:=Qor y;obtain⟨r,hr,e⟩:=nn (λj=>y j+N*QB m T v j) λj hj=>by
   have h1:=hN j hj;have h2:=dv.big hj;have h3:=tp.neg j hj;have:(N:Int)*1<=N*QB m T v j:=ZR ⋯ ⋯;show 0<=y j+N*QB m T v j;lia
  refine⟨r,hr,Cng.trans ?_ e⟩;have:=QlR (m:=m) (T:=T) y (λi=> -(N:Int)*v i);refine(Cng.ext this.symm λj hj=>?_).symm;show y j+N*QB m T v j=Qe m T y (λi=> -(N:Int)*v i) j;rw[Qd0];unfold Qe;have e:(Qv m λi=> -(N:Int)*v i*T i j)= -(N:Int)*Qv m λi=>v i*T i j:=by rw[← QcS];exact QP λi _=>Zaq _ _ _
  rw[e,ZaM,ZaE]
 have s:Sys m (QU T) (rs.map fnL):=⟨λy=>by obtain⟨r,hr,e⟩:=all y;exact⟨fnL r,ZK.mpr ⟨r,hr,rfl⟩,e⟩,h.apart tp⟩;have:=s.many ⋯;rw[Zj]at this;exact⟨⋯,all⟩
end
noncomputable def Qa1(QaU:Den)(Qcj:Den)(Qbr:Den)(Qbn:Den):DS:=(Qb (sIf (QG (dOp gGt (Qo 1 QaU [] (Qa vv0 Qd)) QkL)) (Qb Qx Qh) Qh) (Qb (Qp 1 (Qah (Qa (Qo 1 Qcj [] (Qa vv0 Qd)) Qd))) (Qb (Qp 2 (dD1 (Qa (Qm vv1 kk0) Qd))) (Qb (Qp 3 kk0) (Qb (Qbu (QG (dOp gLt vv3 (dBf Qao (Qa vv1 Qd)))) (Qb (QaX (Qaz (Qm vv0 kk0)) (.nm 4) (Qb (Qp 5 (Qo 3 Qbn [] (Qa vv0 (Qa (Qm vv1 vv3) (Qa (Qo 2 Qbr [] (Qa (Qm vv0 kk0) (Qa vv4 Qd))) Qd))))) (Qb (sIf (QG (dOp (gIn true) (QgJ (Qa vv5 Qd)) vv2)) (Qb (Qfp 2 (Qa vv5 Qd)) (Qb (Qds 1 Qam vv5) Qh)) Qh) Qh))) (Qb (Qg5 (gI λi j=>some (.int (i+j))) 3 kk1) Qh))) (Qb (QO (Qgo (Qa vv1 Qd))) Qh))))))
structure Qni (m:Nat) (T:Mt2) (rs:List (List Int)):Prop where
 rc:RcL m T rs
 many:(rs.length:Int)=det m (QU T)
 srt:SrR rs
 all:∀y:Nat->Int,∃r∈rs,Cng m (QU T) y (fnL r)
def QjV(d:Den):Prop:=∀(m:Nat) (R L:Lpp),m<=3->QaT m R L->d [QM m R L]=some (.int (det m (QU (Qq m (Qj R L)))),true)
def Qm9(d:Den):Prop:=∀(m:Nat) (R L:Lpp),0<m->m<=3->QaT m R L->det m (QU (Qq m (Qj R L)))<=300->∃rs:List (List Int),d [QM m R L]=some (.lst (rs.map QK),true)/\Qni m (Qq m (Qj R L)) rs
def QgI{fa fb:DE}{U:En}{rb:HS.R}{rs:List (List Int)}{b:Bool}{M:List Nat}{k:Nat}{r:List Int}(ha:fa U=some ⟨.lst (rs.map QK),b,M⟩)(hb:fb U=some rb)(eb:rb.d= .int k)(h:rs[k]? =some r):Qm fa fb U=some ⟨QK r,b,M⟩:=by
 have hk:k<rs.length:=(Zi.mp h).1;have a:atI (rs.map QK) (k:Int)=some (QK r):=by
  rw[Qes ⋯ (by rw[Zj];lia)];simp[Zp,h]
 unfold Qm;rw[ha,Za,hb,Za,eb];show(match D.items (.lst (rs.map QK))with | some xs=>(atI xs (k:Int)).map λd=>HS.R.norm ⟨d,b,M⟩ | _=>none)=_;simp only[D.items,a];rfl
def QnW{fa:DE}{U:En}{r:HS.R}{rs:List (List Int)}(h:fa U=some r)(e:r.d= .lst (rs.map QK)):dBf Qao (Qa fa Qd) U=some (reI rs.length):=(QcJ h e).trans (by rw[Zj])
def Qov:∀rs:List (List Int),Qij (rs.map QK)=some rs
 | []=>rfl
 | r::rs=>by
  show(Qb5 (r.map .int)).bind _=_;rw[QdL,Za,Qov rs];rfl
def Qvi{fa:DE}{U:En}{rs:List (List Int)}{b:Bool}{M:List Nat}(h:fa U=some ⟨.lst (rs.map QK),b,M⟩)(hn:rs≠[]):Qgo (Qa fa Qd) U=some ⟨.lst ((Qe0 rs).map QK),b,M⟩:=by
 unfold Qgo;show Qop _ _=_;unfold Qop;rw[Qw h (Q8 _),Za];show(Qij (rs.map QK)).bind _=_;rw[Qov,Za];show some (HS.R.mk (.lst ((Qe0 rs).map QK)) (b && true) (M++[]))=_;rw[ZcF,Zas]
def QyE{fb:DE}{U:En}{ra:RA}{rb:HS.R}{k:List Int}{ks:List (List Int)}{fs:DA}(ha:fs U=some ra)(ea:ra.ds=[QK k])(hb:fb U=some rb)(eb:rb.d= .dk ks):dOp (gIn true) (QgJ fs) fb U=some (reT (.bl (!ks.contains k))):=by
 have e1:QgJ fs U=some (reT (.tup (k.map .int))):=by
  unfold QgJ;rw[ha,Za,ea];show(if Q7 (k.map .int)=true then _ else _)=_;rw[if_pos (Qoo k)]
 refine Qan e1 hb ?_;rw[eb];show(intsOf (k.map .int)).map _=_;rw[Qeo];show some (D.bl (ks.contains k != true))=_;rw[Bool.bne_true]
def QBq{U:En}{ra:RA}{k:List Int}{fs:DA}(ha:fs U=some ra)(ea:ra.ds=[QK k]):dD1 fs U=some ⟨.dk [k],true,[]⟩:=by
 unfold dD1;rw[ha,Za,ea];show(intsOf (k.map .int)).map _=_;rw[Qeo];rfl
structure Bfs (m:Nat) (T:Mt2) (rs:List (List Int)) (z:List Int) (done:Nat):Prop where
 rc:RcL m T rs
 hd:z∈rs
 le:done<=rs.length
 clo:∀i r,i<done->rs[i]? =some r->Clo m T rs (fnL r)
def Clo.more{m:Nat}{T:Mt2}{rs qs:List (List Int)}{x:Mt1}(h:Clo m T rs x)(hs:∀r∈rs,r∈qs):Clo m T qs x:=λp hp=>by
 obtain⟨r,hr,e⟩:=h p hp;exact⟨r,hs r hr,e⟩
def RcL.snoc{m:Nat}{T:Mt2}{rs:List (List Int)}{h:List Int}(hr:RcL m T rs)(hl:h.length=m)(hc:RcH m T (fnL h))(hn:h∉rs):RcL m T (rs++[h]) where
 len:=λr hr'=>by
  rcases Zr.mp hr' with q | q
  .exact hr.len r q
  .rw[Zo.mp q];exact hl
 rc:=λr hr'=>by
  rcases Zr.mp hr' with q | q
  .exact hr.rc r q
  .rw[Zo.mp q];exact hc
 nd:=by
  rw[Zbl];refine⟨hr.nd,⋯,λa ha b hb e=>hn ?_⟩;rw[Zo.mp hb]at e;rw[← e];exact ha
def Qwf{dh dn du ds:Den}(hh:QjV dh)(hn:Qjs dn)(hu:QnJ du)(hs:Qn1 ds):Qm9 (Qu 6 (Qa1 dh dn du ds)):=λm R L m0 m3 hw hd=>by
 have m8:m<=8:=Zw m3 ∅;have tp:=hw.tp;have eh:=hh m R L m3 hw;obtain⟨k,ek,ro⟩:=hn m R L m0 m8 hw;have es:=λa b=>hs m R L a b m0 m8 hw;have sm6:=λj (hj:j<m)=>hw.small hj hj;generalize Qq m (Qj R L)=T at *;generalize ez:Qef m (Qe m T (λ_=>0) k)=z at *;have lz:z.length=m:=by rw[← ez];exact Qn7 _ _
 have fz:∀j,j<m->fnL z j=Qe m T (λ_=>0) k j:=λj hj=>by rw[← ez];exact Qp2 hj
 rw[Qqp,ez]at ek;have rec_ext:∀{x y:Mt1},RcH m T x->(∀j,j<m->y j=x j)->RcH m T y:=λ{x y} h e=>by
  obtain⟨v,a1,y',u,b1,b2,b3⟩:=h.ex;exact⟨⟨v,a1,y',u,b1,b2,λj hj=>by rw[e j hj];exact b3 j hj⟩,λj hj=>by rw[e j hj];exact h.stb j hj,λj hj=>by rw[e j hj];exact h.nn j hj⟩
 have rz:RcH m T (fnL z):=rec_ext ⟨ro.ex,ro.stb,ro.nn⟩ fz;have start:Bfs m T [z] z 0:=⟨⟨λr hr=>by rw[Zo.mp hr];exact lz,λr hr=>by rw[Zo.mp hr];exact rz,⋯⟩,Zo.mpr rfl,ZF _,λi r hi=> ⋯⟩;have cz:Cng m (QU T) (λ_=>0) (fnL z):=(Cng.ext (QlR (λ_=>0) k).symm fz).symm;have bnd:∀{rs done},Bfs m T rs z done->rs.length<=300:=λh=>by have:=h.rc.le tp;lia
 have key:Run (Qa1 dh dn du ds) (Qau 6 [QM m R L]) (Rt λd fr=>∃rs:List (List Int),d= .lst (rs.map QK)/\fr=true/\Qni m T rs):=by
  refine QS (Q5 ((QF (Qf6 (Qt (r:=⟨[QM m R L],false,[]⟩) rfl eh rfl) rfl rfl rfl) rfl).trans (by rw[decide_eq_false ⋯])) (λh=>by cases h) (λ_=>Ql ?_));refine rsa (d:= .lst [QK z]) (Qth (Qw (Qt (r:=⟨[QM m R L],false,[]⟩) rfl ek rfl) (Q8 _)) (by show 1<=64;decide)) ?_;refine rsa (QBq (Qw (QgI (rs:=[z]) rfl rfl rfl rfl) (Q8 _)) rfl) ?_;refine rsa rfl ?_;refine run_seq (Qfj (I:=λn U=>∃rs done j4 j5,n+done=301/\U=[slF (QM m R L),slT (.lst (rs.map QK)),some (.dk rs,true),slI ((done:Nat):Int),j4,j5]/\Bfs m T rs z done) ?_ 301 _ ⟨[z],0,none,none,rfl,rfl,start⟩);rintro n U ⟨rs,done,j4,j5,hn0,rfl,hB⟩;refine⟨decide (done<rs.length),(QF (Qy2 rfl rfl (QnW rfl rfl) rfl) rfl).trans ⋯,λhb=>?_,λhb=>?_⟩
  .have hb:¬done<rs.length:=of_decide_eq_false hb;obtain⟨q1,q2⟩:=hB.rc.many tp ⟨z,hB.hd,cz⟩ (ro.ex.imp λv h=>h.1) λr hr=>by
    obtain⟨i,hi⟩:=List.getElem?_of_mem hr;exact hB.clo i r (by have:=(Zi.mp hi).1;lia) hi
   have ne:rs≠[]:=λe=>by have:=hB.hd;rw[e]at this;cases this
   have pm:=QhT rs;refine Qy (Qvi rfl ne) ⟨Qe0 rs,rfl,rfl,⟨λr hr=>hB.rc.len r (pm.mem_iff.mp hr),λr hr=>hB.rc.rc r (pm.mem_iff.mp hr),pm.nodup_iff.mpr hB.rc.nd⟩,by rw[pm.length_eq];exact q1,Qi7 rs,λy=>?_⟩;obtain⟨r,hr,e⟩:=q2 y;exact⟨r,pm.mem_iff.mpr hr,e⟩
  .have hb:done<rs.length:=of_decide_eq_true hb;obtain⟨x,hx⟩:∃x,rs[done]? =some x:=⟨_,ZH hb⟩;have mx:x∈rs:=Zao hx;have lx:=hB.rc.len x mx;have rx:=hB.rc.rc x mx;refine run_seq (Qay (List.range m) (λi U=>∃qs j4 j5,U=[slF (QM m R L),slT (.lst (qs.map QK)),some (.dk qs,true),slI ((done:Nat):Int),j4,j5]/\Bfs m T qs z done/\qs[done]? =some x/\∀p,p<i->∃r∈qs,Cng m (QU T) (λj=>fnL x j+QdW p j) (fnL r)) (QaO rfl rfl ⋯) rfl ⟨rs,j4,j5,rfl,hB,hx,λp hp=> ⋯⟩ ?_ ?_)
   .rintro i i' U hi ⟨qs,j4,j5,rfl,hQ,hqx,hp⟩;obtain⟨him,rfl⟩:=QeI hi;have hq:done<qs.length:=(Zi.mp hqx).1;refine⟨[slF (QM m R L),slT (.lst (qs.map QK)),some (.dk qs,true),slI ((done:Nat):Int),slI i,j5],rfl,?_⟩;have uq:=hu m i ⋯;obtain⟨c,ec,tc⟩:=es (fnL x) (λj=>if j=i then 1 else 0) (λj hj=>by
      have h1:=rx.nn j hj;have h2:=rx.stb j hj;have h3:=sm6 j hj;have:(600:Int)<=2^100:= ∅
      lia) (λj hj=>by
      have:(1:Int)<=2^100:= ∅
      show 0<=(if j=i then(1:Int)else 0)/\(if j=i then(1:Int)else 0)<=2^100;split<;>lia)
    generalize eh2:Qef m (Qe m T (λj=>fnL x j+if j=i then 1 else 0) c)=h at *;have lh:h.length=m:=by rw[← eh2];exact Qn7 _ _
    have fh:∀j,j<m->fnL h j=Qe m T (λj=>fnL x j+if j=i then 1 else 0) c j:=λj hj=>by rw[← eh2];exact Qp2 hj
    rw[Qqp m (Qe m T _ c),eh2,← Qje lx]at ec;have rh:RcH m T (fnL h):=rec_ext (rx.add tp (λj _=>by show 0<=(if j=i then(1:Int)else 0);split<;>lia) tc) fh;have ch:Cng m (QU T) (λj=>fnL x j+QdW i j) (fnL h):=(Cng.ext (QlR _ c).symm fh).symm
    have e5:Qo 3 ds [] (Qa (Qf 0) (Qa (Qm (Qf 1) (Qf 3)) (Qa (Qo 2 du [] (Qa (Qm (Qf 0) (dC (.int 0))) (Qa (Qf 4) Qd))) Qd))) [slF (QM m R L),slT (.lst (qs.map QK)),some (.dk qs,true),slI ((done:Nat):Int),slI i,j5]=some (reT (QK h)):=
     Qt (Qw rfl (Qw (QgI rfl rfl rfl hqx) (Qw (Qt (Qw rfl (Qw rfl (Q8 _))) uq rfl) (Q8 _)))) ec rfl
    refine rsa e5 ?_;have b300:=bnd hQ;refine run_seq (Q5 (QF (QyE rfl rfl rfl rfl) rfl) (λhc=>?_) (λhc=>Ql ?_))
    .have hc:h∉qs:=by simpa using hc
     refine run_seq (QvG rfl rfl rfl ⋯ ?_);have ep:putL qs h=qs++[h]:=by unfold putL;rw[if_neg (by simpa using hc)]
     rw[ep];refine run_seq (Qso rfl rfl rfl ∅ (by rw[Zj];lia) ?_);refine Ql (Ql ⟨qs++[h],slI i,none,by rw[Zap];rfl,⟨hQ.rc.snoc lh rh hc,Zg _ hQ.hd,by rw[Zn];lia,λl r hl hr=>?_⟩,by rw[Zaw hq];exact hqx,λp hpi=>?_⟩)
     .rw[Zaw ⋯]at hr;exact(hQ.clo l r hl hr).more λr hr=>Zg _ hr
     .by_cases z:p=i
      .rw[z];exact⟨h,⋯,ch⟩
      .obtain⟨r,hr,e⟩:=hp p ⋯;exact⟨r,Zg _ hr,e⟩
    .have hc:h∈qs:=by simpa using hc
     refine Ql ⟨qs,slI i,_,rfl,hQ,hqx,λp hpi=>?_⟩;by_cases z:p=i
     .rw[z];exact⟨h,hc,ch⟩
     .exact hp p ⋯
   .rintro U ⟨qs,j4,j5,rfl,hQ,hqx,hp⟩;have hq:done<qs.length:=(Zi.mp hqx).1;rw[Zz]at hp;refine run_seq (Qt5 (d':= .int ((done+1:Nat):Int)) rfl rfl rfl ?_);refine Ql ⟨n-1,by have:=bnd hB;lia,qs,done+1,j4,j5,by have:=bnd hB;lia,rfl,hQ.rc,hQ.hd,⋯,λl r hl hr=>?_⟩;by_cases z:l=done
    .subst z;rw[hqx]at hr;cases hr;exact hp
    .exact hQ.clo l r ⋯ hr
 obtain⟨o,h1,h2⟩:=key;cases o with
 | rt d fr=>
  obtain⟨rs,rfl,rfl,h⟩:=h2;refine⟨rs,?_,h⟩;show Option.bind (Qa1 dh dn du ds (Qau 6 [QM m R L])) outD=_;rw[h1];rfl
 | _=>exact h2.elim
noncomputable def Qce(Qbr:Den)(Qbn:Den)(Qcj:Den)(QaU:Den):DX:=(Qcc (sIf (QG (dOp gGt (Qo 1 QaU [] (Qa vv0 Qd)) QkL)) (Qb Qx Qh) Qh) (xIf (QG (dOp gGt (Qo 1 QaU [] (Qa vv0 Qd)) QkL)) (Qcc Qx (Qe3 "TooMany" (Qa (dC (.str "more than 300 heaps come again")) Qd)) xNo) xNo) (Qcc (Qp 1 (Qah (Qa (Qo 1 Qcj [] (Qa vv0 Qd)) Qd))) xNo (Qcc (Qp 2 (dD1 (Qa (Qm vv1 kk0) Qd))) xNo (Qcc (Qp 3 kk0) xNo (Qcc (Qbu (QG (dOp gLt vv3 (dBf Qao (Qa vv1 Qd)))) (Qb (QaX (Qaz (Qm vv0 kk0)) (.nm 4) (Qb (Qp 5 (Qo 3 Qbn [] (Qa vv0 (Qa (Qm vv1 vv3) (Qa (Qo 2 Qbr [] (Qa (Qm vv0 kk0) (Qa vv4 Qd))) Qd))))) (Qb (sIf (QG (dOp (gIn true) (QgJ (Qa vv5 Qd)) vv2)) (Qb (Qfp 2 (Qa vv5 Qd)) (Qb (Qds 1 Qam vv5) Qh)) Qh) Qh))) (Qb (Qg5 (gI λi j=>some (.int (i+j))) 3 kk1) Qh))) xNo (Qcc (QO (Qgo (Qa vv1 Qd))) xNo xNo))))))
local macro_rules | `(tactic|ac_rfl)=> `(tactic|repeat (first | exact QmE | exact Qjk | assumption | apply Qkg | apply QvI | apply ap_for | apply Qf2 | apply ap_asg | apply ap_ret))
def QvC{dh dn du ds:Den}:ApF (Qu 6 (Qa1 dh dn du ds)) (QgH 6 (Qce du ds dn dh)):=QAj (by unfold Qa1 Qce;ac_rfl)
def Qqc(xd:List D->Option Str):Prop:=∀(m:Nat) (R L:Lpp),m<=3->QaT m R L->300<det m (QU (Qq m (Qj R L)))->xd [QM m R L]=some "TooMany"
def QwW{dh dn du ds:Den}(hh:QjV dh):Qqc (QgH 6 (Qce du ds dn dh)):=λm R L m8 hw hd=>by
 refine QBh ?_;exact QpG (by ac_rfl) (QAl (QF (Qf6 (Qt rfl (hh m R L m8 hw) rfl) rfl rfl rfl) (by rw[decide_eq_true hd])) (λ_=>QpG Qjk (Qvm rfl (Zd _))) (λh=>by cases h))
noncomputable def Qd2(QZ:Den)(x_all_again:List D->Option Str)(sub:Str->Str->Option Bool):DS:=(Qb (Qp 1 (dC (.bl false))) (Qb (QgN (Qb (Qbm (Qo 1 QZ [] (Qa vv0 Qd))) Qh) (Qcc (Qbm (Qo 1 QZ [] (Qa vv0 Qd))) (QdM 1 x_all_again (Qa vv0 Qd)) xNo) sub [("TooMany",none,(Qb (Qp 1 (dC (.bl true))) Qh))]) (Qb (QO vv1) Qh)))
def QgY(xs:List D->Option Str)(d:Den):Prop:=∀(m:Int) (R L:Lpp),xs [QM m R L]=some "TooMany" ->d [QM m R L]=some (.bl true,true)
def QsH{ds:Den}{xs:List D->Option Str}{sub:Str->Str->Option Bool}(ap:ApF ds xs)(w:sub "TooMany" "TooMany" =some true):QgY xs (Qu 2 (Qd2 ds xs sub)):=λm R L hx=>by
 refine Q0 ?_;refine rsa rfl ?_;refine run_seq (Quw (Qkg (Qf2 ap) QmE) (Qss ap rfl rfl hx) w ?_);refine run_seq (QH rfl (Ql ?_));rw[Qac];exact Qy rfl ⟨rfl,rfl⟩
structure QvW (sub:Str->Str->Option Bool):Prop where
 gh:sub "TooMany" "HeapError" =some true
 gg:sub "TooMany" "TooMany" =some true
 gv:sub "TooMany" "ValueError" =some true
 gr:sub "TooMany" "NoRow" =some false
 gn:sub "TooMany" "NotPlain" =some false
noncomputable def Qd4(QZ:Den)(x_all_again:List D->Option Str)(sub:Str->Str->Option Bool):DS:=(Qb (Qp 1 (dC (.bl false))) (Qb (QgN (Qb (Qbm (Qo 1 QZ [] (Qa vv0 Qd))) Qh) (Qcc (Qbm (Qo 1 QZ [] (Qa vv0 Qd))) (QdM 1 x_all_again (Qa vv0 Qd)) xNo) sub [("HeapError",some 2,(Qb (Qp 1 (Qb0 (QgX sub ["TooMany"] vv2) (QgX sub ["ValueError"] vv2))) (Qb (Qp 1 (Qb0 vv1 (Qb0 (QhM (QgX sub ["NoRow"] vv2)) (QhM (QgX sub ["NotPlain"] vv2))))) Qh)))]) (Qb (QO vv1) Qh)))
def QsK{ds:Den}{xs:List D->Option Str}{sub:Str->Str->Option Bool}(ap:ApF ds xs)(w:QvW sub):QgY xs (Qu 3 (Qd4 ds xs sub)):=λm R L hx=>by
 refine Q0 ?_;refine rsa rfl ?_;refine run_seq (Qvg (Qkg (Qf2 ap) QmE) (Qss ap rfl rfl hx) w.gh ?_);refine rsa (Qiq (Qko rfl (any_cons w.gg rfl)) (Qko rfl (any_cons w.gv rfl))) ?_;refine run_seq (QH (Qiq rfl (Qiq (QpK (Qko rfl (any_cons w.gr rfl))) (QpK (Qko rfl (any_cons w.gn rfl))))) (Ql ?_));rw[Qac];exact Qy rfl ⟨rfl,rfl⟩
noncomputable def Qkx(Qcu:Den)(Qdj:Den):DS:=(Qb (sIf (bOr (Qcm (QG (Qjt "list" vv0))) (QG (dOp gNe (dBf Qao (Qa vv0 Qd)) vv2))) (Qb (QO (dC (.bl false))) Qh) Qh) (Qb (QaX (Qaz (dBf Qao (Qa vv0 Qd))) (.nm 4) (Qb (sIf (bOr (Qcm (QG (Qo 2 Qcu [] (Qa (Qm vv0 vv4) (Qa (dBf Qao (Qa vv1 Qd)) Qd))))) (Qdf (QG (dOp gGt vv4 kk0)) (Qcm (QG (dOp gLt (Qm vv0 (dOp QaS vv4 kk1)) (Qm vv0 vv4)))))) (Qb (QO (dC (.bl false))) Qh) Qh) (Qb (sIf (Qdf (QG (dOp gEq (dOp Qad vv4 vv3) kk0)) (Qcm (QG (Qo 2 Qdj [] (Qa vv1 (Qa (Qm vv0 vv4) Qd)))))) (Qb (QO (dC (.bl false))) Qh) Qh) Qh))) (Qb (QO (dC (.bl true))) Qh)))
def Qi0(d:Den):Prop:=∀(m:Nat) (T:Mt2) (rs:List (List Int)) (y:Nat),0<m->m<=8->TP m T->RcL m T rs->SrR rs->rs.length<=300->0<y->d [.lst (rs.map QK),Qn m m T,.int rs.length,.int y]=some (.bl true,true)
def QqN{g1 g2:DT}{U:En}(h:g1 U=some false):Qdf g1 g2 U=some false:=by
 unfold Qdf;rw[h];rfl
def SrR.up{rs:List (List Int)}(h:SrR rs)(nd:rs.Nodup){k:Nat}{a b:List Int}(ha:rs[k]? =some a)(hb:rs[k+1]? =some b):HT.lexLt a b=true:=by
 obtain⟨ka,ea⟩:=Zi.mp ha;obtain⟨kb,eb⟩:=Zi.mp hb;have h1:=(Zah.mp h) k (k+1) ka kb ⋯;have h2:=(Zah.mp nd) k (k+1) ka kb ⋯;rw[ea,eb]at h1 h2;cases e:HT.lexLt a b with
 | true=>rfl
 | false=>exact absurd (QoG a b e h1) h2
def Que{fa fb:DE}{U:En}{ra rb:HS.R}{a b:List Int}(ha:fa U=some ra)(ea:ra.d=QK a)(hb:fb U=some rb)(eb:rb.d=QK b):dOp gLt fa fb U=some (reT (.bl (HT.lexLt a b))):=by
 refine Qan ha hb ?_;rw[ea,eb];show(Qb5 (a.map .int)).bind _=_;rw[QdL,Za];show(Qb5 (b.map .int)).bind _=_;rw[QdL,Za]
def QsD{dn dc:Den}(hn:QnD dn)(hc:QhP dc):Qi0 (Qu 5 (Qkx dn dc)):=λm T rs y m0 m8 tp rc so hz y0=>by
 have el:∀{U:En},U[0]? =some (slF (.lst (rs.map QK)))->dBf Qao (Qa (Qf 0) Qd) U=some (reI rs.length):=λh=>QnW (Qa6 h) rfl;refine Q0 ?_;refine QS (Q5 ((Qc9 (Qdi (QF rfl rfl)) (QF (r:=reT (.bl false)) ((Qde (el rfl) rfl rfl rfl).trans ⋯) rfl)).trans rfl) (λh=>by cases h) (λ_=>Ql ?_));refine QS (Qay (List.range rs.length) (λ_ U=>∃j4,U=[slF (.lst (rs.map QK)),slF (Qn m m T),slI rs.length,slI y,j4]) (QaO (el rfl) rfl ⋯) rfl ⟨none,rfl⟩ ?_ ?_)
 .rintro i p U hi ⟨j4,rfl⟩;have hp':i<rs.length/\i=p:=by
   obtain⟨h1,h2⟩:=Zi.mp hi;simp at h1 h2;exact⟨h1,h2⟩
  obtain⟨hil,rfl⟩:=hp';obtain⟨x,hx⟩:∃x,rs[i]? =some x:=⟨_,ZH hil⟩;have mx:=Zao hx;have lx:=rc.len x mx;have rx:=rc.rc x mx;refine⟨[slF (.lst (rs.map QK)),slF (Qn m m T),slI rs.length,slI y,slI i],rfl,?_⟩;have ex:Qm (Qf 0) (Qf 4) [slF (.lst (rs.map QK)),slF (Qn m m T),slI rs.length,slI y,slI i]=some (reF (QK x)):=QgI rfl rfl rfl hx;have e2:Qdf (QG (dOp gGt (Qf 4) (dC (.int 0)))) (Qcm (QG (dOp gLt (Qm (Qf 0) (dOp QaS (Qf 4) (dC (.int 1)))) (Qm (Qf 0) (Qf 4))))) [slF (.lst (rs.map QK)),slF (Qn m m T),slI rs.length,slI y,slI i]=some false:=by
   cases i with
   | zero=>exact QqN rfl
   | succ k=>
    obtain⟨w,hw⟩:∃w,rs[k]? =some w:=⟨_,ZH ⋯⟩;refine QlJ (a:=true) ((QF (Qf6 rfl rfl rfl rfl) rfl).trans (by rw[decide_eq_true ⋯])) (Qdi ((QF (Que (QgI rfl (Qdg rfl rfl (QaB _ _) rfl) (by show D.int (((k+1:Nat):Int)-1)= .int (k:Nat);rw[show((k+1:Nat):Int)-1=k by lia]) hw) rfl ex rfl) rfl).trans (by rw[so.up rc.nd hw hx])))
  refine QS (Q5 (Qc9 (Qdi (QF (Qt (Qw ex (Qw (Qez rfl rfl) (Q8 _))) (by show dn [QK x,.int m]=_;rw[Qje lx];exact hn m (fnL x)) rfl) rfl)) e2) (λh=>by cases h) (λ_=>Ql ?_));obtain⟨v,dv,rv⟩:=rx.ex;have cx:=hc m T (fnL x) v m0 m8 tp dv rv rx.stb rx.nn;rw[← Qje lx]at cx;refine QS (Q5 ((QlJ (b:=false) (QF (Qa4 (Qaf rfl rfl rfl rfl ⋯) rfl (QaB _ _) rfl) rfl) (Qdi (QF (Qt (Qw (r:=reF (Qn m m T)) rfl (Qw ex (Q8 _))) cx rfl) rfl))).trans (by rw[Bool.and_false])) (λh=>by cases h) (λ_=>Ql (Ql ⟨_,rfl⟩)))
 rintro U ⟨j4,rfl⟩;exact Qy rfl ⟨rfl,rfl⟩
noncomputable def QkJ(Qaj:Den):DS:=(Qb (Qp 1 (dOp Qad (Q3 (Qo 2 Qaj [] (Qa vv0 (Qa QBF Qd))) QlO) Qdd)) (Qb (Qp 2 (dOp Qad vv1 kk4)) (Qb (Qp 3 (QC (QC (Q3 (Qah (Qa (Qav (Qa kk0 (Qa kk1 Qd))) Qd)) vv2) (Q3 (Qah (Qa (Qav (Qa kk0 (Qa kk2 Qd))) Qd)) (QC kk2 (dOp Qad (dOp Qbc vv1 kk4) QB4)))) (Q3 (Qah (Qa (Qav (Qa kk1 (Qa kk2 Qd))) Qd)) (QC kk2 (dOp Qad (dOp Qbc vv1 QBS) QB7))))) (Qb (QO (Qav (Qa kk2 (Qa vv3 (Qa (Qah Qd) Qd))))) Qh))))
def Qi4(d:Den):Prop:=∀ns:List Int,ns.length<=63->(∀k,Qem (ns.getD k 0))->∃R:List (Int×Int),d [.lst (ns.map .int)]=some (QM (2:Nat) R [],true)/\QaT 2 R []
def QhX{fa fb:DE}{U:En}{rb:HS.R}{p:Int×Int}{n:Nat}(ha:fa U=some (reT (.lst [pairD p])))(hb:fb U=some rb)(eb:rb.d= .int n)(hn:n<=1000):Q3 fa fb U=some (reT (QX (List.replicate n p))):=by
 unfold Q3;rw[ha,Za,hb,Za,eb];show(if [pairD p].length*(n:Int).toNat<=sizeLine/\ -(2^63)<=(n:Int)/\(n:Int)<2^63/\Q7 [pairD p]=true then some (HS.R.mk (.lst (List.replicate (n:Int).toNat [pairD p]).flatten) true [])else none)=_;rw[if_pos ⟨by rw[QdU];simp;lia,⋯,⋯,rfl⟩,Zax];congr 2;unfold QX;rw[List.map_replicate];congr 1;clear hn hb eb
 induction n with
 | zero=>rfl
 | succ n ih=>rw[Zae,Zam,ih,Zae];rfl
def Qvp(a b c:Nat)(ha:a<=20)(hb:b<=30)(hc:c<=30)(b2:2<=b)(c2:2<=c):QaT 2 (List.replicate a (0,1)++List.replicate b (0,2)++List.replicate c (1,2)) []:=by
 have e:List.replicate a ((0:Int),(1:Int))++List.replicate b (0,2)++List.replicate c (1,2)=(List.replicate a ((0:Int),(1:Int),false)++List.replicate b (0,2,false)++List.replicate c (1,2,false)).map QcF:=by
  rw[Zap,Zap,List.map_replicate,List.map_replicate,List.map_replicate];rfl
 rw[e];refine Qs8 (λA ⟨p,hp,hA⟩=>?_) (λw hw=>?_) (by simp;lia)
 .rcases(show p=0∨p=1 by lia)with rfl | rfl
  .exact⟨(0,2,false),by simp;lia,∅,hA,.inl rfl⟩
  .exact⟨(1,2,false),by simp;lia,∅,hA,.inl rfl⟩
 .have:w=(0,1,false)∨w=(0,2,false)∨w=(1,2,false):=by
   rcases Zr.mp hw with h | h
   .rcases Zr.mp h with h | h
    .exact .inl (List.mem_replicate.mp h).2
    .exact .inr (.inl (List.mem_replicate.mp h).2)
   .exact .inr (.inr (List.mem_replicate.mp h).2)
  rcases this with rfl | rfl | rfl<;>exact⟨by unfold Good;decide,∅⟩
def Qrr{dc:Den}(hc:Qgh dc):Qi4 (Qu 4 (QkJ dc)):=λns hl hbits=>by
 obtain⟨F,hF⟩:=hc ns hl hbits;have q0:=ZM (F 12*48271) (by decide:(2147483647:Int)≠0);have q1:=ZO (F 12*48271) (by decide:(0:Int)<2147483647);obtain⟨q,hq⟩:∃q:Int,q=F 12*48271 % 2147483647:=⟨_,rfl⟩;rw[← hq]at q0 q1;obtain⟨a,ea⟩:∃a:Nat,q % 4=a/\a<=20:=⟨(q % 4).toNat,⋯,⋯⟩;obtain⟨b,eb⟩:∃b:Nat,2+q / 4 % 19=b/\b<=30/\2<=b:=⟨(2+q / 4 % 19).toNat,⋯,⋯,⋯⟩;obtain⟨c,ec⟩:∃c:Nat,2+q / 76 % 16=c/\c<=30/\2<=c:=⟨(2+q / 76 % 16).toNat,⋯,⋯,⋯⟩;refine⟨_,Q0 ?_,Qvp a b c ea.2 eb.2.1 ec.2.1 eb.2.2 ec.2.2⟩;refine rsa ((Qaf (Qai (Qt (r:=⟨[.lst (ns.map .int),.int 12],false,[]⟩) rfl (hF 12 ∅).1 rfl) rfl (QaB _ _) rfl (Qcy ∅)) rfl (QaB _ _) rfl ∅).trans (by rw[← hq])) ?_;refine rsa (Qaf rfl rfl (QaB _ _) rfl ∅) ?_;rw[ea.1];refine rsa (Qew (Qew (QhX (p:=(0,1)) rfl rfl rfl ⋯) rfl (QhX (p:=(0,2)) rfl ((Q6 (QaB _ _) rfl (Qaf (QeB rfl rfl (QaB _ _) rfl ∅ ∅) rfl (QaB _ _) rfl ∅) rfl).trans (by rw[eb.1])) rfl ⋯) rfl (by simp;lia)) rfl (QhX (p:=(1,2)) rfl ((Q6 (QaB _ _) rfl (Qaf (QeB rfl rfl (QaB _ _) rfl ∅ ∅) rfl (QaB _ _) rfl ∅) rfl).trans (by rw[ec.1])) rfl ⋯) rfl (by simp;lia)) ?_;exact Qy rfl ⟨rfl,rfl⟩
noncomputable def QjQ(Qbd:Den)(QbP:Den):DS:=(Qb (QO (Qo 1 QbP [] (Qa (QL (Qab (Qo 1 Qbd [] (Qa vv0 Qd))) (.nm 1) [none,none] QW (QL (Qab vv1) (.nm 1) [none,none] QW (dOp QaS kk0 vv1))) Qd))) Qh)
def Qjq(d:Den):Prop:=∀(m:Nat) (R L:Lpp),0<m->m<=3->QaT m R L->d [QM m R L]=some (.int (det m (QU (Qq m (Qj R L)))),true)
def QsS{dt dm:Den}(ht:TabsOk dt)(hm:QdZ 3 dm):Qjq (Qu 1 (QjQ dt dm)):=λm R L m0 m3 hw=>by
 have gd:=hw.good;have et:=ht m R L m0 ⋯ ⋯ gd.1 gd.2.1;exact Q0 (Qy (Qt (Qw (Quy (Qak (Qt rfl et rfl) rfl) rfl) (Q8 _)) (hm m _ ⋯ m3 ⋯ hw.big) rfl) ⟨rfl,rfl⟩)
def Qkj(k:Nat)(rs:List (List Int)):(D.lst (rs.map QK)).sim (k+2)=true:=by
 simp only[D.sim,Zct,Zat];intro r _;show(D.lst (r.map .int)).sim (k+1)=true;simp only[D.sim,Zct,Zat];intro x _;show(D.int x).sim k=true;cases k<;>rfl
def QxS:QaT 1 [(0,1),(0,1)] [(0,1)]:=⟨[(0,1,false),(0,1,false),(0,1,true)],λA ⟨p,hp,hA⟩=>⟨(0,1,false),⋯,∅,by rw[show p=0 by lia]at hA;exact hA,.inl rfl⟩,λw hw=>by
 have:w=(0,1,false)∨w=(0,1,true):=by simpa using hw
 rcases this with rfl | rfl<;>exact⟨by unfold Good;decide,∅⟩,∅,rfl,rfl⟩
def Qnh:Qq 1 (Qj [(0,1),(0,1)] [(0,1)]) 0 0= -3:= nofun
def Qpt:det 1 (QU (Qq 1 (Qj [(0,1),(0,1)] [(0,1)])))=3:=by
 show 0+1*(0-Qq 1 (Qj [(0,1),(0,1)] [(0,1)]) 0 0)*1=3;rw[Qnh];rfl
def QuZ{rs:List (List Int)}(h:Qni 1 (Qq 1 (Qj [(0,1),(0,1)] [(0,1)])) rs):rs=[[0],[1],[2]]:=by
 have hl:=h.many;rw[Qpt]at hl;have one:∀r∈rs,∃x:Int,r=[x]/\0<=x/\x<3:=λr hr=>by
  have l:=h.rc.len r hr;have a:=(h.rc.rc r hr).nn 0 ∅;have b:=(h.rc.rc r hr).stb 0 ∅;rw[Qnh]at b
  match r,l with
  | [x],_=>exact⟨x,rfl,a,b⟩
 match rs,hl,one,h.srt,h.rc.nd with
 | [r,s,t],_,one,so,nd=>
  obtain⟨x,rfl,x0,x3⟩:=one r ⋯;obtain⟨y,rfl,y0,y3⟩:=one s ⋯;obtain⟨z,rfl,z0,z3⟩:=one t ⋯;have u1:=so.up nd (k:=0) rfl rfl;have u2:=so.up nd (k:=1) rfl rfl;have lt:∀a b:Int,HT.lexLt [a] [b]=true->a<b:=λa b h=>by
   rw[HT.Qcx]at h;by_cases e:a=b
   .rw[if_pos e]at h;cases h
   .rw[if_neg e]at h;exact of_decide_eq_true h
  have:=lt _ _ u1;have:=lt _ _ u2;rw[show x=0 by lia,show y=1 by lia,show z=2 by lia]
def QrV{x:Nat}{xs:List D}{U:En}{Q:Out->Prop}(hx:U[x]? =some (slT (.lst xs)))(q:Q (.nx (U.set x (slT (.lst []))))):Run (QkY x Qam) U Q:=by
 refine⟨_,?_,q⟩;unfold QkY;rw[hx];rfl
def QqW{fa:DE}{U:En}{r:HS.R}{cs:List Int}(h:fa U=some r)(e:r.d=QK cs):dList (Qa fa Qd) U=some (reT (QK cs)):=by
 unfold dList;rw[Qw h (Q8 _),Za,e];show some (QaA (cs.map .int) _)=_;unfold QaA;rw[if_pos (Qoo cs)];rfl
noncomputable def Ql0(Qdl:Den)(Qaj:Den)(Qca:Den)(QcH:Den)(QbN:Den)(QbK:Den)(Qbd:Den)(QcG:Den)(QZ:Den)(QcL:Den):DS:=(Qb (Qp 1 (Qo 3 Qdl [] (Qa vv0 (Qa kk3 (Qa kk4 Qd))))) (Qb (Qp 2 kk1) (Qb (sIf (bOr (QG (dOp gEq (dOp Qad (dOp Qbc (Qo 2 Qaj [] (Qa vv0 (Qa kk2 Qd))) kk5) kk8) kk1)) (QG (dOp gGt (Qo 1 Qca [] (Qa vv1 Qd)) QBM))) (Qb (Qp 1 (Qo 1 QcH [] (Qa vv0 Qd))) (Qb (Qp 2 kk7) Qh)) Qh) (Qb (Qp 3 (Qo 1 Qca [] (Qa vv1 Qd))) (Qb (sIf (QG (dOp gGt vv3 QkL)) (Qb (QO (Qb0 (Qo 1 QbN [] (Qa vv1 Qd)) (Qo 1 QbK [] (Qa vv1 Qd)))) Qh) Qh) (Qb (Qp 4 (Qo 1 Qbd [] (Qa vv1 Qd))) (Qb (Qp 5 (Qo 1 QcG [] (Qa vv1 Qd))) (Qb (Qp 6 (Qo 1 QZ [] (Qa vv5 Qd))) (Qb (sIf (bOr (Qcm (QG (Qo 4 QcL [] (Qa vv6 (Qa vv4 (Qa vv3 (Qa vv2 Qd))))))) (QG (dOp gNe vv5 vv1))) (Qb (QO (dC (.bl false))) Qh) Qh) (Qb (Qp 7 (QL (Qab vv6) (.nm 1) [none,none] QW (dList (Qa vv1 Qd)))) (Qb (sIf (bOr (QG (dOp gNe (Qo 1 QZ [] (Qa (Qav (Qa kk1 (Qa (Qah (Qa (Qav (Qa kk0 (Qa kk1 Qd))) (Qa (Qav (Qa kk0 (Qa kk1 Qd))) Qd))) (Qa (Qah (Qa (Qav (Qa kk0 (Qa kk1 Qd))) Qd)) Qd)))) Qd)) (Qah (Qa (Qah (Qa kk0 Qd)) (Qa (Qah (Qa kk1 Qd)) (Qa (Qah (Qa kk2 Qd)) Qd)))))) (QG (dOp gNe vv6 vv7))) (Qb (QO (dC (.bl false))) Qh) Qh) (Qb (Qds 6 (Qcr Qam kk0) kk1) (Qb (QkY 6 Qam) (Qb (QO (dOr (dOp gEq vv2 kk7) (dOp gEq (Qo 1 QZ [] (Qa vv1 Qd)) vv7))) Qh))))))))))))))
def QlX{fa fb:DE}{U:En}{ra rb:HS.R}{rs:List (List Int)}(ha:fa U=some ra)(ea:ra.d= .lst (rs.map QK))(hb:fb U=some rb)(eb:rb.d= .lst (rs.map QK)):dOp gNe fa fb U=some (reT (.bl false)):=Qr0 ha ea hb eb (Qkj 6 rs)
set_option maxHeartbeats 0 in
def Qyk{dn dc dm dw db df dt dcp da dg:Den}{xs:List D->Option Str}(hn:Qlk dn)(hc:Qgh dc)(hm:Qjq dm)(hw':Qi4 dw)(hx:Qqc xs)(hb:QgY xs db)(hf:QgY xs df)(ht:TabsOk dt)(hcp:Qk3 dcp)(ha:Qm9 da)(hg:Qi0 dg)(ns:List Int)(hl:ns.length<=63)(hbits:∀k,Qem (ns.getD k 0)):Qu 8 (Ql0 dn dc dm dw db df dt dcp da dg) [.lst (ns.map .int)]=slT (.bl true):=by
 obtain⟨m,R,L,en,m0,m3,hw⟩:=hn ns 3 4 hl hbits ∅ ∅ ∅;obtain⟨F,hF⟩:=hc ns hl hbits;obtain⟨R2,ew,hw2⟩:=hw' ns hl hbits;have em:=hm m R L m0 m3 hw;refine Q0 ?_;refine rsa (Qt rfl en rfl) ?_;refine rsa rfl ?_;refine Qbb (P:=λU=>∃(m:Nat) (R L:Lpp) (y:Nat),0<m/\m<=3/\QaT m R L/\0<y/\U=[slF (.lst (ns.map .int)),slT (QM m R L),slI y,none,none,none,none,none]) ?_ ?_
 .refine Q5 (Qc9 (QF (Qa4 (Qaf (QeB (Qt rfl (hF 2 ∅).1 rfl) rfl (QaB _ _) rfl ∅ ∅) rfl (QaB _ _) rfl ∅) rfl (QaB _ _) rfl) rfl) (QF (Qf6 (Qt rfl em rfl) rfl rfl rfl) rfl)) (λ_=>?_) (λ_=>Ql ⟨m,R,L,1,m0,m3,hw,∅,rfl⟩);refine rsa (Qt rfl ew rfl) ?_;refine run_seq (QH rfl (Ql ?_));rw[Qac];exact⟨2,R2,[],7,∅,∅,hw2,∅,rfl⟩
 clear em hw m0 m3 en;rintro U ⟨m,R,L,y,m0,m3,hw,y0,rfl⟩;have em:=hm m R L m0 m3 hw;have tp:=hw.tp;have gd:=hw.good;have et:=ht m R L m0 ⋯ ⋯ gd.1 gd.2.1;have ecp:=hcp m R L;refine rsa (Qt rfl em rfl) ?_;by_cases hd:300<det m (QU (Qq m (Qj R L)))
 .have ex:=hx m R L m3 hw hd;refine QS (Q5 ((QF (Qf6 rfl rfl rfl rfl) rfl).trans (by rw[decide_eq_true hd])) (λ_=>?_) (λh=>by cases h));exact QS (Qgg (Qiq (Qt rfl (hb m R L ex) rfl) (Qt rfl (hf m R L ex) rfl)) ⟨rfl,rfl⟩)
 obtain⟨rs,ea,al⟩:=ha m R L m0 m3 hw ⋯;obtain⟨qs,eo,ao⟩:=ha 1 _ _ ∅ ∅ QxS (by rw[Qpt];decide);rw[QuZ ao]at eo;have eg:=hg m (Qq m (Qj R L)) rs y m0 ⋯ tp al.rc al.srt (by have:=al.many;lia) y0;have mn:=al.many;refine QS (Q5 ((QF (Qf6 rfl rfl rfl rfl) rfl).trans (by rw[decide_eq_false hd])) (λh=>by cases h) (λ_=>Ql ?_));rw[← mn]at hd ⊢;generalize Qq m (Qj R L)=T at *;refine rsa (Qt rfl et rfl) ?_;refine rsa (Qt rfl ecp rfl) ?_;refine rsa (Qt rfl ea rfl) ?_;refine QS (Q5 (Qc9 (Qdi (b:=true) (QF (Qt rfl eg rfl) rfl)) (QF (Qr0 rfl rfl rfl rfl (Qxh m R L)) rfl)) (λh=>by cases h) (λ_=>Ql ?_));refine rsa (QI rs (Qak rfl rfl) rfl λr _=>⟨[none,slF (QK r)],rfl,reT (QK r),QqW rfl rfl,rfl,rfl⟩) ?_;refine QS (Q5 (Qc9 (QF (QlX (Qt rfl eo rfl) rfl rfl rfl) rfl) (QF (QlX rfl rfl rfl rfl) rfl)) (λh=>by cases h) (λ_=>Ql ?_));cases rs with
 | nil=>have:=Qg8 tp m (Zd m);have mn:((0:Nat):Int)=det m λl r=>0-T l r:=mn;lia
 | cons r0 rs=>
  have l0:=al.rc.len r0 ⋯;refine run_seq (Qt8 rfl (QaB _ _) (by rw[Zj];lia) ?_);refine run_seq (QrV rfl ?_);refine Qy (Qqr (Qa4 rfl rfl (QaB _ _) rfl) (Qld (Qt rfl ea rfl) rfl rfl rfl (Qkj 6 _))) ⟨by rw[Bool.or_true],rfl⟩
def Qsu(m:Mt2):∀n,n<=3->det n (λj r=>m r j)=det n m
 | 0,_=>rfl
 | 1,_=>rfl
 | 2,_=>by
  simp only[det,sm,skp,sgn];simp
  grind
 | 3,_=>by
  simp only[det,sm,skp,sgn];simp
  grind
def Qu3{m:Nat}{T:Mt2}(tp:TP m T)(m3:m<=3):QfC m λj i=>QU T i j:=λk hk c h=>by
 have p:=Qg8 tp (k+1) hk;have p2:det (k+1) (λj i=>QU T i j)≠0:=by rw[Qsu (QU T) (k+1) ⋯];exact λz=>by have p:0<det (k+1) (QU T):=p;lia
 have e:=QuW (n:=k+1) (A:=λj i=>QU T i j) (l:=k) (v:=c) (g:=λ_=>0) ⋯ λr hr=>(h r ⋯).symm;have z:det (k+1) (cup (λj i=>QU T i j) k λ_=>0)=0:=by
  have:=Qit (n:=k+1) (m:=λj i=>QU T i j) (c:=k) ⋯ 0 (λ_=>0);rw[ZQ]at this;simpa using this
 rw[z]at e;rcases Int.mul_eq_zero.mp e.symm with q | q
 .exact q
 .exact absurd q p2
def QuQ{dt dc:Den}(ht:QpM dt)(hc:Qfq dc):QjV (Qu 1 (QkM dt (Qu 1 (QhH dc)))):=λm R L m3 hw=>by
 have m8:m<=8:=Zw m3 ∅;have tp:=hw.tp;have big:=hw.big;have et:=ht m R L m8 hw;generalize Qq m (Qj R L)=T at *;obtain⟨k,R',b,ec,C⟩:=hc m m (λj i=>QU T i j) m8 (Zd m) (λj hj r hr=>big r hr j hj) (Qu3 tp m3);have eb:b=det m (QU T):=by
  rw[← Qsu (QU T) m m3,← C.clr.det];exact Qbv λj hj r _=>by rw[C.clr.own j hj]
 have e1:Qu 1 (QhH dc) [Qn m m (QU T)]=slI (det m (QU T)):=by
  refine Q0 (Qy (r:=reI (det m (QU T))) ?_ ⟨rfl,rfl⟩);rw[← eb];exact(Qy5 ((QeG (fs:=Qa (Qf 0) Qd) (U:=[slF (Qn m m (QU T))]) rfl ec rfl).trans rfl)).trans rfl
 exact Q0 (Qy (Qt (Qw (Qt rfl et rfl) (Q8 _)) e1 rfl) ⟨rfl,rfl⟩)
end HS
def HS.some_of{α:Type}{x:Option α}{d:α}(h:x.isSome=true):x=some (x.getD d):=by cases x with | none=>cases h | some a=>rfl
namespace Law
open PySem L2 HS
noncomputable section
def top(i:Nat):Stmt:=PySem.Challenge.pw_heapstill_k47_all_again.main.body.getD i (.Pass ⟨0,0,0,0⟩)
abbrev cst:List (Str×Cn):=[("MOST_HEAPS",300)]
abbrev Sc(s:Stmt)(P:List Str):Prop:=QbM (namesOf (Qr s)) P (Qr s)
def scM{s:Stmt}{P:List Str}(h1:(Qr s).kind= .function)(h2:(Qr s).isCoroutine=false)(h3:(Qr s).isGenerator=false)(h4:(namesOf (Qr s)).Nodup/\(namesOf (Qr s)).take P.length=P/\(∀x∈P,(Qr s).names.lookup x=some .local ∨(Qr s).names.lookup x=some .cell)/\∀y∈(Qr s).names,y.2≠ .free):Sc s P:=⟨h1,h2,h3,h4.1,h4.2.1,h4.2.2.1,h4.2.2.2⟩
noncomputable abbrev Cp(s:Stmt)(Γ:List (Str×FnR)):Option DS:=QaN 60 (QeY s Γ cst) (QaR s)
noncomputable abbrev Dn(s:Stmt)(g:DS):Den:=Qu (namesOf (Qr s)).length g
noncomputable abbrev Gc(x:Str)(n:Nat)(d:Den)(Γ:List (Str×FnR)):List (Str×FnR):=(x,⟨n,[],d⟩)::Γ
structure Kn (x:Str) (s:Stmt) (P:List Str) (Γ:List (Str×FnR)) (g:DS):Prop where
 a:Sc s P
 b:Qba x s P
 c:Cp s Γ=some g
def eqQ(P:Den->Prop)(d:Den){e:Den}(h:P e)(q:d=e:=by kernel_rfl):P d:=q▸h
def kc{Pr:Program}{w:World}{K:PySem.W.Frag}{mg:Str->Option Value}{h:Heap}{x:Str}{s:Stmt}{P:List Str}{k:Nat}{Γ:List (Str×FnR)}{g:DS}(X:K.In h)(G:h.Ns mainGlobals mg)(M:QdN mg cst)(t:∀b:Heap,QbD Pr w K mg b k Γ)(q:Kn x s P Γ g)(F:Fact K x s)(b:Heap):QbD Pr w K mg b (k+1) ((x,⟨P.length,[],Dn s g⟩)::Γ):=(t b).cons (QeE X G F q.a q.b M (t b) q.c)
local macro_rules | `(tactic| trivial)=> `(tactic| (refine⟨scM rfl rfl rfl nofun,λ_ _ _ _ _ _=>?_,some_of nofun⟩;repeat' first | exact l0 rfl | refine lc λ_=>?_))
noncomputable abbrev cls:List Str:=["TooMany"]
noncomputable abbrev QCo:List (Str×List (Str×Bool)):=[("TooMany",[("TooMany",true),("HeapError",true),("ValueError",true),("NoRow",false),("NotPlain",false)])]
noncomputable abbrev sub:=QvP QCo
noncomputable abbrev CpT(s:Stmt)(Γ:List (Str×FnR))(Γx:List (Str×(Nat×(List D->Option Str))))(hΓ:List (Str×FnR)):Option DS:=QaN 60 (thT 60 s Γ cst ⟨Γx,cls⟩ sub hΓ) (QaR s)
noncomputable abbrev CpX(s:Stmt)(Γ:List (Str×FnR))(Γx:List (Str×(Nat×(List D->Option Str)))):Option DX:=Qe9 60 (QeY s Γ cst) ⟨Γx,cls⟩ (QaR s)
abbrev Qfw:=top 8
def QiS:=(Cp Qfw []).getD Qx
def QoR:Kn "need_rows" Qfw ["net","rows"] [] QiS:=by trivial
abbrev Qa9:=Dn Qfw QiS
abbrev QfG:=Gc "need_rows" 2 Qa9 []
abbrev Qfa:=top 9
def Qhf:=(Cp Qfa QfG).getD Qx
def QmW:Kn "need_heaps" Qfa ["net","heaps"] QfG Qhf:=by trivial
abbrev QbI:=Dn Qfa Qhf
abbrev QeK:=Gc "need_heaps" 2 QbI QfG
abbrev Qjb:=top 11
def QmY:=(Cp Qjb QeK).getD Qx
def Qus:Kn "column" Qjb ["table","at"] QeK QmY:=by trivial
abbrev QdE:=Dn Qjb QmY
abbrev QiX:=Gc "column" 2 QdE QeK
abbrev QiW:=top 12
def QmP:=(Cp QiW QiX).getD Qx
def Quk:Kn "turned" QiW ["table"] QiX QmP:=by trivial
abbrev QgR:=Dn QiW QmP
abbrev Qjo:=Gc "turned" 1 QgR QiX
abbrev Qgs:=top 13
def Qj6:=(Cp Qgs Qjo).getD Qx
def Qqj:Kn "unit_row" Qgs ["size","at"] Qjo Qj6:=by trivial
abbrev Qbr:=Dn Qgs Qj6
abbrev QgO:=Gc "unit_row" 2 Qbr Qjo
abbrev QgD:=top 14
def QjS:=(Cp QgD QgO).getD Qx
def Qrl:Kn "opposite" QgD ["line"] QgO QjS:=by trivial
abbrev Qb1:=Dn QgD QjS
abbrev QgK:=Gc "opposite" 1 Qb1 QgO
abbrev QjG:=top 15
def QoI:=(Cp QjG QgK).getD Qx
def Quj:Kn "common" QjG ["numbers"] QgK QoI:=by trivial
abbrev QgC:=Dn QjG QoI
abbrev Qjz:=Gc "common" 1 QgC QgK
abbrev QeX:=top 17
def QhI:=(Cp QeX Qjz).getD Qx
def Qnz:Kn "with_pivot" QeX ["lines","at"] Qjz QhI:=by trivial
abbrev Qdu:=Dn QeX QhI
abbrev QeR:=Gc "with_pivot" 2 Qdu Qjz
abbrev QfV:=top 18
def QiJ:=(Cp QfV QeR).getD Qx
def QoX:Kn "taken_off" QfV ["line","pivot_line","at","before"] QeR QiJ:=by trivial
abbrev QdQ:=Dn QfV QiJ
abbrev Qfs:=Gc "taken_off" 4 QdQ QeR
abbrev Qg6:=top 16
def Qmj:=(Cp Qg6 Qfs).getD Qx
def QrC:Kn "cleared" Qg6 ["lines"] Qfs Qmj:=by trivial
abbrev Qcn:=Dn Qg6 Qmj
abbrev QhK:=Gc "cleared" 1 Qcn Qfs
abbrev Qhz:=top 19
def Qmi:=(Cp Qhz QhK).getD Qx
def QsE:Kn "measure" Qhz ["table"] QhK Qmi:=by trivial
abbrev Qd3:=Dn Qhz Qmi
abbrev Qhe:=Gc "measure" 1 Qd3 QhK
abbrev Qdo:=top 20
def Qfn:=(Cp Qdo Qhe).getD Qx
def QkP:Kn "cleared_whole" Qdo ["lines"] Qhe Qfn:=by trivial
abbrev Qcf:=Dn Qdo Qfn
abbrev Qdk:=Gc "cleared_whole" 1 Qcf Qhe
abbrev QeW:=top 21
def QhB:=(Cp QeW Qdk).getD Qx
def Qol:Kn "shared_out" QeW ["table","row"] Qdk QhB:=by trivial
abbrev Qc5:=Dn QeW QhB
abbrev QeM:=Gc "shared_out" 2 Qc5 Qdk
abbrev QkQ:=top 23
def QpO:=(Cp QkQ QeM).getD Qx
def QwX:Kn "steps" QkQ ["roads","lanes"] QeM QpO:=by trivial
abbrev Qc0:=Dn QkQ QpO
abbrev QkV:=Gc "steps" 2 Qc0 QeM
abbrev Qe6:=top 24
def Qhc:=(Cp Qe6 QkV).getD Qx
def Qm6:Kn "toll_table" Qe6 ["net"] QkV Qhc:=by trivial
abbrev Qar:=Dn Qe6 Qhc
abbrev QeU:=Gc "toll_table" 1 Qar QkV
abbrev QfT:=top 25
def QiU:=(Cp QfT QeU).getD Qx
def QoV:Kn "span_list" QfT ["net"] QeU QiU:=by trivial
abbrev QdO:=Dn QfT QiU
abbrev Qft:=Gc "span_list" 1 QdO QeU
abbrev Qk2:=top 26
def Qps:=(Cp Qk2 Qft).getD Qx
def Qxz:Kn "after" Qk2 ["net","row","counts"] Qft Qps:=by trivial
abbrev Qir:=Dn Qk2 Qps
abbrev Qlu:=Gc "after" 3 Qir Qft
abbrev Qfv:=top 28
def QiA:=(Cp Qfv Qlu).getD Qx
def QoS:Kn "net_table" Qfv ["net"] Qlu QiA:=by trivial
abbrev QbA:=Dn Qfv QiA
abbrev QfU:=Gc "net_table" 1 QbA Qlu
abbrev Qg7:=top 31
def Qme:=(Cp Qg7 QfU).getD Qx
def Qs4:Kn "settled" Qg7 ["tolls","heap","counts"] QfU Qme:=by trivial
abbrev Qfi:=Dn Qg7 Qme
abbrev Qg9:=Gc "settled" 3 Qfi QfU
abbrev QlU:=top 30
def Qpg:=(Cp QlU Qg9).getD Qx
def Qw6:Kn "still" QlU ["net","heap"] Qg9 Qpg:=by trivial
abbrev QdG:=Dn QlU Qpg
abbrev QkU:=Gc "still" 2 QdG Qg9
abbrev Qd7:=top 34
def Qg3:=(Cp Qd7 QkU).getD Qx
def Qmv:Kn "near_counts" Qd7 ["net","row"] QkU Qg3:=by trivial
abbrev QcQ:=Dn Qd7 Qg3
abbrev Qeg:=Gc "near_counts" 2 QcQ QkU
abbrev Qdw:=top 35
def Qff:=(Cp Qdw Qeg).getD Qx
def Qkp:Kn "doubled_spans" Qdw ["net"] Qeg Qff:=by trivial
abbrev Qbt:=Dn Qdw Qff
abbrev Qdv:=Gc "doubled_spans" 1 Qbt Qeg
abbrev s_again:=top 33
def QpA:=(Cp s_again Qdv).getD Qx
def Qw5:Kn "again" s_again ["net","row"] Qdv QpA:=by trivial
abbrev Qic:=Dn s_again QpA
abbrev QlD:=Gc "again" 2 Qic Qdv
abbrev Qg2:=top 36
def QkD:=(Cp Qg2 QlD).getD Qx
def Qq6:Kn "heap_sum" Qg2 ["net","one","other"] QlD QkD:=by trivial
abbrev Qbn:=Dn Qg2 QkD
abbrev Qgx:=Gc "heap_sum" 3 Qbn QlD
abbrev Qjx:=top 37
def Qn6:=(Cp Qjx Qgx).getD Qx
def QtE:Kn "nought" Qjx ["net"] Qgx Qn6:=by trivial
abbrev Qcj:=Dn Qjx Qn6
abbrev Qjv:=Gc "nought" 1 Qcj Qgx
abbrev Qgq:=top 40
def Qkh:=(Cp Qgq Qjv).getD Qx
def Qqb:Kn "how_many" Qgq ["net"] Qjv Qkh:=by trivial
abbrev QaU:=Dn Qgq Qkh
abbrev Qdc:=Gc "how_many" 1 QaU Qjv
abbrev Qa7:=top 41
def QhF:Sc Qa7 ["net"]:=scM rfl rfl rfl nofun
def QiP:Qba "all_again" Qa7 ["net"]:=λ_ _ _ _ _ _=>lc λ_=>l0 rfl
noncomputable def Qhh:=(CpX Qa7 Qdc []).getD xNo
def QmV:CpX Qa7 Qdc []=some Qhh:=some_of nofun
noncomputable abbrev QbO:=QgH (namesOf (Qr Qa7)).length Qhh
noncomputable abbrev Qdq:List (Str×(Nat×(List D->Option Str))):=("all_again",(1,QbO))::[]
def QiO:=(Cp Qa7 Qdc).getD Qx
def Qo8:Cp Qa7 Qdc=some QiO:=some_of nofun
abbrev QZ:=Dn Qa7 QiO
abbrev Qfu:=Gc "all_again" 1 QZ Qdc
abbrev Qfr:=top 43
def QiM:=(Cp Qfr Qfu).getD Qx
def QoP:Kn "_law_cell" Qfr ["_law_script","_law_k"] Qfu QiM:=by trivial
abbrev Qaj:=Dn Qfr QiM
abbrev QfN:=Gc "_law_cell" 2 Qaj Qfu
abbrev QeC:=top 44
def Qhq:=(Cp QeC QfN).getD Qx
def QnB:Kn "_law_whole" QeC ["_law_found"] QfN Qhq:=by trivial
abbrev Qdx:=Dn QeC Qhq
abbrev Qe8:=Gc "_law_whole" 1 Qdx QfN
abbrev QdF:=top 45
def QfY:=(Cp QdF Qe8).getD Qx
def Qlj:Kn "_law_numbers" QdF ["_law_found","_law_size"] Qe8 QfY:=by trivial
abbrev Qcu:=Dn QdF QfY
abbrev Qlb:=Gc "_law_numbers" 2 Qcu Qe8
abbrev Qae:=top 46
def Qdp:Sc Qae ["_law_table"]:=scM rfl rfl rfl nofun
def Qcs:Qba "_law_measure" Qae ["_law_table"]:=λ_ _ _ _ _ _=>lc λ_=>l0 rfl
abbrev QjA:Den:=λ_=>none
abbrev QcY:=Gc "_law_measure" 1 QjA Qlb
def QeT:=(Cp Qae QcY).getD Qx
def Qi6:Cp Qae QcY=some QeT:=some_of nofun
abbrev QeZ:=Dn Qae QeT
abbrev QcW:=Gc "_law_measure" 1 QeZ QcY
def Qe4:=(Cp Qae QcW).getD Qx
def Qi3:Cp Qae QcW=some Qe4:=some_of nofun
abbrev QeA:=Dn Qae Qe4
abbrev QcR:=Gc "_law_measure" 1 QeA QcW
def Qfc:=(Cp Qae QcR).getD Qx
def QjD:Cp Qae QcR=some Qfc:=some_of nofun
abbrev QcU:=Dn Qae Qfc
abbrev QcT:=Gc "_law_measure" 1 QcU QcR
abbrev QbP:=QcU
abbrev QfI:=top 47
def Qiy:=(Cp QfI QcT).getD Qx
def QoK:Kn "_law_base" QfI ["_law_many_here","_law_turn","_law_kind"] QcT Qiy:=by trivial
abbrev QdR:=Dn QfI Qiy
abbrev QfS:=Gc "_law_base" 3 QdR QcT
abbrev QfH:=top 48
def Qiw:=(Cp QfH QfS).getD Qx
def Qo0:Kn "_law_fits" QfH ["_law_many_here","_law_ways"] QfS Qiw:=by trivial
abbrev Qa8:=Dn QfH Qiw
abbrev QfL:=Gc "_law_fits" 2 Qa8 QfS
abbrev QfR:=top 49
def QiL:=(Cp QfR QfL).getD Qx
def QoZ:Kn "_law_more" QfR ["_law_ways","_law_cells","_law_many_here","_law_kind"] QfL QiL:=by trivial
abbrev QdP:=Dn QfR QiL
abbrev QfD:=Gc "_law_more" 4 QdP QfL
abbrev QgZ:=top 50
def Qkc:=(Cp QgZ QfD).getD Qx
def QqG:Kn "_law_net" QgZ ["_law_script","_law_most","_law_upto"] QfD Qkc:=by trivial
abbrev Qdl:=Dn QgZ Qkc
abbrev QgA:=Gc "_law_net" 3 Qdl QfD
abbrev Qfb:=top 51
def Qho:=(Cp Qfb QgA).getD Qx
def Qm8:Kn "_law_tolls" Qfb ["_law_net_here"] QgA Qho:=by trivial
abbrev Qbd:=Dn Qfb Qho
abbrev Qfe:=Gc "_law_tolls" 1 Qbd QgA
abbrev QfO:=top 52
def QiN:=(Cp QfO Qfe).getD Qx
def Qo2:Kn "_law_copy" QfO ["_law_net_here"] Qfe QiN:=by trivial
abbrev QcG:=Dn QfO QiN
abbrev QfJ:=Gc "_law_copy" 1 QcG Qfe
abbrev QcB:=top 53
def Qeh:=(Cp QcB QfJ).getD Qx
def Qiv:Kn "_law_made_still" QcB ["_law_tolls_here","_law_heap"] QfJ Qeh:=by trivial
abbrev Qa5:=Dn QcB Qeh
abbrev QcE:=Gc "_law_made_still" 2 Qa5 QfJ
abbrev Qe7:=top 54
def QhW:=(Cp Qe7 QcE).getD Qx
def QoD:Kn "_law_comes" Qe7 ["_law_tolls_here","_law_heap"] QcE QhW:=by trivial
abbrev Qdj:=Dn Qe7 QhW
abbrev QeJ:=Gc "_law_comes" 2 Qdj QcE
abbrev QbH:=top 55
def Qj1:Sc QbH ["_law_net_here"]:=scM rfl rfl rfl nofun
def Qlm:Qba "_law_by_name" QbH ["_law_net_here"]:=λ_ _ _ _ _ _=>lc λ_=>l0 rfl
def Qgc:=(CpT QbH QeJ Qdq []).getD Qx
def QlK:CpT QbH QeJ Qdq []=some Qgc:=some_of nofun
abbrev QbN:=Dn QbH Qgc
abbrev QdC:=Gc "_law_by_name" 1 QbN QeJ
abbrev QbR:=top 56
def Qj8:Sc QbR ["_law_net_here"]:=scM rfl rfl rfl nofun
def Qlo:Qba "_law_refused" QbR ["_law_net_here"]:=λ_ _ _ _ _ _=>lc λ_=>l0 rfl
def Qgn:=(CpT QbR QdC Qdq []).getD Qx
def Qln:CpT QbR QdC Qdq []=some Qgn:=some_of nofun
abbrev QbK:=Dn QbR Qgn
abbrev QdI:=Gc "_law_refused" 1 QbK QdC
abbrev QfK:=top 57
def QiV:=(Cp QfK QdI).getD Qx
def QoT:Kn "_law_good" QfK ["_law_found","_law_tolls_here","_law_many_here","_law_by"] QdI QiV:=by trivial
abbrev QcL:=Dn QfK QiV
abbrev Qfz:=Gc "_law_good" 4 QcL QdI
abbrev QfB:=top 58
def QiF:=(Cp QfB Qfz).getD Qx
def Qo4:Kn "_law_wide" QfB ["_law_script"] Qfz QiF:=by trivial
abbrev QcH:=Dn QfB QiF
abbrev QfP:=Gc "_law_wide" 1 QcH Qfz
abbrev Qfy:=top 59
def QiH:=(Cp Qfy QfP).getD Qx
def QoM:Kn "_law_many" Qfy ["_law_net_here"] QfP QiH:=by trivial
abbrev Qca:=Dn Qfy QiH
abbrev QiI:=Gc "_law_many" 1 Qca QfP
abbrev Qkv:=top 60
def QyP:Sc Qkv ["_law_script"]:=scM rfl rfl rfl nofun
def QBj:Qba "law" Qkv ["_law_script"]:=λ_ _ _ _ _ _=>lc λ_=>l0 rfl
def Qv1:=(Cp Qkv QiI).getD Qx
def QA0:Cp Qkv QiI=some Qv1:=some_of nofun
abbrev Qq8:=Dn Qkv Qv1
def Qtq:Qd3=Qu 1 (HS.QhH Qcn):=by kernel_rfl
def Qx1:Qc0=Qu 4 (HS.QkR):=by kernel_rfl
def Qoe:Qar=Qu 5 (HS.QeD Qc0):=by kernel_rfl
def QqM:QaU=Qu 1 (HS.QkM QbA Qd3):=by kernel_rfl
def QiE:QZ=Qu 6 (HS.Qa1 QaU Qcj Qbr Qbn):=by kernel_rfl
def QlA:QbN=Qu 2 (HS.Qd2 QZ QbO sub):=by kernel_rfl
def Qlv:QbK=Qu 3 (HS.Qd4 QZ QbO sub):=by kernel_rfl
def QAG:Qq8=Qu 8 (HS.Ql0 Qdl Qaj Qca QcH QbN QbK Qbd QcG QZ QcL):=by kernel_rfl
def Qhu:QbO=QgH 6 (HS.Qce Qbr Qbn Qcj QaU):=by kernel_rfl
end
end Law
namespace HS
open PySem PySem.Spec L2
def QuC(mg:Str->Option Value):List Str->Prop
 | []=>True
 | x::r=>mg x=none/\QuC mg r
def QnL{mg:Str->Option Value}:∀{l:List Str},QuC mg l->∀x∈l,mg x=none
 | [],_,x,h=>by simp at h
 | y::r,h,x,hx=>by
  rcases Zm.mp hx with rfl | hx
  .exact h.1
  .exact QnL h.2 x hx
def Qvn(mg:Str->Option Value):List (Str×Cn)->Prop
 | []=>True
 | (x,i)::r=>(∃t,mg x=some (cnV i t))/\Qvn mg r
def Qm5{mg:Str->Option Value}:∀{l:List (Str×Cn)},Qvn mg l->∀x i,look x l=some i->∃t,mg x=some (cnV i t)
 | [],_,x,i,h=>by cases h
 | (y,j)::r,h,x,i,hx=>by
  unfold look at hx;split at hx
  .rename_i e;cases hx;subst e;exact h.1
  .exact Qm5 h.2 x i hx
def Qzk{mg:Str->Option Value}{cs:List (Str×Cn)}(b:QuC mg Qoi)(c:Qvn mg cs):QdN mg cs:=⟨QnL b,Qm5 c⟩
end HS
def HS.QAK{K:Fgg}{mg:PySem.Str->Option PySem.Value}{h:PySem.Heap}{x:PySem.Str}{i:Int}{t:PySem.Tok}(X:K.In h)(G:h.Ns PySem.mainGlobals mg)(a:PySem.W.nsIn K PySem.mainGlobals x=some (some (.int i t))):∃t,mg x=some (.int i t):=⟨t,Zbb X G a⟩
namespace Law
open HS
def Qqt:=eqQ Qgh Qaj Qvj
def QyU:=eqQ Qlf Qdx QuM
def QBJ:=eqQ QnD Qcu (Qw3 QyU)
def QAM:=eqQ Qow QdR Qxd
def QBe:=eqQ Qns Qa8 Qxp
def QAy:=eqQ QnY QdP (QwT QBe)
def QBA:=eqQ Qlk Qdl (Qum Qqt QAM QAy)
def Qr6:=eqQ TabsOk Qbd QwY
def QBp:=eqQ Qk3 QcG Qu5
def QBd:=eqQ QmU Qa5 Qwb
def Qzt:=eqQ QhP Qdj (QqB QBd)
def QmL:Qfd Qar:=by rw[Qoe,Qx1];exact QwU
def Qri:=eqQ Qhn Qa9 QwF
def Qsn:=eqQ Qh7 QbI (Qvb Qri)
def QtS:=eqQ Qht Qfi QqE
def QrS:=eqQ Qif QdG (QtB Qsn QmL QtS)
def Qyr:=eqQ QlM Qir (Qu9 Qri QmL)
def QyG:=eqQ QmM QdO (Qxo QmL)
def Qvf:=eqQ Qhj Qbt (Qq9 QyG)
def QBV:=eqQ QqF Qb1 Qz2
def Qpw:=eqQ QgL QbA (QrI QBV QmL)
def Qp9:=eqQ Qgr QdE Qse
def QwP:=eqQ Qjd QgR (QrX Qp9)
def Qw8:=eqQ Qjy QgC QsU
def Qz5:=eqQ Qlt Qdu (QtV (dop:=Qb1))
def QAg:=eqQ QlT QdQ Qt7
def Qm1:=eqQ Qfq Qcn (Qrc Qz5 QAg)
def Qtu:=eqQ QgW Qcf (Qo9 Qm1)
def Qwa:=eqQ Qjl Qc5 (Qs9 QwP Qtu Qp9 Qw8)
def QAQ:=eqQ Qlr QcQ (Qtz Qpw Qwa)
def Qyp:=eqQ Qk7 Qic (QtI Qri QAQ Qyr Qvf QrS)
def hM1:=eqQ (QdZ 1) QeZ (Qhv Qys)
def hM2:=eqQ (QdZ 2) QeA (Qhv hM1)
def hM3:=eqQ (QdZ 3) QcU (Qhv hM2)
def QAs:QdZ 3 QbP:=hM3
def QwQ:=eqQ Qjs Qcj (QrB Qyp)
def QAH:=eqQ Qn1 Qbn (QxV Qsn QrS)
def QAp:=eqQ QnJ Qbr QwN
def Qy0:QjV QaU:=by rw[QqM,Qtq];exact QuQ (Qxy Qpw) Qm1
def QCd:Qm9 QZ:=by rw[QiE];exact Qwf Qy0 QwQ QAp QAH
def Qv0:ApF QZ QbO:=by rw[QiE,Qhu];exact QvC
def QBX:Qqc QbO:=by rw[Qhu];exact QwW Qy0
def w47:QvW sub:=⟨nofun,nofun,nofun,nofun,nofun⟩
def QBc:=eqQ Qjq Qca (QsS Qr6 QAs)
def QAE:=eqQ Qi4 QcH (Qrr Qqt)
def QAY:=eqQ Qi0 QcL (QsD QBJ Qzt)
def QyN(ns:List Int)(h:ns.length<=63)(hb:∀k:Nat,PySem.Builtin.Int.intBits (ns.getD k 0)<=2^20):∃fr,Qq8 [.lst (ns.map .int)]=some (.bl true,fr):=by
 rw[QAG];exact⟨true,Qyk QBA Qqt QBc QAE QBX (λm R L e=>by rw[QlA];exact QsH Qv0 w47.gg m R L e) (λm R L e=>by rw[Qlv];exact QsK Qv0 w47 m R L e) Qr6 QBp QCd QAY ns h hb⟩
end Law
namespace PySem.W.Fast
def tw838593300942531888:=0
def tw9070353074118365446:=0
def tw18198092700775765461:=0
def tw16372935907416692366:=0
def tw8520681429206559349:=0
def tw2436481264767103277:=0
def tw1033951998806333744:=0
def tw782730120523343184:=0
def tw7341290828775390796:=0
def tw13012718514618017980:=0
def tw17480929127344486669:=0
def tw14646783193542365199:=0
def tw8818827016345521650:=0
def tw7773522526462485262:=0
def tw3451278565987662796:=0
def tw2140699133269719417:=0
def tw9252006141961645605:=0
def tw5860604471135654224:=0
def tw8486260712834973484:=0
def tw8094409106823148547:=0
def tw17877387086058187098:=0
def tw10198582339836821278:=0
def tw1610398530963305472:=0
def tw16311190017893524924:=0
def tw15814055184453846939:=0
def tw9688995480799103132:=0
def tw16888875468272875031:=0
def tw15229002419018847538:=0
def tw8029030166703762988:=0
def tw14837544316481410807:=0
def tw11904164844997419526:=0
def tw7100526468283229448:=0
def tw12371141888171236533:=0
def tw6749627984450965937:=0
def tw11297581185459106918:=0
def tw4732325456079353766:=0
def tw9731874748913044148:=0
def tw1166136665616803419:=0
def tw11942778473790601333:=0
def tw8069868913293577539:=0
def tw2562049334047087111:=0
def tw11306103436561261119:=0
def tw9273111981606574746:=0
def tw2438806000592074036:=0
def tw7887561200146642260:=0
def tw1367929646980833008:=0
def tw4907906887238783593:=0
def tw5607507941569584863:=0
def tw12472510160154565017:=0
def tw6871607060263834224:=0
def tw87818351898079955:=0
def tw7630343408799931677:=0
def tw12404498111059479411:=0
def tw15254273376119622254:=0
def tw10979561658095391857:=0
def tw12729777290956659747:=0
def tw715338820686847034:=0
def tw6961455374914111663:=0
def tw13135125163765427466:=0
def tw2906058046191563044:=0
def tw8013925054588254234:=0
def tw6553227843064883036:=0
def tw16729379321520602019:=0
def tw5995495445307283547:=0
def tw647151783486164324:=0
def tw8012664307204782343:=0
def tw7916883388031701721:=0
def tw817760806679548304:=0
def tw16356564328164582597:=0
def tw14995305020073359637:=0
def tw7671560757515249735:=0
def tw12936726525290717529:=0
def tw18297644493600101849:=0
def tw14670789252130691754:=0
def tw823578958580520230:=0
def tw16317065210459080429:=0
def tw3554343067540537840:=0
def tw10551096621947311027:=0
def tw12337781934761312682:=0
def tw3485164700241260744:=0
def tw6499876298141948782:=0
def tw6799982844450622230:=0
def tw9245353974883759040:=0
def tw17778486443483199770:=0
def tw1460318181533484992:=0
def tw4080704697511125155:=0
def tw16205789251441678643:=0
def tw17821915078459134145:=0
def tw18053006357197518507:=0
def tw11005076134232769765:=0
def tw6072847686415804679:=0
def tw8625908486255203193:=0
def tw314578605615535540:=0
def tw7476240012280231864:=0
def tw9417160960038828863:=0
def tw18026416856784121741:=0
def tw14119122438602046994:=0
def tw3038452505811972714:=0
def tw193909360487627268:=0
def tw393546379312522599:=0
def tw1700380692960806593:=0
def tw6304374193705324732:=0
def tw559081142972944011:=0
def tw4432353334414759237:=0
def tw8151513826632001861:=0
def tw195413378504683964:=0
def tw2488010384255471150:=0
def tw16650020660172319830:=0
def tw5770474123126850540:=0
def tw14349795611295485743:=0
def tw4664391481903456158:=0
def tw9283538756967586615:=0
def tw17006045366826778519:=0
def tw3664695681139298066:=0
def tw14742915527615488531:=0
def tw6398771401456169350:=0
def tw2174658961287904015:=0
def tw11703987931706208365:=0
def tw7556725047041502125:=0
def tw3599705004089250052:=0
def tw1466914498393917696:=0
def tw6276927043141059988:=0
def tw4423615142113539054:=0
def tw13017634634277234118:=0
def tw13600043042299423768:=0
def tw8581622004213547955:=0
def tw516973908825832948:=0
def tw8105227305871597740:=0
def tw7380682044386469440:=0
def tw17201422711504544435:=0
def tw1619686576227685491:=0
def tw11049415924837765484:=0
end PySem.W.Fast
local macro_rules | `(tactic| trivial)=> `(tactic| ((try dsimp only[L2.KOf]);refine' HS.fact_mk ?a ?l ?c ?k;(case a=>k_is);(case l=>k_is);(case c=>k_is);(case k=>k_is)))
open PySem PySem.W PyProof.Rows HS
set_option maxRecDepth 100000 in
set_option maxHeartbeats 0 in
theorem PySem.Challenge.cw_heapstill_k47_all_again_holds : PySem.Challenge.rw_heapstill_k47_all_again.Holds := by
 w_on;o_law;k_head;(case hw=>w_witness2)
 k_fill
 refine HS.Qsm (l:=PySem.Challenge.rw_heapstill_k47_all_again) (k:=48) (x:= "_law_script") (den:=Law.Qq8) rfl rfl ⟨rfl,∅,∅⟩ (λw h Y=>PySem.W.kIn_of Y) Law.QyN ?F
 case F=>
  intro w mg fa h KX G hmg;have M:HS.QdN mg Law.cst:=by
   have n_MOST_HEAPS:∃t,mg "MOST_HEAPS" =some (.int 300 t):=by refine' HS.QAK KX G ?a;(case a=>first | k_is | exact rfl | (dsimp only[L2.KOf];k_is))
   refine HS.Qzk ⟨?_,?_,?_,?_,?_,?_,?_,?_,?_,?_,?_,?_,?_,?_,?_,?_,?_,?_,?_,True.intro⟩ ⟨n_MOST_HEAPS,True.intro⟩<;>exact PySem.W.mg_none_of KX G (by k_is)
  have t0:∀base:Heap,HS.QbD (PySem.Challenge.rw_heapstill_k47_all_again).prog w (L2.KOf KX) mg base 0 []:=λ_=>HS.QbD.nil;have hcl:∀x∈Law.cls,HS.Qhd (L2.KOf KX) x:=HS.Qpx (by refine⟨?_,trivial⟩<;>(dsimp only[L2.KOf];refine' HS.QxZ ?a ?b;(case a=>k_is);(case b=>k_exc)));have hsub:HS.QbS (L2.KOf KX) Law.sub:=by
   refine HS.QwL ⟨⟨?_,?_,?_,?_,?_,?_,trivial⟩,trivial⟩<;>(dsimp only[L2.KOf];first | (refine' HS.QAt ?a ?b ?c ?d ?e ?f ?g;(case a=>k_is);(case b=>k_is);(case c=>k_is);(case d=>k_is);(case e=>k_is);(case f=>k_is);(case g=>k_is)) | (refine' HS.QvA ?a ?b ?c ?d;(case a=>k_is);(case b=>k_is);(case c=>kts_exm);(case d=>kit_is)) | (refine' HS.Qxq ?a ?b ?c ?d;(case a=>k_is);(case b=>k_is);(case c=>kts_exm);(case d=>kit_is)))
  have x0:∀base:Heap,HS.Qee (PySem.Challenge.rw_heapstill_k47_all_again).prog w (L2.KOf KX) mg base 0 []:=λ_=>HS.Qee.nil;have t1:=Law.kc KX G M t0 Law.QoR (by trivial);have t2:=Law.kc KX G M t1 Law.QmW (by trivial);have t3:=Law.kc KX G M t2 Law.Qus (by trivial);have t4:=Law.kc KX G M t3 Law.Quk (by trivial);have t5:=Law.kc KX G M t4 Law.Qqj (by trivial);have t6:=Law.kc KX G M t5 Law.Qrl (by trivial);have t7:=Law.kc KX G M t6 Law.Quj (by trivial);have t8:=Law.kc KX G M t7 Law.Qnz (by trivial);have t9:=Law.kc KX G M t8 Law.QoX (by trivial);have t10:=Law.kc KX G M t9 Law.QrC (by trivial);have t11:=Law.kc KX G M t10 Law.QsE (by trivial);have t12:=Law.kc KX G M t11 Law.QkP (by trivial);have t13:=Law.kc KX G M t12 Law.Qol (by trivial);have t14:=Law.kc KX G M t13 Law.QwX (by trivial);have t15:=Law.kc KX G M t14 Law.Qm6 (by trivial);have t16:=Law.kc KX G M t15 Law.QoV (by trivial);have t17:=Law.kc KX G M t16 Law.Qxz (by trivial);have t18:=Law.kc KX G M t17 Law.QoS (by trivial);have t19:=Law.kc KX G M t18 Law.Qs4 (by trivial);have t20:=Law.kc KX G M t19 Law.Qw6 (by trivial);have t21:=Law.kc KX G M t20 Law.Qmv (by trivial);have t22:=Law.kc KX G M t21 Law.Qkp (by trivial);have t23:=Law.kc KX G M t22 Law.Qw5 (by trivial);have t24:=Law.kc KX G M t23 Law.Qq6 (by trivial);have t25:=Law.kc KX G M t24 Law.QtE (by trivial);have t26:=Law.kc KX G M t25 Law.Qqb (by trivial);have y1:=λb=>(x0 b).mono (k:=26) (ZbJ rfl);have y2:=λb=>(y1 b).cons (HS.Qwz KX G (by trivial) Law.QhF Law.QiP M (t26 b) (y1 b) hcl Law.QmV);have t27:=λb=>(t26 b).cons (HS.QeE KX G (by trivial) Law.QhF Law.QiP M (t26 b) Law.Qo8);have t28:=Law.kc KX G M t27 Law.QoP (by trivial);have t29:=Law.kc KX G M t28 Law.QnB (by trivial);have t30:=Law.kc KX G M t29 Law.Qlj (by trivial);have t31:=λb=>(t30 b).cons (HS.Qq3 KX G (by trivial) Law.Qcs);have t32:=λb=>(t31 b).cons (HS.QeE KX G (by trivial) Law.Qdp Law.Qcs M (t31 b) Law.Qi6);have t33:=λb=>(t32 b).cons (HS.QeE KX G (by trivial) Law.Qdp Law.Qcs M (t32 b) Law.Qi3);have t34:=λb=>(t33 b).cons (HS.QeE KX G (by trivial) Law.Qdp Law.Qcs M (t33 b) Law.QjD);have t35:=Law.kc KX G M t34 Law.QoK (by trivial);have t36:=Law.kc KX G M t35 Law.Qo0 (by trivial);have t37:=Law.kc KX G M t36 Law.QoZ (by trivial);have t38:=Law.kc KX G M t37 Law.QqG (by trivial);have t39:=Law.kc KX G M t38 Law.Qm8 (by trivial);have t40:=Law.kc KX G M t39 Law.Qo2 (by trivial);have t41:=Law.kc KX G M t40 Law.Qiv (by trivial);have t42:=Law.kc KX G M t41 Law.QoD (by trivial);have y3:=λb=>(y2 b).mono (k:=42) (ZbJ rfl);have t43:=λb=>(t42 b).cons (HS.QpP KX G (by trivial) Law.Qj1 Law.Qlm M (t42 b) (y3 b) hcl hsub HS.QlI.nil Law.QlK);have y4:=λb=>(y2 b).mono (k:=43) (ZbJ rfl);have t44:=λb=>(t43 b).cons (HS.QpP KX G (by trivial) Law.Qj8 Law.Qlo M (t43 b) (y4 b) hcl hsub HS.QlI.nil Law.Qln);have t45:=Law.kc KX G M t44 Law.QoT (by trivial);have t46:=Law.kc KX G M t45 Law.Qo4 (by trivial);have t47:=Law.kc KX G M t46 Law.QoM (by trivial);exact HS.QAU KX G hmg (by trivial) Law.QyP Law.QBj M t47 Law.QA0
