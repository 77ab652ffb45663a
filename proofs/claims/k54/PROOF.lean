import PyProof.Rows.All
import Wide.All
import OpenK.AllK
import Wide.FinOn
import Lean
import PyProof.EqAt
import PyProof.EqKinds
import PyProof.TupleCall
import PyProof.Rows.TupTab
import PyProof.DictRoadsH
import PyProof.StrWalks
import PyProof.SliceStr2
import PyProof.StrBlockI
import PyProof.StrBlockG
import PyProof.StrCalls2
import KE.KIntText
import PyProof.Rows.StrSplitMax
import PyProof.ZipIter
import PyProof.EnumMake
import PyProof.Rows.FactsT2
import PyProof.Rows.EnumRows
import PyProof.P3In
import PyProof.NeData
import KE.KUnpack
import PyProof.Rows.TupDisplay
import PyProof.Rows.SumAny
import PyProof.Rows.MinMaxN
import PyProof.Rows.ListRangeD
import PyProof.Rows.Range3
import PyProof.Rows.RuleM_int
import PyProof.Rows.SortShell
import PyProof.Rows.SeqMore
import PyProof.DictWalks
import PyProof.ListRange
import PyProof.Rows.SetFrom
import PyProof.CollectIter
import PyProof.SetRoads
import KE.KSortAsk
import KE.KTryOn
import PyProof.ExcBaseAll.ValueError
import PyProof.RulesAs
import PyProof.ExcAttrAll.ValueError
import PyProof.Rows.RegTopCatchBFacts
import KE.RegKTryMore
import KE.RegKIsAll
import PySem.Challenge.RW_heapstill_k54_whole_as_many_trees
set_option Elab.async false
set_option linter.all false
set_option maxRecDepth 100000
local macro_rules | `(⋯)=> `(by first | with_reducible assumption | with_reducible exact Int.natCast_nonneg _ | with_reducible exact Int.ofNat_lt.2 (by assumption) | lia | simp)
local macro_rules | `(∅)=> `(by decide)
def Za:= @Option.bind_some
def Zb:= @List.mem_range
def Zc:= @List.mem_append_right
def Zd:= @List.length_map
def Ze:= @PySem.Heap.get?_push_of_some
def Zf:= @List.mem_append
def Zg:= @List.getElem?_eq_getElem
def Zh:= @List.mem_append_left
def Zi:= @List.getElem?_eq_some_iff
def Zj:= @List.mem_singleton
def Zk:= @List.getElem?_map
def Zl:= @Bool.and_eq_true
def Zm:= @List.size_toArray
def Zn:= @Option.map_eq_some_iff
def Zo:= @Array.length_toList
def Zp:= @List.map_congr_left
def Zq:= @List.mem_cons
def Zr:= @Array.getElem?_eq_getElem
def Zs:= @List.mem_map
def Zt:= @Nat.le_refl
def Zu:= @List.mem_of_getElem?
def Zv:= @List.mem_cons_self
def Zw:= @List.length_cons
def Zx:= @List.mem_filter
def Zy:= @List.map_cons
def Zz:= @List.getElem?_eq_none
def ZA:= @Array.getElem?_toList
def ZC:= @Int.toNat_natCast
def ZD:= @List.length_range
def ZE:= @List.mem_cons_of_mem
def ZF:= @PySem.Heap.get?_push_size
def ZG:= @List.length_append
def ZH:= @Classical.byContradiction
def ZI:= @List.append_assoc
def ZJ:= @Nat.le_trans
def ZK:= @PySem.Heap.get?_none_of_le
def ZL:= @List.lookup_cons
def ZM:= @Int.emod_lt_of_pos
def ZN:= @List.map_map
def ZO:= @List.map_append
def ZP:= @List.length_take
def ZQ:= @List.getElem?_range
def ZR:= @Int.emod_nonneg
def ZS:= @Nat.zero_le
def ZT:= @Int.zero_mul
def ZU:= @Int.mul_nonneg_of_nonpos_of_nonpos
def ZV:= @List.append_nil
def ZW:= @PySem.Heap.lt_size
def ZX:= @List.pairwise_map
def ZY:= @Nat.pow_le_pow_right
def ZZ:= @List.length_drop
def Zaa:= @List.getD_eq_getElem?_getD
def Zab:= @List.sum_cons
def Zac:= @Int.mul_le_mul_of_nonneg_left
def Zad:= @Nat.ne_of_lt
def Zae:= @List.all_eq_true
def Zaf:= @List.nodup_cons
def Zag:= @Option.map_some
def Zah:= @Int.add_mul
def Zai:= @List.take_append_drop
def Zaj:= @Nat.lt_succ_self
def Zak:= @Bool.not_eq_true'
def Zal:= @List.nodup_append
def Zam:= @Nat.lt_of_le_of_ne
def Zan:= @List.pairwise_iff_getElem
def Zao:= @Int.le_refl
def Zap:= @Int.mul_zero
def Zaq:= @List.ext_getElem?
def Zar:= @PySem.Heap.size_push
def Zas:= @List.pairwise_cons
def Zat:= @List.nodup_range
def Zau:= @Nat.lt_succ_of_lt
def Zav:= @Int.mul_nonneg
def Zaw:= @Int.mul_le_mul_of_nonneg_right
def Zax:= @List.eq_nil_of_length_eq_zero
def Zay:= @List.getElem?_append_left
def Zaz:= @PySem.Calls.spliced_cons
def ZaA:= @Int.mul_assoc
def ZaB:= @Nat.le_of_lt
def ZaC:= @Int.mul_comm
def ZaD:= @List.getElem?_zip_eq_some
def ZaE:= @PySem.mem_of_lookup
def ZaF:= @Int.add_zero
def ZaG:= @Bool.false_eq_true
def ZaH:= @Int.one_mul
def ZaI:= @PySem.Calls.spliced_nil
def ZaJ:= @List.range_succ
def ZaK:= @Int.mul_neg
def ZaL:= @List.drop_eq_getElem_cons
def ZaM:= @List.Perm.append_left
def ZaN:= @List.mem_filterMap
def ZaO:= @List.getElem?_set_ne
def ZaP:= @List.getElem?_of_mem
def ZaQ:= @Int.neg_mul
def ZaR:= @List.any_eq_false
def ZaS:= @List.length_set
def ZaT:= @List.replicate_succ
def ZaU:= @List.getElem?_set_self
def ZaV:= @List.pairwise_lt_range
def ZaW:= @Nat.zero_add
def ZaX:= @List.take_of_length_le
def ZaY:= @List.drop_eq_nil_of_le
def ZaZ:= @Nat.lt_irrefl
def Zba:= @Nat.le_succ
def Zbb:= @List.cons_append
def Zbc:= @List.take_length
def Zbd:= @List.filter_cons
def Zbe:= @Nat.lt_of_lt_of_le
def Zbf:= @Nat.lt_of_le_of_lt
def Zbg:= @Nat.add_sub_cancel
def Zbh:= @Int.mul_nonpos_of_nonneg_of_nonpos
def Zbi:= @Int.natAbs_dvd_natAbs
def Zbj:= @Bool.or_eq_true
def Zbk:= @List.flatten_cons
def Zbl:= @Int.zero_sub
def Zbm:= @List.getElem?_take_of_lt
def Zbn:= @List.Pairwise.imp_of_mem
def Zbo:= @List.sum_append_int
def Zbp:= @List.getElem_mem
def Zbq:= @List.not_mem_nil
def Zbr:= @Nat.add_sub_cancel_left
def Zbs:= @Nat.succ_le_succ
def Zbt:= @Int.mul_add
def Zbu:= @Nat.ne_of_gt
def Zbv:= @List.take_left'
def Zbw:= @PySem.W.kia_one
def Zbx:= @Int.ediv_nonneg
def Zby:= @List.length_filter_le
def Zbz:= @Int.emod_add_mul_ediv
def ZbA:= @List.mem_of_mem_take
def ZbB:= @List.mem_of_mem_drop
def ZbC:= @List.getElem?_append_right
def ZbD:= @List.nodup_iff_pairwise_ne
def ZbE:= @Int.natAbs_mul
def ZbF:= @Int.le_trans
def ZbG:= @Nat.le_add_right
def ZbH:= @List.foldlM_cons
def ZbI:= @List.all_map
def ZbJ:= @Int.eq_of_mul_eq_mul_left
def ZbK:= @PySem.Heap.SameBut.update
def ZbL:= @PyProof.noPylong_of_log2
def ZbM:= @PySem.F.slot_list_append
def ZbN:= @List.foldl_cons
def ZbO:= @Int.natCast_add
def ZbP:= @Int.mul_one
def ZbQ:= @Int.eq_ofNat_of_zero_le
def ZbR:= @List.set_eq_take_append_cons_drop
def ZbS:= @List.take_sublist
def ZbT:= @Nat.lt_trans
def ZbU:= @List.range_succ_eq_map
def ZbV:= @List.filter_congr
def ZbW:= @PySem.Heap.get?_update_self
def ZbX:= @List.contains_iff_mem
def ZbY:= @Nat.le_of_ble_eq_true
def ZbZ:= @List.zipIdx_cons
def Zca:= @Nat.le_of_dvd
def Zcb:= @Nat.add_le_add_right
def Zcc:= @List.getElem?_zipIdx
def Zcd:= @List.forIn_cons
def Zce:= @PySem.F.slot_zip_next
def Zcf:= @Nat.le_antisymm
def Zcg:= @List.sum_append
def Zch:= @Nat.add_le_add_left
def Zci:= @List.filter_eq_self
def Zcj:= @List.map_nil
def Zck:= @Int.fdiv_eq_ediv_of_nonneg
def Zcl:= @List.getElem?_drop
def Zcm:= @Int.mul_le_mul
def Zcn:= @List.drop_sublist
def Zco:= @List.getElem?_set
def Zcp:= @PySem.list_append
def Zcq:= @List.take_add_one
def Zcr:= @Int.mul_left_comm
def Zcs:= @Option.isSome_iff_exists
def Zct:= @Bool.true_and
def Zcu:= @PySem.F.type_list_append
def Zcv:= @Prod.fst_swap
def Zcw:= @List.map_take
def Zcx:= @List.length_erase_of_mem
def Zcy:= @PySem.Heap.IsList.push
def Zcz:= @Nat.min_le_right
def ZcA:= @PySem.IsL.update
def ZcB:= @List.eraseIdx_cons_succ
def ZcC:= @Classical.axiomOfChoice
def ZcD:= @List.filter_cons_of_pos
def ZcE:= @Int.dvd_mul_of_dvd_left
def ZcF:= @PySem.W.cellsFrom_some
def ZcG:= @Nat.succ_mul
def ZcH:= @Nat.le_of_eq
def ZcI:= @List.drop_of_length_le
def ZcJ:= @List.filter_eq_nil_iff
def ZcK:= @Int.fmod_nonneg_of_pos
def ZcL:= @List.of_mem_zip
def ZcM:= @List.nil_append
def ZcN:= @Nat.min_le_left
def ZcO:= @Nat.min_eq_left
def ZcP:= @List.forIn_nil
def ZcQ:= @List.take_succ
def ZcR:= @Nat.mul_le_mul
def ZcS:= @PySem.W.mg_of
def ZcT:= @List.map_drop
def ZcU:= @Prod.snd_swap
def ZcV:= @List.any_cons
abbrev Mt2:=Nat->Nat->Int
abbrev Mt1:=Nat->Int
abbrev Lpp:=List (Int×Int)
abbrev LAd:=List PySem.Addr
abbrev Fgg:=PySem.W.Frag
namespace L2
open PySem PySem.Spec PyProof.Rows
structure Mod (K:Fgg) (mg:Str->Option Value) (base:Heap):Prop where
 kin:K.In base
 glob:base.Ns mainGlobals mg
 blt:∃mb,base.Ns builtinsNs mb/\∀x:Str,x≠ "__name__" ->mb x=bootBuiltins x
 nolimit:base.NoLimit
def Loc(sc:Scope)(x:Str):Prop:=sc.names.lookup x=some .local ∨sc.names.lookup x=some .cell
def Look(env:Env)(h:Heap)(m:Str->Option Value)(x:Str)(u:Value):Prop:=
 (env.kindOf x=some .local /\m x=some u)∨((env.kindOf x=some .cell∨env.kindOf x=some .free)/\∃c,env.cells.lookup x=some c/\h.IsCell c (some u))
section
variable {X:Cx}{pins:List (Addr×Obj)}{Z:List (Option V)}{s:Shared}{h':Heap}
def Qu5{N:List Str}(hN:N.Nodup){i j:Nat}{x:Str}(a:N[i]? =some x)(b:N[j]? =some x):i=j:=by
 obtain⟨h1,e1⟩:=Zi.mp a;obtain⟨h2,e2⟩:=Zi.mp b;exact(List.getElem_inj hN).mp (e1.trans e2.symm)
end
def thn{α:Type}{t:Sem α}{Q Q':α->Shared->Prop}{M:Model}{A:Around}{E:Value->Shared->Prop}{s:Shared}(h:wpAny M A t Q E s)(hQ:∀a s,Q a s->Q' a s):wpAny M A t Q' E s:=wpAny_mono h hQ λ_ _ x=>x
section
variable {X:Cx}{a b c:Expr}{ta tb tc:TE}{pos:Pos}
def Qsk(k:Nat):(0:Int)<=2^k:=by
 rw[two_pow_cast];exact Int.natCast_nonneg _
end
structure Qc0 (k:Nat) (A:Around):Prop where
 hd:A.handled=none
 dp:A.depth+3*k+5<recursionLimit
 un:A.units+16*k+200<cLine
def Qc0.mono{j k:Nat}{A:Around}(r:Qc0 k A)(h:j<=k):Qc0 j A:=⟨r.hd,by have:=r.dp;lia,by have:=r.un;lia⟩
def Qc0.deeper{k:Nat}{A:Around}(r:Qc0 (k+1) A)(env:Env):Qc0 k (A.deeper env):=
 ⟨r.hd,by have:=r.dp;show A.depth+1+3*k+5<_;lia,by have:=r.un;show A.units+3+16*k+200<_;lia⟩
def Qc0.depth{k:Nat}{A:Around}(r:Qc0 k A):A.depth<recursionLimit:=by have:=r.dp;lia
def Qc0.units{k:Nat}{A:Around}(r:Qc0 k A):A.units+64<cLine:=by have:=r.un;lia
def Binds(K:Fgg)(fd:FuncData)(ps:List Str)(ds:List Value):Prop:=
 ∀(s:Shared) (us:List Value),K.In s.heap->(us++ds).length=ps.length->BindsTo s fd ⟨us,[]⟩ (ps.zip (us++ds))
def Binds.all{K:Fgg}{fd:FuncData}{ps:List Str}(h:∀us:List Value,us.length=ps.length->bindArgs fd ⟨us,[]⟩=pure (ps.zip us)):Binds K fd ps []:=λs us _ hl=>by
 rw[ZV]at hl ⊢;exact .of_eq (h us hl)
structure Qfg (N P:List Str) (sc:Scope):Prop where
 kind:sc.kind= .function
 co:sc.isCoroutine=false
 gen:sc.isGenerator=false
 nd:N.Nodup
 pre:N.take P.length=P
 par:∀x∈P,sc.names.lookup x=some .local ∨sc.names.lookup x=some .cell
 nofree:∀y∈sc.names,y.2≠ .free
def Qmu{kindOf:Str->Option NameKind}{x:Str}:∀{binds:List (Str×Value)}{m:Str->Option Value},(∀v,(x,v)∉binds)->bindL kindOf binds m x=m x
 | [],_,_=>rfl
 | (n,v)::r,m,h=>by
  unfold bindL;rw[Qmu λw hw=>h w (ZE _ hw)];split
  .have:x≠n:=by rintro rfl;exact h v Zv
   simp[this]
  .rfl
def QmI{kindOf:Str->Option NameKind}{x:Str}:∀{binds:List (Str×Value)}{m:Str->Option Value},(∀v,(x,v)∉binds)->bindC kindOf binds m x=m x
 | [],_,_=>rfl
 | (n,v)::r,m,h=>by
  unfold bindC;rw[QmI λw hw=>h w (ZE _ hw)];split
  .rfl
  .have:x≠n:=by rintro rfl;exact h v Zv
   simp[this]
def Qmi{kindOf:Str->Option NameKind}{x:Str}{v:Value}:∀{P:List Str}{vs:List Value}{i:Nat}{m:Str->Option Value},P.Nodup->P[i]? =some x->vs[i]? =some v->kindOf x=some .local →
  bindL kindOf (P.zip vs) m x=some v
 | [],_,_,_,_,h,_,_=>by simp at h
 | _::_,[],_,_,_,_,h,_=>by simp at h
 | p::P,w::vs,0,m,nd,h1,h2,hk=>by
  simp at h1 h2;subst h1;subst h2;show bindL kindOf ((p,w)::P.zip vs) m p=_;unfold bindL;rw[Qmu λv hv=>(Zaf.mp nd).1 (ZcL hv).1,if_pos hk];simp
 | p::P,w::vs,i+1,m,nd,h1,h2,hk=>by
  show bindL kindOf ((p,w)::P.zip vs) m x=_;unfold bindL;exact Qmi (i:=i) (Zaf.mp nd).2 (by simpa using h1) (by simpa using h2) hk
def Qmg{kindOf:Str->Option NameKind}{x:Str}{v:Value}:∀{P:List Str}{vs:List Value}{i:Nat}{m:Str->Option Value},P.Nodup->P[i]? =some x->vs[i]? =some v->kindOf x≠some .local →
  bindC kindOf (P.zip vs) m x=some v
 | [],_,_,_,_,h,_,_=>by simp at h
 | _::_,[],_,_,_,_,h,_=>by simp at h
 | p::P,w::vs,0,m,nd,h1,h2,hk=>by
  simp at h1 h2;subst h1;subst h2;show bindC kindOf ((p,w)::P.zip vs) m p=_;unfold bindC;rw[QmI λv hv=>(Zaf.mp nd).1 (ZcL hv).1,if_neg hk];simp
 | p::P,w::vs,i+1,m,nd,h1,h2,hk=>by
  show bindC kindOf ((p,w)::P.zip vs) m x=_;unfold bindC;exact Qmg (i:=i) (Zaf.mp nd).2 (by simpa using h1) (by simpa using h2) hk
def QnV{sc:Scope}{n:Nat}{x:Str}(h:sc.names.lookup x=some .cell):∃c,(cellsFrom n sc.names []).lookup x=some c:=by
 have q:=ZcF sc.names n [] (.inl h);exact Zcs.mp q
end L2
namespace HT
open PySem PyProof.Rows
noncomputable def lexLt:List Int->List Int->Bool
 | [],[]=>false
 | [],_::_=>true
 | _::_,[]=>false
 | x::xs,y::ys=>if x=y then lexLt xs ys else decide (x<y)
def Qbq(x y:Int)(xs ys:List Int):lexLt (x::xs) (y::ys)=if x=y then lexLt xs ys else decide (x<y):=rfl
def Qnb:lexLt [] []=false:=rfl
def Qk0(y:Int)(ys:List Int):lexLt [] (y::ys)=true:=rfl
def QlB(x:Int)(xs:List Int):lexLt (x::xs) []=false:=rfl
def Qv2(A:Around)(s:Shared)(a:Int)(t:Tok)(c:Int)(u:Tok):∃e,SeqAt.EqAt A s (.int a t) (.int c u) e/\(e=true↔a=c):=
 ⟨(a == c),SeqAt.EqAt.int_int a t c u,⋯⟩
def Qvb(A:Around)(s:Shared)(a:Int)(t:Tok)(c:Int)(u:Tok)(prog:Program)(w:World)(E:Value->Shared->Prop)(Q:Value->Shared->Prop)(h:Q (.bool (decide (a<c))) s):
  wpAny (model prog w) A (richCompare .Lt (.int a t) (.int c u)) Q E s:=
 (PyProof.Rows.lt_int h:wpAny (model prog w) A (compareOp .Lt (.int a t) (.int c u)) Q E s)
section
variable {prog:Program}{w:World}{A:Around}{E:Value->Shared->Prop}{s:Shared}
noncomputable def sIx(n d:Nat):Option Int->Nat
 | none=>d
 | some v=>if v<0 then(v+(n:Int)).toNat else min v.toNat n
def Qnq(n d:Nat):sIx n d none=d:=rfl
def Ql5(n d k:Nat):sIx n d (some (k:Int))=min k n:=by
 show(if(k:Int)<0 then((k:Int)+(n:Int)).toNat else min (k:Int).toNat n)=min k n;rw[if_neg ⋯,ZC]
end
end HT
namespace L2
open PySem PySem.Spec PyProof.Rows
noncomputable def ixN(n:Nat)(i:Int):Option Nat:=if 0<=i then(if i<n then some i.toNat else none)else if-(n:Int)<=i then some (i+n).toNat else none
noncomputable def atI{α:Type}(xs:List α)(i:Int):Option α:=(ixN xs.length i).bind λj=>xs[j]?
def Qfd{n:Nat}{i:Int}{j:Nat}(h:ixN n i=some j):seqIndex? i n=some j/\j<n/\ -(n:Int)<=i/\i<n:=by
 unfold ixN at h;by_cases h0:0<=i
 .rw[if_pos h0]at h;by_cases h1:i<n
  .rw[if_pos h1]at h;have e:i.toNat=j:=Option.some.inj h;exact⟨by rw[seqIndex_of h0 h1,e],⋯,⋯,h1⟩
  .rw[if_neg h1]at h;cases h
 .rw[if_neg h0]at h;by_cases h1: -(n:Int)<=i
  .rw[if_pos h1]at h;have e:(i+n).toNat=j:=Option.some.inj h;exact⟨by rw[seqIndex_neg ⋯ h1,e],⋯,h1,⋯⟩
  .rw[if_neg h1]at h;cases h
def QwJ{α:Type}{xs:List α}{i:Int}{v:α}(h:atI xs i=some v):∃j,seqIndex? i xs.length=some j/\xs[j]? =some v/\j<xs.length/\ -(xs.length:Int)<=i/\i<xs.length:=by
 unfold atI at h;cases e:ixN xs.length i with
 | none=>rw[e]at h;cases h
 | some j=>
  rw[e]at h;obtain⟨h1,h2,h3,h4⟩:=Qfd e;exact⟨j,h1,h,h2,h3,h4⟩
def Ql8(b:Expr):Prop:=∀o i,subscripted b false o i=operate [o,i] (getItem o i)
section
variable {X:Cx}{a b:Expr}{ta tb:TE}{pos:Pos}
def Qoe(lo hi:Option Int)(n:Nat):(sliceBounds lo hi none n).1=((HT.sIx n 0 lo:Nat):Int)/\(sliceBounds lo hi none n).2.1=((HT.sIx n n hi:Nat):Int)/\(sliceBounds lo hi none n).2.2=1:=by
 refine⟨?_,?_,rfl⟩
 .cases lo with
  | none=>simp[sliceBounds,HT.sIx]
  | some i=>
   simp only[sliceBounds,HT.sIx,Option.getD_none,show(1:Int)>0 by decide,if_true];by_cases h:i<0
   .simp only[h,if_true]<;>lia
   .simp only[h,if_false]<;>lia
 .cases hi with
  | none=>simp[sliceBounds,HT.sIx]
  | some i=>
   simp only[sliceBounds,HT.sIx,Option.getD_none,show(1:Int)>0 by decide,if_true];by_cases h:i<0
   .simp only[h,if_true]<;>lia
   .simp only[h,if_false]<;>lia
def Qna(its:List Value)(lo hi:Option Int):slicePick its.toArray lo hi none=((its.drop (HT.sIx its.length 0 lo)).take (HT.sIx its.length its.length hi-HT.sIx its.length 0 lo)).toArray:=by
 obtain⟨h1,h2,h3⟩:=Qoe lo hi its.toArray.size;unfold slicePick;rw[h1,h2,h3];simp only[sliceRange_one,pick_run,Zm]<;>rfl
variable {o e:Expr}{es:List Expr}{to:TE}{t:TA}{name:Str}{apos cpos:Pos}{T id:String}
end
def foldl_rep(its:List Value):∀(k:Nat) (acc:List Value),
  List.foldl (λx1 x2=>x1++x2) acc.toArray (List.replicate k its.toArray)=(acc++(List.replicate k its).flatten).toArray
 | 0,acc=>by simp
 | k+1,acc=>by
  have e:acc.toArray++its.toArray=(acc++its).toArray:= ⋯
  have e2:(acc++its)++(List.replicate k its).flatten=acc++(List.replicate (k+1) its).flatten:=by
   rw[ZaT,Zbk,ZI]
  rw[← e2,← foldl_rep its k (acc++its),← e,ZaT,ZbN]
section
variable {X:Cx}{pins:List (Addr×Obj)}{s:Shared}{l b:Addr}{xs ys zs:List V}
def Qvh{n:Nat}(h:n<=sizeLine):Builtin.List.listTooLong n=false:=by
 unfold Builtin.List.listTooLong;exact decide_eq_false ⋯
end
section
variable {X:Cx}
def len_rep{α:Type}(xs:List α)(k:Nat):(List.replicate k xs).flatten.length=k*xs.length:=by
 induction k with
 | zero=>simp
 | succ k ih=>rw[ZaT,Zbk,ZG,ih,ZcG,Nat.add_comm]
end
end L2
namespace Att
open PySem PySem.W PySem.Calls PyProof.Rows
def QkS{P:Params}{h:Heap}:∀(ns:List Int) (vs:List Value),WellAll P h vs (ns.map WData.int)->IntsAre vs ns:=by
 intro ns
 induction ns with
 | nil=>
  intro vs w;rw[Zcj]at w;cases w;exact .nil
 | cons n ns ih=>
  intro vs w;rw[Zy]at w;cases w with
  | cons a b=>
   cases a;exact .cons _ _ (ih _ b)
def Qt3{l:OpenLaw}{n:Nat}(hn:l.most=some n){P:Params}{h:Heap}{args:List WData}{vals:List Value}
  (hpre:l.row.toRowW.claim.pre args=true) (hwl:WellAll P h vals args):
  ∃a vs ns,vals=[Value.ref a]/\args=[WData.list (ns.map WData.int)]/\h.get? a=some {cls:= .type "list",data:= .seq vs.toArray}/\IntsAre vs ns/\ns.length<=n:=by
 have hsh:WShape.hasAll [] args [.list .int]=true:=(pre_splitW hpre).1;have hc:l.pre.holds [] {args:=args}=true:=(pre_splitW hpre).2;obtain⟨d,r,rfl,h1,h2⟩:=hasAllW_cons hsh;obtain rfl:=hasAllW_nil h2;obtain⟨xs,rfl,h3⟩:=hasW_list h1;obtain⟨ns,rfl⟩:=items_int h3;have hlen:ns.length<=n:=by
  unfold OpenLaw.pre at hc;have h4:(WTm.not (.lt (.lit (.int (n:Int))) (.len (.arg 0)))).holds [] {args:=[.list (ns.map .int)]}=true:=by
   have h4:=(holds_andW hc).1;rw[hn]at h4;exact h4
  have h5:=condW_of h4 (w_not (w_lt w_lit (w_len_list (w_arg rfl))));rw[Zd]at h5;refine Nat.le_of_not_lt λq=>?_;have q':(n:Int)<((ns.length:Nat):Int):= ⋯
  first
   | (rw[decide_eq_true q']at h5;exact absurd h5 ∅)
   | (simp at h5;lia)
 cases hwl with
 | cons w1 w2=>
  cases w2;cases w1 with
  | list ho hall=>exact⟨_,_,ns,rfl,rfl,ho,QkS ns _ hall,hlen⟩
def QtN(l:OpenLaw)(args:List WData):l.row.toRowW.claim.post args (.bool true) args=true:=
 postW_of (r:=l.row.toRowW) (X:=(true == true))
  (show WShape.has [] (.bool true) .bool=true by first | rfl | decide | simp[WShape.has,WShape.arms,WShape.armsAll])
  (show(WTm.eq .res (.lit (.bool true))).value [] {args:=args,res:=some (.bool true),after:=args}=some (.bool (true == true))from w_eq_bool (w_res rfl) w_lit) rfl
end Att
namespace L2
open PySem PySem.Spec PyProof.Rows
noncomputable abbrev KOf{K:Fgg}{h:Heap}(_:K.In h):PySem.W.Frag:=K
noncomputable def Qfm(s:Stmt):Arguments:=match s with
 | .FunctionDef _ a _ _ _ _ _ _ _ _=>a
 | _=>{posonlyargs:=[],args:=[],vararg:=none,kwonlyargs:=[],kw_defaults:=[],kwarg:=none,defaults:=[]}
noncomputable def Qck(s:Stmt):List Stmt:=match s with
 | .FunctionDef _ _ b _ _ _ _ _ _ _=>b
 | _=>[]
noncomputable def QB(s:Stmt):Scope:=match s with
 | .FunctionDef _ _ _ _ _ _ sc _ _ _=>sc
 | _=>{kind:= .function,names:=[],isGenerator:=false,isCoroutine:=false}
structure Fun (K:Fgg) (x qual:Str) (st:Stmt) (f:Addr) (fd:FuncData):Prop where
 ex:∃(oc:Value) (od:Option Addr) (kV doc pm:Value) (an:Option Addr) (cdv ct:Value) (osl:Array (Option Value)),
  fd=PySem.W.fnOf x qual (Qfm st) (Qck st) (QB st) .none kV doc pm an cdv ct/\K.lookup f=some ⟨oc,od,.func fd,osl⟩/\PySem.W.codeIn K cdv qual=true
 kp:PySem.W.keepIn K (.ref f)=true
section
variable {P:Program}{w:World}{K:Fgg}{mg:Str->Option Value}{base:Heap}
def Fun.binds{x qual:Str}{st:Stmt}{f:Addr}{fd:FuncData}{ps:List Str}(F:Fun K x qual st f fd)
  (h:∀(kV doc pm:Value) (an:Option Addr) (cdv ct:Value) (us:List Value),us.length=ps.length->bindArgs (PySem.W.fnOf x qual (Qfm st) (Qck st) (QB st) .none kV doc pm an cdv ct) ⟨us,[]⟩=pure (ps.zip us)):Binds K fd ps []:=by
 obtain⟨oc,od,kV,doc,pm,an,cdv,ct,osl,rfl,lk,hcd⟩:=F.ex;exact .all (h kV doc pm an cdv ct)
def QyJ{x qual:Str}{st:Stmt}{f:Addr}{oc:Value}{od an:Option Addr}{osl:Array (Option Value)}{kV doc pm cdv ct:Value}(l:K.lookup f=some ⟨oc,od,.func (PySem.W.fnOf x qual (Qfm st) (Qck st) (QB st) .none kV doc pm an cdv ct),osl⟩)
  (c:PySem.W.codeIn K cdv qual=true) (k:PySem.W.keepIn K (.ref f)=true):Fun K x qual st f (PySem.W.fnOf x qual (Qfm st) (Qck st) (QB st) .none kV doc pm an cdv ct):=⟨⟨oc,od,kV,doc,pm,an,cdv,ct,osl,rfl,l,c⟩,k⟩
end
def Qk8(env:Env)(body:Str×NameKind->List (Str×Addr)->Sem (ForInStep (List (Str×Addr))))
  (hb:∀n k cs,body (n,k) cs=if(k == NameKind.free)=true then(do let c ← cellOf env n;pure (ForInStep.yield ((n,c)::cs)))else pure (ForInStep.yield cs)):
  ∀(names:List (Str×NameKind)) (acc:List (Str×Addr)),(∀y∈names,y.2= .free->∃c,env.cells.lookup y.1=some c)->(∀x c,acc.lookup x=some c->env.cells.lookup x=some c)→
   ∃cl,forIn names acc body=(pure cl:Sem _)/\(∀x c,cl.lookup x=some c->env.cells.lookup x=some c)/\(∀x,acc.lookup x≠none->cl.lookup x≠none)/\∀y∈names,y.2= .free->cl.lookup y.1≠none
 | [],acc,_,ha=>⟨acc,rfl,ha,λ_ h=>h,λy hy=>by simp at hy⟩
 | (n,k)::r,acc,hn,ha=>by
  rw[Zcd,hb];have hr:∀y∈r,y.2= .free->∃c,env.cells.lookup y.1=some c:=λy hy=>hn y (ZE _ hy);by_cases hk:k= .free
  .subst hk;obtain⟨c,hc⟩:=hn (n,.free) Zv rfl;have hce:cellOf env n=pure c:=by unfold cellOf;rw[show env.cells.lookup n=some c from hc]
   rw[if_pos (by rfl),hce];obtain⟨cl,e,h1,h2,h3⟩:=Qk8 env body hb r ((n,c)::acc) hr (λx c' e=>by
    rw[ZL]at e;cases q:x == n with
    | true=>rw[q]at e;cases e;rw[beq_iff_eq]at q;rw[q];exact hc
    | false=>rw[q]at e;exact ha x c' e)
   have hcons:∀x,((n,c)::acc).lookup x≠none->cl.lookup x≠none:=h2;refine⟨cl,by simpa using e,h1,λx hx=>hcons x ?_,λy hy hf=>?_⟩
   .rw[ZL];cases x == n with
    | true=>simp
    | false=>exact hx
   .rcases Zq.mp hy with rfl | hy
    .exact hcons _ (by simp[ZL])
    .exact h3 y hy hf
  .rw[if_neg (by simpa using hk)];obtain⟨cl,e,h1,h2,h3⟩:=Qk8 env body hb r acc hr ha;refine⟨cl,by simpa using e,h1,h2,λy hy hf=>?_⟩;rcases Zq.mp hy with rfl | hy
   .exact absurd hf hk
   .exact h3 y hy hf
def Qyc(h:∀y∈scope.names,y.2= .free->∃c,env.cells.lookup y.1=some c):
  ∃cl,closureFor scope env=pure cl/\(∀x c,cl.lookup x=some c->env.cells.lookup x=some c)/\∀y∈scope.names,y.2= .free->∃c,cl.lookup y.1=some c:=by
 unfold closureFor;obtain⟨cl,e,h1,_,h3⟩:=Qk8 env (λx cs=>match x with | (name,kind)=>if(kind == NameKind.free)=true then(do let c ← cellOf env name;pure (ForInStep.yield ((name,c)::cs)))else pure (ForInStep.yield cs)) (λ_ _ _=>rfl) scope.names [] h (λx c e=>by simp at e);refine⟨cl,?_,h1,λy hy hf=>Option.ne_none_iff_exists'.mp (h3 y hy hf)⟩;show(forIn scope.names [] _ >>= λr=>pure r)=_;rw[e];rfl
def Qc2{env:Env}:∀{names:List (Str×NameKind)}{x:Str},names.lookup x=some .free→
  (names.map λ(n,k)=>if(k == NameKind.free && env.scope.kind == .function && env.kindOf n == some .cell)then(n,NameKind.cell)else(n,k)).lookup x=some .cell∨
  (names.map λ(n,k)=>if(k == NameKind.free && env.scope.kind == .function && env.kindOf n == some .cell)then(n,NameKind.cell)else(n,k)).lookup x=some .free
 | [],_,h=>by simp at h
 | (n,k)::r,x,h=>by
  have ih:= @Qc2 env r x;rw[Zy];cases hx:x == n with
  | true=>
   simp only[ZL,hx]at h;cases h;dsimp only;split
   .left;simp[ZL,hx]
   .right;simp[ZL,hx]
  | false=>
   simp only[ZL,hx]at h;dsimp only;split
   .simp only[ZL,hx];exact ih h
   .simp only[ZL,hx];exact ih h
def QeL{env:Env}:∀{names:List (Str×NameKind)}{x:Str},
  ((names.map λ(n,k)=>if(k == NameKind.free && env.scope.kind == .function && env.kindOf n == some .cell)then(n,NameKind.cell)else(n,k)).lookup x=some .cell∨
  (names.map λ(n,k)=>if(k == NameKind.free && env.scope.kind == .function && env.kindOf n == some .cell)then(n,NameKind.cell)else(n,k)).lookup x=some .free)→
  ∃k,(x,k)∈names/\(k= .free∨k= .cell)
 | [],_,h=>by simp at h
 | (n,k)::r,x,h=>by
  have ih:= @QeL env r x;rw[Zy]at h;cases hx:x == n with
  | true=>
   have hn:x=n:=by simpa using hx
   subst hn;dsimp only at h;split at h
   .rename_i hc;simp only[Zl]at hc;refine⟨k,Zv,.inl (by simpa using hc.1.1)⟩
   .simp only[ZL,hx]at h;refine⟨k,Zv,?_⟩;rcases h with h | h
    .exact .inr (Option.some.inj h)
    .exact .inl (Option.some.inj h)
  | false=>
   dsimp only at h;have:∃k,(x,k)∈r/\(k= .free∨k= .cell):=by
    apply ih;split at h
    .simpa only[ZL,hx]using h
    .simpa only[ZL,hx]using h
   obtain⟨k',h1,h2⟩:=this;exact⟨k',ZE _ h1,h2⟩
def Qfi:∀(names:List (Str×NameKind)) (n:Nat) (acc:List (Str×Addr)) (x:Str) (c:Addr),(cellsFrom n names acc).lookup x=some c->acc.lookup x=some c∨(n<=c/\(x,NameKind.cell)∈names)
 | [],_,_,_,_,h=> .inl h
 | (nm,k)::r,n,acc,x,c,h=>by
  unfold cellsFrom at h;split at h
  .rename_i hk;have hk:k= .cell:=by simpa using hk
   rcases Qfi r (n+1) ((nm,n)::acc) x c h with h | ⟨h1,h2⟩
   .rw[ZL]at h;cases q:x == nm with
    | true=>
     rw[q]at h;cases h;have:x=nm:=by simpa using q
     exact .inr ⟨Zt _,by rw[this,hk];exact Zv⟩
    | false=>rw[q]at h;exact .inl h
   .exact .inr ⟨⋯,ZE _ h2⟩
  .rcases Qfi r n acc x c h with h | ⟨h1,h2⟩
   .exact .inl h
   .exact .inr ⟨h1,ZE _ h2⟩
def QpB:∀(names:List (Str×NameKind)) (n:Nat) (acc:List (Str×Addr)) (x:Str) (c:Addr),(x,NameKind.cell)∈names->(cellsFrom n names acc).lookup x=some c->n<=c
 | (nm,k)::r,n,acc,x,c,hm,h=>by
  unfold cellsFrom at h;split at h
  .by_cases hr:(x,NameKind.cell)∈r
   .have:=QpB r (n+1) _ x c hr h;lia
   .have hx:x=nm:=by
     rcases Zq.mp hm with e | e
     .exact(Prod.mk.inj e).1
     .exact absurd e hr
    rcases Qfi r (n+1) ((nm,n)::acc) x c h with h | ⟨h1,_⟩
    .rw[ZL,show(x == nm)=true by simpa using hx]at h;cases h;exact Zt _
    .lia
  .rename_i hk;rcases Zq.mp hm with e | e
   .exact absurd (by rw[← (Prod.mk.inj e).2];rfl) hk
   .exact QpB r n acc x c e h
def Qob:∀(names:List (Str×NameKind)) (n:Nat) (acc:List (Str×Addr)),(∀x y c,acc.lookup x=some c->acc.lookup y=some c->x=y)->(∀x c,acc.lookup x=some c->c<n)→
  ∀x y c,(cellsFrom n names acc).lookup x=some c->(cellsFrom n names acc).lookup y=some c->x=y
 | [],_,_,hi,_,x,y,c,h1,h2=>hi x y c h1 h2
 | (nm,k)::r,n,acc,hi,hb,x,y,c,h1,h2=>by
  unfold cellsFrom at h1 h2;split at h1
  .rename_i hk;rw[if_pos hk]at h2;refine Qob r (n+1) ((nm,n)::acc) (λx y c h1 h2=>?_) (λx c h=>?_) x y c h1 h2
   .rw[ZL]at h1 h2;cases qx:x == nm with
    | true=>
     rw[qx]at h1;cases h1;cases qy:y == nm with
     | true=>rw[show x=nm by simpa using qx,show y=nm by simpa using qy]
     | false=>rw[qy]at h2;exact absurd (hb y _ h2) (ZaZ _)
    | false=>
     rw[qx]at h1;cases qy:y == nm with
     | true=>rw[qy]at h2;cases h2;exact absurd (hb x _ h1) (ZaZ _)
     | false=>rw[qy]at h2;exact hi x y c h1 h2
   .rw[ZL]at h;cases qx:x == nm with
    | true=>rw[qx]at h;cases h;exact Zaj _
    | false=>rw[qx]at h;exact Zau (hb x c h)
  .rename_i hk;rw[if_neg hk]at h2;exact Qob r n acc hi hb x y c h1 h2
def Qgr:∀(names:List (Str×NameKind)) (n:Nat) (acc:List (Str×Addr)) (x:Str),(∃c,acc.lookup x=some c)->∃c,(cellsFrom n names acc).lookup x=some c
 | [],_,_,_,h=>h
 | (nm,k)::r,n,acc,x,h=>by
  unfold cellsFrom;split
  .refine Qgr r (n+1) _ x ?_;rw[ZL];cases x == nm with
   | true=>exact⟨n,rfl⟩
   | false=>exact h
  .exact Qgr r n acc x h
def QoI:∀(names:List (Str×NameKind)) (n:Nat) (acc:List (Str×Addr)) (x:Str),(x,NameKind.cell)∈names->∃c,(cellsFrom n names acc).lookup x=some c
 | (nm,k)::r,n,acc,x,hm=>by
  unfold cellsFrom;rcases Zq.mp hm with e | e
  .obtain⟨e1,e2⟩:=Prod.mk.inj e;subst e1;rw[← e2,if_pos (by rfl)];exact Qgr r (n+1) _ x ⟨n,by simp[ZL]⟩
  .split
   .exact QoI r (n+1) _ x e
   .exact QoI r n acc x e
def Ql3(lo:Nat):∀(names:List (Str×NameKind)) (h:Heap) (acc:List (Str×Addr)),(∀x c,acc.lookup x=some c->lo<=c->h.IsCell c none)->lo<=h.objs.size→
  ∀x c,(cellsFrom h.objs.size names acc).lookup x=some c->lo<=c->(pushCells h names).IsCell c none
 | [],_,_,ha,_,x,c,e,hl=>ha x c e hl
 | (nm,k)::r,h,acc,ha,hlo,x,c,e,hl=>by
  unfold cellsFrom at e;unfold pushCells;split at e
  .rename_i hk;rw[if_pos hk];have hs:=Zar h {cls:= .type "cell",data:= .cell none};refine Ql3 lo r (h.push {cls:= .type "cell",data:= .cell none}) ((nm,h.objs.size)::acc) (λx c e hl=>?_) (by rw[hs];lia) x c (by rw[hs];exact e) hl;rw[ZL]at e;cases q:x == nm with
   | true=>rw[q]at e;cases e;exact⟨_,ZF _ rfl,rfl⟩
   | false=>rw[q]at e;exact(ha x c e hl).keeps λb o e=>Ze _ e
  .rename_i hk;rw[if_neg hk];exact Ql3 lo r h acc ha hlo x c e hl
def QrH
  (hQ:∀h':Heap,h'.Ns s.heap.objs.size (λ_=>none)->(∀b o,s.heap.get? b=some o->h'.get? b=some o)->((∀x c,cl.lookup x=some c->c<s.heap.objs.size)->∀x c,(cellsFrom (s.heap.objs.size+1) scope.names cl).lookup x=some c->s.heap.objs.size+1<=c->h'.IsCell c none)→
   Q (newEnv scope s.heap.objs.size globals (cellsFrom (s.heap.objs.size+1) scope.names cl) qual none .none (some env) builtins) {s with heap:=h'}):
  wpAny M A (newFunctionEnv scope globals cl [] qual none .none (some env) builtins) Q E s:=by
 simp only[newFunctionEnv,Option.isSome_some,if_true];refine wpAny_bind (wpAny_alloc ?_);refine wpAny_bind (wpAny_layCells _ (λname kind cells=>by cases hkc:kind == NameKind.cell<;>simp[hkc]) _ _ _ _ ?_);have hs:=Zar s.heap {cls:= .type "dict",data:= .dict #[]};rw[show({s with heap:=s.heap.push {cls:= .type "dict",data:= .dict #[]}}:Shared).heap.objs.size=s.heap.objs.size+1 from hs];refine wpAny_bind (wpAny_pure (wpAny_pure ?_));refine hQ _ ((Heap.Ns.new s.heap (.type "dict")).keeps (pushCells_keeps _ _)) (λb o e=>pushCells_keeps _ _ b o (Ze _ e)) λhb x c e hl=>?_;refine Ql3 (s.heap.objs.size+1) scope.names (s.heap.push {cls:= .type "dict",data:= .dict #[]}) cl (λx c e hl=>?_) (by rw[hs];exact Zt _) x c (by rw[hs];exact e) hl;exact absurd (Zbe (hb x c e) (ZJ (Zba _) hl)) (ZaZ _)
section
variable {X:Cx}{tg iter elt:Expr}{ifs:List Expr}{scope:Scope}{N':List Str}{pos:Pos}
def Qts(J:Nat->Shared->Prop)
  (turn:∀n s,J n s->wpAny (model prog w) A (pyNext it) (λr s1=>match r with
   | none=>R (.ok .next) s1
   | some v=>wpAny (model prog w) A (letOwnedTupleGo tg it v) (λ_ s2=>wpAny (model prog w) A (assign tg env v) (λ_ s3=>
     wpAny (model prog w) A (forIn ifs true λc r=>if r=true then do let ok ← isTrue c env (eval c env);pure (ForInStep.yield ok)else pure (ForInStep.yield r)) (λok s4=>
      if ok=true then wpAny (model prog w) A (eval elt env) (λx s5=>wpAny (model prog w) A (call (.builtin "list.append") [acc,x]) (λ_ s6=>∃m,m<n/\J m s6) (λ_ _=>False) s5) (λ_ _=>False) s4
      else ∃m,m<n/\J m s4) (λ_ _=>False) s3) (λ_ _=>False) s2) (λ_ _=>False) s1) (λ_ _=>False) s)
  (n:Nat) (h:J n s0):codeAny (model prog w) A (.compLoop (.ListComp elt [⟨tg,iter,ifs,0⟩] scope pos) 0 it acc env) R s0:=by
 have up:∀{α:Type}{t:Sem α}{Q:α->Shared->Prop}{E:Value->Shared->Prop}{s:Shared},wpAny (model prog w) A t Q (λ_ _=>False) s->wpAny (model prog w) A t Q E s:=λh=>wpAny_mono h (λ_ _ q=>q) λ_ _ f=>f.elim;refine codeAny_loop (by rfl) J (λk sk hk=>?_) n h;show wpAny (model prog w) A ((compTurn (.ListComp elt [⟨tg,iter,ifs,0⟩] scope pos) 0 it acc env).onRaise (λx=>do noteFrame x env;theTreesLotGoes x)) _ _ sk;refine wpAny_noted (up ?_);rw[compTurn_list];refine wpAny_bind (wpAny_standAt (wpAny_bind (thn (turn k sk hk) λr s1 h1=>?_)));cases r with
 | none=>exact wpAny_pure h1
 | some v=>
  refine wpAny_bind (thn h1 λ_ s2 h2=>wpAny_bind (thn h2 λ_ s3 h3=>wpAny_bind (thn h3 λok s4 h4=>?_)));cases ok with
  | false=>exact wpAny_pure ⟨rfl,h4⟩
  | true=>exact wpAny_bind (wpAny_bind (thn h4 λx s5 h5=>wpAny_bind (thn h5 λ_ s6 h6=>wpAny_pure (wpAny_pure ⟨rfl,h6⟩))))
end
end L2
namespace L2
open PySem PySem.Spec
def Qle(a b c:Value):checkTypeCall "zip" ⟨[a,b,c],[]⟩=pure ():=by kernel_rfl
def QmZ(a b c:Value):checkBuiltinCall "zip.__new__" ⟨[.type "zip",a,b,c],[]⟩=pure ():=by kernel_rfl
def Qh4(a b c d:Value):argsOk "object.__init__" ⟨[a,b,c,d],[]⟩:=by
 unfold argsOk;rw[signature?_of (n:=['_','_','t','i','n','i','_','_']) (by kernel_rfl) F.owner_object];kernel_rfl
abbrev Qax(h:Heap)(T:Addr)(a b c:Value):Prop:=h.get? T=some {cls:= .type "tuple",data:= .seq #[a,b,c]}
section
variable {prog:Program}{w:World}{A:Around}{E:Value->Shared->Prop}{s:Shared}
def Qet(hT:Qax s.heap T a b c)
  (h:∀h',h'.get? T=some {cls:= .type "tuple",data:= .seq ((#[a,b,c]:Array Value).setIfInBounds k x)}->Heap.SameBut T s.heap h'->Q () {s with heap:=h'}):
  wpAny (model prog w) A (updateSeq T (·.setIfInBounds k x)) Q E s:=by
 refine wpAny_updateSeq hT rfl (h _ ?_ (ZbK ..));rw[ZbW _ hT rfl];simp[Obj.mapSeq]
structure Six (z TI TO i1 i2 i3:Addr):Prop where
 TIz:TI≠z
 TOz:TO≠z
 i1z:i1≠z
 i2z:i2≠z
 i3z:i3≠z
 TITO:TI≠TO
 TIi1:TI≠i1
 TIi2:TI≠i2
 TIi3:TI≠i3
 TOi1:TO≠i1
 TOi2:TO≠i2
 TOi3:TO≠i3
 i12:i1≠i2
 i13:i1≠i3
 i23:i2≠i3
def Off(z TO i1 i2 i3 l:Addr):Prop:=l≠z/\l≠TO/\l≠i1/\l≠i2/\l≠i3
def Qs3{z TI TO i1 i2 i3 l1 l2 l3:Addr}{k:Nat}{xs ys zs:Array Value}{x y u a b c:Value}{Q:Value->Shared->Prop}(D:Six z TI TO i1 i2 i3)(O1:Off z TO i1 i2 i3 l1)(O2:Off z TO i1 i2 i3 l2)(O3:Off z TO i1 i2 i3 l3)
  (hz:IsZip s.heap z TI TO .none) (hTI:Qax s.heap TI (.ref i1) (.ref i2) (.ref i3)) (hTO:Qax s.heap TO a b c)
  (h1:s.heap.IsListIter i1 l1 k) (h2:s.heap.IsListIter i2 l2 k) (h3:s.heap.IsListIter i3 l3 k) (hl1:s.heap.IsList l1 xs) (hl2:s.heap.IsList l2 ys) (hl3:s.heap.IsList l3 zs) (hx:xs[k]? =some x) (hy:ys[k]? =some y) (hu:zs[k]? =some u)
  (hQ:∀h',IsZip h' z TI TO (rawInt s.heap.objs.size)->Qax h' TO x y u->h'.IsListIter i1 l1 (k+1)->h'.IsListIter i2 l2 (k+1)->h'.IsListIter i3 l3 (k+1)->Qax h' s.heap.objs.size x y u->h'.objs.size=s.heap.objs.size+1→
   (∀c o,c≠z->c≠TO->c≠i1->c≠i2->c≠i3->s.heap.get? c=some o->h'.get? c=some o)->Q (.ref s.heap.objs.size) {s with heap:=h'}):
  wpAny (model prog w) A (Builtin.«zip.__next__» ⟨[.ref z],[]⟩) (λfin s'=>∃v,fin= .done (.ret v)/\Q v s') E s:=by
 show wpAny _ _ (field (.ref z) 2 >>= _) _ _ _;refine wpAny_bind (wpAny_field hz rfl rfl ?_);show wpAny _ _ (field (.ref z) 3 >>= _) _ _ _;refine wpAny_bind (wpAny_field hz rfl rfl ?_);refine wpAny_bind (wpAny_seqItems hTI rfl ?_);show wpAny _ _ (Builtin.SmallTypes.ownedTupleIsFree (.ref z) >>= _) _ _ _;refine wpAny_bind ?_;unfold Builtin.SmallTypes.ownedTupleIsFree;refine wpAny_bind (wpAny_field hz rfl rfl (wpAny_pure ?_));simp only[if_true];refine wpAny_bind (wpAny_rule ?_);refine wpAny_bind (wpAny_field hz rfl rfl ?_);refine wpAny_bind (wpAny_setField_rec hz ⋯ λg1 hz1 s1=>?_)
 replace hz1:IsZip g1 z TI TO .ellipsis:=hz1
 refine wpAny_bind ?_;simp only[ZbZ,List.zipIdx_nil,Zcd,ZcP];refine wpAny_bind (wpAny_bind (wpAny_onRaise ?_));show wpAny _ _ (Builtin.SmallTypes.nextOf (.ref i1) >>= _) _ _ _;have k1:∀e o,e≠z->s.heap.get? e=some o->g1.get? e=some o:=λe o a1 q=>s1.extBut _ _ a1 q;refine wpAny_bind (wpAny_nextOf_list_item (h1.at λo e=>k1 _ o D.i1z e) (hl1.at λo e=>k1 _ o O1.1 e) hx λg2 m1 s2=>wpAny_pure ?_);have k2:∀e o,e≠z->e≠i1->s.heap.get? e=some o->g2.get? e=some o:=λe o a1 a3 q=>s2.extBut _ _ a3 (k1 e o a1 q);have t2:Qax g2 TO a b c:=k2 _ _ D.TOz D.TOi1 hTO;refine wpAny_bind (wpAny_seqItems t2 rfl ?_);refine wpAny_bind (Qet t2 λg3 t3 s3=>?_)
 replace t3:Qax g3 TO x b c:=t3
 have k3:∀e o,e≠z->e≠TO->e≠i1->s.heap.get? e=some o->g3.get? e=some o:=λe o a1 a2 a3 q=>s3.extBut _ _ a2 (k2 e o a1 a3 q);refine wpAny_bind (wpAny_letGo (wpAny_pure ?_));refine wpAny_bind (wpAny_bind (wpAny_onRaise ?_));show wpAny _ _ (Builtin.SmallTypes.nextOf (.ref i2) >>= _) _ _ _;refine wpAny_bind (wpAny_nextOf_list_item (h2.at λo e=>k3 _ o D.i2z D.TOi2.symm D.i12.symm e) (hl2.at λo e=>k3 _ o O2.1 O2.2.1 O2.2.2.1 e) hy λg4 m2 s4=>wpAny_pure ?_);have k4:∀e o,e≠z->e≠TO->e≠i1->e≠i2->s.heap.get? e=some o->g4.get? e=some o:=λe o a1 a2 a3 a4 q=>s4.extBut _ _ a4 (k3 e o a1 a2 a3 q);have t4:Qax g4 TO x b c:=s4.extBut _ _ D.TOi2 t3;refine wpAny_bind (wpAny_seqItems t4 rfl ?_);refine wpAny_bind (Qet t4 λg5 t5 s5=>?_)
 replace t5:Qax g5 TO x y c:=t5
 have k5:∀e o,e≠z->e≠TO->e≠i1->e≠i2->s.heap.get? e=some o->g5.get? e=some o:=λe o a1 a2 a3 a4 q=>s5.extBut _ _ a2 (k4 e o a1 a2 a3 a4 q);refine wpAny_bind (wpAny_letGo (wpAny_pure ?_));refine wpAny_bind (wpAny_bind (wpAny_onRaise ?_));show wpAny _ _ (Builtin.SmallTypes.nextOf (.ref i3) >>= _) _ _ _;refine wpAny_bind (wpAny_nextOf_list_item (h3.at λo e=>k5 _ o D.i3z D.TOi3.symm D.i13.symm D.i23.symm e) (hl3.at λo e=>k5 _ o O3.1 O3.2.1 O3.2.2.1 O3.2.2.2.1 e) hu λg6 m3 s6=>wpAny_pure ?_);have k6:∀e o,e≠z->e≠TO->e≠i1->e≠i2->e≠i3->s.heap.get? e=some o->g6.get? e=some o:=λe o a1 a2 a3 a4 a5 q=>s6.extBut _ _ a5 (k5 e o a1 a2 a3 a4 q);have t6:Qax g6 TO x y c:=s6.extBut _ _ D.TOi3 t5;refine wpAny_bind (wpAny_seqItems t6 rfl ?_);refine wpAny_bind (Qet t6 λg7 t7 s7=>?_)
 replace t7:Qax g7 TO x y u:=t7
 have k7:∀e o,e≠z->e≠TO->e≠i1->e≠i2->e≠i3->s.heap.get? e=some o->g7.get? e=some o:=λe o a1 a2 a3 a4 a5 q=>s7.extBut _ _ a2 (k6 e o a1 a2 a3 a4 a5 q);refine wpAny_bind (wpAny_letGo (wpAny_pure (wpAny_pure ?_)));refine wpAny_bind (wpAny_seqItems t7 rfl ?_);refine wpAny_bind (wpAny_newTuple ?_);have hsz:g7.objs.size=s.heap.objs.size:=by rw[s7.1,s6.1,s5.1,s4.1,s3.1,s2.1,s1.1]
 have hz7:IsZip g7 z TI TO .ellipsis:=s7.extBut _ _ D.TOz.symm (s6.extBut _ _ D.i3z.symm (s5.extBut _ _ D.TOz.symm (s4.extBut _ _ D.i2z.symm (s3.extBut _ _ D.TOz.symm (s2.extBut _ _ D.i1z.symm hz1)))));have n1:g7.IsListIter i1 l1 (k+1):=((((m1.extBut s3.extBut D.TOi1.symm).extBut s4.extBut D.i12).extBut s5.extBut D.TOi1.symm).extBut s6.extBut D.i13).extBut s7.extBut D.TOi1.symm;have n2:g7.IsListIter i2 l2 (k+1):=((m2.extBut s5.extBut D.TOi2.symm).extBut s6.extBut D.i23).extBut s7.extBut D.TOi2.symm;have n3:g7.IsListIter i3 l3 (k+1):=m3.extBut s7.extBut D.TOi3.symm;have hzlt:z<g7.objs.size:=ZW hz7;show wpAny _ _ (Builtin.SmallTypes.ownedTupleHandOut (.ref z) (.ref g7.objs.size) >>= _) _ _ _;refine wpAny_bind ?_;unfold Builtin.SmallTypes.ownedTupleHandOut;have hz8:IsZip (g7.push {cls:= .type "tuple",data:= .seq #[x,y,u]}) z TI TO .ellipsis:=Ze _ hz7;refine wpAny_bind (wpAny_setField_rec hz8 ⋯ λg9 hz9 s9=>?_)
 replace hz9:IsZip g9 z TI TO (rawInt g7.objs.size):=hz9
 refine wpAny_setField_rec hz9 ⋯ λg10 hz10 s10=>?_
 replace hz10:IsZip g10 z TI TO (rawInt g7.objs.size):=hz10
 have up:∀c o,c≠z->g7.get? c=some o->g10.get? c=some o:=λc o c1 e=>s10.extBut _ _ c1 (s9.extBut _ _ c1 (Ze _ e));have hT:Qax g10 g7.objs.size x y u:=s10.extBut _ _ (Zbu hzlt) (s9.extBut _ _ (Zbu hzlt) (ZF _ rfl));have hz':g10.objs.size=g7.objs.size+1:=by rw[s10.1,s9.1,Zar]
 rw[hsz]at hz10 hT hz';refine wpAny_pure ⟨_,rfl,?_⟩;show Q (.ref g7.objs.size) _;rw[hsz];exact hQ g10 hz10 (up _ _ D.TOz t7) (n1.at λo e=>up _ o D.i1z e) (n2.at λo e=>up _ o D.i2z e) (n3.at λo e=>up _ o D.i3z e) hT hz' λc o c1 c2 c3 c4 c5 e=>up c o c1 (k7 c o c1 c2 c3 c4 c5 e)
def Qun{z TI TO i1 i2 i3 l1:Addr}{k:Nat}{xs:Array Value}{Q:Fin->Shared->Prop}(hh:A.handled=none)(D:Six z TI TO i1 i2 i3)(O1:l1≠z)
  (hz:IsZip s.heap z TI TO .none) (hTI:Qax s.heap TI (.ref i1) (.ref i2) (.ref i3)) (h1:s.heap.IsListIter i1 l1 k) (hl1:s.heap.IsList l1 xs) (hx:xs[k]? =none)
  (hE:∀h' e,(∀c o,c≠z->c≠i1->s.heap.get? c=some o->h'.get? c=some o)->(∃o,h'.get? e=some o/\o.cls= .type "StopIteration")->E (.ref e) {s with heap:=h'}):
  wpAny (model prog w) A (Builtin.«zip.__next__» ⟨[.ref z],[]⟩) Q E s:=by
 show wpAny _ _ (field (.ref z) 2 >>= _) _ _ _;refine wpAny_bind (wpAny_field hz rfl rfl ?_);show wpAny _ _ (field (.ref z) 3 >>= _) _ _ _;refine wpAny_bind (wpAny_field hz rfl rfl ?_);refine wpAny_bind (wpAny_seqItems hTI rfl ?_);show wpAny _ _ (Builtin.SmallTypes.ownedTupleIsFree (.ref z) >>= _) _ _ _;refine wpAny_bind ?_;unfold Builtin.SmallTypes.ownedTupleIsFree;refine wpAny_bind (wpAny_field hz rfl rfl (wpAny_pure ?_));simp only[if_true];refine wpAny_bind (wpAny_rule ?_);refine wpAny_bind (wpAny_field hz rfl rfl ?_);refine wpAny_bind (wpAny_setField_rec hz ⋯ λg1 hz1 s1=>?_)
 replace hz1:IsZip g1 z TI TO .ellipsis:=hz1
 refine wpAny_bind ?_;simp only[ZbZ,List.zipIdx_nil,Zcd,ZcP];refine wpAny_bind (wpAny_bind (wpAny_onRaise ?_));show wpAny _ _ (Builtin.SmallTypes.nextOf (.ref i1) >>= _) _ _ _;refine wpAny_bind (wpAny_nextOf_list_end hh (h1.extBut s1.extBut D.i1z) (hl1.extBut s1.extBut O1) hx λg2 e s2 he=>?_);obtain⟨oe,hoe,hce⟩:=he;have hz2:IsZip g2 z TI TO .ellipsis:=s2 _ _ D.i1z.symm hz1;have hez:e≠z:=λx=>by subst x;rw[hz2]at hoe;cases hoe;simp at hce
 refine wpAny_setField_rec hz2 ⋯ λg3 _ s3=>hE g3 e (λc o c1 c3 x=>s3.extBut _ _ c1 (s2 _ _ c3 (s1.extBut _ _ c1 x))) ⟨oe,s3.extBut _ _ hez hoe,hce⟩
def QpQ{z TI TO i1 i2 i3 l1 l2 l3:Addr}{k:Nat}{xs ys zs:Array Value}{x y u a b c:Value}{Q:Option Value->Shared->Prop}(D:Six z TI TO i1 i2 i3)(O1:Off z TO i1 i2 i3 l1)(O2:Off z TO i1 i2 i3 l2)(O3:Off z TO i1 i2 i3 l3)
  (hz:IsZip s.heap z TI TO .none) (hTI:Qax s.heap TI (.ref i1) (.ref i2) (.ref i3)) (hTO:Qax s.heap TO a b c)
  (h1:s.heap.IsListIter i1 l1 k) (h2:s.heap.IsListIter i2 l2 k) (h3:s.heap.IsListIter i3 l3 k) (hl1:s.heap.IsList l1 xs) (hl2:s.heap.IsList l2 ys) (hl3:s.heap.IsList l3 zs) (hx:xs[k]? =some x) (hy:ys[k]? =some y) (hu:zs[k]? =some u)
  (hQ:∀h',IsZip h' z TI TO (rawInt s.heap.objs.size)->Qax h' TO x y u->h'.IsListIter i1 l1 (k+1)->h'.IsListIter i2 l2 (k+1)->h'.IsListIter i3 l3 (k+1)->Qax h' s.heap.objs.size x y u->h'.objs.size=s.heap.objs.size+1→
   (∀c o,c≠z->c≠TO->c≠i1->c≠i2->c≠i3->s.heap.get? c=some o->h'.get? c=some o)->Q (some (.ref s.heap.objs.size)) {s with heap:=h'}):
  wpAny (model prog w) A (pyNext (.ref z)) Q E s:=by
 have hT:s.TypeIs (.ref z) "zip" :=⟨_,hz,rfl⟩;unfold pyNext
 exact wpAny_bind (wpAny_attempt (wpAny_callSpecial?_slot hT Zce
  (wpAny_call_entry Zce hT F.entry_zip_next
   (Qs3 D O1 O2 O3 hz hTI hTO h1 h2 h3 hl1 hl2 hl3 hx hy hu λh' a1 a2 a3 a4 a5 a6 a7 a8=>wpAny_pure (hQ h' a1 a2 a3 a4 a5 a6 a7 a8)) (F.args_zip_next_1 _))))
def Qks{z TI TO i1 i2 i3 l1:Addr}{k:Nat}{xs:Array Value}{Q:Option Value->Shared->Prop}(hh:A.handled=none)(D:Six z TI TO i1 i2 i3)(O1:l1≠z)
  (hz:IsZip s.heap z TI TO .none) (hTI:Qax s.heap TI (.ref i1) (.ref i2) (.ref i3)) (h1:s.heap.IsListIter i1 l1 k) (hl1:s.heap.IsList l1 xs) (hx:xs[k]? =none)
  (hQ:∀h',(∀c o,c≠z->c≠i1->s.heap.get? c=some o->h'.get? c=some o)->Q none {s with heap:=h'}):wpAny (model prog w) A (pyNext (.ref z)) Q E s:=by
 have hT:s.TypeIs (.ref z) "zip" :=⟨_,hz,rfl⟩;unfold pyNext
 refine wpAny_bind (wpAny_attempt (wpAny_callSpecial?_slot hT Zce
  (wpAny_call_entry Zce hT F.entry_zip_next (Qun hh D O1 hz hTI h1 hl1 hx λh' e hk he=>?_) (F.args_zip_next_1 _))))
 obtain⟨o,ho,hc⟩:=he;refine wpAny_bind (wpAny_isInstance ⟨o,ho,hc⟩ isSubtype_stop ?_);exact wpAny_pure (hQ _ hk)
end
noncomputable abbrev zA(h:Heap)(l1:Addr):Heap:=h.push {cls:= .type "list_iterator",data:= .fields #[.ref l1,.int 0 0]}
noncomputable abbrev zB(h:Heap)(l1 l2:Addr):Heap:=(zA h l1).push {cls:= .type "list_iterator",data:= .fields #[.ref l2,.int 0 0]}
noncomputable abbrev zC(h:Heap)(l1 l2 l3:Addr):Heap:=(zB h l1 l2).push {cls:= .type "list_iterator",data:= .fields #[.ref l3,.int 0 0]}
noncomputable abbrev zD(h:Heap)(l1 l2 l3:Addr):Heap:=(zC h l1 l2 l3).push {cls:= .type "tuple",data:= .seq #[.ref h.objs.size,.ref (zA h l1).objs.size,.ref (zB h l1 l2).objs.size]}
noncomputable abbrev zE(h:Heap)(l1 l2 l3:Addr):Heap:=(zD h l1 l2 l3).push {cls:= .type "tuple",data:= .seq #[.none,.none,.none]}
noncomputable abbrev zF(h:Heap)(l1 l2 l3:Addr):Heap:=(zE h l1 l2 l3).push {cls:= .type "zip",data:= .fields #[.none,.bool false,.bool false,.ref (zC h l1 l2 l3).objs.size,.ref (zD h l1 l2 l3).objs.size]}
def Qlg(l1 l2 l3:Addr)(xs ys zs:Array Value):
  Meets (Builtin.«zip.__new__» ⟨[.type "zip",.ref l1,.ref l2,.ref l3],[]⟩) (λ_ R s=>s.heap.IsList l1 xs/\s.heap.IsList l2 ys/\s.heap.IsList l3 zs∧
   R (.ok (.ret (.ref (zE s.heap l1 l2 l3).objs.size))) {s with heap:=zF s.heap l1 l2 l3}):=
 .of_wp λprog w A R s h=>by
  obtain⟨hp,g,d,tk,os⟩:=s;obtain⟨hl1,hl2,hl3,h⟩:=h;have hsub:=sub_zip;have hL1:Heap.IsList (Shared.heap ⟨hp,g,d,tk,os⟩) l1 xs:=hl1;have hL2:Heap.IsList (Shared.heap ⟨hp.push {cls:= .type "list_iterator",data:= .fields #[.ref l1,.int 0 0]},g,d,tk,os⟩) l2 ys:=Zcy hl2 _;have hL3:Heap.IsList (Shared.heap ⟨(hp.push {cls:= .type "list_iterator",data:= .fields #[.ref l1,.int 0 0]}).push {cls:= .type "list_iterator",data:= .fields #[.ref l2,.int 0 0]},g,d,tk,os⟩) l3 zs:=Zcy (Zcy hl3 _) _
  wp_walk using wpAny_pyIter_list hL1,wpAny_pyIter_list hL2,wpAny_pyIter_list hL3
  exact⟨_,rfl,h⟩
section
variable {prog:Program}{w:World}{A:Around}{E:Value->Shared->Prop}{s:Shared}
def Qst(hl1:s.heap.IsList l1 xs)(hl2:s.heap.IsList l2 ys)(hl3:s.heap.IsList l3 zs)
  (h:∀h',IsZip h' (s.heap.objs.size+5) (s.heap.objs.size+3) (s.heap.objs.size+4) .none->Qax h' (s.heap.objs.size+3) (.ref s.heap.objs.size) (.ref (s.heap.objs.size+1)) (.ref (s.heap.objs.size+2))→
   Qax h' (s.heap.objs.size+4) .none .none .none->h'.IsListIter s.heap.objs.size l1 0->h'.IsListIter (s.heap.objs.size+1) l2 0->h'.IsListIter (s.heap.objs.size+2) l3 0→
   (∀c o,s.heap.get? c=some o->h'.get? c=some o)->Q (.ref (s.heap.objs.size+5)) {s with heap:=h'}):
  wpAny (model prog w) A (call (.type "zip") [.ref l1,.ref l2,.ref l3]) Q E s:=by
 refine callType_new F.called_zip ∅ (Qle _ _ _) (QmZ _ _ _) (λobj=>Qh4 obj _ _ _) F.entry_zip_new
  (Qlg l1 l2 l3 xs ys zs) ⟨hl1,hl2,hl3,?_⟩
 have z1:(zA s.heap l1).objs.size=s.heap.objs.size+1:=Zar ..;have z2:(zB s.heap l1 l2).objs.size=s.heap.objs.size+2:=by rw[Zar,z1]
 have z3:(zC s.heap l1 l2 l3).objs.size=s.heap.objs.size+3:=by rw[Zar,z2]
 have z4:(zD s.heap l1 l2 l3).objs.size=s.heap.objs.size+4:=by rw[Zar,z3]
 have z5:(zE s.heap l1 l2 l3).objs.size=s.heap.objs.size+5:=by rw[Zar,z4]
 have g6:(zF s.heap l1 l2 l3).get? (zE s.heap l1 l2 l3).objs.size=some _:=ZF _ rfl;have g5:(zF s.heap l1 l2 l3).get? (zD s.heap l1 l2 l3).objs.size=some _:=Ze _ (ZF _ rfl);have g4:(zF s.heap l1 l2 l3).get? (zC s.heap l1 l2 l3).objs.size=some _:=Ze _ (Ze _ (ZF _ rfl));have g3:(zF s.heap l1 l2 l3).get? (zB s.heap l1 l2).objs.size=some _:=Ze _ (Ze _ (Ze _ (ZF _ rfl)));have g2:(zF s.heap l1 l2 l3).get? (zA s.heap l1).objs.size=some _:=Ze _ (Ze _ (Ze _ (Ze _ (ZF _ rfl))));have g1:(zF s.heap l1 l2 l3).get? s.heap.objs.size=some _:=Ze _ (Ze _ (Ze _ (Ze _ (Ze _ (ZF _ rfl)))));show _/\_;rw[z3,z4,z5]at g6;rw[z1,z2,z3]at g4;rw[z4]at g5;rw[z2]at g3;rw[z1]at g2;rw[z5];exact⟨⟨_,g6,rfl⟩,h _ g6 g4 g5 ⟨_,g1,rfl,rfl⟩ ⟨_,g2,rfl,rfl⟩ ⟨_,g3,rfl,rfl⟩ λc o x=>
  Ze _ (Ze _ (Ze _ (Ze _ (Ze _ (Ze _ x)))))⟩
end
open PyProof.Rows
end L2
namespace HS
open PySem PySem.Spec PyProof.Rows L2
inductive D where
 | non | bl (b:Bool) | int (i:Int) | str (x:Str) | tup (xs:List D) | lst (xs:List D) | exc (x:Str) | dk (ks:List (List Int))
mutual
noncomputable def D.flat:D->Bool
 | .lst _=>false
 | .tup xs=>Q3 xs
 | .non=>true
 | .bl _=>true
 | .int _=>true
 | .str _=>true
 | .exc _=>true
 | .dk _=>false
noncomputable def Q3:List D->Bool
 | []=>true
 | d::ds=>d.flat && Q3 ds
end
end HS
namespace HS
open PySem PySem.Spec L2
noncomputable abbrev En:=List (Option (D×Bool))
noncomputable abbrev slT(d:D):Option (D×Bool):=some (d,true)
noncomputable abbrev slF(d:D):Option (D×Bool):=some (d,false)
noncomputable abbrev slI(i:Int):Option (D×Bool):=some (.int i,true)
def nn{α:Type}{x:α}{C:Prop}(h:(none:Option α)=some x):C:=nomatch h
structure R where
 d:D
 fr:Bool
 M:List Nat
noncomputable abbrev reT(d:D):R:=⟨d,true,[]⟩
noncomputable abbrev reF(d:D):R:=⟨d,false,[]⟩
noncomputable abbrev reI(i:Int):R:=⟨.int i,true,[]⟩
structure RA where
 ds:List D
 fr:Bool
 M:List Nat
noncomputable abbrev DE:=En->Option R
noncomputable abbrev DA:=En->Option RA
noncomputable abbrev DT:=En->Option Bool
section
noncomputable def R.norm(r:R):R:=if r.d.flat then⟨r.d,true,[]⟩else r
end
noncomputable def Qn(i:Nat):DE:=λJ=>match J[i]? with
 | some (some (d,b))=>if d.flat then some ⟨d,true,[]⟩else if b then some ⟨d,true,[i]⟩else some ⟨d,false,[]⟩
 | _=>none
noncomputable def dC(d:D):DE:=λ_=>some ⟨d,true,[]⟩
noncomputable abbrev vv0:DE:=Qn 0
noncomputable abbrev vv1:DE:=Qn 1
noncomputable abbrev vv2:DE:=Qn 2
noncomputable abbrev vv3:DE:=Qn 3
noncomputable abbrev vv4:DE:=Qn 4
noncomputable abbrev vv5:DE:=Qn 5
noncomputable abbrev vv6:DE:=Qn 6
noncomputable abbrev vv7:DE:=Qn 7
noncomputable abbrev vv8:DE:=Qn 8
noncomputable abbrev vv9:DE:=Qn 9
noncomputable abbrev kk0:DE:=dC (.int 0)
noncomputable abbrev kk1:DE:=dC (.int 1)
noncomputable abbrev kk2:DE:=dC (.int 2)
noncomputable abbrev kk3:DE:=dC (.int 3)
noncomputable abbrev kk5:DE:=dC (.int 5)
noncomputable abbrev kk8:DE:=dC (.int 8)
noncomputable abbrev kk9:DE:=dC (.int 9)
noncomputable abbrev QuR:DE:=dC (.int 10)
noncomputable abbrev QBg:DE:=dC (.int 12)
noncomputable abbrev QBh:DE:=dC (.int 13)
noncomputable abbrev QBk:DE:=dC (.int 14)
noncomputable abbrev QBj:DE:=dC (.int 30)
noncomputable abbrev QBr:DE:=dC (.int 31)
noncomputable abbrev QBv:DE:=dC (.int 40)
noncomputable abbrev QAC:DE:=dC (.int 300)
noncomputable abbrev QsL:DE:=dC (.int 7919)
noncomputable abbrev Qyz:DE:=dC (.int 48271)
noncomputable abbrev Qwz:DE:=dC (.int 69621)
noncomputable abbrev Quk:DE:=dC (.int 104729)
noncomputable abbrev QpD:DE:=dC (.int 2147483587)
noncomputable abbrev QoJ:DE:=dC (.int 2147483629)
noncomputable abbrev Qn4:DE:=dC (.int 2147483647)
noncomputable abbrev Qed:DE:=dC (.int 618970019642690137449562111)
section
noncomputable def dOp(g:D->D->Option D)(fa fb:DE):DE:=λJ=>(fa J).bind λra=>(fb J).bind λrb=>(g ra.d rb.d).map λd=>⟨d,true,[]⟩
end
noncomputable def Qd8(i j:Int):Int:=if 0<=j then i / j else i.fdiv j
noncomputable def QdI(i j:Int):Int:=if 0<=j then i % j else i.fmod j
def QiV(i j:Int):Qd8 i j=i.fdiv j:=by
 unfold Qd8;split
 .rw[Zck _ (by assumption)]
 .rfl
def Qiu(i j:Int):QdI i j=i.fmod j:=by
 unfold QdI;split
 .rw[Int.fmod_eq_emod_of_nonneg _ (by assumption)]
 .rfl
noncomputable def QeI(i j:Int):Bool:=decide (i.natAbs<2^64) || decide (j.natAbs<2^64) || (decide (Builtin.Int.intBits i<=2^20) && decide (Builtin.Int.intBits j<=2^20))
noncomputable def Qb9(j:Int):Bool:=decide (j≠0) && decide (j.natAbs<2^8000)
noncomputable def gI(f:Int->Int->Option D)(a b:D):Option D:=match a,b with
 | .int i,.int j=>f i j
 | _,_=>none
noncomputable def Qbo:=gI λi j=>some (.int (i-j))
noncomputable def QdM:=gI λi j=>if Qb9 j then some (.int (Qd8 i j))else none
noncomputable def QbE:=gI λi j=>if j≠0 then some (.int (QdI i j))else none
noncomputable def Qlz:=gI λi j=>if 0<=j/\j<=1000/\i.natAbs<2^200 then some (.int (i^j.toNat))else none
noncomputable def Qot:=gI λi j=>if 0<=j then some (.int (i / 2^j.toNat))else none
noncomputable def D.Qws:D->Option Int
 | .int i=>some i
 | _=>none
noncomputable def Qa4:List D->Option (List Int)
 | []=>some []
 | d::ds=>(d.Qws).bind λi=>(Qa4 ds).map λr=>i::r
noncomputable def gLt:=gI λi j=>some (.bl (decide (i<j)))
noncomputable def gLe:=gI λi j=>some (.bl (decide (i<=j)))
noncomputable def gGt:=gI λi j=>some (.bl (decide (j<i)))
noncomputable def gGe:=gI λi j=>some (.bl (decide (j<=i)))
def QpI(h:gI f a b=some d):∃i j,a= .int i/\b= .int j/\f i j=some d:=by
 unfold gI at h;split at h
 .exact⟨_,_,rfl,rfl,h⟩
 .cases h
def Qd5:∀(xs ys:List D),Q3 (xs++ys)=(Q3 xs && Q3 ys)
 | [],ys=>by simp[Q3]
 | x::xs,ys=>by simp[Q3,Qd5 xs ys,Bool.and_assoc]
noncomputable def Qa7(ds:List D)(M:List Nat):R:=if Q3 ds then⟨.lst ds,true,[]⟩else⟨.lst ds,false,M⟩
noncomputable def QJ(fa fb:DE):DE:=λJ=>(fa J).bind λra=>(fb J).bind λrb=>match ra.d,rb.d with
 | .int i,.int j=>some ⟨.int (i+j),true,[]⟩
 | .lst xs,.lst ys=>if xs.length+ys.length<=sizeLine then some (Qa7 (xs++ys) (ra.M++rb.M))else none
 | _,_=>none
noncomputable def Qai(fa fb:DE):DE:=λJ=>(fa J).bind λra=>(fb J).bind λrb=>match ra.d,rb.d with
 | .int i,.int j=>if QeI i j then some ⟨.int (i*j),true,[]⟩else none
 | .lst xs,.int j=>if xs.length*j.toNat<=sizeLine/\ -(2^63)<=j/\j<2^63/\Q3 xs=true then some ⟨.lst (List.replicate j.toNat xs).flatten,true,[]⟩else none
 | _,_=>none
def bind1{α β:Type}{x:Option α}{k:α->Option β}{r:β}(e:x.bind k=some r):∃a,x=some a/\k a=some r:=by
 cases x with
 | none=>cases e
 | some a=>exact⟨a,rfl,e⟩
section
def Qj{α β:Type}{x:Option α}{k:α->Option β}{r:β}{G:Prop}(e:x.bind k=some r)(g:∀a,x=some a->k a=some r->G):G:=let ⟨a,h1,h2⟩:=bind1 e;g a h1 h2
end
noncomputable def Qe:DA:=λ_=>some ⟨[],true,[]⟩
noncomputable def Qa(fa:DE)(fr:DA):DA:=λJ=>(fa J).bind λr=>(fr J).bind λrs=>some ⟨r.d::rs.ds,r.fr && rs.fr,r.M++rs.M⟩
noncomputable def QaQ(fa:DA):DE:=λJ=>(fa J).bind λr=>if r.ds.length<=64 then some ⟨.tup r.ds,r.fr,r.M⟩else none
noncomputable def Q0(fa:DA):DE:=λJ=>(fa J).bind λr=>if r.ds.length<=64 then some ⟨.lst r.ds,r.fr,r.M⟩else none
section
variable {X:Cx}{a b e:Expr}{es:List Expr}{fa fb:DE}{fs:DA}{pos:Pos}
noncomputable def D.items:D->Option (List D)
 | .lst xs=>some xs
 | .tup xs=>some xs
 | _=>none
noncomputable def Qk(fa fb:DE):DE:=λJ=>(fa J).bind λra=>(fb J).bind λrb=>match rb.d with
 | .int i=>(ra.d.items).bind λxs=>(atI xs i).map λd=>(R.norm ⟨d,ra.fr,ra.M⟩)
 | _=>none
noncomputable abbrev DO:=En->Option (Option Int)
noncomputable def Qfa:DO:=λ_=>some none
noncomputable def Qcb(f:DE):DO:=λJ=>(f J).bind λr=>match r.d with
 | .int i=>some (some i)
 | _=>none
noncomputable def cutD(xs:List D)(lo hi:Option Int):List D:=(xs.drop (HT.sIx xs.length 0 lo)).take (HT.sIx xs.length xs.length hi-HT.sIx xs.length 0 lo)
noncomputable def Qep(fa:DE)(lo hi:DO):DE:=λJ=>(fa J).bind λra=>(lo J).bind λl=>(hi J).bind λh=>match ra.d with
 | .lst xs=>some (Qa7 (cutD xs l h) ra.M)
 | _=>none
noncomputable def dBf(g:List D->Option D)(fs:DA):DE:=λJ=>(fs J).bind λr=>(g r.ds).map λd=>⟨d,true,[]⟩
noncomputable def Qan:List D->Option D
 | [.lst xs]=>some (.int xs.length)
 | [.tup xs]=>some (.int xs.length)
 | _=>none
noncomputable def QfS:List D->Option D
 | [.int i,.int j]=>some (.int (if j<i then j else i))
 | _=>none
noncomputable def Qwt:List D->Option D
 | [.int i,.int j]=>some (.int (if j>i then j else i))
 | _=>none
noncomputable def QrF:List D->Option D
 | [.int i]=>some (.int (if i<0 then-i else i))
 | _=>none
noncomputable def dList(fs:DA):DE:=λJ=>(fs J).bind λr=>match r.ds with
 | [.lst xs]=>some (Qa7 xs r.M)
 | [.tup xs]=>if xs.length<=sizeLine then some (Qa7 xs r.M)else none
 | _=>none
end
end HS
namespace HS
open PySem PySem.Spec L2 PyProof.Rows
noncomputable def intsOf:List D->Option (List Int)
 | []=>some []
 | d::ds=>match d with
  | .int i=>(intsOf ds).map (i:: ·)
  | _=>none
noncomputable def gDk(neg:Bool)(a b:D):Option D:=match a,b with
 | .tup ds,.dk ks=>(intsOf ds).map λk=> .bl (ks.contains k != neg)
 | _,_=>none
end HS
namespace HS
open PySem PySem.Spec L2
mutual
noncomputable def D.py:D->PyData
 | .non=> .none
 | .bl b=> .bool b
 | .int i=> .int i
 | .str x=> .str x
 | .tup xs=> .tuple (pys xs)
 | .lst xs=> .list (pys xs)
 | .exc _=> .none
 | .dk _=> .none
noncomputable def pys:List D->List PyData
 | []=>[]
 | d::ds=>d.py::pys ds
end
def QqX:∀ds:List D,pys ds=ds.map D.py
 | []=>rfl
 | d::ds=>by simp[pys,QqX ds]
noncomputable def D.sim:Nat->D->Bool
 | _,.non=>true
 | _,.bl _=>true
 | _,.int _=>true
 | _,.str x=>PyData.canLay0 (.str x)
 | 0,.tup xs=>xs.isEmpty
 | 0,.lst xs=>xs.isEmpty
 | n+1,.tup xs=>xs.all (D.sim n)
 | n+1,.lst xs=>xs.all (D.sim n)
 | _,.exc _=>false
 | _,.dk _=>false
def Qfw:∀{ds:List D},(∀d∈ds,d.py.canLay0=true)->PyData.canLayAll0 (pys ds)=true
 | [],_=>rfl
 | d::ds,h=>by
  simp only[pys,PyData.canLayAll0,Zl];exact⟨h d Zv,Qfw λe he=>h e (ZE _ he)⟩
def Qgh:∀{ds:List D},(∀d∈ds,d.py.depth<=n)->PyData.depthAll (pys ds)<=n
 | [],_=>ZS _
 | d::ds,h=>by
  simp only[pys,PyData.depthAll];exact Nat.max_le.mpr ⟨h d Zv,Qgh λe he=>h e (ZE _ he)⟩
def Qgx:∀(n:Nat) (d:D),d.sim n=true->d.py.canLay0=true/\d.py.depth<=n+1
 | n,.exc _,h=>by cases n<;>cases h
 | n,.dk _,h=>by cases n<;>cases h
 | n,.non,_=>by simp[D.py,PyData.canLay0,PyData.depth]
 | n,.bl _,_=>by simp[D.py,PyData.canLay0,PyData.depth]
 | n,.int _,_=>by simp[D.py,PyData.canLay0,PyData.depth]
 | n,.str x,h=>by
  simp only[D.py,PyData.depth];refine⟨?_,ZS _⟩;cases n<;>exact h
 | 0,.tup xs,h=>by
  have:xs=[]:=by simpa[D.sim]using h
  subst this;simp[D.py,pys,PyData.canLay0,PyData.canLayAll0,PyData.depth,PyData.depthAll]
 | 0,.lst xs,h=>by
  have:xs=[]:=by simpa[D.sim]using h
  subst this;simp[D.py,pys,PyData.canLay0,PyData.canLayAll0,PyData.depth,PyData.depthAll]
 | n+1,.tup xs,h=>by
  simp only[D.sim,Zae]at h;simp only[D.py,PyData.canLay0,PyData.depth];exact⟨Qfw λd hd=>(Qgx n d (h d hd)).1,Zcb (Qgh λd hd=>(Qgx n d (h d hd)).2) 1⟩
 | n+1,.lst xs,h=>by
  simp only[D.sim,Zae]at h;simp only[D.py,PyData.canLay0,PyData.depth];exact⟨Qfw λd hd=>(Qgx n d (h d hd)).1,Zcb (Qgh λd hd=>(Qgx n d (h d hd)).2) 1⟩
noncomputable def deq(a b:D):Bool:=PyData.eqv a.py b.py
def QoG(h:d.sim n=true):deq d d=true:=SeqAt.eqv_refl _ (Qgx n d h).1
mutual
noncomputable def D.noX:D->Bool
 | .exc _=>false
 | .dk _=>false
 | .tup xs=>QfM xs
 | .lst xs=>QfM xs
 | .non=>true
 | .bl _=>true
 | .int _=>true
 | .str _=>true
noncomputable def QfM:List D->Bool
 | []=>true
 | d::ds=>d.noX && QfM ds
end
def Qlu:∀{ds:List D},(∀d∈ds,d.noX=true)->QfM ds=true
 | [],_=>rfl
 | d::ds,h=>by
  simp only[QfM,Zl];exact⟨h d Zv,Qlu λe he=>h e (ZE _ he)⟩
def QlF:∀(n:Nat) (d:D),d.sim n=true->d.noX=true
 | n,.exc _,h=>by cases n<;>cases h
 | n,.dk _,h=>by cases n<;>cases h
 | n,.non,_=>rfl
 | n,.bl _,_=>rfl
 | n,.int _,_=>rfl
 | n,.str x,_=>rfl
 | 0,.tup xs,h=>by
  have:xs=[]:=by simpa[D.sim]using h
  subst this;rfl
 | 0,.lst xs,h=>by
  have:xs=[]:=by simpa[D.sim]using h
  subst this;rfl
 | n+1,.tup xs,h=>by
  simp only[D.sim,Zae]at h;simp only[D.noX];exact Qlu λd hd=>QlF n d (h d hd)
 | n+1,.lst xs,h=>by
  simp only[D.sim,Zae]at h;simp only[D.noX];exact Qlu λd hd=>QlF n d (h d hd)
noncomputable def gEq(a b:D):Option D:=if a.sim 8 && b.sim 8 then some (.bl (deq a b))else none
noncomputable def gNe(a b:D):Option D:=if a.sim 8 && b.sim 8 then some (.bl (!deq a b))else none
noncomputable def gIn(neg:Bool)(a b:D):Option D:=match b with
 | .lst xs=>if a.sim 8 && b.sim 8 then some (.bl (if neg then !(xs.any λy=>deq y a)else xs.any λy=>deq y a))else none
 | .tup xs=>if a.sim 8 && b.sim 8 then some (.bl (if neg then !(xs.any λy=>deq y a)else xs.any λy=>deq y a))else none
 | .dk _=>gDk neg a b
 | _=>none
section
variable {X:Cx}
def Qzf(xs:List D)(a:D):((pys xs).any λy=>PyData.eqv y a.py)=xs.any λy=>deq y a:=by
 rw[QqX,List.any_map];rfl
noncomputable def D.Qso:D->Bool
 | .non=>true
 | _=>false
noncomputable def D.tyN:D->String
 | .non=> "NoneType" | .bl _=> "bool" | .int _=> "int" | .str _=> "str" | .tup _=> "tuple" | .lst _=> "list" | .exc _=> "?" | .dk _=> "?"
noncomputable def D.isE:D->Bool
 | .exc _=>true
 | .dk _=>true
 | _=>false
noncomputable def D.isa(T:String)(d:D):Option Bool:=if(T == "int" || T == "bool" || T == "list" || T == "tuple" || T == "str") && !d.isE then some (d.tyN == T || (d.tyN == "bool" && T == "int"))else none
noncomputable def Qll(T:String)(fa:DE):DE:=λJ=>(fa J).bind λr=>(r.d.isa T).map λb=>⟨.bl b,true,[]⟩
noncomputable def D.tru:D->Option Bool
 | .non=>some false
 | .bl b=>some b
 | .int i=>some (i != 0)
 | .lst xs=>some (!xs.isEmpty)
 | .tup xs=>some (!xs.isEmpty)
 | .str _=>none
 | .exc _=>none
 | .dk _=>none
noncomputable def QA(fa:DE):DT:=λJ=>(fa J).bind λr=>r.d.tru
noncomputable def Qh7(f g:DT):DT:=λJ=>(f J).bind λb=>if b=true then g J else some false
noncomputable def bOr(f g:DT):DT:=λJ=>(f J).bind λb=>if b=true then some true else g J
noncomputable def QdJ(f:DT):DT:=λJ=>(f J).bind λb=>some (!b)
variable {a b e:Expr}{fa fb:DE}{ga gb gc:DT}{pos:Pos}{rest:List Expr}
noncomputable def Qhf(fa fb:DE):DE:=λJ=>(fa J).bind λra=>(ra.d.tru).bind λb=>if b=true then fb J else some ra
noncomputable def dOr(fa fb:DE):DE:=λJ=>(fa J).bind λra=>(ra.d.tru).bind λb=>if b=true then some ra else fb J
noncomputable def Qu0(fa:DE):DE:=λJ=>(fa J).bind λra=>(ra.d.tru).bind λb=>some ⟨.bl (!b),true,[]⟩
noncomputable def dIf(g:DT)(fa fb:DE):DE:=λJ=>(g J).bind λb=>if b=true then fa J else fb J
noncomputable def Qhk(fa:DE):DE:=λJ=>(fa J).bind λra=>match ra.d with
 | .int i=>some ⟨.int (-i),true,[]⟩
 | _=>none
end
end HS
namespace HS
open PySem PySem.Spec L2
section
def Qbz(J J':En):Prop:=J'.length=J.length/\∀(i:Nat) d b,J'[i]? =some (some (d,b))->∃b',J[i]? =some (some (d,b'))/\(b=true->b'=true)
def Qbz.refl:Qbz J J:=⟨rfl,λi d b h=>⟨b,h,id⟩⟩
def Qbz.trans(a:Qbz J J')(b:Qbz J' J''):Qbz J J'':=⟨b.1.trans a.1,λi d c h=>by
 obtain⟨c',h1,h2⟩:=b.2 i d c h;obtain⟨c'',h3,h4⟩:=a.2 i d c' h1;exact⟨c'',h3,λz=>h4 (h2 z)⟩⟩
noncomputable def kill:List Nat->En->En
 | [],J=>J
 | i::M,J=>kill M (J.set i none)
noncomputable def QaT:List Nat->En->En
 | [],J=>J
 | i::M,J=>QaT M (match J[i]? with
  | some (some (d,_))=>J.set i (some (d,false))
  | _=>J)
def Qtm(i:Nat):Qbz J (J.set i none):=⟨⋯,λj d b h=>by
 by_cases hj:i=j
 .subst hj;by_cases hl:i<J.length
  .rw[ZaU hl]at h;cases h
  .rw[Zz (by simp;lia)]at h;cases h
 .rw[ZaO hj]at h;exact⟨b,h,id⟩⟩
def Qcz:∀(M:List Nat) (J:En),Qbz J (kill M J)
 | [],J=> .refl
 | i::M,J=>(Qtm i).trans (Qcz M _)
def QmB:∀(M:List Nat) (J:En) (i:Nat) (d:D) (b:Bool),i∈M->(kill M J)[i]? =some (some (d,b))->False
 | [],J,i,d,b,h,_=>by simp at h
 | j::M,J,i,d,b,h,e=>by
  rcases Zq.mp h with rfl | h
  .obtain⟨b',e',_⟩:=(Qcz M (J.set i none)).2 i d b e;by_cases hl:i<J.length
   .rw[ZaU hl]at e';cases e'
   .rw[Zz (by simp;lia)]at e';cases e'
  .exact QmB M _ i d b h e
def Qv0(i:Nat):Qbz J (match J[i]? with
  | some (some (d,_))=>J.set i (some (d,false))
  | _=>J):=by
 split
 .rename_i d b e;refine⟨⋯,λj d' b' h=>?_⟩;by_cases hj:i=j
  .subst hj;have hl:i<J.length:=(Zi.mp e).1;rw[ZaU hl]at h;cases h;exact⟨b,e,λz=>by cases z⟩
  .rw[ZaO hj]at h;exact⟨b',h,id⟩
 .exact .refl
def QaM:∀(M:List Nat) (J:En),Qbz J (QaT M J)
 | [],J=> .refl
 | i::M,J=>(Qv0 i).trans (QaM M _)
def QkG:∀(M:List Nat) (J:En) (i:Nat) (d:D),i∈M->(QaT M J)[i]? =some (some (d,true))->False
 | [],J,i,d,h,_=>by simp at h
 | j::M,J,i,d,h,e=>by
  rcases Zq.mp h with rfl | h
  .obtain⟨b',e',hb⟩:=(QaM M _).2 i d true e;have:b'=true:=hb rfl;subst this;split at e'
   .rename_i d' b e1;have hl:i<J.length:=(Zi.mp e1).1;rw[ZaU hl]at e';cases e'
   .rename_i h1;exact h1 d true e'
  .exact QkG M _ i d h e
noncomputable def asg(i:Nat)(r:R)(J:En):En:=
 if r.norm.fr && decide r.norm.M.Nodup then(kill r.norm.M J).set i (some (r.d,true))else(QaT r.norm.M J).set i (some (r.d,r.d.flat))
end
noncomputable abbrev Den:=List D->Option (D×Bool)
noncomputable def Qs(n:Nat)(den:Den)(dfl:List D)(fs:DA):DE:=λJ=>(fs J).bind λr=>if r.ds.length+dfl.length=n then(den (r.ds++dfl)).map λq=>if q.2=true then⟨q.1,true,[]⟩else R.norm ⟨q.1,false,r.M⟩else none
structure IR where
 items:List D
 M:List Nat
noncomputable abbrev DI:=En->Option IR
section
variable {X:Cx}{tg a b:Expr}{fa fb:DE}{fs:DA}{pos p:Pos}
noncomputable def Q7(fa:DE):DI:=λJ=>(fa J).bind λr=>match r.d with
 | .lst xs=>some ⟨xs,r.M⟩
 | .tup xs=>if xs.length<=sizeLine then some ⟨xs,r.M⟩else none
 | _=>none
noncomputable def QjG(lo:Int)(n:Nat):List D:=(List.range n).map λ(k:Nat)=> .int (lo+(k:Int))
def Qhp:(QjG lo n).length=n:=by simp[QjG]
def Qoo(h:(QjG lo n)[i]? =some d):i<n/\d= .int (lo+i):=by
 unfold QjG at h;rw[Zk]at h;cases q:(List.range n)[i]? with
 | none=>rw[q]at h;cases h
 | some k=>
  rw[q]at h;obtain⟨h1,h2⟩:=Zi.mp q;simp at h1 h2;subst h2;exact⟨h1,(Option.some.inj h).symm⟩
noncomputable def Qa1(fa:DE):DI:=λJ=>(fa J).bind λr=>match r.d with
 | .int j=>if j<=16777216/\ -(2^62)<=j then some ⟨QjG 0 j.toNat,[]⟩else none
 | _=>none
noncomputable def QcR(fa fb:DE):DI:=λJ=>(fa J).bind λr=>(fb J).bind λr'=>match r.d,r'.d with
 | .int i,.int j=>if j-i<=16777216/\ -(2^62)<=i/\i<2^62/\ -(2^62)<=j/\j<2^62 then some ⟨QjG i (j-i).toNat,[]⟩else none
 | _,_=>none
def Qfu:(sizeLine:Nat)=16777216:=sizeLine_eq
noncomputable def Qdu(ds:List D):List D:=ds.zipIdx.map λq=> .tup [.int q.2,q.1]
def QmK:(Qdu ds).length=ds.length:=by simp[Qdu]
def QsB{ds:List D}{i:Nat}{d:D}(h:(Qdu ds)[i]? =some d):∃e,ds[i]? =some e/\d= .tup [.int i,e]:=by
 unfold Qdu at h;rw[Zk,Zcc]at h;cases q:ds[i]? with
 | none=>rw[q]at h;cases h
 | some e=>rw[q]at h;simp at h;exact⟨e,rfl,h.symm⟩
noncomputable def Qcj(fa:DE):DI:=λJ=>(fa J).bind λr=>match r.d with
 | .lst xs=>some ⟨Qdu xs,r.M⟩
 | _=>none
noncomputable def Qgn(xs ys:List D):List D:=(xs.zip ys).map λq=> .tup [q.1,q.2]
def QoY:(Qgn xs ys).length=min xs.length ys.length:=by simp[Qgn]
def Qv8{xs ys:List D}{i:Nat}{d:D}(h:(Qgn xs ys)[i]? =some d):∃e f,xs[i]? =some e/\ys[i]? =some f/\d= .tup [e,f]:=by
 unfold Qgn at h;rw[Zk]at h;cases q:(xs.zip ys)[i]? with
 | none=>rw[q]at h;cases h
 | some e=>
  rw[q]at h;obtain⟨h1,h2⟩:=ZaD.mp q;exact⟨e.1,e.2,h1,h2,(Option.some.inj h).symm⟩
noncomputable def QaW(fa fb:DE):DI:=λJ=>(fa J).bind λr=>(fb J).bind λr'=>match r.d,r'.d with
 | .lst xs,.lst ys=>some ⟨Qgn xs ys,r.M++r'.M⟩
 | _,_=>none
end
end HS
namespace HS
open PySem L2
noncomputable def QgR(xs ys zs:List D):List D:=(xs.zip (ys.zip zs)).map λq=> .tup [q.1,q.2.1,q.2.2]
def QtB{xs ys zs:List D}{i:Nat}{d:D}(h:(QgR xs ys zs)[i]? =some d):∃e f g,xs[i]? =some e/\ys[i]? =some f/\zs[i]? =some g/\d= .tup [e,f,g]:=by
 unfold QgR at h;rw[Zk]at h;cases q:(xs.zip (ys.zip zs))[i]? with
 | none=>rw[q]at h;cases h
 | some e=>
  rw[q]at h;obtain⟨h1,h2⟩:=ZaD.mp q;obtain⟨h3,h4⟩:=ZaD.mp h2;exact⟨e.1,e.2.1,e.2.2,h1,h3,h4,(Option.some.inj h).symm⟩
def Qmh(h1:xs.length=ys.length)(h2:ys.length=zs.length):(QgR xs ys zs).length=xs.length:=by
 simp[QgR];lia
noncomputable def Qim(fa fb fc:DE):DI:=λJ=>(fa J).bind λr=>(fb J).bind λr'=>(fc J).bind λr''=>match r.d,r'.d,r''.d with
 | .lst xs,.lst ys,.lst zs=>if xs.length=ys.length/\ys.length=zs.length then some ⟨QgR xs ys zs,r.M++(r'.M++r''.M)⟩else none
 | _,_,_=>none
end HS
namespace HS
open PySem PySem.Spec L2
inductive Tg where
 | nm (i:Nat)
 | tp (is:List Nat)
noncomputable def Tg.slots:Tg->List Nat
 | .nm i=>[i]
 | .tp is=>is
noncomputable def Qd7:List Nat->List D->En->En
 | i::is,d::ds,J=>Qd7 is ds (J.set i (some (d,d.flat)))
 | _,_,J=>J
noncomputable def Qca:Tg->D->En->Option En
 | .nm i,d,J=>some (J.set i (some (d,d.flat)))
 | .tp is,.tup xs,J=>if xs.length=is.length then some (Qd7 is xs J)else none
 | .tp is,.lst xs,J=>if xs.length=is.length then some (Qd7 is xs J)else none
 | .tp _,_,_=>none
noncomputable def QdF(cap:List (Option Nat))(J:En):En:=cap.map λo=>o.bind λi=>match J[i]? with
 | some (some (d,_))=>some (d,d.flat)
 | _=>none
noncomputable def Qmb(cap:List (Option Nat))(J:En):List Nat:=cap.filterMap λo=>o.bind λi=>match J[i]? with
 | some (some (d,b))=>if b && !d.flat then some i else none
 | _=>none
noncomputable def QdG(t:Tg)(ft:DT)(fe:DE)(Jc:En)(acc:List D×Bool)(d:D):Option (List D×Bool):=
 (Qca t d Jc).bind λJ1=>(ft J1).bind λc=>if c=true then(fe J1).map λr=>(acc.1++[r.d],acc.2 && r.norm.fr)else some acc
noncomputable def QO(fi:DI)(t:Tg)(cap:List (Option Nat))(ft:DT)(fe:DE):DE:=λJ=>(fi J).bind λir=>
 (ir.items.foldlM (QdG t ft fe (QdF cap J)) ([],true)).map λq=>if q.2=true then⟨.lst q.1,true,[]⟩else⟨.lst q.1,false,ir.M++Qmb cap J⟩
def QdE(J:En):Prop:=∀(j:Nat) d,J[j]? =some (some (d,true))->d.flat=true
def QdE.set{J:En}(h:QdE J)(i:Nat)(d:D):QdE (J.set i (some (d,d.flat))):=λj d' e=>by
 by_cases hj:j=i
 .subst hj;have hl:j<J.length:=by
   by_cases hl:j<J.length
   .exact hl
   .rw[Zz (by simp;lia)]at e;cases e
  rw[ZaU hl]at e;have e1:=Option.some.inj (Option.some.inj e);have h1:d=d':=congrArg Prod.fst e1;have h2:d.flat=true:=congrArg Prod.snd e1;rw[← h1];exact h2
 .rw[ZaO (Ne.symm hj)]at e;exact h j d' e
def QdE.Qd7:∀(is:List Nat) (ds:List D) {J:En},QdE J->QdE (Qd7 is ds J)
 | [],_,_,h=>h
 | _::_,[],_,h=>h
 | i::is,d::ds,_,h=>QdE.Qd7 is ds (h.set i d)
def QdE.bind{t:Tg}{d:D}{J J':En}(h:QdE J)(e:Qca t d J=some J'):QdE J':=by
 cases t with
 | nm i=>cases e;exact h.set i d
 | tp is=>
  cases d with
  | tup xs=>
   simp only[Qca]at e;split at e
   .cases e;exact h.Qd7 is xs
   .cases e
  | lst xs=>
   simp only[Qca]at e;split at e
   .cases e;exact h.Qd7 is xs
   .cases e
  | _=>simp only[Qca]at e;cases e
def Qjo(cap:List (Option Nat))(J:En):QdE (QdF cap J):=λj d e=>by
 unfold QdF at e;rw[Zk]at e;cases q:cap[j]? with
 | none=>rw[q]at e;cases e
 | some o=>
  rw[q]at e;cases o with
  | none=>cases e
  | some i=>
   simp only[Zag,Za,Option.some.injEq]at e;split at e
   .have e1:=Option.some.inj e;have h1:=congrArg Prod.fst e1;have h2:=congrArg Prod.snd e1;dsimp only at h1 h2;rw[← h1];exact h2
   .cases e
def Qml{cap:List (Option Nat)}{J:En}{j:Nat}{d:D}{b:Bool}(e:(QdF cap J)[j]? =some (some (d,b))):∃i b',cap[j]? =some (some i)/\J[i]? =some (some (d,b')):=by
 unfold QdF at e;rw[Zk]at e;cases q:cap[j]? with
 | none=>rw[q]at e;cases e
 | some o=>
  rw[q]at e;cases o with
  | none=>cases e
  | some i=>
   simp only[Zag,Za,Option.some.injEq]at e;split at e
   .rename_i d' b' hi;have e1:=Option.some.inj e;have h1:d'=d:=congrArg Prod.fst e1;subst h1;exact⟨i,b',rfl,hi⟩
   .cases e
noncomputable def Qac:DT:=λ_=>some true
inductive Out where
 | nx (J:En)
 | bk (J:En)
 | ct (J:En)
 | rt (d:D) (fr:Bool)
noncomputable abbrev DS:=En->Option Out
noncomputable def Ql:DS:=λJ=>some (.nx J)
noncomputable def Qc(f g:DS):DS:=λJ=>(f J).bind λo=>match o with
 | .nx J'=>g J'
 | .bk J'=>some (.bk J')
 | .ct J'=>some (.ct J')
 | .rt d fr=>some (.rt d fr)
noncomputable def Qzh:DS:=λJ=>some (.bk J)
noncomputable def QzC:DS:=λJ=>some (.ct J)
noncomputable def Qv(i:Nat)(fa:DE):DS:=λJ=>(fa J).bind λr=>some (.nx (asg i r J))
noncomputable def Qbi(fa:DE):DE:=λJ=>(fa J).map λr=>⟨r.d,false,r.M⟩
noncomputable def QM(fa:DE):DS:=λJ=>(fa J).bind λr=>some (.rt r.d (r.norm.fr && decide r.norm.M.Nodup))
noncomputable def Qwm:DS:=λ_=>some (.rt .non true)
noncomputable def Qc4(fa:DE):DS:=λJ=>(fa J).bind λ_=>some (.nx J)
noncomputable def sIf(g:DT)(f1 f2:DS):DS:=λJ=>(g J).bind λb=>if b=true then f1 J else f2 J
noncomputable def Qdp(t:Tg)(fb:DS):List D->DS
 | [],J=>some (.nx J)
 | d::ds,J=>(Qca t d J).bind λJ1=>(fb J1).bind λo=>match o with
  | .nx J2=>Qdp t fb ds J2
  | .ct J2=>Qdp t fb ds J2
  | .bk J2=>some (.nx J2)
  | .rt d fr=>some (.rt d fr)
noncomputable def QaU(fi:DI)(t:Tg)(fb:DS):DS:=λJ=>(fi J).bind λir=>Qdp t fb ir.items (QaT ir.M J)
noncomputable def Qbt(g:DT)(fb:DS):Nat->DS
 | 0,_=>none
 | n+1,J=>(g J).bind λb=>if b=true then(fb J).bind λo=>match o with
  | .nx J2=>Qbt g fb n J2
  | .ct J2=>Qbt g fb n J2
  | .bk J2=>some (.nx J2)
  | .rt d fr=>some (.rt d fr)
  else some (.nx J)
noncomputable def QlX(g:D->D->Option D)(i:Nat)(fa:DE):DS:=λJ=>match J[i]? with
 | some (some (d,_))=>(fa J).bind λr=>(g d r.d).map λd'=> .nx (J.set i (some (d',true)))
 | _=>none
end HS
namespace HS
open PySem PySem.Spec L2 PyProof.Rows
section
variable {K:Fgg}{A0:LAd}{hs:List (V×D×List Addr)}{J:En}{F:Nat->List Addr}{x:Nat}{ks ks':List (List Int)}
noncomputable def QiC(x:Nat)(fs:DA):DS:=λJ=>match J[x]? with
 | some (some (.dk ks,true))=>(fs J).bind λr=>match r.ds with
  | [.lst ds]=>(intsOf ds).bind λk=>if ks.length<sizeLine then some (.nx (J.set x (some (.dk (if ks.contains k then ks else ks++[k]),true))))else none
  | _=>none
 | _=>none
end
noncomputable def dD1(fs:DA):DE:=λJ=>(fs J).bind λr=>match r.ds with
 | [.lst ds]=>(intsOf ds).map λk=>⟨.dk [k],true,[]⟩
 | _=>none
end HS
namespace HS
open PySem PySem.Spec L2
section
variable {K:Fgg}
noncomputable def Qak:D->List Int->Option D
 | d,[]=>some d
 | d,i::is=>(d.items).bind λds=>(atI ds i).bind λd'=>Qak d' is
def Qkx:∀{is:List Int}{d:D}{i:Int}{d':D},Qak d (is++[i])=some d'->∃dm ds,Qak d is=some dm/\dm.items=some ds/\atI ds i=some d'
 | [],d,i,d',h=>by
  refine Qj h λds h1 h=>?_;refine Qj h λd'' h2 h=>?_;cases h;exact⟨d,ds,rfl,h1,h2⟩
 | k::is,d,i,d',h=>by
  refine Qj h λds h1 h=>?_;refine Qj h λd'' h2 h=>?_;obtain⟨dm,es,h3,h4,h5⟩:=Qkx h;refine⟨dm,es,?_,h4,h5⟩;simp only[Qak,h1,h2,Za,h3]
noncomputable def Qa2:List Int->D->D->D
 | [],_,new=>new
 | i::is,.lst ds,new=>match ixN ds.length i with
  | some j=> .lst (ds.set j (Qa2 is (ds.getD j .non) new))
  | none=> .lst ds
 | i::is,.tup ds,new=>match ixN ds.length i with
  | some j=> .tup (ds.set j (Qa2 is (ds.getD j .non) new))
  | none=> .tup ds
 | _::_,d,_=>d
end
noncomputable abbrev DP:=En->Option (List Int)
noncomputable def Q8:DP:=λ_=>some []
noncomputable def Qe4(p:DP)(fb:DE):DP:=λJ=>(p J).bind λis=>(fb J).bind λr=>match r.d with
 | .int i=>some (is++[i])
 | _=>none
section
noncomputable def QdN(x:Nat)(pf:DP)(fi fa:DE):DS:=λJ=>(fa J).bind λr0=>match J[x]? with
 | some (some (d,true))=>(pf J).bind λis=>(fi J).bind λri=>match ri.d,Qak d is with
  | .int k,some (.lst ds)=>(ixN ds.length k).bind λj=>if r0.norm.fr && decide r0.norm.M.Nodup && !r0.norm.M.contains x then some (.nx ((kill r0.norm.M J).set x (some (Qa2 is d (.lst (ds.set j r0.d)),true))))else
   if is.isEmpty && !r0.norm.M.contains x then some (.nx ((QaT r0.norm.M J).set x (some (.lst (ds.set j r0.d),false))))else
   none
  | _,_=>none
 | _=>none
def Qi8:∀(M:List Nat) (J:En) (x:Nat),x∉M->(QaT M J)[x]? =J[x]?
 | [],J,x,_=>rfl
 | i::M,J,x,h=>by
  have hi:i≠x:=λe=>h (e▸Zv);unfold QaT;rw[Qi8 M _ x λe=>h (ZE _ e)];split
  .rw[ZaO hi]
  .rfl
end
section
variable {X:Cx}{a b e:Expr}{fa fb:DE}{pf:DP}{x:Nat}{pos apos:Pos}
noncomputable def QgO(r:R)(x:Nat):Bool:=r.norm.fr && decide r.norm.M.Nodup && !r.norm.M.contains x
def Qs0(h:QgO r x=true):r.norm.fr=true/\r.norm.M.Nodup/\x∉r.norm.M:=by
 unfold QgO at h;simp only[Zl,decide_eq_true_eq,Zak]at h;exact⟨h.1.1,h.1.2,λz=>by rw[ZbX.mpr z]at h;cases h.2⟩
noncomputable def Qb1(x:Nat)(pf:DP)(fa:DE):DS:=λJ=>match J[x]? with
 | some (some (d,true))=>(pf J).bind λis=>(fa J).bind λr0=>match Qak d is with
  | some (.lst ds)=>if QgO r0 x && decide (ds.length<sizeLine)then some (.nx ((kill r0.norm.M J).set x (some (Qa2 is d (.lst (ds++[r0.d])),true))))else none
  | _=>none
 | _=>none
noncomputable def QBA(x:Nat)(pf:DP)(fa:DE):DS:=λJ=>match J[x]? with
 | some (some (d,true))=>(pf J).bind λis=>(fa J).bind λr0=>match Qak d is,r0.d with
  | some (.lst ds),.lst es=>if Q3 es && decide (ds.length+es.length<=sizeLine)then some (.nx (J.set x (some (Qa2 is d (.lst (ds++es)),true))))else none
  | _,_=>none
 | _=>none
noncomputable def QeD(g:D->D->Option D)(x:Nat)(pf:DP)(fi fa:DE):DS:=λJ=>match J[x]? with
 | some (some (d,true))=>(pf J).bind λis=>(fi J).bind λri=>match ri.d,Qak d is with
  | .int k,some (.lst ds)=>(ixN ds.length k).bind λj=>(ds[j]?).bind λold=>(fa J).bind λr=>(g old r.d).map λnew=> .nx (J.set x (some (Qa2 is d (.lst (ds.set j new)),true)))
  | _,_=>none
 | _=>none
end
end HS
namespace HS
open PySem PySem.Spec L2 PyProof.Rows
def QeM:∀{ds:List D}{ns:List Int},Qa4 ds=some ns->ds=ns.map .int
 | [],_,h=>by cases h;rfl
 | d::ds,ns,h=>by
  unfold Qa4 at h;refine Qj h λi h1 h=>?_;obtain⟨r,h2,rfl⟩:=Zn.mp h;cases d with
  | int j=>cases h1;rw[QeM h2];rfl
  | _=>cases h1
def Qdg:∀(ns:List Int),Qa4 (ns.map D.int)=some ns
 | []=>rfl
 | n::ns=>by simp[Qa4,Qdg ns,D.Qws]
noncomputable def QjW:List D->Option (List Bool)
 | []=>some []
 | d::ds=>(match d with | .bl b=>some b | _=>none).bind λi=>(QjW ds).map λr=>i::r
def Qjm:∀{ds:List D}{ns:List Bool},QjW ds=some ns->ds=ns.map .bl
 | [],_,h=>by cases h;rfl
 | d::ds,ns,h=>by
  unfold QjW at h;refine Qj h λi h1 h=>?_;obtain⟨r,h2,rfl⟩:=Zn.mp h;cases d with
  | bl j=>cases h1;rw[Qjm h2];rfl
  | _=>cases h1
section
variable {X:Cx}{a b e:Expr}{es:List Expr}{fa fb:DE}{fs:DA}{pos p2:Pos}
def QrA(ns:List Int)(M:Int):Prop:=M∈ns/\∀a∈ns,M<=a
def isMax(ns:List Int)(M:Int):Prop:=M∈ns/\∀a∈ns,a<=M
noncomputable def QhL:List Int->Option Int
 | []=>none
 | [n]=>some n
 | n::r=>(QhL r).map λm=>if m<n then m else n
noncomputable def Qin:List Int->Option Int
 | []=>none
 | [n]=>some n
 | n::r=>(Qin r).map λm=>if n<m then m else n
def QlC:∀{ns:List Int}{m:Int},QhL ns=some m->QrA ns m
 | [],_,h=>by cases h
 | [n],_,h=>by cases h;exact⟨⋯,λa ha=>by simp at ha;lia⟩
 | n::k::r,m,h=>by
  simp only[QhL]at h;obtain⟨m',h1,rfl⟩:=Zn.mp h;obtain⟨h2,h3⟩:=QlC h1;constructor
  .split
   .exact ZE _ h2
   .exact Zv
  .intro a ha;rcases Zq.mp ha with rfl | ha
   .split<;>lia
   .have:=h3 a ha;split<;>lia
def Qld:∀{ns:List Int}{m:Int},Qin ns=some m->isMax ns m
 | [],_,h=>by cases h
 | [n],_,h=>by cases h;exact⟨⋯,λa ha=>by simp at ha;lia⟩
 | n::k::r,m,h=>by
  simp only[Qin]at h;obtain⟨m',h1,rfl⟩:=Zn.mp h;obtain⟨h2,h3⟩:=Qld h1;constructor
  .split
   .exact ZE _ h2
   .exact Zv
  .intro a ha;rcases Zq.mp ha with rfl | ha
   .split<;>lia
   .have:=h3 a ha;split<;>lia
def QtS{ns:List Int}{a b:Int}(h:QrA ns a)(g:QrA ns b):a=b:=by have:=h.2 b g.1;have:=g.2 a h.1;lia
def Qsy{ns:List Int}{a b:Int}(h:isMax ns a)(g:isMax ns b):a=b:=by have:=h.2 b g.1;have:=g.2 a h.1;lia
noncomputable def QeF:List D->Option D
 | [.lst xs]=>(Qa4 xs).bind λns=>(QhL ns).map .int
 | [.tup xs]=>(Qa4 xs).bind λns=>(QhL ns).map .int
 | _=>none
noncomputable def QdH:List D->Option D
 | [.lst xs]=>(Qa4 xs).bind λns=>(Qin ns).map .int
 | [.tup xs]=>(Qa4 xs).bind λns=>(Qin ns).map .int
 | _=>none
noncomputable def QeG:List D->Option D
 | [.lst xs]=>(Qa4 xs).map λns=> .int ns.sum
 | [.tup xs]=>(Qa4 xs).map λns=> .int ns.sum
 | _=>none
noncomputable def QiH:List D->Option D
 | [.lst xs]=>(QjW xs).map λns=> .bl (ns.all id)
 | _=>none
noncomputable def Qiz:List D->Option D
 | [.lst xs]=>(QjW xs).map λns=> .bl (ns.any id)
 | _=>none
noncomputable def Qig(neg:Bool)(a b:D):Option D:=match a,b with
 | a,.non=>some (.bl (if neg then !a.Qso else a.Qso))
 | .bl x,.bl y=>some (.bl (if neg then !(x == y)else x == y))
 | _,_=>none
noncomputable def dDm(fs:DA):DE:=λJ=>(fs J).bind λr=>match r.ds with
 | [.int i,.int j]=>if Qb9 j=true then some ⟨.tup [.int (Qd8 i j),.int (QdI i j)],true,[]⟩else none
 | _=>none
end
section
variable {X:Cx}{a b c e tg:Expr}{es:List Expr}{fa fb fc:DE}{fs:DA}{pos p2:Pos}
noncomputable def QiR(fa:DE):DE:=λJ=>(fa J).bind λr=>match r.d with
 | .int j=>if 0<=j/\j<=1000000 then some ⟨.lst ((List.range j.toNat).map λ(k:Nat)=> .int (k:Int)),true,[]⟩else none
 | _=>none
def Qs4:∀ns:List Int,Q3 (ns.map .int)=true
 | []=>rfl
 | n::ns=>by simp[Q3,D.flat,Qs4 ns]
def Qmd(lo hi:Int):Builtin.Range.rangeSize lo hi (-1)=if lo>hi then lo-hi else 0:=by
 unfold Builtin.Range.rangeSize;rw[if_neg ∅];split
 .rw[show(- -1:Int)=1 by decide,Int.ediv_one];lia
 .rfl
def small_down{lo hi:Int}(h1: -(2^62)<=lo)(h2:lo<2^62)(h3: -(2^62)<=hi)(h4:hi<2^62):Builtin.Range.small lo hi (-1)=true:=by
 unfold Builtin.Range.small;rw[Qmd];simp only[Builtin.Range.rangeFitsLong,Zl,Zbj,decide_eq_true_eq,beq_iff_eq,show ¬((-1:Int)>0) by decide,if_false];split<;>lia
noncomputable def QoA(hi:Int)(n:Nat):List D:=(List.range n).map λ(k:Nat)=> .int (hi-(k:Int))
def Qvj{lo:Int}{n i:Nat}{d:D}(h:(QoA lo n)[i]? =some d):i<n/\d= .int (lo-i):=by
 unfold QoA at h;rw[Zk]at h;by_cases hi:i<n
 .rw[ZQ hi]at h;cases h;exact⟨hi,rfl⟩
 .rw[Zz (by simp;lia)]at h;cases h
noncomputable def QgE(fa fb fc:DE):DI:=λJ=>(fa J).bind λr=>(fb J).bind λr'=>(fc J).bind λr''=>match r.d,r'.d,r''.d with
 | .int i,.int j,.int (-1)=>if i-j<=16777216/\ -(2^62)<=i/\i<2^62/\ -(2^62)<=j/\j<2^62 then some ⟨QoA i (i-j).toNat,[]⟩else none
 | _,_,_=>none
def Qnt{lo:Int}{n:Nat}:(QoA lo n).length=n:=by simp[QoA]
noncomputable def QrK(fa:DE):DE:=λJ=>(fa J).bind λr=>match r.d with
 | .int i=>some ⟨.int (Builtin.Int.intBits i),true,[]⟩
 | _=>none
noncomputable def insI(x:Int):List Int->List Int
 | []=>[x]
 | y::r=>if x<=y then x::y::r else y::insI x r
noncomputable def QeU:List Int->List Int
 | []=>[]
 | x::r=>insI x (QeU r)
def insI_perm(x:Int):∀l:List Int,(insI x l).Perm (x::l)
 | []=> .refl _
 | y::r=>by
  unfold insI;split
  .exact .refl _
  .exact((insI_perm x r).cons y).trans (.swap x y r)
def Qdc:∀l:List Int,(QeU l).Perm l
 | []=> .refl _
 | x::r=>(insI_perm x (QeU r)).trans ((Qdc r).cons x)
def Qi6(x:Int):∀l:List Int,l.Pairwise (· <= ·)->(insI x l).Pairwise (· <= ·)
 | [],_=>by simp[insI]
 | y::r,h=>by
  unfold insI;have h1:=Zas.mp h;split
  .rename_i hxy;refine Zas.mpr ⟨λz hz=>?_,h⟩;rcases Zq.mp hz with rfl | hz
   .exact hxy
   .exact ZbF hxy (h1.1 z hz)
  .rename_i hxy;refine Zas.mpr ⟨λz hz=>?_,Qi6 x r h1.2⟩;rcases Zq.mp ((insI_perm x r).mem_iff.mp hz)with rfl | hz
   .lia
   .exact h1.1 z hz
def QdB:∀l:List Int,(QeU l).Pairwise (· <= ·)
 | []=> .nil
 | x::r=>Qi6 x _ (QdB r)
def Qhn:∀{l l':List Int},l.Pairwise (· <= ·)->l'.Pairwise (· <= ·)->l.Perm l'->l=l'
 | [],l',_,_,p=>(List.Perm.nil_eq p)
 | x::l,[],_,_,p=>by have:=p.length_eq;simp at this
 | x::l,y::l',h,h',p=>by
  have h1:=Zas.mp h;have h2:=Zas.mp h';have e:x=y:=by
   have a:=p.mem_iff.mp (Zv);have b:=p.mem_iff.mpr (Zv);rcases Zq.mp a with a | a
   .exact a
   .rcases Zq.mp b with b | b
    .exact b.symm
    .have:=h1.1 y b;have:=h2.1 x a;lia
  subst e;rw[Qhn h1.2 h2.2 (List.Perm.cons_inv p)]
noncomputable def QfE(fs:DA):DE:=λJ=>(fs J).bind λr=>match r.ds with
 | [.lst xs]=>(Qa4 xs).bind λns=>if ns.length<64 then some ⟨.lst ((QeU ns).map .int),true,[]⟩else none
 | _=>none
noncomputable def QiO(fs:DA):DE:=λJ=>(fs J).bind λr=>match r.ds with
 | [.lst xs]=>if Q3 xs=true then some ⟨.tup xs,true,[]⟩else none
 | _=>none
end
end HS
namespace HS
open PySem L2
noncomputable def QjN(ns:List Int):List Int:=ns.foldl PyProof.Rows.step_dedup []
noncomputable def QkA(fa:DE):DE:=λJ=>(fa J).bind λr=>match r.d with
 | .lst xs=>(Qa4 xs).bind λns=>if ns.length<=18 then some ⟨.lst ((QeU (QjN ns)).map .int),true,[]⟩else none
 | _=>none
def Qn2:∀(ns Z:List Int),(Z++ns).Nodup->ns.foldl PyProof.Rows.step_dedup Z=Z++ns
 | [],Z,_=>by simp
 | n::ns,Z,h=>by
  have hn:Z.any (· == n)=false:=by
   rw[ZaR];intro x hx e;rw[beq_iff_eq]at e;subst e;exact(Zal.mp h).2.2 x hx x Zv rfl
  have e:PyProof.Rows.step_dedup Z n=Z++[n]:=by unfold PyProof.Rows.step_dedup;rw[hn];rfl
  show ns.foldl PyProof.Rows.step_dedup (PyProof.Rows.step_dedup Z n)=_;rw[e,Qn2 ns (Z++[n]) (by simpa using h)];simp
def Qtv{ns:List Int}(h:ns.Nodup):QjN ns=ns:=by
 have:=Qn2 ns [] (by simpa using h);simpa[QjN]using this
def Qss:∀{a b:List Int},a.Perm b->a.Pairwise (· <= ·)->b.Pairwise (· <= ·)->a=b:=λ{a b} p ha hb=>p.eq_of_pairwise (λx y _ _ h1 h2=>Int.le_antisymm h1 h2) ha hb
def Qsn{ns:List Int}(h:ns.Pairwise (· <= ·)):QeU ns=ns:=Qss (Qdc ns) (QdB ns) h
def Inc(xs:Array Nat):Prop:=xs.toList.Pairwise (· < ·)
def Inc.get{xs:Array Nat}(h:Inc xs){i j a b:Nat}(hi:xs[i]? =some a)(hj:xs[j]? =some b)(hij:i<j):a<b:=by
 rw[← ZA]at hi hj;obtain⟨i1,rfl⟩:=Zi.mp hi;obtain⟨j1,rfl⟩:=Zi.mp hj;exact Zan.mp h i j i1 j1 hij
structure Cut (xs:Array Nat) (j r:Nat):Prop where
 le:r<=xs.size
 lo:∀i a,i<r->xs[i]? =some a->a<j
 hi:∀i a,r<=i->xs[i]? =some a->j<=a
def Qjy{xs:Array Nat}(hx:Inc xs)(j:Nat):∀(fuel lo hi:Nat),hi-lo<=fuel->lo<=hi->hi<=xs.size->(∀i a,i<lo->xs[i]? =some a->a<j)->(∀i a,hi<=i->xs[i]? =some a->j<=a)->Cut xs j (SetTable.below.go xs j fuel lo hi)
 | 0,lo,hi,hf,h1,h2,h3,h4=>by
  unfold SetTable.below.go;exact⟨⋯,h3,λi a q=>h4 i a ⋯⟩
 | fuel+1,lo,hi,hf,h1,h2,h3,h4=>by
  unfold SetTable.below.go;by_cases z:lo<hi
  .rw[if_pos z];obtain⟨a,ha⟩:∃a,xs[(lo+hi) / 2]? =some a:=⟨_,Zr ⋯⟩;have e:xs.getD ((lo+hi) / 2) j=a:=by rw[Array.getD_eq_getD_getElem?,ha];rfl
   dsimp only;rw[e];by_cases y:a<j
   .rw[if_pos y];refine Qjy hx j fuel _ hi ⋯ ⋯ h2 (λi b q hb=>?_) h4;by_cases w:i=(lo+hi) / 2
    .rw[w,ha]at hb;cases hb;exact y
    .have:=hx.get hb ha ⋯;lia
   .rw[if_neg y];refine Qjy hx j fuel lo _ ⋯ ⋯ ⋯ h3 λi b q hb=>?_;by_cases w:i=(lo+hi) / 2
    .rw[w,ha]at hb;cases hb;lia
    .have:=hx.get ha hb ⋯;lia
  .rw[if_neg z];exact⟨⋯,h3,λi a q=>h4 i a ⋯⟩
def Qf5{xs:Array Nat}(hx:Inc xs)(j:Nat):Cut xs j (SetTable.below xs j):=Qjy hx j _ 0 _ ⋯ (ZS _) (Zt _) (λi a q=> ⋯) λi a q h=>by
 rw[Array.getElem?_eq_none q]at h;cases h
def QrC{xs:Array Nat}(hx:Inc xs):SetTable.below xs 0=0:=by
 have c:=Qf5 hx 0;by_cases z:SetTable.below xs 0=0
 .exact z
 .have le:=c.le;have:=c.lo 0 _ ⋯ (Zr ⋯);lia
def Qry{xs:Array Nat}(hx:Inc xs){i a:Nat}(ha:xs[i]? =some a):SetTable.below xs (a+1)=i+1:=by
 have c:=Qf5 hx (a+1);have hi:i<xs.size:=by
  by_cases z:i<xs.size
  .exact z
  .rw[Array.getElem?_eq_none ⋯]at ha;cases ha
 by_cases z:SetTable.below xs (a+1)<=i
 .have:=c.hi i a z ha;lia
 .by_cases y:i+1<SetTable.below xs (a+1)
  .have le:=c.le;have h1:=Zr (xs:=xs) (i:=i+1) ⋯;have h2:=c.lo (i+1) _ y h1;have h3:=hx.get ha h1 ⋯;lia
  .lia
def QtD{xs:Array Nat}(hx:Inc xs){j:Nat}(h:xs[SetTable.below xs j]? ≠some j):∀k:Nat,xs[k]? ≠some j:=λk hk=>by
 have c:=Qf5 hx j;by_cases z:k<SetTable.below xs j
 .have:=c.lo k j z hk;lia
 .by_cases y:k=SetTable.below xs j
  .rw[y]at hk;exact h hk
  .have ks:k<xs.size:=by
    by_cases z:k<xs.size
    .exact z
    .rw[Array.getElem?_eq_none ⋯]at hk;cases hk
   have h1:=Zr (xs:=xs) (i:=SetTable.below xs j) ⋯;have h2:=hx.get h1 hk ⋯;have h3:=c.hi _ _ (Zt _) h1;lia
def Qxe{xs:Array Nat}(hx:Inc xs){j:Nat}(hj:∀k:Nat,xs[k]? ≠some j):Inc (SetTable.insertAt xs (SetTable.below xs j) j):=by
 have c:=Qf5 hx j;unfold Inc;rw[SetTable.toList_insertAt,List.pairwise_append,Zas];have lo:∀a∈xs.toList.take (SetTable.below xs j),a<j:=λa ha=>by
  obtain⟨i,hi⟩:=ZaP ha;rw[List.getElem?_take]at hi;split at hi
  .rename_i z;exact c.lo i a z (by rw[← ZA];exact hi)
  .cases hi
 have hi:∀a∈xs.toList.drop (SetTable.below xs j),j<a:=λa ha=>by
  obtain⟨i,hi⟩:=ZaP ha;rw[Zcl,ZA]at hi;have h1:=c.hi _ a ⋯ hi;have h2:a≠j:=λe=>hj _ (by rw[hi,e]);lia
 refine⟨List.Pairwise.sublist (ZbS _ _) hx,⟨hi,List.Pairwise.sublist (Zcn _ _) hx⟩,λa ha b hb=>?_⟩;have h1:=lo a ha;rcases Zq.mp hb with rfl | hb
 .exact h1
 .have:=hi b hb;lia
structure TbI (t:SetTable):Prop where
 inc:Inc t.place
 dum:t.dummies= #[]
def QiJ(j:Nat):SetTable.has #[] j=false:=by
 unfold SetTable.has;rw[Array.getElem?_eq_none (ZS _)];rfl
def QsA{t:SetTable}(h:TbI t){j:Nat}(e:t.slot j= .empty):∀k:Nat,t.place[k]? ≠some j:=by
 refine QtD h.inc λz=>?_;unfold SetTable.slot at e;dsimp only at e;rw[z,if_pos ⋯]at e;cases e
def Qlx{t:SetTable}(h:TbI t)(j:Nat):t.slot j≠ .dummy:=λe=>by
 unfold SetTable.slot at e;dsimp only at e;rw[h.dum,QiJ]at e;split at e
 .cases e
 .cases e
def Que(t:SetTable)(p:SetTable.Probe):(t.advance p).dummy=p.dummy:=by
 unfold SetTable.advance;split
 .rfl
 .rfl
def Qg6{t:SetTable}(h:TbI t)(f:Mt1)(x:Int):∀(fuel:Nat) (p:SetTable.Probe),p.dummy=none->∀j d,SetTable.probe.go t f x fuel p=some (.empty j d)->d=none/\t.slot j= .empty
 | 0,p,hp,j,d,e=>by unfold SetTable.probe.go at e;cases e
 | fuel+1,p,hp,j,d,e=>by
  unfold SetTable.probe.go at e;split at e
  .rename_i hs;cases e;exact⟨hp,hs⟩
  .rename_i hs;exact absurd hs (Qlx h _)
  .split at e
   .cases e
   .exact Qg6 h f x fuel _ (by rw[Que];exact hp) j d e
def Qu9{t:SetTable}(h:TbI t){x:Int}{j:Nat}{w:Bool}(e:t.freeSlot x=some (j,w)):∀k:Nat,t.place[k]? ≠some j:=by
 unfold SetTable.freeSlot at e;split at e
 .rename_i j' d hp;obtain⟨rfl,hs⟩:=Qg6 h _ _ _ _ rfl j' d hp;cases e;exact QsA h hs
 .cases e
def QsH(n:Nat):Inc (Array.range n):=by
 unfold Inc;rw[Array.toList_range];exact ZaV
def Qe9(t:SetTable)(n:Nat):TbI (t.standIn n):=⟨QsH n,rfl⟩
def Quf{t:SetTable}(h:TbI t)(es:Array (Int×Value))(x:Int)(v:Value):TbI (layNew t es x v).2.1/\(layNew t es x v).2.1.led=t.led:=by
 unfold layNew;split
 .rename_i j w e;have hf:=Qu9 h e;have tp:TbI (t.put j).1:=⟨Qxe h.inc hf,by show(if SetTable.has t.dummies j then _ else t.dummies)= #[];rw[h.dum,QiJ];rfl⟩;dsimp only;unfold SetTable.orStandIn;split
  .exact⟨tp,rfl⟩
  .exact⟨Qe9 _ _,rfl⟩
 .exact⟨Qe9 _ _,rfl⟩
def Qv1(t:SetTable)(es:Array (Int×Value))(n:Nat):TbI (relayAll t es n).2.1/\(relayAll t es n).2.1.led=t.led:=by
 unfold relayAll;split
 .rename_i t' order e;dsimp only;split
  .unfold SetTable.relaid SetTable.laid at e;rw[Option.bind_eq_bind]at e;refine Qj e λow _ e=>?_;cases e;refine⟨⟨?_,rfl⟩,rfl⟩;unfold Inc;dsimp only;rw[ZX];refine List.Pairwise.filterMap _ (λa a' haa b hb b' hb'=>?_) ZaV;obtain⟨_,_,rfl⟩:=Zn.mp hb;obtain⟨_,_,rfl⟩:=Zn.mp hb';exact haa
  .exact⟨Qe9 _ _,rfl⟩
 .exact⟨Qe9 _ _,rfl⟩
def Qri{α:Type}:∀{l:List α}{j:Nat}{a:α},l[j]? =some a->(a::l.eraseIdx j).Perm l
 | [],j,a,h=>by simp at h
 | x::l,0,a,h=>by cases h;exact .refl _
 | x::l,j+1,a,h=>(List.Perm.swap x a _).trans ((Qri (l:=l) (j:=j) (by simpa using h)).cons x)
def QmQ{α:Type}(next:Nat->Nat):∀(fuel k:Nat) (left:List α) (out:Array α),left.length=fuel->List.Perm (pickOrder.go next fuel k left out).toList (out.toList++left)
 | 0,k,left,out,h=>by
  rw[List.length_eq_zero_iff]at h;subst h;unfold pickOrder.go;simp
 | fuel+1,k,left,out,h=>by
  unfold pickOrder.go;have hlt:next k % left.length<left.length:=Nat.mod_lt _ ⋯;rw[Zg hlt];dsimp only;refine(QmQ next fuel (k+1) _ _ (by rw[List.length_eraseIdx_of_lt hlt];lia)).trans ?_;rw[Array.toList_push,ZI];refine ZaM _ ?_;show List.Perm (left[next k % left.length]::left.eraseIdx (next k % left.length)) left;exact Qri (Zg hlt)
end HS
namespace HS
open PySem
noncomputable def lpx(m:Nat):Nat->Nat->Nat->Nat×Nat
 | 0,i,p=>(i,p)
 | l+1,i,p=>lpx m l ((i*5+1+p / 32) % (m+1)) (p / 32)
def QqB(m:Nat):∀(a b i p:Nat),lpx m (a+b) i p=lpx m b (lpx m a i p).1 (lpx m a i p).2
 | 0,b,i,p=>by rw[ZaW];rfl
 | a+1,b,i,p=>by
  rw[Nat.add_right_comm];exact QqB m a b _ _
def QoQ(m:Nat):∀(a i p:Nat),(lpx m a i p).2=p / 32^a
 | 0,i,p=>by show p=p / 1;rw[Nat.div_one]
 | a+1,i,p=>by
  show(lpx m a _ (p / 32)).2=_;rw[QoQ m a,Nat.div_div_eq_div_mul,Nat.pow_succ,Nat.mul_comm 32]
def Qsw(m:Nat):∀(a i p:Nat),(lpx m (a+1) i p).1<m+1
 | 0,i,p=>Nat.mod_lt _ (Nat.succ_pos _)
 | a+1,i,p=>Qsw m a _ _
noncomputable def orb(m:Nat):Nat->Nat->List Nat
 | 0,_=>[]
 | n+1,i=>i::orb m n ((i*5+1) % (m+1))
def Qqq(m:Nat):∀(n i j:Nat),j∈orb m n i->∃l,l<n/\(lpx m l i 0).1=j
 | 0,i,j,h=>nomatch h
 | n+1,i,j,h=>by
  rcases Zq.mp h with rfl | h
  .exact⟨0,Nat.succ_pos _,rfl⟩
  .obtain⟨l,h1,h2⟩:=Qqq m n _ j h;exact⟨l+1,Nat.succ_lt_succ h1,h2⟩
abbrev QgI(m:Nat):Prop:=m=7∨m=31
def Qyw{m:Nat}(h:QgI m):∀i<m+1,∀j<m+1,j∈orb m (m+1) i:=by
 have e:∀m:Nat,((List.range (m+1)).all λi=>(List.range (m+1)).all λj=>(orb m (m+1) i).contains j)=true->∀i<m+1,∀j<m+1,j∈orb m (m+1) i:=λm z i hi j hj=>by
  have z1:=Zae.mp z i (Zb.mpr hi);have z2:=Zae.mp z1 j (Zb.mpr hj);simpa using z2
 rcases h with rfl | rfl
 .exact e 7 (by decide+kernel)
 .exact e 31 (by decide+kernel)
def QnF{m:Nat}(h:QgI m)(i p:Nat)(hp:p<2^64){j:Nat}(hj:j<m+1):∃l,l<m+15/\(lpx m l i p).1=j:=by
 have h1:(lpx m 13 i p).2=0:=by
  rw[QoQ];exact Nat.div_eq_of_lt (ZbT hp ∅)
 obtain⟨l,a,b⟩:=Qqq m _ _ j (Qyw h _ (Qsw m 12 i p) j hj);refine⟨13+l,⋯,?_⟩;rw[QqB,h1];exact b
section
variable {t:SetTable}
noncomputable abbrev stp(t:SetTable)(i p:Nat)(d:Option Nat):SetTable.Probe:={j:=i,more:=SetTable.runEnd t.mask i-i,i:=i,perturb:=p,dummy:=d}
def Qlt(f:Mt1)(x:Int):∀(n:Nat) (p:SetTable.Probe),SetTable.probe.go t f x (n+1) p=none->SetTable.probe.go t f x n p=none
 | 0,p,_=>by unfold SetTable.probe.go;rfl
 | n+1,p,h=>by
  unfold SetTable.probe.go at h ⊢;split
  .rename_i e;rw[e]at h;cases h
  .rename_i e;rw[e]at h;exact Qlt f x n _ h
  .rename_i e;rw[e]at h;dsimp only at h;split
   .rename_i y;rw[if_pos y]at h;cases h
   .rename_i y;rw[if_neg y]at h;exact Qlt f x n _ h
def Qpt(f:Mt1)(x:Int)(n:Nat)(p:SetTable.Probe):∀d,SetTable.probe.go t f x (n+d) p=none->SetTable.probe.go t f x n p=none
 | 0,h=>h
 | d+1,h=>Qpt f x n p d (Qlt f x _ p h)
def Qop(ht:TbI t)(x:Int)(n:Nat)(p:SetTable.Probe)(h:SetTable.probe.go t (λ_=>x+1) x (n+1) p=none):t.slot p.j≠ .empty/\SetTable.probe.go t (λ_=>x+1) x n (t.advance p)=none:=by
 unfold SetTable.probe.go at h;cases e:t.slot p.j with
 | empty=>rw[e]at h;cases h
 | dummy=>exact absurd e (Qlx ht _)
 | live k=>
  rw[e]at h;dsimp only at h;rw[if_neg (by rw[beq_iff_eq];lia)]at h;exact⟨(λz=>nomatch z),h⟩
def QsX(ht:TbI t)(x:Int)(n:Nat):∀(more:Nat) (p:SetTable.Probe),p.more=more->SetTable.probe.go t (λ_=>x+1) x (n+more+1) p=none->SetTable.probe.go t (λ_=>x+1) x n (stp t ((p.i*5+1+p.perturb / 32) % (t.mask+1)) (p.perturb / 32) p.dummy)=none
 | 0,p,e,h=>by
  have:=(Qop ht x _ p h).2;unfold SetTable.advance at this;rw[if_neg ⋯]at this;exact this
 | more+1,p,e,h=>by
  have:=(Qop ht x _ p h).2;unfold SetTable.advance at this;rw[if_pos ⋯]at this;exact QsX ht x n more {p with j:=p.j+1,more:=p.more-1} (by show p.more-1=more;lia) this
def Qpc(ht:TbI t)(x:Int):∀(m i p:Nat) (d:Option Nat),SetTable.probe.go t (λ_=>x+1) x (10*m) (stp t i p d)=none->∀l<m,t.slot (lpx t.mask l i p).1≠ .empty
 | 0,i,p,d,h,l,hl=> ⋯
 | m+1,i,p,d,h,l,hl=>by
  have more:(stp t i p d).more<=9:=by
   show SetTable.runEnd t.mask i-i<=9;unfold SetTable.runEnd;split<;>lia
  cases l with
  | zero=>exact(Qop ht x (10*m+9) _ h).1
  | succ l=>
   have h1:SetTable.probe.go t (λ_=>x+1) x (10*m+(stp t i p d).more+1) (stp t i p d)=none:=Qpt _ _ _ _ (9-(stp t i p d).more) (by
    rw[show 10*m+(stp t i p d).more+1+(9-(stp t i p d).more)=10*(m+1) by lia];exact h)
   exact Qpc ht x m _ _ _ (QsX ht x (10*m) _ _ rfl h1) l ⋯
def Qmj(ht:TbI t)(x:Int):∀(n:Nat) (p:SetTable.Probe) (j i:Nat) (q:SetTable.Probe),SetTable.probe.go t (λ_=>x+1) x n p≠some (.candidate j i q)
 | 0,p,j,i,q,h=>by unfold SetTable.probe.go at h;cases h
 | n+1,p,j,i,q,h=>by
  unfold SetTable.probe.go at h;cases e:t.slot p.j with
  | empty=>rw[e]at h;cases h
  | dummy=>exact absurd e (Qlx ht _)
  | live k=>
   rw[e]at h;dsimp only at h;rw[if_neg (by rw[beq_iff_eq];lia)]at h;exact Qmj ht x n _ j i q h
def Qyi{j:Nat}(ht:TbI t)(h:t.slot j≠ .empty):j∈t.place.toList:=by
 unfold SetTable.slot at h;dsimp only at h;rw[ht.dum,QiJ]at h;split at h
 .rename_i z;rw[beq_iff_eq,← ZA]at z;exact Zu z
 .exact absurd rfl h
def QxJ{l:List Nat}(n:Nat)(h:∀j<n,j∈l):n<=l.length:=by
 have:=(Zat (n:=n)).length_le_of_subset (l₂:=l) λj hj=>h j (Zb.mp hj);rwa[ZD]at this
def Qrd(x:Int):SetTable.bits x<2^64:=by
 unfold SetTable.bits;have h1:=ZR x (show(2^64:Int)≠0 by decide);have h2:=ZM x (show(0:Int)<2^64 by decide);lia
def Qyt(ht:TbI t)(hm:QgI t.mask)(hs:t.place.size<=t.mask)(x:Int):∃j,t.freeSlot x=some (j,false):=by
 unfold SetTable.freeSlot;cases e:t.probe (λ_=>x+1) x (t.probeStart x)with
 | none=>
  have:=QxJ (l:=t.place.toList) (t.mask+1) λj hj=>by
   obtain⟨l,h1,h2⟩:=QnF hm (SetTable.bits x % (t.mask+1)) (SetTable.bits x) (Qrd x) hj;have h3:=Qpc ht x _ _ _ _ (show SetTable.probe.go t (λ_=>x+1) x (10*(t.mask+15)) (stp t (SetTable.bits x % (t.mask+1)) (SetTable.bits x) none)=none from e) l h1;rw[h2]at h3;exact Qyi ht h3
  rw[Zo]at this;lia
 | some m=>
  cases m with
  | empty j d=>
   obtain⟨rfl,_⟩:=Qg6 ht _ _ _ _ rfl j d e;exact⟨_,rfl⟩
  | candidate j i q=>exact absurd e (Qmj ht x _ _ j i q)
def QoP(ht:TbI t)(hm:QgI t.mask){es:Array (Int×Value)}(hf:t.fits es.size=true)(hs:es.size+1<=t.mask)(x:Int)(v:Value):(layNew t es x v).2.1.plain=t.plain/\(layNew t es x v).2.1.mask=t.mask/\(layNew t es x v).2.2.1=false:=by
 have h1:t.place.size=es.size:=by unfold SetTable.fits at hf;simp only[Zl,beq_iff_eq]at hf;exact hf.1
 obtain⟨j,e⟩:=Qyt ht hm ⋯ x;unfold layNew;rw[e];dsimp only;have ft:(t.put j).1.fits (SetTable.insertAt es (t.put j).2 (x,v)).size=true:=by
  have a1:(SetTable.insertAt t.place (SetTable.below t.place j) j).size=es.size+1:=by
   rw[← Zo,SetTable.toList_insertAt,ZG,Zw,ZP,ZZ,Zo,h1];lia
  have a2:(SetTable.insertAt es (SetTable.below t.place j) (x,v)).size=es.size+1:=by
   rw[← Zo,SetTable.toList_insertAt,ZG,Zw,ZP,ZZ,Zo];lia
  unfold SetTable.fits SetTable.fill SetTable.put;dsimp only;rw[ht.dum,QiJ,if_neg ∅,a1,a2];simp;exact hs
 unfold SetTable.orStandIn;rw[if_pos ft];exact⟨rfl,rfl,rfl⟩
end
section
variable {mask:Nat}{owner:Array (Option Nat)}
def QqM:∀(fuel i p j:Nat),SetTable.layClean.free mask owner fuel i p=some j->owner[j]? =some none
 | 0,i,p,j,h=>by unfold SetTable.layClean.free at h;cases h
 | fuel+1,i,p,j,h=>by
  unfold SetTable.layClean.free at h;split at h
  .rename_i k e;cases h;have:=List.find?_some e;rw[Array.getD_eq_getD_getElem?]at this;cases z:owner[i+k]? with
   | none=>rw[z]at this;cases this
   | some o=>rw[z]at this;cases o with
    | none=>rfl
    | some _=>cases this
  .exact QqM fuel _ _ j h
def QqG:∀(fuel i p:Nat),SetTable.layClean.free mask owner fuel i p=none->∀l<fuel,owner[(lpx mask l i p).1]? ≠some none
 | 0,i,p,h,l,hl=> ⋯
 | fuel+1,i,p,h,l,hl=>by
  unfold SetTable.layClean.free at h;split at h
  .cases h
  .rename_i e;cases l with
   | zero=>
    intro z;have r:0∈List.range (SetTable.runEnd mask i+1-i):=by
     rw[Zb];unfold SetTable.runEnd;split<;>lia
    have:=List.find?_eq_none.mp e 0 r;rw[Array.getD_eq_getD_getElem?,Nat.add_zero,show owner[i]? =some none from z]at this;exact this rfl
   | succ l=>exact QqG fuel _ _ h l ⋯
def QpL{α:Type}:∀(l:List (Option α)),(∀o∈l,o≠none)->(l.filterMap id).length=l.length
 | [],_=>rfl
 | none::l,h=>absurd rfl (h none Zv)
 | some a::l,h=>by
  show(a::l.filterMap id).length=_;rw[Zw,QpL l λo ho=>h o (ZE _ ho),Zw]
def QjA{α:Type}(a:α):∀(l:List (Option α)) (j:Nat),l[j]? =some none->((l.set j (some a)).filterMap id).Perm (a::l.filterMap id)
 | [],j,h=>by simp at h
 | o::l,0,h=>by cases h;exact .refl _
 | none::l,j+1,h=>QjA a l j (by simpa using h)
 | some b::l,j+1,h=>((QjA a l j (by simpa using h)).cons b).trans (.swap a b _)
structure Own (mask:Nat) (owner:Array (Option Nat)) (k:Nat):Prop where
 size:owner.size=mask+1
 perm:(owner.toList.filterMap id).Perm (List.range k)
def QqY(hm:QgI mask):∀(hs:List Int) (owner:Array (Option Nat)) (k:Nat),Own mask owner k->k+hs.length<=mask->∃o2,Own mask o2 (k+hs.length)/\List.foldl (λ(acc:Option (Array (Option Nat)×Nat)) h=>do
  let (owner,k) ← acc
  let j ← SetTable.layClean.free mask owner (SetTable.turns mask) (SetTable.bits h % (mask+1)) (SetTable.bits h)
  pure (owner.setIfInBounds j (some k),k+1)) (some (owner,k)) hs=some (o2,k+hs.length)
 | [],owner,k,O,_=>⟨owner,O,rfl⟩
 | h::hs,owner,k,O,le=>by
  rw[Zw]at le;cases e:SetTable.layClean.free mask owner (SetTable.turns mask) (SetTable.bits h % (mask+1)) (SetTable.bits h)with
  | none=>
   have all:∀o∈owner.toList,o≠none:=λo ho z=>by
    subst z;obtain⟨j,hj⟩:=ZaP ho;rw[ZA]at hj;have jl:j<mask+1:=by
     rw[← O.size];exact(Array.getElem?_eq_some_iff.mp hj).1
    obtain⟨l,h1,h2⟩:=QnF hm (SetTable.bits h % (mask+1)) (SetTable.bits h) (Qrd h) jl;exact QqG _ _ _ e l h1 (by rw[h2];exact hj)
   have h1:=QpL _ all;rw[O.perm.length_eq,ZD,Zo,O.size]at h1;lia
  | some j=>
   have at0:=QqM _ _ _ j e;have O2:Own mask (owner.setIfInBounds j (some k)) (k+1):=⟨by rw[Array.size_setIfInBounds];exact O.size,by
    rw[Array.toList_setIfInBounds];refine(QjA k _ j (by rw[ZA];exact at0)).trans ?_;refine(O.perm.cons k).trans ?_;rw[ZaJ];exact(List.perm_append_singleton k _).symm⟩
   obtain⟨o2,h1,h2⟩:=QqY hm hs _ _ O2 ⋯;have ek:k+1+hs.length=k+(h::hs).length:=by rw[Zw];lia
   rw[ek]at h1 h2;refine⟨o2,h1,Eq.trans ?_ h2⟩;rw[ZbN];congr 1;show(SetTable.layClean.free mask owner (SetTable.turns mask) (SetTable.bits h % (mask+1)) (SetTable.bits h)).bind _=_;rw[e];rfl
def Qvm(l:List (Option Nat)):(List.range l.length).filterMap (λj=>l.getD j none)=l.filterMap id:=by
 have:(List.range l.length).map (λj=>l.getD j none)=l:=by
  refine Zaq λi=>?_;rw[Zk];by_cases z:i<l.length
  .rw[ZQ z,Zg z];show some (l.getD i none)=_;rw[Zaa,Zg z];rfl
  .rw[Zz (by simp;lia),Zz ⋯];rfl
 have h:=congrArg (List.filterMap id) this;rw[List.filterMap_map]at h;exact h
def range_all{α:Type}(es:Array α):(List.range es.size).filterMap (es[·]?)=es.toList:=by
 have h1:∀(l:List α),(List.range l.length).filterMap (l[·]?)=l:=λl=>by
  induction l with
  | nil=>rfl
  | cons a l ih=>
   rw[Zw,ZbU,List.filterMap_cons];dsimp only[List.getElem?_cons_zero];rw[List.filterMap_map];congr 1
 have:=h1 es.toList;rw[Zo]at this;refine Eq.trans ?_ this;congr 1;funext i;rw[ZA]
def Qqo{t:SetTable}{es:Array (Int×Value)}{n:Nat}(hm:QgI (SetTable.sizeAbove n-1))(hs:es.size<=SetTable.sizeAbove n-1):(relayAll t es n).2.1.plain=t.plain/\(relayAll t es n).2.1.mask=SetTable.sizeAbove n-1:=by
 generalize hk:SetTable.sizeAbove n-1=m at *;have O0:Own m (Array.replicate (m+1) none) 0:=⟨⋯,by rw[Array.toList_replicate];exact(by
  have:∀k,(List.replicate k (none:Option Nat)).filterMap id=[]:=λk=>by
   induction k with
   | zero=>rfl
   | succ k ih=>exact ih
  rw[this];exact .refl _)⟩
 obtain⟨o2,O,e⟩:=QqY hm (es.map (·.1)).toList _ 0 O0 (by rw[Zo,Array.size_map];lia);rw[ZaW,Zo,Array.size_map]at O e;have el:SetTable.layClean m (es.map (·.1))=some o2:=by
  unfold SetTable.layClean;rw[← Array.foldl_toList,e];rfl
 have ord:(((List.range (m+1)).filterMap λj=>(o2.getD j none).map (j, ·)).map (·.2))=o2.toList.filterMap id:=by
  rw[List.map_filterMap,← Qvm,Zo,O.size];congr 1;funext j;rw[Option.map_map];show Option.map id _=_;rw[Option.map_id,Array.getD_eq_getD_getElem?,Zaa,ZA];rfl
 have ln:((List.range (m+1)).filterMap λj=>(o2.getD j none).map (j, ·)).length=es.size:=by
  rw[← Zd (f:=(·.2)),ord,O.perm.length_eq,ZD]
 unfold relayAll SetTable.relaid;rw[hk];unfold SetTable.laid;rw[el,Option.bind_eq_bind,Za];dsimp only[pure];rw[ord];have c1:coversAll (o2.toList.filterMap id).toArray es.size=true:=by
  unfold coversAll;exact List.isPerm_iff.mpr O.perm
 have c2:((o2.toList.filterMap id).toArray.filterMap (es[·]?)).size=es.size:=by
  rw[← Zo,Array.toList_filterMap,(O.perm.filterMap _).length_eq,range_all,Zo]
 rw[c1,if_pos (by
  unfold SetTable.fits SetTable.fill;dsimp only;rw[c2,Zm,Zd,ln];simp;lia)]
 exact⟨rfl,rfl⟩
end
end HS
namespace HS
open PySem L2 PyProof.Rows
section
variable {prog:Program}{w:World}{A:Around}{E:Value->Shared->Prop}{s:Shared}
structure QgN (prog:Program) (w:World) (L:Bool) (ob:Obj) (ar:Array (Int×Value)) (tb:SetTable) (S:Int->Bool) (n:Nat):Prop where
 ex:ob.ExactSet
 el:ElemsOf (intKind prog w) ar.toList
 mem:∀k,S k=true↔∃e∈ar.toList,(intKind prog w).is k e.2=true
 lt:ar.size<scanBound
 fit:tb.fits ar.size=true
 num:ar.size=n
 ti:TbI tb
 led:tb.led=L
def Sz(tb:SetTable)(n:Nat):Prop:=tb.plain=true/\(tb.mask=7/\n<=4∨tb.mask=31/\n<=18)
def Qeu(prog:Program)(w:World)(L:Bool)(h:Heap)(a:Addr)(S:Int->Bool)(n:Nat):Prop:=∃ob ar en tb,h.get? a=some ob/\ob.data= .set ar en tb/\QgN prog w L ob ar tb S n/\Sz tb n
def Qeu.Qz6{L:Bool}{h h':Heap}{a:Addr}{S:Int->Bool}{n:Nat}(r:Qeu prog w L h a S n)(k:∀o,h.get? a=some o->h'.get? a=some o):Qeu prog w L h' a S n:=by
 obtain⟨ob,ar,en,tb,h1,h2⟩:=r;exact⟨ob,ar,en,tb,k _ h1,h2⟩
def Qeu.cast{L:Bool}{h:Heap}{a:Addr}{S S':Int->Bool}{n n':Nat}(r:Qeu prog w L h a S n)(e:∀k,S k=S' k)(en:n=n'):Qeu prog w L h a S' n':=by
 have:S=S':=funext e;subst this;subst en;exact r
def Qpl{L:Bool}{h:Heap}{a:Addr}{ob:Obj}{ar ar1:Array (Int×Value)}{en:Nat}{tb tb1:SetTable}{S:Int->Bool}(g:h.get? a=some ob)(d:ob.data= .set ar en tb)(c:QgN prog w L ob ar1 tb1 S ar1.size)(z:Sz tb1 ar1.size):
  Qeu prog w L (h.update a (Obj.putSet ar1 tb1)) a S ar1.size:=by
 obtain⟨g1,g2⟩:=SetOf_store (knd:=intKind prog w) g c.ex d c.el c.mem c.lt c.fit;exact⟨_,_,_,_,g1,rfl,⟨c.ex,c.el,c.mem,c.lt,c.fit,rfl,c.ti,c.led⟩,z⟩
def QnY{M:Model}(b:Bool){s1:Shared}{Q:Unit->Shared->Prop}(q:Q () s1):wpAny M A (match b with | true=>rule "set.scan.the-table-gave-way" | false=>pure ()) Q E s1:=by
 cases b
 .exact wpAny_pure q
 .exact wpAny_rule q
def Qy9{L:Bool}{a:Addr}{ob:Obj}{ar ar1:Array (Int×Value)}{en:Nat}{tb tb1:SetTable}{S:Int->Bool}{wd:Bool}{g:Bool->Sem Unit}{Q:Option Bool->Shared->Prop}
  (hg:∀(b:Bool) (s1:Shared) (Q':Unit->Shared->Prop),Q' () s1->wpAny (model prog w) A (g b) Q' E s1)
  (ho:s.heap.get? a=some ob) (hd:ob.data= .set ar en tb) (c:QgN prog w L ob ar1 tb1 S ar1.size) (hwd:wd=false) (pl:tb1.plain=true) (sm:tb1.mask=7/\ar1.size<=5∨tb1.mask=31/\ar1.size<=18)
  (q:∀h',Heap.SameBut a s.heap h'->Qeu prog w L h' a S ar1.size->Q (some true) {s with heap:=h'}):
  wpAny (model prog w) A (do
   storeSet a ar1 tb1
   if(!wd && tb1.tooFull)=true then do
    g (relayAll tb1 ar1 (SetTable.grown ar1.size)).2.2
    storeSet a (relayAll tb1 ar1 (SetTable.grown ar1.size)).1 (relayAll tb1 ar1 (SetTable.grown ar1.size)).2.1
    pure (some true)
   else pure (some true)) Q E s:=by
 have up1:=ZbK s.heap a (Obj.putSet ar1 tb1);have fl:tb1.tooFull=decide (ar1.size*5≥tb1.mask*3):=by
  have h1:=c.fit;unfold SetTable.fits at h1;simp only[Zl,beq_iff_eq]at h1;unfold SetTable.tooFull SetTable.fill;rw[c.ti.dum,h1.1];rfl
 refine wpAny_bind (wpAny_storeSet_of ho hd ?_ (fits_of_scanBound c.lt));by_cases z:(!wd && tb1.tooFull)=true
 .rw[if_pos z];rw[hwd,fl,Bool.not_false,Zct,decide_eq_true_iff]at z;have s5:ar1.size=5:= ⋯
  obtain⟨pl2,mk2⟩:=Qqo (t:=tb1) (es:=ar1) (n:=SetTable.grown ar1.size) (by rw[s5];decide+kernel) (by rw[s5];decide+kernel);have mk3:SetTable.sizeAbove (SetTable.grown ar1.size)-1=31:=by rw[s5];decide+kernel
  rw[mk3]at mk2;obtain⟨ti2,led2⟩:=Qv1 tb1 ar1 (SetTable.grown ar1.size);have pm:=relayAll_perm tb1 ar1 (SetTable.grown ar1.size);have ft:=relayAll_fits tb1 ar1 (SetTable.grown ar1.size);generalize relayAll tb1 ar1 (SetTable.grown ar1.size)=Z at *;obtain⟨ar2,tb2,gv⟩:=Z;dsimp only at *;have sz:ar2.size=ar1.size:=by have:=pm.length_eq;simpa using this
  obtain⟨g1,_⟩:=SetOf_store (knd:=intKind prog w) ho c.ex hd c.el c.mem c.lt c.fit;have c2:QgN prog w L {ob with data:= .set ar1 (en+1) tb1} ar2 tb2 S ar2.size:=⟨c.ex,c.el.perm pm,λk=>(c.mem k).trans ⟨λ⟨e,he,y⟩=>⟨e,pm.mem_iff.mpr he,y⟩,λ⟨e,he,y⟩=>⟨e,pm.mem_iff.mp he,y⟩⟩,by rw[sz];exact c.lt,ft,rfl,ti2,led2.trans c.led⟩;refine wpAny_bind (hg _ _ _ (wpAny_bind (wpAny_storeSet_of g1 rfl ?_ (fits_of_scanBound c2.lt))));exact wpAny_pure (q _ (up1.trans (ZbK _ a _)) ((Qpl g1 rfl c2 ⟨pl2.trans pl,.inr ⟨mk2,⋯⟩⟩).cast (λ_=>rfl) sz))
 .rw[if_neg z];rw[hwd,fl,Bool.not_false,Zct,decide_eq_true_iff]at z;exact wpAny_pure (q _ up1 (Qpl ho hd c ⟨pl,⋯⟩))
def add_one{L:Bool}{a:Addr}{S:Int->Bool}{n:Nat}{k:Int}{tk:Tok}{Q:Bool->Shared->Prop}(r:Qeu prog w L s.heap a S n)(room:n+1<=18)
  (q:∀b h',Heap.SameBut a s.heap h'->Qeu prog w L h' a (λj=>S j || decide (j=k)) (if S k then n else n+1)->Q b {s with heap:=h'}):
  wpAny (model prog w) A (setAddHashed a (.int k tk) ((intKind prog w).hash k)) Q E s:=by
 obtain⟨ob,ar,en,tb,ho,hd,c,sz0⟩:=r;have key:(intKind prog w).is k (.int k tk)=true:=intKind_is _ _ _ _;have sc:(Value.int k tk).scannable=true:=rfl;unfold setAddHashed;refine wpAny_holding ?_;unfold setAddHashedIn;refine wpAny_bind (wpAny_setState_of ho hd c.fit ?_);dsimp only;rw[byScan_of sc c.lt c.el,if_pos rfl];refine wpAny_bind ?_;unfold setAddByScan;refine wpAny_bind (wpAny_rule (wpAny_bind (wpAny_setScan_of key ho hd c.fit c.el ?_)));cases hr:List.findIdx? (λe=>(intKind prog w).is k e.2) ar.toList with
 | some j=>
  obtain⟨hj,pj,_⟩:=List.findIdx?_eq_some_iff_getElem.mp hr;have there:S k=true:=(c.mem k).mpr ⟨_,Zbp hj,pj⟩;dsimp only;refine wpAny_pure (wpAny_pure ?_);refine q false s.heap (Heap.SameBut.refl a s.heap) ⟨ob,ar,en,tb,ho,hd,⟨c.ex,c.el,λi=>?_,c.lt,c.fit,by rw[there];exact c.num,c.ti,c.led⟩,by rw[there];exact sz0⟩;rw[← c.mem i,Zbj,decide_eq_true_iff];exact⟨λy=>y.elim id λe=>e▸there,.inl⟩
 | none=>
  have away:S k=false:=by
   cases y:S k with
   | false=>rfl
   | true=>
    obtain⟨e,he,pe⟩:=(c.mem k).mp y;have:=List.findIdx?_eq_none_iff.mp hr e he;rw[pe]at this;cases this
  have pm:=layNew_perm tb ar ((intKind prog w).hash k) (.int k tk);have ft:=layNew_fits tb ar ((intKind prog w).hash k) (.int k tk);obtain⟨pl1,mk1,wd1⟩:=QoP c.ti (sz0.2.imp And.left And.left) c.fit (by have:=sz0.2;have:=c.num;lia) ((intKind prog w).hash k) (.int k tk);obtain⟨ti1,led1⟩:=Quf c.ti ar ((intKind prog w).hash k) (.int k tk);dsimp only;generalize layNew tb ar ((intKind prog w).hash k) (.int k tk)=Z at *;obtain⟨ar1,tb1,wd,gv⟩:=Z;dsimp only at *;rw[Array.toList_push]at pm;have sz:ar1.size=n+1:=by have:=pm.length_eq;rw[ZG,Zo,Zo,c.num]at this;simpa using this
  have base:QgN prog w L ob ar1 tb1 (λj=>S j || decide (j=k)) ar1.size:=⟨c.ex,(c.el.push key sc).perm pm,mem_push_iff key c.mem pm,(by rw[sz];exact Zbf room ∅),ft,rfl,ti1,led1.trans c.led⟩;have fin:∀h',Heap.SameBut a s.heap h'->Qeu prog w L h' a (λj=>S j || decide (j=k)) ar1.size->Q true {s with heap:=h'}:=λh' sb sr=>q true h' sb (sr.cast (λ_=>rfl) (by rw[away,sz];rfl));refine wpAny_bind (QnY _ ?_);have hv:hashByValue 8 (.int k tk)=pure true:=by unfold hashByValue;rfl
  rw[if_pos (pl1.trans sz0.1),hv];refine wpAny_bind (wpAny_pure ?_);refine Qy9 (λb s1 Q' y=>QnY b y) ho hd base wd1 (pl1.trans sz0.1) (show tb1.mask=7/\ar1.size<=5∨tb1.mask=31/\ar1.size<=18 by rw[mk1,sz];have:=sz0.2;lia) λh' sb sr=>wpAny_pure (fin h' sb sr)
end
section
variable {prog:Program}{w:World}{A:Around}{R:Result->Shared->Prop}{I:Addr}{fp wr:LAd}{G:Array GenState->Array GenState->Prop}{n:Nat}{P:Nat->Value->Prop}{St:Nat->Shared->Prop}
abbrev InI(prog:Program)(w:World)(L:Bool)(h:Heap)(a:Addr)(val:Mt1)(i:Nat):Prop:=Qeu prog w L h a (λj=>(firstMet val i).any (· == j)) (firstMet val i).length
def QvH{L:Bool}(W:WalksS prog w A.in1 I fp wr G n P St){a:Addr}(af:a∉fp){val:Mt1}(pv:∀i v,P i v->∃t,v= .int (val i) t)(nb:n<=18):
  ∀(left i:Nat) (s:Shared),n-i=left->i<=n->St i s->InI prog w L s.heap a val i->(∀s',Moved (a::wr) G s s'->InI prog w L s'.heap a val n->R (.ok (.ret .none)) s')→
   codeAny (model prog w) A (.builtin "set.update.loop" ⟨[.ref a,.ref I],[]⟩) R s:=by
 have aw:a∉wr:=λz=>af (W.sub _ z);have wide:∀b∈wr,b∈a::wr:=λb z=>ZE _ z;intro left
 induction left with
 | zero=>
  intro i s e le st r q;obtain rfl:i=n:= ⋯
  refine codeAny_builtin PyProof.Rows.F.entry_set_update_loop ?_;rw[Around.under_plainId PyProof.Rows.F.plain_set_update_loop];show wpAny _ A.in1 (pyNext (.ref I) >>= _) _ _ s;refine wpAny_bind (W.done s _ _ st λs1 mv=>?_);show wpAny _ A.in1 (ret Value.none) _ _ s1;exact wpAny_pure (q s1 (mv.mono wide) (r.Qz6 λo z=>mv.heap a o aw z))
 | succ left ih=>
  intro i s e le st r q;have il:i<n:= ⋯
  refine codeAny_builtin PyProof.Rows.F.entry_set_update_loop ?_;rw[Around.under_plainId PyProof.Rows.F.plain_set_update_loop];show wpAny _ A.in1 (pyNext (.ref I) >>= _) _ _ s;refine wpAny_bind (W.item i s _ _ il st λv s1 pi st1 mv=>?_);obtain⟨t,rfl⟩:=pv i v pi;have r1:InI prog w L s1.heap a val i:=r.Qz6 λo z=>mv.heap a o aw z;show wpAny _ A.in1 (holding [Value.int (val i) t] (setAdd a (.int (val i) t)) >>= _) _ _ s1;refine wpAny_bind (wpAny_holding ?_);unfold setAdd;refine wpAny_holding (wpAny_bind ((intKind prog w).pyHash (k:=val i) (intKind_is _ _ _ _) ?_));have few:=firstMet_length_le val i;refine add_one (s:={s1 with toks:=s1.toks+1}) r1 ⋯ λb h' sb r2=>?_;have r3:InI prog w L h' a val (i+1):=r2.cast (λj=>by rw[firstMet_succ,step_any]) (by rw[firstMet_succ,step_length]);refine wpAny_pure ⟨plainId_quiet PyProof.Rows.F.plain_set_update_loop _,ih (i+1) _ ⋯ il (W.frame _ s1 _ _ st1 (Zba _) λb hb o z=>?_) r3 λs2 mv2 r4=>?_⟩
  .rw[sb.2 b λy:b=a=>af (y▸hb)];exact z
  .refine q s2 (Moved.trans W.gtrans ((mv.mono wide).then_heap (Zba _) λb o hb z=>?_) mv2) r4;rw[sb.2 b λy:b=a=>hb (y▸Zv)];exact z
end
section
variable {prog:Program}{w:World}{A:Around}{E:Value->Shared->Prop}{s:Shared}
noncomputable abbrev QhR(w:World):Bool:= !w.params.followText "set-order"
noncomputable abbrev Qgb(w:World):Obj:={cls:= .type "set",dict:=none,data:= .set #[] 0 (.fresh 0 0 (QhR w))}
def Qt4(x:Value){Q:Value->Shared->Prop}(q:Q (.ref s.heap.objs.size) {s with heap:=s.heap.push (Qgb w)}):
  codeAny (model prog w) A (.call (.builtin "set.__new__") ⟨[.type "set",x],[]⟩) (wants Q E) s:=by
 refine codeAny_of_tree ?_;show wpAny _ A.in1 (do checkBuiltinCall "set.__new__" ⟨[.type "set",x],[]⟩;again (.builtin "set.__new__" ⟨[.type "set",x],[]⟩)) _ _ s;refine wpAny_bind (wpAny_of_eq (PySem.F.newCall_set_1 x) (wpAny_pure ⟨plainId_quiet PySem.F.plain_set_new _,codeAny_builtin PySem.F.entry_set_new ?_⟩));rw[Around.under_plainId PySem.F.plain_set_new];unfold Builtin.«set.__new__» Builtin.Frozenset.newClass;have sub:=sub_set_self;obtain⟨hp,g,d,tk,os⟩:=s;dsimp only at q ⊢
 wp_walk
 refine wpAny_askSetting (wpAny_pure ?_);dsimp only;simp only[newObj];refine wpAny_bind (wpAny_alloc (wpAny_pure ?_));exact wpAny_pure q
set_option maxHeartbeats 4000000 in
def QvZ{l:Addr}{items:Array Value}{ns:List Int}{Q:Value->Shared->Prop}(hh:A.handled=none)(hl:s.heap.IsList l items)(hi:IntsAre items.toList ns)(hb:items.size<=18)
  (q:∀(h':Heap) (tk:Nat),InI prog w (QhR w) h' s.heap.objs.size (λi=>ns.getD i 0) items.size->(∀b o,b<s.heap.objs.size->s.heap.get? b=some o->h'.get? b=some o)->Q (.ref s.heap.objs.size) {s with heap:=h',toks:=tk}):
  wpAny (model prog w) A (call (.type "set") [.ref l]) Q E s:=by
 obtain⟨cc,ct,mro⟩:=PySem.F.called_set.mro;have mk:=PySem.F.called_set.made;have sb:=PySem.F.called_set.sub;have nt:=PySem.F.called_set.notType;have cr:=PySem.F.called_set.canCreate;have tc:=PySem.F.typeCall_set_1 (.ref l);refine wpAny_call (codeAny_of_tree ?_);show wpAny _ _ (callAny (.type "set") _) _ _ _;refine wpAny_pure ⟨Code.quiet_builtin _ (by decide+kernel),codeAny_builtin PySem.F.entry_type_call ?_⟩;rw[Around.under_plain (weight_type_call_type "set" [.ref l] []) rfl]
 repeat (any_goals (first | assumption | wp_step))
 refine codeAny_mono (Qt4 (.ref l) (E:=E) (Q:=λv s1=>v= .ref s.heap.objs.size/\s1={s with heap:=s.heap.push (Qgb w)}) ⟨rfl,rfl⟩) λr s1 hr=>?_;cases r with
 | error e=>exact hr
 | ok fl=>
  cases fl with
  | ret v=>
   obtain⟨rfl,rfl⟩:=hr;have at0:(s.heap.push (Qgb w)).get? s.heap.objs.size=some (Qgb w):=ZF _ rfl;have ty:Shared.TypeIs {s with heap:=s.heap.push (Qgb w)} (.ref s.heap.objs.size) "set" :=⟨_,at0,rfl⟩;have li:=PySem.F.called_set.init.lookup;have bi:=PySem.F.called_set.init.bind (.ref s.heap.objs.size)
   repeat (any_goals (first | assumption | wp_step))
   refine codeAny_mono (codeAny_call_builtin (R:=wants (λv s2=>v= .none/\∃h' tk,s2={s with heap:=h',toks:=tk}/\InI prog w (QhR w) h' s.heap.objs.size (λi=>ns.getD i 0) items.size/\∀b o,b<s.heap.objs.size->s.heap.get? b=some o->h'.get? b=some o) E) PySem.F.called_set.init.plain PySem.F.entry_set_init (check_set_init_1 ty ?_)) λr2 s2 hr2=>?_
   .obtain⟨ol,ho,hc,nl,hd⟩:=hl;obtain⟨oc,od,odt,osl⟩:=ol;dsimp only at hc hd;subst hc hd;have ho1:(s.heap.push (Qgb w)).get? l=some {cls:= .type "list",dict:=od,data:= .seq items nl,slots:=osl}:=Ze _ ho;have s1:=PySem.F.sub_list_set;have s2:=PySem.F.sub_list_frozenset;have nd:(Value.type "list" == Value.type "dict")=false:= ∅
    have hl1:(s.heap.push (Qgb w)).IsList l items:=⟨_,ho1,rfl,nl,rfl⟩;unfold Builtin.«set.__init__» noKeywords Builtin.Frozenset.updateFrom;generalize hPI:pyIter=PI
    wp_walk
    subst hPI;refine wpAny_pyIter_list hl1 (wpAny_bind (wpAny_runValue ?_));have ll:l<s.heap.objs.size:=ZW ho;have h3:A.in1.in1.in1.handled=none:=by simp[hh]
    have ne:l≠(s.heap.push (Qgb w)).objs.size:=by rw[Zar];exact Zad (Zau ll)
    have nf:s.heap.objs.size∉[(s.heap.push (Qgb w)).objs.size,l]:=by
     rw[Zar];simp only[Zq,Zbq,or_false,not_or];exact⟨Zad (Zaj _),Zbu ll⟩
    have pv:∀(i:Nat) (v:Value),items[i]? =some v->∃t,v= .int ((λi=>ns.getD i 0) i) t:=λi v hv=>IntsAre.int_at hi i v (by rw[ZA];exact hv);refine QvH (L:=QhR w) ((Walks.list h3 _ l ne items).toS) nf pv hb (items.size-0) 0 _ ⋯ (ZS _) ⟨⟨_,ZF _ rfl,rfl,rfl⟩,hl1.push _⟩ ?hA0 ?hB0
    case hA0=>
     refine⟨Qgb w,#[],0,.fresh 0 0 (QhR w),Ze _ at0,rfl,⟨⟨rfl,rfl,rfl⟩,(λe he=>nomatch he),(λk=>?_),∅,rfl,rfl,⟨List.Pairwise.nil,rfl⟩,rfl⟩,⟨rfl,.inl ⟨rfl,ZS _⟩⟩⟩;exact⟨(λz=>by cases z),(λ⟨e,he,_⟩=>nomatch he)⟩
    case hB0=>
     intro s3 mv r3;obtain⟨h',g',d',t',o'⟩:=s3;have e1:g'=s.gens:=mv.gens;have e2:d'=s.drawn:=mv.drawn;have e3:o'=s.os:=mv.os;subst e1 e2 e3;refine wpAny_pure ?_;show wpAny _ _ (ret Value.none) _ _ _;refine wpAny_pure ⟨rfl,h',t',rfl,r3,λb o hb z=>?_⟩;refine mv.heap b o ?_ (Ze _ (Ze _ z));rw[Zar];simp only[Zq,Zbq,or_false,not_or];exact⟨Zad hb,Zad (Zau hb)⟩
   .cases r2 with
    | error e=>exact hr2
    | ok fl2=>
     cases fl2 with
     | ret v=>
      obtain⟨rfl,h',tk,rfl,r3,kp⟩:=hr2
      repeat (any_goals (first | assumption | wp_step))
      exact q _ _ r3 kp
     | _=>exact hr2.elim
  | _=>exact hr.elim
end
def Qf9{α:Type}[DecidableEq α]:∀{F K:List α},F.Nodup->(∀x∈F,x∈K)->K.length<=F.length->F.Perm K
 | [],K,_,_,h=>by
  rw[List.length_nil,Nat.le_zero,List.length_eq_zero_iff]at h;subst h;exact .refl _
 | x::F,K,nd,sub,h=>by
  have hx:x∈K:=sub x Zv;obtain⟨n1,n2⟩:=Zaf.mp nd;have pe:=List.perm_cons_erase hx;refine((Qf9 n2 (λy hy=>?_) ?_).cons x).trans pe.symm
  .have ne:y≠x:=λe=>n1 (by rw[← e];exact hy);exact(List.mem_erase_of_ne ne).mpr (sub y (ZE _ hy))
  .have:=pe.length_eq;rw[Zw]at this h;lia
def QrQ{Z:List Int}(h:Z.Nodup)(v:Int):(step_dedup Z v).Nodup:=by
 unfold step_dedup;split
 .exact h
 .rename_i z;rw[Bool.not_eq_true,ZaR]at z;exact Zal.mpr ⟨h,⋯,λa ha b hb=>by
   rw[Zj]at hb;subst hb;exact λe=>z a ha (by rw[e];simp)⟩
def Qi7(val:Mt1):∀i,(firstMet val i).Nodup
 | 0=>List.nodup_nil
 | i+1=>by rw[firstMet_succ];exact QrQ (Qi7 val i) _
def range_getD(ns:List Int):(List.range ns.length).map (λi=>ns.getD i 0)=ns:=by
 refine Zaq λi=>?_;rw[Zk];by_cases z:i<ns.length
 .rw[ZQ z,Zg z];show some (ns.getD i 0)=_;rw[Zaa,Zg z];rfl
 .rw[Zz (by simp;lia),Zz ⋯];rfl
def QsD(ns:List Int):firstMet (λi=>ns.getD i 0) ns.length=QjN ns:=by
 unfold firstMet QjN;rw[range_getD]
def QuJ{prog:Program}{w:World}{L:Bool}{ob:Obj}{ar:Array (Int×Value)}{tb:SetTable}{F:List Int}(c:QgN prog w L ob ar tb (λj=>F.any (· == j)) F.length)(nd:F.Nodup):∃ks:List Int,IntsAre (ar.toList.map (·.2)) ks/\ks.Perm F:=by
 have ex:∀l:List (Int×Value),ElemsOf (intKind prog w) l->∃ks:List Int,IntsAre (l.map (·.2)) ks/\ks.length=l.length/\∀k,(∃e∈l,(intKind prog w).is k e.2=true)->k∈ks:=by
  intro l
  induction l with
  | nil=>exact λ_=>⟨[],.nil,rfl,λk ⟨e,he,_⟩=>nomatch he⟩
  | cons e r ih=>
   intro hl;obtain⟨ks,h1,h2,h3⟩:=ih hl.tail;obtain⟨⟨k,hk,_⟩,_⟩:=hl.head;obtain⟨x,v⟩:=e;obtain⟨t,rfl⟩:=Value.isInt_shape hk;refine⟨k::ks,.cons k t h1,by rw[Zw,Zw,h2],λj ⟨e,he,hj⟩=>?_⟩;rcases Zq.mp he with rfl | he
   .obtain⟨u,eu⟩:=Value.isInt_shape (show Value.isInt j (.int k t)=true from hj);cases eu;exact Zv
   .exact ZE _ (h3 j ⟨e,he,hj⟩)
 obtain⟨ks,h1,h2,h3⟩:=ex ar.toList c.el;refine⟨ks,h1,(Qf9 nd (λx hx=>h3 x ((c.mem x).mp ?_)) ?_).symm⟩
 .rw[List.any_eq_true];exact⟨x,hx,⋯⟩
 .rw[h2,Zo,c.num];exact Zt _
section
variable {prog:Program}{w:World}
structure Qj2 (prog:Program) (w:World) (a:Addr) (ob:Obj) (ep:Nat) (wk:Array (Int×Value)) (sl:Nat->Nat):Prop where
 zero:sl 0=0
 next:∀(A:Around) (E:Value->Shared->Prop) (s:Shared) (Q:Option (Value×Nat)->Shared->Prop) (i:Nat) (e:Int×Value),s.heap.get? a=some ob->wk[i]? =some e->Q (some (e.2,sl (i+1))) s->wpAny (model prog w) A (setNext a (sl i) i ep) Q E s
 stop:∀(A:Around) (E:Value->Shared->Prop) (s:Shared) (Q:Option (Value×Nat)->Shared->Prop),s.heap.get? a=some ob->Q none s->wpAny (model prog w) A (setNext a (sl wk.size) wk.size ep) Q E s
def Qmq{a:Addr}{ob:Obj}{ar:Array (Int×Value)}{ep:Nat}{tb:SetTable}{A:Around}{E:Value->Shared->Prop}{s:Shared}{Q:Option (Value×Nat)->Shared->Prop}{j i:Nat}(hf:w.params.followText "set-order" =true)(ho:s.heap.get? a=some ob)(hd:ob.data= .set ar ep tb)(ft:tb.fits ar.size=true)
  (q:Q (((pickOrder (w.params.setOrder a ep) ar)[i]?).map λe=>(e.2,j)) s):wpAny (model prog w) A (setNext a j i ep) Q E s:=by
 unfold setNext;refine wpAny_bind (wpAny_setState_of ho hd ft ?_);unfold setsByText;refine wpAny_bind (wpAny_bind (wpAny_askSetting (wpAny_pure ?_)));show wpAny _ _ (if w.params.followText "set-order" =true then _ else _) _ _ _;rw[hf,if_pos rfl,if_neg ⋯];show wpAny _ _ (setWalk a >>= _) _ _ _;unfold setWalk;refine wpAny_bind (wpAny_bind (wpAny_setState_of ho hd ft ?_));unfold setsByText;refine wpAny_bind (wpAny_bind (wpAny_askSetting (wpAny_pure ?_)));show wpAny _ _ (if w.params.followText "set-order" =true then _ else _) _ _ _;rw[hf,if_pos rfl];exact wpAny_bind (wpAny_askSetting (wpAny_pure (wpAny_pure q)))
def QmJ{a:Addr}{ob:Obj}{ar:Array (Int×Value)}{ep:Nat}{tb:SetTable}{A:Around}{E:Value->Shared->Prop}{s:Shared}{Q:Option (Value×Nat)->Shared->Prop}{j i:Nat}(hf:w.params.followText "set-order" =false)(ho:s.heap.get? a=some ob)(hd:ob.data= .set ar ep tb)(ft:tb.fits ar.size=true)(hp:tb.plain=true)(hl:tb.led=true)
  (q:Q (match ar[SetTable.below tb.place j]?,tb.place[SetTable.below tb.place j]? with
   | some (_,x),some k=>some (x,k+1)
   | _,_=>none) s):wpAny (model prog w) A (setNext a j i ep) Q E s:=by
 unfold setNext;refine wpAny_bind (wpAny_setState_of ho hd ft ?_);unfold setsByText;refine wpAny_bind (wpAny_bind (wpAny_askSetting (wpAny_pure ?_)));show wpAny _ _ (if w.params.followText "set-order" =true then _ else _) _ _ _;rw[hf,if_neg ∅];refine wpAny_ite_split (λz=>?_) (λ_=>?_)
 .have z':(!tb.plain && decide (ar.size>1))=true:=z;rw[hp]at z';cases z'
 show wpAny _ _ ((if(!tb.led && !ar.isEmpty)=true then unsupported "set:maker-not-led" else pure ()) >>= _) _ _ _;rw[hl,if_neg ⋯];exact wpAny_bind (wpAny_pure (wpAny_pure q))
def Qv6{a:Addr}{ob:Obj}{ar:Array (Int×Value)}{ep:Nat}{tb:SetTable}{S:Int->Bool}{n:Nat}(hd:ob.data= .set ar ep tb)(c:QgN prog w (QhR w) ob ar tb S n)(hp:tb.plain=true):∃wk sl,wk.toList.Perm ar.toList/\Qj2 prog w a ob ep wk sl:=by
 have sz:tb.place.size=ar.size:=by
  have h1:=c.fit;unfold SetTable.fits at h1;simp only[Zl,beq_iff_eq]at h1;exact h1.1
 cases hf:w.params.followText "set-order" with
 | true=>
  have pm:(pickOrder (w.params.setOrder a ep) ar).toList.Perm ar.toList:=by
   unfold pickOrder;exact QmQ _ _ _ _ _ (Zo)
  refine⟨_,λ_=>0,pm,rfl,λA E s Q i e ho he q=>Qmq hf ho hd c.fit ?_,λA E s Q ho q=>Qmq hf ho hd c.fit ?_⟩
  .rw[he];exact q
  .rw[Array.getElem?_eq_none (Zt _)];exact q
 | false=>
  have hl:tb.led=true:=by rw[c.led];unfold QhR;rw[hf];rfl
  have cut:∀i,i<=ar.size->SetTable.below tb.place (if i=0 then 0 else tb.place.getD (i-1) 0+1)=i:=λi hi=>by
   cases i with
   | zero=>exact QrC c.ti.inc
   | succ i=>
    have h1:=Zr (xs:=tb.place) (i:=i) ⋯;have:=Qry c.ti.inc h1;rw[if_neg ⋯,Zbg,Array.getD_eq_getD_getElem?,h1];exact this
  refine⟨ar,λi=>if i=0 then 0 else tb.place.getD (i-1) 0+1,.refl _,rfl,λA E s Q i e ho he q=>QmJ hf ho hd c.fit hp hl ?_,λA E s Q ho q=>QmJ hf ho hd c.fit hp hl ?_⟩
  .have il:i<ar.size:=(Array.getElem?_eq_some_iff.mp he).1;have h1:=Zr (xs:=tb.place) (i:=i) ⋯;rw[cut i ⋯,he,h1];rw[if_neg ⋯,Zbg,Array.getD_eq_getD_getElem?,h1]at q;exact q
  .rw[cut _ (Zt _),Array.getElem?_eq_none (Zt _)];exact q
end
def Qnw:entryFor table "set.__iter__" =some Builtin.«frozenset.__iter__» :=entryFor_alias (id':= "frozenset.__iter__") (by kernel_rfl) rfl (by decide+kernel) (by kernel_rfl)
def Qtl:Manifest.owners.lookup (String.ofList ['r','o','t','a','r','e','t','i','_','t','e','s'].reverse)=some Manifest.sig_set_iterator:=by kernel_rfl
def Qfc:Slot "set_iterator" "__next__" "set_iterator.__next__" := .of (owner:= "set_iterator") (n:= "__next__") (by rw[typeLookup_type,builtinLookup_eq_fast];kernel_rfl) (by decide+kernel) (by decide+kernel) (by decide+kernel) (.inl (by decide+kernel)) (by rw[isSubtype_type];kernel_rfl)
def Qph:entryFor table "set_iterator.__next__" =some Builtin.«set_iterator.__next__» :=entryFor_of_tree (by kernel_rfl)
def QnQ(a:Value):argsOk "set_iterator.__next__" ⟨[a],[]⟩:=by
 unfold argsOk;rw[signature?_of (id:= "set_iterator.__next__") (n:=['_','_','t','x','e','n','_','_']) (o:=['r','o','t','a','r','e','t','i','_','t','e','s']) (by kernel_rfl) Qtl]
 kernel_rfl
def Qq6:Slot "set_iterator" "__iter__" "set_iterator.__iter__" := .of (owner:= "set_iterator") (n:= "__iter__") (by rw[typeLookup_type,builtinLookup_eq_fast];kernel_rfl) (by decide+kernel) (by decide+kernel) (by decide+kernel) (.inl (by decide+kernel)) (by rw[isSubtype_type];kernel_rfl)
def QuG:entryFor table "set_iterator.__iter__" =some Builtin.«dict_keyiterator.__iter__» :=entryFor_alias (id':= "dict_keyiterator.__iter__") (by kernel_rfl) rfl (by decide+kernel) (by kernel_rfl)
def Qui(a:Value):argsOk "set_iterator.__iter__" ⟨[a],[]⟩:=by
 unfold argsOk;rw[signature?_of (id:= "set_iterator.__iter__") (n:=['_','_','r','e','t','i','_','_']) (o:=['r','o','t','a','r','e','t','i','_','t','e','s']) (by kernel_rfl) Qtl]
 kernel_rfl
section
variable {prog:Program}{w:World}{A:Around}{E:Value->Shared->Prop}{s:Shared}
noncomputable abbrev siO(j i:Nat)(a:Addr)(n ep:Nat):Obj:={cls:= .type "set_iterator",data:= .fields #[rawInt j,rawInt i,.ref a,rawInt n,rawInt ep]}
def QzF{a:Addr}{ob:Obj}{ar:Array (Int×Value)}{ep:Nat}{tb:SetTable}{Q:Value->Shared->Prop}(ho:s.heap.get? a=some ob)(hx:ob.ExactSet)(hd:ob.data= .set ar ep tb)(ft:tb.fits ar.size=true)(hp:tb.plain=true)
  (q:Q (.ref s.heap.objs.size) {s with heap:=s.heap.push (siO 0 0 a ar.size ep)}):wpAny (model prog w) A (pyIter (.ref a)) Q E s:=by
 have ty:s.TypeIs (.ref a) "set" :=⟨ob,ho,hx.1⟩;refine wpAny_pyIter_slot ty PySem.F.slot_set_iter (wpAny_call_entry PySem.F.slot_set_iter ty Qnw ?_ (PySem.F.args_set_iter_1 _));unfold Builtin.«frozenset.__iter__»;refine wpAny_bind (m:=Builtin.Frozenset.slot0 "__iter__" _) (wpAny_pure ?_);unfold Builtin.Frozenset.sizeOf setEntries setDrawn setsByText;refine wpAny_bind (wpAny_bind (wpAny_bind (wpAny_setState_of ho hd ft (wpAny_pure (wpAny_pure ?_)))));refine wpAny_bind (wpAny_bind (wpAny_setState_of ho hd ft ?_));refine wpAny_bind (wpAny_bind (wpAny_askSetting (wpAny_pure (wpAny_pure ?_))));dsimp only;refine wpAny_ite_split (λz=>?_) (λ_=>?_)
 .have z':(!w.params.followText "set-order" && (!tb.plain && decide (ar.size>1)))=true:=z;rw[hp]at z';simp at z'
 refine wpAny_bind (wpAny_pure ?_);unfold setEpoch;refine wpAny_bind (wpAny_bind (wpAny_setState_of ho hd ft (wpAny_pure ?_)));exact wpAny_bind (wpAny_newObj_type (wpAny_pure ⟨_,rfl,"set_iterator",_,⟨_,ZF _ rfl,rfl⟩,Qfc.lookup,q⟩))
def Qw2{I a:Addr}{ob:Obj}{ar wk:Array (Int×Value)}{ep i:Nat}{tb:SetTable}{sl:Nat->Nat}{e:Int×Value}{Q:Option Value->Shared->Prop}(hi:s.heap.get? I=some (siO (sl i) i a ar.size ep))(ho:s.heap.get? a=some ob)(hd:ob.data= .set ar ep tb)(ft:tb.fits ar.size=true)(na:a≠I)(W:Qj2 prog w a ob ep wk sl)(he:wk[i]? =some e)
  (q:∀h',h'.get? I=some (siO (sl (i+1)) (i+1) a ar.size ep)->Heap.SameBut I s.heap h'->Q (some e.2) {s with heap:=h'}):wpAny (model prog w) A (pyNext (.ref I)) Q E s:=by
 have ty:s.TypeIs (.ref I) "set_iterator" :=⟨_,hi,rfl⟩;unfold pyNext;refine wpAny_bind (wpAny_attempt (wpAny_callSpecial?_slot (name:=Str.ofString "__next__") ty Qfc (wpAny_call_entry Qfc ty Qph ?_ (QnQ _))));unfold Builtin.«set_iterator.__next__»;refine wpAny_bind (m:=slotArgs "__next__" 0 _) (wpAny_pure ?_);refine wpAny_bind (wpAny_fieldsOf hi rfl ?_);unfold setEntries;show wpAny _ _ ((setState a >>= λz=>pure z.1) >>= _) _ _ _;refine wpAny_bind (wpAny_bind (wpAny_setState_of ho hd ft (wpAny_pure ?_)));dsimp only;rw[if_neg ⋯];show wpAny _ _ (setNext a (Int.toNat (sl i:Int)) (Int.toNat (i:Int)) (Int.toNat (ep:Int)) >>= _) _ _ _;rw[ZC,ZC,ZC];refine wpAny_bind (W.next _ _ _ _ i e ho he ?_);refine wpAny_bind (wpAny_setField_rec hi ⋯ λh1 z1 b1=>?_);refine wpAny_bind (wpAny_setField_rec (s:={s with heap:=h1}) z1 ⋯ λh2 z2 b2=>?_);exact wpAny_pure ⟨_,rfl,wpAny_pure (q h2 (by rw[z2];rfl) (b1.trans b2))⟩
def QxN{I a:Addr}{ob:Obj}{ar wk:Array (Int×Value)}{ep:Nat}{tb:SetTable}{sl:Nat->Nat}{Q:Option Value->Shared->Prop}(hh:A.handled=none)(hi:s.heap.get? I=some (siO (sl wk.size) wk.size a ar.size ep))(ho:s.heap.get? a=some ob)(hd:ob.data= .set ar ep tb)(ft:tb.fits ar.size=true)(W:Qj2 prog w a ob ep wk sl)
  (q:∀h',Heap.ExtBut I s.heap h'->Q none {s with heap:=h'}):wpAny (model prog w) A (pyNext (.ref I)) Q E s:=by
 have ty:s.TypeIs (.ref I) "set_iterator" :=⟨_,hi,rfl⟩;unfold pyNext;refine wpAny_bind (wpAny_attempt (wpAny_callSpecial?_slot (name:=Str.ofString "__next__") ty Qfc (wpAny_call_entry Qfc ty Qph ?_ (QnQ _))));unfold Builtin.«set_iterator.__next__»;refine wpAny_bind (m:=slotArgs "__next__" 0 _) (wpAny_pure ?_);refine wpAny_bind (wpAny_fieldsOf hi rfl ?_);unfold setEntries;show wpAny _ _ ((setState a >>= λz=>pure z.1) >>= _) _ _ _;refine wpAny_bind (wpAny_bind (wpAny_setState_of ho hd ft (wpAny_pure ?_)));dsimp only;rw[if_neg ⋯];show wpAny _ _ (setNext a (Int.toNat (sl wk.size:Int)) (Int.toNat (wk.size:Int)) (Int.toNat (ep:Int)) >>= _) _ _ _;rw[ZC,ZC,ZC];refine wpAny_bind (W.stop _ _ _ _ ho ?_);dsimp only;refine wpAny_bind (wpAny_setField hi rfl ⋯ ?_);refine wpAny_bind ?_;simp only[newExc,newTuple];refine wpAny_bind (wpAny_newObj_type ?_ (by size_fits));refine wpAny_bind (m:=firstArgMember _ _) (wpAny_of_eq (a:=Value.none) rfl ?_);refine wpAny_newObj_type ?_ (by size_fits);simp only[raiseNew];refine wpAny_bind (wpAny_handled ?_);rw[show A.in1.handled=none from hh];refine wpAny_bind (wpAny_pure (wpAny_throw ?_));refine wpAny_bind (wpAny_isInstance (T:= "StopIteration") (b:=true) ⟨_,ZF _ rfl,rfl⟩ isSubtype_stop ?_);exact wpAny_pure (q _ (((ZbK ..).extBut.push _).push _))
def Qxi{I a:Addr}{j i n ep:Nat}{Q:Value->Shared->Prop}(hi:s.heap.get? I=some (siO j i a n ep))(q:Q (.ref I) s):wpAny (model prog w) A (pyIter (.ref I)) Q E s:=by
 have ty:s.TypeIs (.ref I) "set_iterator" :=⟨_,hi,rfl⟩;refine wpAny_pyIter_slot ty Qq6 (wpAny_call_entry Qq6 ty QuG ?_ (Qui _));show wpAny _ _ (ret (.ref I)) _ _ s;exact wpAny_pure ⟨_,rfl,"set_iterator",_,ty,Qfc.lookup,q⟩
def QuL(hh:A.handled=none){I a:Addr}{ob:Obj}{ar wk:Array (Int×Value)}{ep:Nat}{tb:SetTable}{sl:Nat->Nat}(hd:ob.data= .set ar ep tb)(ft:tb.fits ar.size=true)(na:a≠I)(W:Qj2 prog w a ob ep wk sl):
  Walks prog w A I [I,a] [I] wk.size (λi v=>∃e,wk[i]? =some e/\v=e.2) (λi h=>h.get? I=some (siO (sl i) i a ar.size ep)/\h.get? a=some ob) where
 sub:=λb hb=>by simp at hb;simp[hb]
 frame:=λ_ _ _ st k=>⟨k I ⋯ _ st.1,k a ⋯ _ st.2⟩
 item:=λi s Q E hi st q=>Qw2 st.1 st.2 hd ft na W (Zr hi) λh' z b=>q _ h' s.toks ⟨_,Zr hi,rfl⟩ ⟨z,b.extBut a _ na st.2⟩ λc o hc z=>b.extBut c o (λy=>hc (by simp[y])) z
 done:=λs Q E st q=>QxN hh st.1 st.2 hd ft W λh' b=>q h' s.toks λc o hc z=>b c o (λy=>hc (by simp[y])) z
 self:=λ_ _ _ _ st q=>Qxi st.1 q
end
section
variable {prog:Program}{w:World}{A:Around}{E:Value->Shared->Prop}{s:Shared}
def Qvz{a:Addr}{ob:Obj}{Q:Bool->Shared->Prop}(ho:s.heap.get? a=some ob)(hx:ob.ExactSet)(q:Q false s):wpAny (model prog w) A (Builtin.List.listLengthHint (.ref a)) Q E s:=by
 have ty:s.TypeIs (.ref a) "set" :=⟨ob,ho,hx.1⟩;unfold Builtin.List.listLengthHint;refine wpAny_bind (wpAny_specialOf ty PySem.F.slot_set_len.lookup ?_);generalize e:("set.__len__" :String)=x
 wp_delta
 rw[show splitId x=some ("set","__len__")from by subst e;decide+kernel];subst e;refine wpAny_bind (wpAny_isInstance (T:= "set") (b:=true) ty (by rw[isSubtype_type];kernel_rfl) ?_);refine wpAny_ite_split (λz=>absurd z ∅) (λ_=>?_);refine wpAny_ite_split (λ_=>?_) (λz=>absurd (by decide+kernel) z);exact wpAny_bind (wpAny_typeOf ty (wpAny_pure q))
def QjJ{h:Heap}{S:Addr}{f g:Obj->Obj}(b:Addr)(o:Obj)(hb:b≠S)(z:h.get? b=some o):((h.update S f).update S g).get? b=some o:=(Heap.get?_update_other _ _ (Ne.symm hb)).trans ((Heap.get?_update_other _ _ (Ne.symm hb)).trans z)
set_option maxHeartbeats 400000 in
def QwO{a:Addr}{ob:Obj}{ar wk:Array (Int×Value)}{ep:Nat}{tb:SetTable}{sl:Nat->Nat}{Q:List Value->Shared->Prop}(hh:A.handled=none)(ho:s.heap.get? a=some ob)(hx:ob.ExactSet)(hd:ob.data= .set ar ep tb)(ft:tb.fits ar.size=true)(hp:tb.plain=true)(W:Qj2 prog w a ob ep wk sl)(nb:wk.size<=sizeLine)
  (q:∀h' tk acc,(∀b o,s.heap.get? b=some o->h'.get? b=some o)->s.heap.objs.size<h'.objs.size->ItemsOf (λi v=>∃e,wk[i]? =some e/\v=e.2) acc wk.size->Q acc.toList {s with heap:=h',toks:=tk}):wpAny (model prog w) A (collect (.ref a)) Q E s:=by
 unfold collect;refine wpAny_bind (wpAny_runValue (codeAny_builtin PySem.F.entry_proto_collect ?_));rw[Around.under_plainId PySem.F.plain_proto_collect _];show wpAny _ A.in1 (newList [] >>= λl=>again (.builtin "list.__iadd__" ⟨[l,.ref a],[]⟩)) _ _ s;refine wpAny_bind (wpAny_newObj_type (wpAny_pure ⟨plainId_quiet PySem.F.plain_list_iadd _,codeAny_builtin PySem.F.entry_list_iadd ?_⟩));rw[Around.under_plainId PySem.F.plain_list_iadd _];have al:a<s.heap.objs.size:=ZW ho;have ho1:=Ze (seqObj "list" ([]:List Value).toArray 0) ho;have hS:(s.heap.push (seqObj "list" ([]:List Value).toArray 0)).get? s.heap.objs.size=some (seqObj "list" ([]:List Value).toArray 0):=ZF _ rfl;show wpAny _ A.in1 (Builtin.List.listExtendWith (.ref s.heap.objs.size) (.ref a) (.ref s.heap.objs.size)) _ _ {s with heap:=s.heap.push (seqObj "list" ([]:List Value).toArray 0)};unfold Builtin.List.listExtendWith;refine wpAny_bind (wpAny_typeOf (T:= "set") ⟨ob,ho1,hx.1⟩ ?_);have h1:Builtin.List.listSameRef (.ref s.heap.objs.size) (.ref a)=false:=by simp[Builtin.List.listSameRef,Zbu al]
 rw[if_neg (by rw[h1];decide)];have WW:=(QuL (prog:=prog) (w:=w) (A:=A.in1) (I:=s.heap.objs.size+1) (wk:=wk) (sl:=sl) hh hd ft (Zad (Zau al)) W).toS
 have key:∀(R:Result->Shared->Prop) (h:Heap) (c tk:Nat),h.get? (s.heap.objs.size+1)=some (siO 0 0 a ar.size ep)->h.get? a=some ob->(∀b o,s.heap.get? b=some o->h.get? b=some o)->h.get? s.heap.objs.size=some {cls:= .type "list",data:= .seq #[] c}→
   (∀(h':Heap) (tk c:Nat) (acc:Array Value),(∀b o,s.heap.get? b=some o->h'.get? b=some o)->h'.get? s.heap.objs.size=some {cls:= .type "list",data:= .seq acc c}->ItemsOf (λi v=>∃e,wk[i]? =some e/\v=e.2) acc wk.size->R (.ok (.ret (.ref s.heap.objs.size))) {s with heap:=h',toks:=tk})→
   codeAny (model prog w) A (.builtin "list.extend.loop" ⟨[.ref s.heap.objs.size,.ref (s.heap.objs.size+1),.ref s.heap.objs.size],[]⟩) R {s with heap:=h,toks:=tk}:=by
  intro R h c tk k1 k2 k3 k4 k5;refine codeAny_extend_loopS WW nb s.heap.objs.size (by simp[Zbu al]) _ wk.size 0 _ #[] c rfl (ZS _) ⟨(by rw[W.zero];exact k1),k2⟩ k4 (ItemsOf.nil _) λs' acc c mv g ia=>?_;rw[Moved.eq_with mv];refine k5 s'.heap s'.toks c acc (λb o z=>?_) g ia;have bl:=ZW z;exact mv.heap b o (by simp[Zad bl,Zad (Zau bl)]) (k3 b o z)
 have ho2:=Ze (siO 0 0 a ar.size ep) ho1;have hS2:=Ze (siO 0 0 a ar.size ep) hS;have hI2:((s.heap.push (seqObj "list" ([]:List Value).toArray 0)).push (siO 0 0 a ar.size ep)).get? (s.heap.push (seqObj "list" ([]:List Value).toArray 0)).objs.size=some (siO 0 0 a ar.size ep):=ZF _ rfl;refine wpAny_bind (QzF ho1 hx hd ft hp ?_);refine wpAny_bind (wpAny_holding (Qvz ho2 hx ?_));rw[if_pos ∅];refine wpAny_bind (wpAny_rule (wpAny_bind ?_));have sI:(s.heap.push (seqObj "list" ([]:List Value).toArray 0)).objs.size=s.heap.objs.size+1:=Zar _ _;rw[sI]at hI2 ⊢;show wpAny _ _ (updateSeq s.heap.objs.size (·.push .none) >>= λ_=>updateSeq s.heap.objs.size (·.pop)) _ _ _;refine wpAny_bind (wpAny_updateSeq hS2 rfl ?_);have hS3:=ZbW (Obj.mapSeq (·.push Value.none)) hS2 rfl;refine wpAny_updateSeq (hz:=by seq_fits) hS3 rfl ?_;have hS4:=ZbW (Obj.mapSeq (·.pop)) hS3 rfl;refine wpAny_pure ⟨plainId_quiet PySem.F.plain_extend_loop _,key _ _ 2 _ ?_ ?_ ?_ hS4 ?_⟩
 .dsimp only;exact QjJ _ _ (Nat.succ_ne_self _) hI2
 .dsimp only;exact QjJ _ _ (Zad al) ho2
 .intro b o z;dsimp only;refine QjJ b o (Zad (ZW z)) ?_;exact Ze _ (Ze _ z)
 .intro h' tk c acc m1 m2 m3;exact wpAny_bind (wpAny_load m2 (wpAny_pure (q h' tk acc m1 (ZW m2) m3)))
end
def Qt1{vs vs':List Value}(p:vs'.Perm vs):∀{ks:List Int},IntsAre vs ks->∃ks',IntsAre vs' ks'/\ks'.Perm ks:=by
 induction p with
 | nil=>exact λh=>⟨_,h,.refl _⟩
 | cons x p ih=>
  intro ks h;cases h with
  | cons n t h=>
   obtain⟨k,h1,h2⟩:=ih h;exact⟨n::k,.cons n t h1,h2.cons n⟩
 | swap x y l=>
  intro ks h;cases h with
  | cons n t h=>
   cases h with
   | cons m u h=>exact⟨_,.cons m u (.cons n t h),.swap n m _⟩
 | trans p1 p2 i1 i2=>
  intro ks h;obtain⟨k1,a1,b1⟩:=i2 h;obtain⟨k2,a2,b2⟩:=i1 a1;exact⟨k2,a2,b2.trans b1⟩
def Qr4{wk:Array (Int×Value)}{acc:Array Value}(h:ItemsOf (λi v=>∃e,wk[i]? =some e/\v=e.2) acc wk.size):acc.toList=wk.toList.map (·.2):=by
 refine Zaq λi=>?_;rw[Zk,ZA,ZA];by_cases z:i<acc.size
 .obtain⟨e,h1,h2⟩:=h.2 i _ (Zr z);rw[Zr z,h1,h2];rfl
 .rw[Array.getElem?_eq_none ⋯,Array.getElem?_eq_none (by have:=h.1;lia)];rfl
section
variable {prog:Program}{w:World}{A:Around}{E:Value->Shared->Prop}{s:Shared}
def Qx3{a:Addr}{F:List Int}{Q:Value->Shared->Prop}(hh:A.handled=none)(nd:F.Nodup)(r:Qeu prog w (QhR w) s.heap a (λj=>F.any (· == j)) F.length)
  (q:∀h' tk l out e,(∀b o,s.heap.get? b=some o->h'.get? b=some o)->s.heap.objs.size<=l->h'.get? l=some (seqObj "list" out e)->IntsAre out.toList (QeU F)->Q (.ref l) {s with heap:=h',toks:=tk}):wpAny (model prog w) A (call (.builtin "sorted") [.ref a]) Q E s:=by
 obtain⟨ob,ar,ep,tb,ho,hd,c,sz⟩:=r;obtain⟨ks,i1,i2⟩:=QuJ c nd;obtain⟨wk,sl,pm,W⟩:=Qv6 (a:=a) hd c sz.1;have few:F.length<=18:=by have:=sz.2;lia
 have wz:wk.size<=18:=by
  have:=pm.length_eq;rw[Zo,Zo,c.num]at this;lia
 refine Calls.call_function_entry kind_sorted plain_sorted entry_sorted (args_sorted1 _) ?_;unfold Builtin.«sorted»;refine wpAny_bind (m:=checkCount "sorted" 1 1 _) (wpAny_pure ?_);refine wpAny_bind (QwO (by simp[hh]) ho c.ex hd c.fit sz.1 W (ZJ wz (by rw[Qfu];decide)) λh1 t1 acc k1 z1 ia=>?_);obtain⟨ks',j1,j2⟩:=Qt1 (pm.map (·.2)) i1;rw[← Qr4 ia]at j1;have al:acc.toList.length<64:=by rw[Zo,ia.1];lia
 refine wpAny_bind (wpAny_newList ?_);have oL:(h1.push (seqObj "list" acc.toList.toArray 0)).get? h1.objs.size=some (seqObj "list" acc.toList.toArray 0):=ZF _ rfl;refine wpAny_bind (wpAny_holding (wpAny_call_entry slot_list_sort ⟨_,oL,rfl⟩ entry_list_sort (list_sort_tree oL j1 al λout ns' a1 a2 a3=>⟨_,rfl,?_⟩) (args_list_sort _)));obtain⟨e,hat⟩:=sortedHeap_at (out:=out) oL;have es:ns'=QeU F:=Qhn a3 (QdB F) ((a2.trans (j2.trans i2)).trans (Qdc F).symm);subst es;refine wpAny_pure ⟨_,rfl,q _ t1 _ out e (λb o z=>?_) (ZaB z1) hat a1⟩;have b1:=ZW (k1 b o z);rw[sortedHeap_old (Zad b1) (by rw[Zar];exact Zau b1)];exact Ze _ (k1 b o z)
end
end HS
namespace HS
open PySem PyProof.Rows PySem.W
noncomputable def QiF:Bool->Keyed->Array Keyed->Nat->Nat->Nat->StateT SortSt Sem (Option Nat):=sortPriv% PySem.Builtin.gallop
structure WdS where
 prog:Program
 w:World
 A:Around
 E:Value->Shared->Prop
 s:Shared
noncomputable abbrev SM:=StateT SortSt Sem
def Wp(ω:WdS){α:Type}(m:SM α)(Q:α->SortSt->Prop)(st:SortSt):Prop:=wpS (model ω.prog ω.w) ω.A ω.E ω.s m Q st
def Qec(ω:WdS)(P:Keyed->Prop)(lt:Keyed->Keyed->Bool):Prop:=∀(x y:Keyed) (E:Value->Shared->Prop) (Q:Bool->Shared->Prop),P x->P y->Q (lt x y) ω.s->wpAny (model ω.prog ω.w) ω.A (keyLt' oneType' x.1 y.1) Q E ω.s
section
variable {ω:WdS}{lt:Keyed->Keyed->Bool}{P:Keyed->Prop}{α β:Type}{st:SortSt}{Q:α->SortSt->Prop}
def Qq{a:α}(h:Q a st):Wp ω (pure a) Q st:=wpS_pure h
def QE{m:SM β}{f:β->SM α}(h:Wp ω m (λa st'=>Wp ω (f a) Q st') st):Wp ω (m >>= f) Q st:=wpS_bind h
def QdD{Q:SortSt->SortSt->Prop}(h:Q st st):Wp ω get Q st:=wpS_get h
def QfA{f:SortSt->SortSt}{Q:PUnit->SortSt->Prop}(h:Q ⟨⟩ (f st)):Wp ω (modify f) Q st:=wpS_modify h
def QD{c:Prop}[Decidable c]{x y:SM α}(h1:c->Wp ω x Q st)(h2:¬c->Wp ω y Q st):Wp ω (if c then x else y) Q st:=by
 split
 .exact h1 ‹_›
 .exact h2 ‹_›
def QhH{t:String}{f:Unit->SM α}(h:Wp ω (f ()) Q st):Wp ω ((liftM (rule t):SM Unit) >>= f) Q st:=QE (wpS_lift (wpAny_rule ⟨rfl,h⟩))
def Qpb(hL:Qec ω P lt){x y:Keyed}{Q:Option Bool->SortSt->Prop}(hk:kindOf st=oneType')(hx:P x)(hy:P y)(h:Q (some (lt x y)) st):Wp ω (lt' x y) Q st:=by
 rw[lt'_eq];refine QE (QdD ?_);rw[hk];exact QE (wpS_lift (wpAny_attempt (hL x y _ _ hx hy ⟨rfl,Qq h⟩)))
def QaR{arr:Array Keyed}{i:Nat}{f:Keyed->SM α}(hi:i<arr.size)(h:Wp ω (f arr[i]) Q st):Wp ω (elem' arr i >>= f) Q st:=by
 rw[elem'_eq,Zr hi];exact QE (Qq h)
def QnL{t:String}{arr:Array Keyed}{i:Nat}{c1 c2:Prop}[Decidable c1][Decidable c2]{p1 p2:Keyed->α}{F:Keyed->SortSt->SM α}(hi:i<arr.size)(h1:c1->Q (p1 arr[i]) st)(h2:c2->Q (p2 arr[i]) st)(h3:¬c1->¬c2->Wp ω (F arr[i] st) Q st):Wp ω ((liftM (rule t):SM Unit) >>= λ_=>elem' arr i >>= λx=>if c1 then pure (p1 x)else if c2 then pure (p2 x)else get >>= F x) Q st:=
 QhH (QaR hi (QD (λe1=>Qq (h1 e1)) λe1=>QD (λe2=>Qq (h2 e2)) λe2=>QE (QdD (h3 e1 e2))))
def Qlm(hL:Qec ω P lt){x y:Keyed}{f:Option Bool->SM α}(hk:kindOf st=oneType')(hx:P x)(hy:P y)(h:Wp ω (f (some (lt x y))) Q st):Wp ω (lt' x y >>= f) Q st:=QE (Qpb hL hk hx hy h)
def Qf1{a n:Nat}{c:β}{f:Nat->β->SM (ForInStep β)}{g:β->SM α}(han:a<=n)(Q':β->SortSt->Prop)(I:Nat->β->SortSt->Prop)(h0:I a c st)
  (step:∀i c st (QQ:ForInStep β->SortSt->Prop),a<=i->i<n->I i c st->(∀b st,Q' b st->QQ (.done b) st)->(∀b st,I (i+1) b st->QQ (.yield b) st)->Wp ω (f i c) QQ st) (fin:∀c st,I n c st->Q' c st) (h:∀c st,Q' c st->Wp ω (g c) Q st):Wp ω (forIn [a:n] c f >>= g) Q st:=
 QE (wpS_mono (wpS_forRange I (λi c st h1 h2 h3=>step i c st _ h1 h2 h3 (λ_ _ h=>h) λ_ _ h=>h) (λc st h=>fin c st (Nat.max_eq_right han▸h)) h0) h)
def QaS{n:Nat}{c:β}{f:Nat->β->SM (ForInStep β)}{g:β->SM α}(Q':β->SortSt->Prop)(I:Nat->β->SortSt->Prop)(h0:I 0 c st)
  (step:∀i c st (QQ:ForInStep β->SortSt->Prop),i<n->I i c st->(∀b st,Q' b st->QQ (.done b) st)->(∀b st,I (i+1) b st->QQ (.yield b) st)->Wp ω (f i c) QQ st) (fin:∀c st,I n c st->Q' c st) (h:∀c st,Q' c st->Wp ω (g c) Q st):Wp ω (forIn [0:n] c f >>= g) Q st:=Qf1 (ZS _) Q' I h0 (λi c st QQ _=>step i c st QQ) fin h
end
section
variable {ω:WdS}{lt:Keyed->Keyed->Bool}{P:Keyed->Prop}
def Qe6(hL:Qec ω P lt){left:Bool}{key:Keyed}{arr:Array Keyed}{base n hint:Nat}{st:SortSt}{Q:Option Nat->SortSt->Prop}(hk:kindOf st=oneType')(hy:P key)(hP:∀(i:Nat) (h:i<arr.size),P arr[i])(hz:base+n<=arr.size)(hh:hint<n)(bd:Nat->Bool)(hb:∀(i:Nat) (h:base+i<arr.size),i<n->bd i=if left then lt arr[base+i] key else !(lt key arr[base+i]))(mono:∀i j,i<=j->j<n->bd j=true->bd i=true)
  (h:∀k,k<=n->(∀i,i<k->bd i=true)->(∀i,k<=i->i<n->bd i=false)->Q (some k) st):Wp ω (QiF left key arr base n hint) Q st:=by
 unfold QiF;have ask:∀(i:Nat) {α:Type}{f:Option Bool->SM α}{Q':α->SortSt->Prop},i<n->(Wp ω (f (some (bd i))) Q' st)->Wp ω ((do let x ← elem' arr (base+i);if left then lt' x key else return (← lt' key x).map (!·)) >>= f) Q' st:=λi {α f Q'} hi h=>by
  have e:=hb i ⋯ hi;refine QE (QaR (show base+i<arr.size by lia) (QD (λl=>?_) λl=>?_))
  .rw[if_pos l]at e;exact Qpb hL hk (hP _ _) hy (by rw[← e];exact h)
  .rw[if_neg l]at e;exact Qlm hL hk hy (hP _ _) (Qq (show Wp _ (f (some (!(lt key arr[base+i])))) Q' st by rw[← e];exact h))
 have low:∀{i j:Nat},i<=j->j<n->bd i=false->bd j=false:=λ{i j} h1 h2 h3=>by
  cases hbj:bd j with
  | false=>rfl
  | true=>rw[mono i j h1 h2 hbj]at h3;cases h3
 refine ask hint hh ?_;dsimp-zeta only
 extract_lets-underBinder jp
 have hj:∀(la of lo hi:Nat),lo<=hi->hi<=n->(∀i,i<lo->bd i=true)->(∀i,hi<=i->i<n->bd i=false)->Wp ω (jp () la of lo hi) Q st:=λla of lo hi hlo hhi b1 b2=>by
  refine QaS (λc st'=>∃k,c=(none,k,k)/\st'=st/\k<=n/\(∀i,i<k->bd i=true)/\∀i,k<=i->i<n->bd i=false) (λi c st'=>∃lo hi,c=(none,lo,hi)/\st'=st/\lo<=hi/\hi<=n/\hi-lo+i<=n/\(∀j,j<lo->bd j=true)/\∀j,hi<=j->j<n->bd j=false) ⟨lo,hi,rfl,rfl,hlo,hhi,⋯,b1,b2⟩ ?_ ?_ ?_
  .rintro i c st' Q2 hin ⟨lo,hi,rfl,rfl,h1,h2,h3,h4,h5⟩ hd hy;refine QD (λhl=>Qq (hd _ _ ?_)) λhl=>?_
   .obtain rfl:lo=hi:=Zcf h1 hl;exact⟨lo,rfl,rfl,h2,h4,h5⟩
   .have hl:lo<hi:=Nat.lt_of_not_le hl;have m1:lo+(hi-lo) / 2<hi:= ⋯
    refine ask (lo+(hi-lo) / 2) ⋯ (QD (λhb=>Qq (hy _ _ ⟨lo+(hi-lo) / 2+1,hi,rfl,rfl,m1,h2,⋯,λj hj=>mono j _ (Nat.le_of_lt_succ hj) ⋯ hb,h5⟩)) λhb=>Qq (hy _ _ ⟨lo,lo+(hi-lo) / 2,rfl,rfl,ZbG _ _,⋯,⋯,h4,λj hj hjn=>low hj hjn (Bool.not_eq_true _▸hb)⟩))
  .rintro c st' ⟨lo,hi,rfl,rfl,h1,h2,h3,h4,h5⟩;obtain rfl:lo=hi:= ⋯
   exact⟨lo,rfl,rfl,h2,h4,h5⟩
  .rintro c st' ⟨k,rfl,rfl,k1,k2,k3⟩;exact Qq (h k k1 k2 k3)
 clear_value jp
 refine QD (λhb0=>QaS (λc st'=>∃la of,c=(none,la,of)/\st'=st/\la<of/\la<n-hint/\bd (hint+la)=true/\(of<n-hint->bd (hint+of)=false)) (λi c st'=>∃la of,c=(none,la,of)/\st'=st/\la<of/\i<of/\la<n-hint/\bd (hint+la)=true) ⟨0,1,rfl,rfl,Nat.zero_lt_one,Nat.zero_lt_one,Nat.sub_pos_of_lt hh,hb0⟩ ?_ ?_ ?_) λhb0=>QaS (λc st'=>∃la of,c=(none,la,of)/\st'=st/\la<of/\la<hint+1/\bd (hint-la)=false/\(of<hint+1->bd (hint-of)=true)) (λi c st'=>∃la of,c=(none,la,of)/\st'=st/\la<of/\i<of/\la<hint+1/\bd (hint-la)=false) ⟨0,1,rfl,rfl,Nat.zero_lt_one,Nat.zero_lt_one,Nat.succ_pos _,Bool.not_eq_true _▸hb0⟩ ?_ ?_ ?_
 .rintro i c st' Q2 hin ⟨la,of,rfl,rfl,g1,g2,g3,g4⟩ hd hy;refine QD (λhl=>Qq (hd _ _ ⟨la,of,rfl,rfl,g1,g3,g4,λz=>absurd z (Nat.not_lt_of_le hl)⟩)) λhl=>?_;have hl:of<n-hint:=Nat.lt_of_not_le hl;exact ask (hint+of) ⋯ (QD (λhb=>Qq (hd _ _ ⟨la,of,rfl,rfl,g1,g3,g4,λ_=>Zak _▸hb⟩)) λhb=>Qq (hy _ _ ⟨of,2*of+1,rfl,rfl,⋯,⋯,hl,by simpa using hb⟩))
 .rintro c st' ⟨la,of,rfl,rfl,g1,g2,g3,g4⟩;exact⟨la,of,rfl,rfl,g1,g3,g4,λz=> ⋯⟩
 .rintro c st' ⟨la,of,rfl,rfl,g1,g3,g4,g5⟩;exact hj _ _ (hint+la+1) (hint+min of (n-hint)) (Zch (Nat.le_min.mpr ⟨g1,g3⟩) hint) (ZJ (Zch (Zcz _ _) hint) (ZcH (Nat.add_sub_of_le (ZaB hh)))) (λi hi=>mono i _ (Nat.le_of_lt_succ hi) (Nat.add_lt_of_lt_sub' g3) g4) λi hi hin=>low ⋯ hin (g5 ⋯)
 .rintro i c st' Q2 hin ⟨la,of,rfl,rfl,g1,g2,g3,g4⟩ hd hy;refine QD (λhl=>Qq (hd _ _ ⟨la,of,rfl,rfl,g1,g3,g4,λz=>absurd z (Nat.not_lt_of_le hl)⟩)) λhl=>?_;have hl:of<hint+1:=Nat.lt_of_not_le hl;exact ask (hint-of) ⋯ (QD (λhb=>Qq (hd _ _ ⟨la,of,rfl,rfl,g1,g3,g4,λ_=>hb⟩)) λhb=>Qq (hy _ _ ⟨of,2*of+1,rfl,rfl,⋯,⋯,hl,Bool.not_eq_true _▸hb⟩))
 .rintro c st' ⟨la,of,rfl,rfl,g1,g2,g3,g4⟩;exact⟨la,of,rfl,rfl,g1,g3,g4,λz=> ⋯⟩
 .rintro c st' ⟨la,of,rfl,rfl,g1,g3,g4,g5⟩;exact hj _ _ (hint+1-min of (hint+1)) (hint-la) ⋯ ⋯ (λi hi=>mono i (hint-of) ⋯ ⋯ (g5 ⋯)) λi hi hin=>low hi hin g4
end
structure Qeo (lt:Keyed->Keyed->Bool):Prop where
 tr:∀x y z,lt y x=false->lt z y=false->lt z x=false
 as:∀x y,lt x y=true->lt y x=false
def QaC(lt:Keyed->Keyed->Bool)(l:List Keyed):Prop:=l.Pairwise λx y=>lt y x=false
def Qbe(lt:Keyed->Keyed->Bool)(T r:List Keyed):Prop:=r.Perm T/\QaC lt r
structure WI (lt:Keyed->Keyed->Bool) (T o X Y:List Keyed):Prop where
 perm:(o++X++Y).Perm T
 so:QaC lt o
 sx:QaC lt X
 sy:QaC lt Y
 ox:∀x∈o,∀y∈X,lt y x=false
 oy:∀x∈o,∀y∈Y,lt y x=false
section
variable {lt:Keyed->Keyed->Bool}{T o X Y:List Keyed}
def WI.Qr8(h:WI lt T o X Y)(k:Nat)(hk:∀y∈Y.take k,∀x∈X,lt x y=false):WI lt T (o++Y.take k) X (Y.drop k):=by
 have sy:=h.sy;unfold QaC at sy;rw[← Zai k Y,List.pairwise_append]at sy;refine⟨?_,List.pairwise_append.mpr ⟨h.so,sy.1,λx hx y hy=>h.oy x hx y (ZbA hy)⟩,h.sx,sy.2.1,λx hx y hy=>?_,λx hx y hy=>?_⟩
 .refine List.Perm.trans ?_ h.perm;have e:o++X++Y=o++X++(Y.take k++Y.drop k):=by rw[Zai]
  rw[e,ZI,ZI,ZI];refine ZaM _ ?_;rw[← ZI,← ZI];exact List.Perm.append_right _ List.perm_append_comm
 .rcases Zf.mp hx with hx | hx
  .exact h.ox x hx y hy
  .exact hk x hx y hy
 .rcases Zf.mp hx with hx | hx
  .exact h.oy x hx y (ZbB hy)
  .exact sy.2.2 x hx y hy
def WI.QrI(h:WI lt T o X Y)(k:Nat)(hk:∀x∈X.take k,∀y∈Y,lt y x=false):WI lt T (o++X.take k) (X.drop k) Y:=by
 have sx:=h.sx;unfold QaC at sx;rw[← Zai k X,List.pairwise_append]at sx;refine⟨?_,List.pairwise_append.mpr ⟨h.so,sx.1,λx hx y hy=>h.ox x hx y (ZbA hy)⟩,sx.2.1,h.sy,λx hx y hy=>?_,λx hx y hy=>?_⟩
 .refine List.Perm.trans ?_ h.perm;rw[ZI o,Zai]
 .rcases Zf.mp hx with hx | hx
  .exact h.ox x hx y (ZbB hy)
  .exact sx.2.2 x hx y hy
 .rcases Zf.mp hx with hx | hx
  .exact h.oy x hx y hy
  .exact hk x hx y hy
def WI.Qzq(h:WI lt T o X Y)(e:Y=[]):Qbe lt T (o++X++Y):=by
 subst e;refine⟨h.perm,?_⟩;rw[ZV];exact List.pairwise_append.mpr ⟨h.so,h.sx,h.ox⟩
def WI.QyP(h:WI lt T o X Y)(e:X=[]):Qbe lt T (o++X++Y):=by
 subst e;refine⟨h.perm,?_⟩;rw[ZV];exact List.pairwise_append.mpr ⟨h.so,h.sy,h.oy⟩
def WI.last(h:WI lt T o X Y)(hl:∀y∈Y,∀x∈X,lt x y=false):Qbe lt T (o++Y++X):=by
 refine⟨List.Perm.trans ?_ h.perm,List.pairwise_append.mpr ⟨List.pairwise_append.mpr ⟨h.so,h.sy,h.oy⟩,h.sx,λx hx y hy=>?_⟩⟩
 .rw[ZI,ZI];exact ZaM _ List.perm_append_comm
 .rcases Zf.mp hx with hx | hx
  .exact h.ox x hx y hy
  .exact hl x hx y hy
end
noncomputable def rst(a:Array Keyed)(i:Nat):List Keyed:=a.toList.drop i
def QiT(a:Array Keyed)(i:Nat):(a.extract i a.size).toList=rst a i:=by
 unfold rst;rw[Array.toList_extract,List.extract_eq_take_drop,ZaX ⋯]
def Qq0(a:Array Keyed)(i k:Nat):(a.extract i (i+k)).toList=(rst a i).take k:=by
 unfold rst;rw[Array.toList_extract,List.extract_eq_take_drop,Zbr]
def Qhh(a:Array Keyed)(i k:Nat):(rst a i).drop k=rst a (i+k):=by
 unfold rst;rw[List.drop_drop]
def QiW{a:Array Keyed}{i:Nat}(h:i<a.size):(rst a i).take 1=[a[i]]:=by
 unfold rst;rw[ZaL (by simpa using h)];simp
def QqT{a:Array Keyed}{i:Nat}(h:i=a.size):rst a i=[]:=by
 unfold rst;exact ZaY (by simp[h])
def Qfj{a:Array Keyed}{i:Nat}{x:Keyed}(h:x∈rst a i):∃(j:Nat) (hj:j<a.size),i<=j/\a[j]=x:=by
 unfold rst at h;obtain⟨k,hk,e⟩:=List.mem_iff_getElem.mp h;rw[ZZ]at hk;have hk':k<a.size-i:=by simpa using hk
 refine⟨i+k,⋯,⋯,?_⟩;rw[← e,List.getElem_drop];simp
def Qoj{a:Array Keyed}{i k:Nat}{x:Keyed}(h:x∈(rst a i).take k):∃(j:Nat) (hj:j<a.size),i<=j/\j<i+k/\a[j]=x:=by
 unfold rst at h;obtain⟨n,hn,e⟩:=List.mem_iff_getElem.mp h;rw[ZP,ZZ]at hn;have hn':n<k/\n<a.size-i:=by rw[Zo]at hn;lia
 refine⟨i+n,⋯,⋯,⋯,?_⟩;rw[← e,List.getElem_take,List.getElem_drop];simp
def Qee(lt:Keyed->Keyed->Bool)(a:Array Keyed):Prop:=∀(i j:Nat) (hi:i<a.size) (hj:j<a.size),i<=j->lt a[j] a[i]=false
def Qee.rst{lt:Keyed->Keyed->Bool}{a:Array Keyed}(h:Qee lt a)(i:Nat):QaC lt (rst a i):=by
 unfold QaC HS.rst;rw[Zan];intro p q hp hq hpq;rw[ZZ]at hp hq;have hq':q<a.size-i:=by simpa using hq
 rw[List.getElem_drop,List.getElem_drop];have:=h (i+p) (i+q) ⋯ ⋯ ⋯;simpa using this
section
variable {ω:WdS}{lt:Keyed->Keyed->Bool}{P:Keyed->Prop}{T:List Keyed}{a b out:Array Keyed}{ia ib:Nat}
def WI.Qrw(h:WI lt T out.toList (rst a ia) (rst b ib))(hb:ib<b.size)(hle:∀(j:Nat) (hj:j<a.size),ia<=j->lt a[j] b[ib]=false):WI lt T (out.push b[ib]).toList (rst a ia) (rst b (ib+1)):=by
 have z:=h.Qr8 1 λy hy x hx=>by
  rw[QiW hb,Zj]at hy;obtain⟨j,hj,h1,rfl⟩:=Qfj hx;rw[hy];exact hle j hj h1
 rw[QiW hb,Qhh]at z;rw[Array.toList_push];exact z
def WI.Qww(h:WI lt T out.toList (rst a ia) (rst b ib))(ha:ia<a.size)(hle:∀(j:Nat) (hj:j<b.size),ib<=j->lt b[j] a[ia]=false):WI lt T (out.push a[ia]).toList (rst a (ia+1)) (rst b ib):=by
 have z:=h.QrI 1 λy hy x hx=>by
  rw[QiW ha,Zj]at hy;obtain⟨j,hj,h1,rfl⟩:=Qfj hx;rw[hy];exact hle j hj h1
 rw[QiW ha,Qhh]at z;rw[Array.toList_push];exact z
def WI.QBb{k:Nat}(h:WI lt T out.toList (rst a ia) (rst b ib))(hle:∀(i:Nat) (hi:i<a.size),ia<=i->i<ia+k->∀(j:Nat) (hj:j<b.size),ib<=j->lt b[j] a[i]=false):WI lt T (out++a.extract ia (ia+k)).toList (rst a (ia+k)) (rst b ib):=by
 have z:=h.QrI k λy hy x hx=>by
  obtain⟨i,hi,h1,h2,rfl⟩:=Qoj hy;obtain⟨j,hj,h3,rfl⟩:=Qfj hx;exact hle i hi h1 h2 j hj h3
 rw[Qhh,← Qq0]at z;rw[Array.toList_append];exact z
def WI.QBl{k:Nat}(h:WI lt T out.toList (rst a ia) (rst b ib))(hle:∀(i:Nat) (hi:i<b.size),ib<=i->i<ib+k->∀(j:Nat) (hj:j<a.size),ia<=j->lt a[j] b[i]=false):WI lt T (out++b.extract ib (ib+k)).toList (rst a ia) (rst b (ib+k)):=by
 have z:=h.Qr8 k λy hy x hx=>by
  obtain⟨i,hi,h1,h2,rfl⟩:=Qoj hy;obtain⟨j,hj,h3,rfl⟩:=Qfj hx;exact hle i hi h1 h2 j hj h3
 rw[Qhh,← Qq0]at z;rw[Array.toList_append];exact z
def WI.done(h:WI lt T out.toList (rst a ia) (rst b ib))(e:ib=b.size∨ia=a.size):Qbe lt T (out++a.extract ia a.size++b.extract ib b.size).toList:=by
 rw[Array.toList_append,Array.toList_append,QiT,QiT];rcases e with e | e
 .exact h.Qzq (QqT e)
 .exact h.QyP (QqT e)
def WI.Qnh(h:WI lt T out.toList (rst a ia) (rst b ib))(e:ia+1=a.size)(hl:∀(j:Nat) (hj:j<b.size),lt (a[a.size-1]'⋯) b[j]=false):Qbe lt T (out++b.extract ib b.size++a.extract ia a.size).toList:=by
 rw[Array.toList_append,Array.toList_append,QiT,QiT];refine h.last λy hy x hx=>?_;obtain⟨j,hj,_,rfl⟩:=Qfj hy;obtain⟨i,hi,h1,rfl⟩:=Qfj hx;have:i=a.size-1:= ⋯
 subst this;exact hl j hj
def QbV(st st':SortSt):Prop:=∃g,st'=SortSt.mk' (kindOf st) (arrOf st) (pendingOf st) g (failedOf st)
noncomputable def QpE:Array Keyed->Array Keyed->SM (Array Keyed):=sortPriv% PySem.Builtin.mergeLo
noncomputable def QqU:Nat->SM Unit:=sortPriv% PySem.Builtin.setMinGallop
def Qe7{g:Nat}{st st':SortSt}{Q:Unit->SortSt->Prop}(h:QbV st st')(q:∀st'',QbV st st''->Q () st''):Wp ω (QqU g) Q st':=by
 unfold QqU;refine QfA (q _ ?_);obtain⟨g0,rfl⟩:=h;exact⟨g,rfl⟩
def Qoc(hL:Qec ω P lt)(hO:Qeo lt){key:Keyed}{arr:Array Keyed}{base n hint:Nat}{st st':SortSt}{Q:Option Nat->SortSt->Prop}(hk:kindOf st=oneType')(g:QbV st st')(hy:P key)(hP:∀(i:Nat) (h:i<arr.size),P arr[i])(so:Qee lt arr)(hz:base+n<=arr.size)(hh:hint<n)
  (h:∀k,k<=n->(∀(i:Nat) (hi:i<arr.size),base<=i->i<base+k->lt key arr[i]=false)->(∀(i:Nat) (hi:i<arr.size),base+k<=i->i<base+n->lt key arr[i]=true)->Q (some k) st'):Wp ω (QiF false key arr base n hint) Q st':=by
 obtain⟨g,e⟩:=g;refine Qe6 hL (by rw[e];exact hk) hy hP hz hh (λi=>if h:base+i<arr.size then !(lt key arr[base+i])else false) (λi h _=>by simp[h]) (λi j hij hj hb=>?_) λk hk1 hk2 hk3=>h k hk1 (λi hi h1 h2=>?_) λi hi h1 h2=>?_
 .have e1:base+i<arr.size:= ⋯
  have e2:base+j<arr.size:= ⋯
  rw[dif_pos e2]at hb;rw[dif_pos e1,Zak]at *;exact hO.tr _ _ _ (so _ _ e1 e2 ⋯) hb
 .obtain⟨d,rfl⟩:=Nat.le.dest h1;have z:=hk2 d ⋯;rw[dif_pos hi,Zak]at z;exact z
 .obtain⟨d,rfl⟩:=Nat.le.dest (ZJ (ZbG _ _) h1);have z:=hk3 d ⋯ ⋯;rw[dif_pos hi,Bool.not_eq_false']at z;exact z
def Qn1(hL:Qec ω P lt)(hO:Qeo lt){key:Keyed}{arr:Array Keyed}{base n hint:Nat}{st st':SortSt}{Q:Option Nat->SortSt->Prop}(hk:kindOf st=oneType')(g:QbV st st')(hy:P key)(hP:∀(i:Nat) (h:i<arr.size),P arr[i])(so:Qee lt arr)(hz:base+n<=arr.size)(hh:hint<n)
  (h:∀k,k<=n->(∀(i:Nat) (hi:i<arr.size),base<=i->i<base+k->lt arr[i] key=true)->(∀(i:Nat) (hi:i<arr.size),base+k<=i->i<base+n->lt arr[i] key=false)->Q (some k) st'):Wp ω (QiF true key arr base n hint) Q st':=by
 obtain⟨g,e⟩:=g;refine Qe6 hL (by rw[e];exact hk) hy hP hz hh (λi=>if h:base+i<arr.size then lt arr[base+i] key else false) (λi h _=>by simp[h]) (λi j hij hj hb=>?_) λk hk1 hk2 hk3=>h k hk1 (λi hi h1 h2=>?_) λi hi h1 h2=>?_
 .have e1:base+i<arr.size:= ⋯
  have e2:base+j<arr.size:= ⋯
  rw[dif_pos e2]at hb;rw[dif_pos e1];cases hc:lt arr[base+i] key with
  | true=>rfl
  | false=>rw[hO.tr _ _ _ hc (so _ _ e1 e2 ⋯)]at hb;cases hb
 .obtain⟨d,rfl⟩:=Nat.le.dest h1;have z:=hk2 d ⋯;rw[dif_pos hi]at z;exact z
 .obtain⟨d,rfl⟩:=Nat.le.dest (ZJ (ZbG _ _) h1);have z:=hk3 d ⋯ ⋯;rw[dif_pos hi]at z;exact z
structure LoS (lt:Keyed->Keyed->Bool) (a b out:Array Keyed) (ia ib i N:Nat):Prop where
 wi:WI lt (a.toList++b.toList) out.toList (rst a ia) (rst b ib)
 ha:ia+1<a.size
 hb:ib<b.size
 le:(a.size-ia)+(b.size-ib)+i<=N
def LoS.nx{out':Array Keyed}{ia' ib' i N:Nat}(h:LoS lt a b out ia ib i N)(v:WI lt (a.toList++b.toList) out'.toList (rst a ia') (rst b ib'))(l:ia+ib<ia'+ib')(la:ia<=ia')(lb:ib<=ib')(na:ia'+1<a.size)(nb:ib'<b.size):LoS lt a b out' ia' ib' (i+1) N:=⟨v,na,nb,by have:=h.le;lia⟩
def LoS.nxB{out':Array Keyed}{i N:Nat}(h:LoS lt a b out ia ib i N)(v:WI lt (a.toList++b.toList) out'.toList (rst a ia) (rst b (ib+1)))(n:ib+1≠b.size):LoS lt a b out' ia (ib+1) (i+1) N:=h.nx v (Zaj _) (Zt _) (Zba _) h.ha (Zam h.hb n)
def LoS.nxA{out':Array Keyed}{i N:Nat}(h:LoS lt a b out ia ib i N)(v:WI lt (a.toList++b.toList) out'.toList (rst a (ia+1)) (rst b ib))(n:ia+1+1≠a.size):LoS lt a b out' (ia+1) ib (i+1) N:=h.nx v ⋯ (Zba _) (Zt _) (Zam h.ha n) h.hb
def LoS.one{i N:Nat}(h:LoS lt a b out ia ib (i+1) N):LoS lt a b out ia ib 1 N:=⟨h.wi,h.ha,h.hb,by have:=h.le;lia⟩
def LoS.no{M N:Nat}{P:Prop}(h:LoS lt a b out ia ib M N)(hN:N<=M):P:=by have:=h.le;have:=h.ha;lia
def QaX{x y:Nat}(h:¬(x == y)=true):x≠y:=λe=>h (by rw[e];exact beq_self_eq_true y)
def Qqd(hL:Qec ω P lt)(hO:Qeo lt){st:SortSt}{Q:Array Keyed->SortSt->Prop}(hk:kindOf st=oneType')(hPa:∀(i:Nat) (h:i<a.size),P a[i])(hPb:∀(i:Nat) (h:i<b.size),P b[i])(sa:Qee lt a)(sb:Qee lt b)(ha0:0<a.size)(hb0:0<b.size)(h0:lt b[0] a[0]=true)(hl:∀(j:Nat) (hj:j<b.size),lt (a[a.size-1]'⋯) b[j]=false)
  (h:∀(r:Array Keyed) (st':SortSt),QbV st st'->Qbe lt (a.toList++b.toList) r.toList->Q r st'):Wp ω (QpE a b) Q st:=by
 have g0:QbV st st:=⟨_,rfl⟩;have w0:WI lt (a.toList++b.toList) (#[]:Array Keyed).toList (rst a 0) (rst b 0):=⟨by simp[rst],List.Pairwise.nil,sa.rst 0,sb.rst 0,λx hx=>by simp at hx,λx hx=>by simp at hx⟩;have w1:=w0.Qrw hb0 λj hj _=>hO.tr _ _ _ (hO.as _ _ h0) (sa 0 j ha0 hj (ZS _));rw[show((#[]:Array Keyed).push b[0])= #[b[0]]from rfl,ZaW]at w1;unfold QpE;refine QnL hb0 (λe1=>h _ _ g0 (w1.done (.inl (beq_iff_eq.mp e1)))) (λe2=>h _ _ g0 (w1.Qnh (beq_iff_eq.mp e2) hl)) λe1 e2=>?_;refine QaS (λc st'=>∃r,c.1=some r/\QbV st st'/\Qbe lt (a.toList++b.toList) r.toList) (λi c st'=>QbV st st'/\LoS lt a b c.2.1 c.2.2.1 c.2.2.2.1 i (a.size+b.size)) ⟨g0,⟨w1,Zam ha0 (QaX e2),Zam hb0 (QaX e1),by show a.size-0+(b.size-1)+0<=_;lia⟩⟩ ?_ (λc st h=>h.2.no (Zt _)) ?_
 rotate_left
 .rintro⟨c,q⟩ st1 ⟨r,e,g1,hf⟩;obtain rfl:c=some r:=e;exact Qq (h _ _ g1 hf)
 rintro i0 c st1 Q1 hin ⟨g1,lo⟩ hd hy;have hk1:kindOf st1=oneType':=by obtain⟨g,e⟩:=g1;rw[e];exact hk
 have fi:∀{out ia ib},LoS lt a b out ia ib 1 (a.size+b.size-i0)->LoS lt a b out ia ib (i0+1) (a.size+b.size):=λlo=>⟨lo.wi,lo.ha,lo.hb,by have:=lo.le;lia⟩;have lo:LoS lt a b c.2.1 c.2.2.1 c.2.2.2.1 0 (a.size+b.size-i0):=⟨lo.wi,lo.ha,lo.hb,by have:=lo.le;lia⟩;have hN:=Nat.sub_le (a.size+b.size) i0;generalize a.size+b.size-i0=N at *;refine QaS (λc st'=>st'=st1/\((∃r,c.1=some r/\Qbe lt (a.toList++b.toList) r.toList)∨c.1=none/\LoS lt a b c.2.1 c.2.2.1 c.2.2.2.1 1 N)) (λi c st'=>st'=st1/\LoS lt a b c.2.1 c.2.2.1 c.2.2.2.1 i N) ⟨rfl,lo⟩ ?_ (λc st' h=>h.2.no hN) ?_
 .rintro i c st' Q2 hin ⟨rfl,lo⟩ hd hy;have b1:=Nat.lt_of_succ_lt lo.ha;have b2:=lo.hb;refine QaR b2 (QaR b1 (Qlm hL hk1 (hPb _ _) (hPa _ _) (QD (λhbw=>QaR b2 ?_) λhbw=>QaR b1 ?_)))
  .have wi':=lo.wi.Qrw b2 λj hj hij=>hO.tr _ _ _ (hO.as _ _ hbw) (sa _ j b1 hj hij);refine QD (λe=>Qq (hd _ _ ⟨rfl,.inl ⟨_,rfl,wi'.done (.inl (beq_iff_eq.mp e))⟩⟩)) λe=>?_;have nx:=lo.nxB wi' (QaX e);exact QD (λ_=>Qq (hd _ _ ⟨rfl,.inr ⟨rfl,nx.one⟩⟩)) λ_=>Qq (hy _ _ ⟨rfl,nx⟩)
  .have wi':=lo.wi.Qww b1 λj hj hij=>hO.tr _ _ _ (Bool.not_eq_true _▸hbw) (sb _ j b2 hj hij);refine QD (λe=>Qq (hd _ _ ⟨rfl,.inl ⟨_,rfl,wi'.Qnh (beq_iff_eq.mp e) hl⟩⟩)) λe=>?_;have nx:=lo.nxA wi' (QaX e);exact QD (λ_=>Qq (hd _ _ ⟨rfl,.inr ⟨rfl,nx.one⟩⟩)) λ_=>Qq (hy _ _ ⟨rfl,nx⟩)
 rintro⟨c0,c⟩ st2 ⟨rfl,⟨r,e,hf⟩ | ⟨e,lo⟩⟩
 .obtain rfl:c0=some r:=e;exact Qq (hd _ _ ⟨_,rfl,g1,hf⟩)
 obtain rfl:c0=none:=e;refine QhH (QaS (λc st'=>QbV st st'/\((∃r,c.1=some r/\Qbe lt (a.toList++b.toList) r.toList)∨c.1=none/\LoS lt a b c.2.1 c.2.2.1 c.2.2.2.1 1 N)) (λi c st'=>QbV st st'/\LoS lt a b c.2.1 c.2.2.1 c.2.2.2.1 (i+1) N) ⟨g1,lo⟩ ?_ (λc st h=>h.2.no (Nat.le_succ_of_le hN)) ?_)
 .rintro i c st' Q2 hin ⟨g2,lo⟩ hd hy
  extract_lets-underBinder s1 out1 s2 ia1 s3 ib1 s4 mg1 s5 ac1 bc1 jp
  have lo:LoS lt a b out1 ia1 ib1 (i+1) N:=lo;have b1:=Nat.lt_of_succ_lt lo.ha;have b2:=lo.hb;have hj:∀x,Wp ω (jp () x) Q2 st':=λx=>by
   refine QE (Qe7 g2 λst3 g3=>QaR b2 (QE (Qoc hL hO hk g3 (hPb ib1 b2) hPa sa (ZcH (Nat.add_sub_of_le (ZaB b1))) (Nat.sub_pos_of_lt b1) λk k1 k2 k3=>?_)));have k1:ia1+k<=a.size:= ⋯
   have k3:∀(i:Nat) (hi:i<a.size),ia1+k<=i->lt b[ib1] a[i]=true:=λi hi h=>k3 i hi h ⋯;have wi2:=lo.wi.QBb λi hi h1 h2 j hj h3=>hO.tr _ _ _ (k2 i hi h1 h2) (sb ib1 j b2 hj h3);dsimp-zeta only
   extract_lets-underBinder ac2 jp2
   have hj2:∀(o:Array Keyed) (ia1':Nat),WI lt (a.toList++b.toList) o.toList (rst a ia1') (rst b ib1)->ia1<=ia1'->ia1'+1<a.size->(∀(i:Nat) (hi:i<a.size),ia1'<=i->lt b[ib1] a[i]=true)->Wp ω (jp2 () o ia1') Q2 st3:=λo ia1' v le hb k3=>by
    have wi3:=v.Qrw b2 λj hj hij=>hO.as _ _ (k3 j hj hij);have b3:=Nat.lt_of_succ_lt hb;refine QaR b2 (QD (λe=>Qq (hd _ _ ⟨g3,.inl ⟨_,rfl,wi3.done (.inl (beq_iff_eq.mp e))⟩⟩)) λe=>?_);have b4:ib1+1<b.size:=Zam b2 (QaX e);refine QaR b3 (QE (Qn1 hL hO hk g3 (hPa ia1' b3) hPb sb (ZcH (Nat.add_sub_of_le b2)) (Nat.sub_pos_of_lt b4) λk' q1 q2 q3=>?_));have q1:ib1+1+k'<=b.size:= ⋯
    have q3:∀(i:Nat) (hi:i<b.size),ib1+1+k'<=i->lt b[i] a[ia1']=false:=λi hi h=>q3 i hi h ⋯;dsimp-zeta only
    extract_lets-underBinder bc2 jp3
    have hj3:∀(o:Array Keyed) (ib1':Nat),WI lt (a.toList++b.toList) o.toList (rst a ia1') (rst b ib1')->ib1<ib1'->ib1'<b.size->(∀(i:Nat) (hi:i<b.size),ib1'<=i->lt b[i] a[ia1']=false)->Wp ω (jp3 () o ib1') Q2 st3:=λo ib1' v le' hb' q3=>by
     have wi5:=v.Qww b3 λj hj hij=>q3 j hj hij;refine QaR b3 (QD (λe=>Qq (hd _ _ ⟨g3,.inl ⟨_,rfl,wi5.Qnh (beq_iff_eq.mp e) hl⟩⟩)) λe=>?_);have nx:=lo.nx wi5 (Nat.add_lt_add_of_le_of_lt (Nat.le_succ_of_le le) le') (Nat.le_succ_of_le le) (ZaB le') (Zam hb (QaX e)) hb';exact QD (λ_=>Qq (hd _ _ ⟨g3,.inr ⟨rfl,nx.one⟩⟩)) λ_=>Qq (hy _ _ ⟨g3,nx⟩)
    clear_value jp3
    have wi4:=wi3.QBl λi hi h1 h2 j hj h3=>hO.tr _ _ _ (hO.as _ _ (q2 i hi h1 h2)) (sa _ j b3 hj h3);exact QD (λ_=>QD (λe=>Qq (hd _ _ ⟨g3,.inl ⟨_,rfl,wi4.done (.inl (beq_iff_eq.mp e))⟩⟩)) λe=>hj3 _ (ib1+1+k') wi4 (Nat.lt_add_right k' (Zaj ib1)) (Zam q1 (QaX e)) q3) λz=>hj3 _ (ib1+1) wi3 (Zaj ib1) b4 λj hj h=>q3 j hj (Nat.eq_zero_of_not_pos z▸h)
   clear_value jp2
   exact QD (λ_=>QD (λe=>Qq (hd _ _ ⟨g3,.inl ⟨_,rfl,wi2.Qnh (beq_iff_eq.mp e) hl⟩⟩)) λe=>QD (λe=>Qq (hd _ _ ⟨g3,.inl ⟨_,rfl,wi2.done (.inr (beq_iff_eq.mp e))⟩⟩)) λe'=>hj2 _ (ia1+k) wi2 (ZbG _ _) (Zam (Zam k1 (QaX e')) (QaX e)) k3) λz=>hj2 _ ia1 lo.wi (Zt _) lo.ha λj hj h=>k3 j hj (Nat.eq_zero_of_not_pos z▸h)
  clear_value jp
  exact QD (λ_=>hj _) λ_=>hj _
 rintro⟨c0,c⟩ st2 ⟨g2,⟨r,e,hf⟩ | ⟨e,lo⟩⟩
 .obtain rfl:c0=some r:=e;exact Qq (hd _ _ ⟨_,rfl,g2,hf⟩)
 obtain rfl:c0=none:=e;exact QE (Qe7 g2 λst3 g3=>Qq (hy _ _ ⟨g3,fi lo⟩))
end
noncomputable def flp(lt:Keyed->Keyed->Bool):Keyed->Keyed->Bool:=λx y=>lt y x
def QaC.rev{lt:Keyed->Keyed->Bool}{l:List Keyed}(h:QaC (flp lt) l):QaC lt l.reverse:=by
 unfold QaC at *;rw[List.pairwise_reverse];exact h
def Qbe.rev{lt:Keyed->Keyed->Bool}{T r:List Keyed}(h:Qbe (flp lt) T r):Qbe lt T r.reverse:=⟨(List.reverse_perm r).trans h.1,h.2.rev⟩
noncomputable def pre(a:Array Keyed)(n:Nat):List Keyed:=(a.toList.take n).reverse
def Qfb{a:Array Keyed}{n:Nat}{x:Keyed}(h:x∈pre a n):∃(j:Nat) (hj:j<a.size),j<n/\a[j]=x:=by
 unfold pre at h;rw[List.mem_reverse]at h;obtain⟨k,hk,e⟩:=List.mem_iff_getElem.mp h;rw[ZP,Zo]at hk;refine⟨k,⋯,⋯,?_⟩;rw[← e,List.getElem_take];simp
def Qiv{a:Array Keyed}{n:Nat}(h:n=0):pre a n=[]:=by subst h;rfl
def QqL{a:Array Keyed}{at_ n:Nat}(h:at_<=n):pre a n=(a.extract at_ n).reverse.toList++pre a at_:=by
 unfold pre;rw[Array.toList_reverse,Array.toList_extract,List.extract_eq_take_drop,← List.reverse_append];congr 1;have:n=at_+(n-at_):= ⋯
 rw[this,List.take_add,Zbr]
def QqQ{a:Array Keyed}{n:Nat}(h:n<a.size):pre a (n+1)=[a[n]]++pre a n:=by
 unfold pre;rw[List.take_succ_eq_append_getElem (by simpa using h),List.reverse_append];simp
def QiS(a:Array Keyed)(n:Nat):(a.extract 0 n).toList=(pre a n).reverse:=by
 unfold pre;rw[Array.toList_extract,List.extract_eq_take_drop,List.reverse_reverse];simp
def Qee.pre{lt:Keyed->Keyed->Bool}{a:Array Keyed}(h:Qee lt a)(n:Nat):QaC (flp lt) (pre a n):=by
 unfold QaC HS.pre flp;rw[List.pairwise_reverse,Zan];intro p q hp hq hpq;rw[ZP,Zo]at hp hq;rw[List.getElem_take,List.getElem_take];have:=h p q ⋯ ⋯ ⋯;simpa using this
section
variable {ω:WdS}{lt:Keyed->Keyed->Bool}{P:Keyed->Prop}{T:List Keyed}{a b out:Array Keyed}{na nb:Nat}
def WI.hiX{o M X X' Y:List Keyed}(h:WI lt T o X Y)(e:X=M++X')(hk:∀x∈M,∀y∈Y,lt y x=false):WI lt T (o++M) X' Y:=by
 subst e;have z:=h.QrI M.length (by rw[Zbv];exact hk;rfl);rw[Zbv rfl,List.drop_left' rfl]at z;exact z
def WI.hiY{o M X Y Y':List Keyed}(h:WI lt T o X Y)(e:Y=M++Y')(hk:∀y∈M,∀x∈X,lt x y=false):WI lt T (o++M) X Y':=by
 subst e;have z:=h.Qr8 M.length (by rw[Zbv];exact hk;rfl);rw[Zbv rfl,List.drop_left' rfl]at z;exact z
def WI.QoD(h:WI (flp lt) T out.toList (pre a (na+1)) (pre b nb))(ha:na<a.size)(hle:∀(j:Nat) (hj:j<b.size),j<nb->lt a[na] b[j]=false):WI (flp lt) T (out.push a[na]).toList (pre a na) (pre b nb):=by
 rw[Array.toList_push];refine h.hiX (QqQ ha) λx hx y hy=>?_;rw[Zj]at hx;obtain⟨j,hj,h1,rfl⟩:=Qfb hy;rw[hx];exact hle j hj h1
def WI.Quh(h:WI (flp lt) T out.toList (pre a na) (pre b (nb+1)))(hb:nb<b.size)(hle:∀(j:Nat) (hj:j<a.size),j<na->lt b[nb] a[j]=false):WI (flp lt) T (out.push b[nb]).toList (pre a na) (pre b nb):=by
 rw[Array.toList_push];refine h.hiY (QqQ hb) λx hx y hy=>?_;rw[Zj]at hx;obtain⟨j,hj,h1,rfl⟩:=Qfb hy;rw[hx];exact hle j hj h1
def ext_mem{a:Array Keyed}{i n:Nat}{x:Keyed}(h:x∈(a.extract i n).reverse.toList):∃(j:Nat) (hj:j<a.size),i<=j/\j<n/\a[j]=x:=by
 rw[Array.toList_reverse,List.mem_reverse,Array.toList_extract,List.extract_eq_take_drop]at h;obtain⟨k,hk,e⟩:=List.mem_iff_getElem.mp h;rw[ZP,ZZ,Zo]at hk;refine⟨i+k,⋯,⋯,⋯,?_⟩;rw[← e,List.getElem_take,List.getElem_drop];simp
def WI.QAs{at_:Nat}(h:WI (flp lt) T out.toList (pre a na) (pre b nb))(hat:at_<=na)(hle:∀(i:Nat) (hi:i<a.size),at_<=i->i<na->∀(j:Nat) (hj:j<b.size),j<nb->lt a[i] b[j]=false):WI (flp lt) T (out++(a.extract at_ na).reverse).toList (pre a at_) (pre b nb):=by
 rw[Array.toList_append];refine h.hiX (QqL hat) λx hx y hy=>?_;obtain⟨i,hi,h1,h2,rfl⟩:=ext_mem hx;obtain⟨j,hj,h3,rfl⟩:=Qfb hy;exact hle i hi h1 h2 j hj h3
def WI.QAQ{at_:Nat}(h:WI (flp lt) T out.toList (pre a na) (pre b nb))(hat:at_<=nb)(hle:∀(i:Nat) (hi:i<b.size),at_<=i->i<nb->∀(j:Nat) (hj:j<a.size),j<na->lt b[i] a[j]=false):WI (flp lt) T (out++(b.extract at_ nb).reverse).toList (pre a na) (pre b at_):=by
 rw[Array.toList_append];refine h.hiY (QqL hat) λx hx y hy=>?_;obtain⟨i,hi,h1,h2,rfl⟩:=ext_mem hx;obtain⟨j,hj,h3,rfl⟩:=Qfb hy;exact hle i hi h1 h2 j hj h3
def WI.QjZ(h:WI (flp lt) T out.toList (pre a na) (pre b nb))(e:na=0∨nb=0):Qbe lt T (a.extract 0 na++b.extract 0 nb++out.reverse).toList:=by
 rw[Array.toList_append,Array.toList_append,QiS,QiS,Array.toList_reverse,← List.reverse_append,← List.reverse_append];refine Qbe.rev ?_;rcases e with e | e
 .have z:=h.QyP (Qiv e);rw[Qiv e]at z ⊢;simpa using z
 .have z:=h.Qzq (Qiv e);rw[Qiv e]at z ⊢;simpa using z
def WI.Qkn(h:WI (flp lt) T out.toList (pre a na) (pre b nb))(e:nb=1)(hb0:0<b.size)(hl:∀(j:Nat) (hj:j<a.size),lt a[j] b[0]=false):Qbe lt T (b.extract 0 nb++a.extract 0 na++out.reverse).toList:=by
 rw[Array.toList_append,Array.toList_append,QiS,QiS,Array.toList_reverse,← List.reverse_append,← List.reverse_append];refine Qbe.rev ?_;refine⟨by simpa using h.perm,?_⟩;have so:=h.so;have ox:=h.ox;have oy:=h.oy;have sx:=h.sx;have sy:=h.sy;refine List.pairwise_append.mpr ⟨so,List.pairwise_append.mpr ⟨sx,sy,λx hx y hy=>?_⟩,λx hx y hy=>?_⟩
 .obtain⟨i,hi,h1,rfl⟩:=Qfb hx;obtain⟨j,hj,h2,rfl⟩:=Qfb hy;have:j=0:= ⋯
  subst this;exact hl i hi
 .rcases Zf.mp hy with hy | hy
  .exact ox x hx y hy
  .exact oy x hx y hy
noncomputable def QnM:Array Keyed->Array Keyed->SM (Array Keyed):=sortPriv% PySem.Builtin.mergeHi
structure HiS (lt:Keyed->Keyed->Bool) (a b:Array Keyed) (na nb:Nat) (out:Array Keyed) (i N:Nat):Prop where
 wi:WI (flp lt) (a.toList++b.toList) out.toList (pre a na) (pre b nb)
 ha:0<na
 la:na<=a.size
 hb:1<nb
 lb:nb<=b.size
 le:na+nb+i<=N
def HiS.nx{out':Array Keyed}{na' nb' i N:Nat}(h:HiS lt a b na nb out i N)(v:WI (flp lt) (a.toList++b.toList) out'.toList (pre a na') (pre b nb'))(l:na'+nb'<na+nb)(la:na'<=na)(lb:nb'<=nb)(ha:na'≠0)(hb:1<nb'):HiS lt a b na' nb' out' (i+1) N:=⟨v,Nat.pos_of_ne_zero ha,ZJ la h.la,hb,ZJ lb h.lb,by have:=h.le;lia⟩
def HiS.one{i N:Nat}(h:HiS lt a b na nb out (i+1) N):HiS lt a b na nb out 1 N:=⟨h.wi,h.ha,h.la,h.hb,h.lb,by have:=h.le;lia⟩
def HiS.no{M N:Nat}{P:Prop}(h:HiS lt a b na nb out M N)(hN:N<=M):P:=by have:=h.le;have:=h.ha;lia
def HiS.ex{i N:Nat}(h:HiS lt a b na nb out i N):∃n k,na=n+1/\nb=k+1:=⟨na-1,nb-1,by have:=h.ha;lia,by have:=h.hb;lia⟩
def QpW(hL:Qec ω P lt)(hO:Qeo lt){st:SortSt}{Q:Array Keyed->SortSt->Prop}(hk:kindOf st=oneType')(hPa:∀(i:Nat) (h:i<a.size),P a[i])(hPb:∀(i:Nat) (h:i<b.size),P b[i])(sa:Qee lt a)(sb:Qee lt b)(ha0:0<a.size)(hb0:0<b.size)(h0:∀(j:Nat) (hj:j<a.size),lt a[j] b[0]=false)(hl:∀(j:Nat) (hj:j<b.size),lt (a[a.size-1]'⋯) b[j]=false)
  (h:∀(r:Array Keyed) (st':SortSt),QbV st st'->Qbe lt (a.toList++b.toList) r.toList->Q r st'):Wp ω (QnM a b) Q st:=by
 have g0:QbV st st:=⟨_,rfl⟩;have en:a.size-1+1=a.size:= ⋯
 have l0:a.size-1<a.size:= ⋯
 have w0:WI (flp lt) (a.toList++b.toList) (#[]:Array Keyed).toList (pre a (a.size-1+1)) (pre b b.size):=by
  refine⟨?_,List.Pairwise.nil,sa.pre _,sb.pre _,λx hx=>by simp at hx,λx hx=>by simp at hx⟩;unfold pre;rw[en,ZaX ⋯,ZaX ⋯];simp only[ZcM];exact List.Perm.append (List.reverse_perm _) (List.reverse_perm _)
 have w1:=w0.QoD l0 λj hj _=>hl j hj;unfold QnM;refine QnL l0 (λe1=>h _ _ g0 (w1.QjZ (.inl (beq_iff_eq.mp e1)))) (λe2=>h _ _ g0 (w1.Qkn (beq_iff_eq.mp e2) hb0 h0)) λe1 e2=>?_;refine QaS (λc st'=>∃r,c.1=some r/\QbV st st'/\Qbe lt (a.toList++b.toList) r.toList) (λi c st'=>QbV st st'/\HiS lt a b c.2.1 c.2.2.1 c.2.2.2.1 i (a.size+b.size)) ⟨g0,⟨w1,Nat.pos_of_ne_zero (QaX e1),ZaB l0,Zam hb0 (Ne.symm (QaX e2)),Zt _,Zcb (ZaB l0) _⟩⟩ ?_ (λc st h=>h.2.no (Zt _)) ?_
 rotate_left
 .rintro⟨c,q⟩ st1 ⟨r,e,g1,hf⟩;obtain rfl:c=some r:=e;exact Qq (h _ _ g1 hf)
 rintro i0 c st1 Q1 hin ⟨g1,lo⟩ hd hy;have hk1:kindOf st1=oneType':=by obtain⟨g,e⟩:=g1;rw[e];exact hk
 have fi:∀{na nb out},HiS lt a b na nb out 1 (a.size+b.size-i0)->HiS lt a b na nb out (i0+1) (a.size+b.size):=λlo=>⟨lo.wi,lo.ha,lo.la,lo.hb,lo.lb,by have:=lo.le;lia⟩;have lo:HiS lt a b c.2.1 c.2.2.1 c.2.2.2.1 0 (a.size+b.size-i0):=⟨lo.wi,lo.ha,lo.la,lo.hb,lo.lb,by have:=lo.le;lia⟩;have hN:=Nat.sub_le (a.size+b.size) i0;generalize a.size+b.size-i0=N at *;refine QaS (λc st'=>st'=st1/\((∃r,c.1=some r/\Qbe lt (a.toList++b.toList) r.toList)∨c.1=none/\HiS lt a b c.2.1 c.2.2.1 c.2.2.2.1 1 N)) (λi c st'=>st'=st1/\HiS lt a b c.2.1 c.2.2.1 c.2.2.2.1 i N) ⟨rfl,lo⟩ ?_ (λc st' h=>h.2.no hN) ?_
 .rintro i ⟨c0,na,nb,out,ac,bc⟩ st' Q2 hin ⟨rfl,lo⟩ hd hy;have lo:HiS lt a b na nb out i N:=lo;obtain⟨na,nb,rfl,rfl⟩:=lo.ex;have b1:na<a.size:=lo.la;have b2:nb<b.size:=lo.lb;refine QaR b2 (QaR b1 (Qlm hL hk1 (hPb _ _) (hPa _ _) (QD (λhbw=>QaR b1 ?_) λhbw=>QaR b2 ?_)))
  .have wi':=lo.wi.QoD b1 λj hj hij=>hO.tr _ _ _ (sb j nb hj b2 (Nat.le_of_lt_succ hij)) (hO.as _ _ hbw);refine QD (λe=>Qq (hd _ _ ⟨rfl,.inl ⟨_,rfl,wi'.QjZ (.inl (beq_iff_eq.mp e))⟩⟩)) λe=>?_;have nx:=lo.nx wi' (Nat.add_lt_add_right (Zaj _) _) (Zba _) (Zt _) (QaX e) lo.hb;exact QD (λ_=>Qq (hd _ _ ⟨rfl,.inr ⟨rfl,nx.one⟩⟩)) λ_=>Qq (hy _ _ ⟨rfl,nx⟩)
  .have wi':=lo.wi.Quh b2 λj hj hij=>hO.tr _ _ _ (sa j na hj b1 (Nat.le_of_lt_succ hij)) (Bool.not_eq_true _▸hbw);refine QD (λe=>Qq (hd _ _ ⟨rfl,.inl ⟨_,rfl,wi'.Qkn (beq_iff_eq.mp e) hb0 h0⟩⟩)) λe=>?_;have nx:=lo.nx wi' (Zaj _) (Zt _) (Zba _) (Nat.succ_ne_zero _) (Zam (Nat.le_of_lt_succ lo.hb) (Ne.symm (QaX e)));exact QD (λ_=>Qq (hd _ _ ⟨rfl,.inr ⟨rfl,nx.one⟩⟩)) λ_=>Qq (hy _ _ ⟨rfl,nx⟩)
 rintro⟨c0,c⟩ st2 ⟨rfl,⟨r,e,hf⟩ | ⟨e,lo⟩⟩
 .obtain rfl:c0=some r:=e;exact Qq (hd _ _ ⟨_,rfl,g1,hf⟩)
 obtain rfl:c0=none:=e;refine QhH (QaS (λc st'=>QbV st st'/\((∃r,c.1=some r/\Qbe lt (a.toList++b.toList) r.toList)∨c.1=none/\HiS lt a b c.2.1 c.2.2.1 c.2.2.2.1 1 N)) (λi c st'=>QbV st st'/\HiS lt a b c.2.1 c.2.2.1 c.2.2.2.1 (i+1) N) ⟨g1,lo⟩ ?_ (λc st h=>h.2.no (Nat.le_succ_of_le hN)) ?_)
 .rintro i ⟨c0,na,nb,out,mg',ac,bc⟩ st' Q2 hin ⟨g2,lo⟩ hd hy;have lo:HiS lt a b na nb out (i+1) N:=lo;obtain⟨na,nb,rfl,rfl⟩:=lo.ex;have b1:na<a.size:=lo.la;have b2:nb<b.size:=lo.lb
  extract_lets-underBinder s1 na1 s2 nb1 s3 out1 s4 mg1 s5 ac1 bc1 jp
  have hj:∀x,Wp ω (jp () x) Q2 st':=λx=>by
   refine QE (Qe7 g2 λst3 g3=>QaR b2 (QE (Qoc hL hO hk g3 (hPb nb b2) hPa sa (ZaW _▸b1) (Zaj _) λk k1 k2 k3=>?_)));simp only[ZaW]at k2 k3;have wi2:=lo.wi.QAs k1 λi hi h1 h2 j hj h3=>hO.tr _ _ _ (sb j nb hj b2 (Nat.le_of_lt_succ h3)) (hO.as _ _ (k3 i hi h1 h2));have k2:=λi hi=>k2 i hi (ZS _);dsimp-zeta only
   extract_lets-underBinder kk ac2 jp2
   have hj2:∀(na':Nat) (o:Array Keyed),WI (flp lt) (a.toList++b.toList) o.toList (pre a na') (pre b (nb+1))->na'<=na+1->na'≠0->(∀(i:Nat) (hi:i<a.size),i<na'->lt b[nb] a[i]=false)->Wp ω (jp2 () na' o) Q2 st3:=λna' o v le n0 k2=>by
    have wi3:=v.Quh b2 λj hj hij=>k2 j hj hij;obtain⟨na2,rfl⟩:=Nat.exists_eq_succ_of_ne_zero n0;have b3:na2<a.size:=Zbe (Zaj _) (ZJ le lo.la);refine QaR b2 (QD (λe=>Qq (hd _ _ ⟨g3,.inl ⟨_,rfl,wi3.Qkn (beq_iff_eq.mp e) hb0 h0⟩⟩)) λe=>?_);have n3:1<nb:=Zam (Nat.le_of_lt_succ lo.hb) (Ne.symm (QaX e));obtain⟨nb2,rfl⟩:=Nat.exists_eq_succ_of_ne_zero (Zbu (ZbT Nat.zero_lt_one n3));refine QaR b3 (QE (Qn1 hL hO hk g3 (hPa na2 b3) hPb sb (ZaW _▸ZaB b2) (Zaj _) λk' q1 q2 q3=>?_));simp only[ZaW]at q2 q3;have q2:=λi hi=>q2 i hi (ZS _);dsimp-zeta only
    extract_lets-underBinder kk2 bc2 jp3
    have hj3:∀(nb':Nat) (o:Array Keyed),WI (flp lt) (a.toList++b.toList) o.toList (pre a (na2+1)) (pre b nb')->nb'<=nb2+1->1<nb'->(∀(i:Nat) (hi:i<b.size),i<nb'->lt b[i] a[na2]=true)->Wp ω (jp3 () nb' o) Q2 st3:=λnb' o v le' n1 q2=>by
     have wi5:=v.QoD b3 λj hj hij=>hO.as _ _ (q2 j hj hij);refine QaR b3 (QD (λe=>Qq (hd _ _ ⟨g3,.inl ⟨_,rfl,wi5.QjZ (.inl (beq_iff_eq.mp e))⟩⟩)) λe=>?_);have nx:=lo.nx wi5 ⋯ ⋯ ⋯ (QaX e) n1;exact QD (λ_=>Qq (hd _ _ ⟨g3,.inr ⟨rfl,nx.one⟩⟩)) λ_=>Qq (hy _ _ ⟨g3,nx⟩)
    clear_value jp3
    have wi4:=wi3.QAQ q1 λi hi h1 h2 j hj h3=>hO.tr _ _ _ (sa j na2 hj b3 (Nat.le_of_lt_succ h3)) (q3 i hi h1 h2);exact QD (λ_=>QD (λe=>Qq (hd _ _ ⟨g3,.inl ⟨_,rfl,wi4.Qkn (beq_iff_eq.mp e) hb0 h0⟩⟩)) λe=>QD (λe'=>Qq (hd _ _ ⟨g3,.inl ⟨_,rfl,wi4.QjZ (.inr (beq_iff_eq.mp e'))⟩⟩)) λe'=>hj3 k' _ wi4 q1 (by have:=QaX e;have:=QaX e';lia) q2) λz=>hj3 (nb2+1) _ wi3 (Zt _) n3 λj hj h=>q2 j hj (by have z:¬nb2+1-k'>0:=z;lia)
   clear_value jp2
   exact QD (λ_=>QD (λe=>Qq (hd _ _ ⟨g3,.inl ⟨_,rfl,wi2.QjZ (.inl (beq_iff_eq.mp e))⟩⟩)) λe=>hj2 k _ wi2 k1 (QaX e) k2) λz=>hj2 (na+1) _ lo.wi (Zt _) (Nat.succ_ne_zero _) λj hj h=>k2 j hj (by have z:¬na+1-k>0:=z;lia)
  clear_value jp
  exact QD (λ_=>hj _) λ_=>hj _
 rintro⟨c0,c⟩ st2 ⟨g2,⟨r,e,hf⟩ | ⟨e,lo⟩⟩
 .obtain rfl:c0=some r:=e;exact Qq (hd _ _ ⟨_,rfl,g2,hf⟩)
 obtain rfl:c0=none:=e;exact QE (Qe7 g2 λst3 g3=>Qq (hy _ _ ⟨g3,fi lo⟩))
end
def QnK:∀(M:List Keyed) (k:Nat) (arr:Array Keyed) (off:Nat) (A1 Old A2:List Keyed),arr.toList=A1++Old++A2->A1.length=off+k->Old.length=M.length->((M.zipIdx k).foldl (λa (p:Keyed×Nat)=>a.setIfInBounds (off+p.2) p.1) arr).toList=A1++M++A2
 | [],k,arr,off,A1,Old,A2,e,h1,h2=>by
  have:Old=[]:=Zax h2;subst this;exact e
 | m::M,k,arr,off,A1,[],A2,e,h1,h2=>by simp at h2
 | m::M,k,arr,off,A1,o::Old,A2,e,h1,h2=>by
  rw[ZbZ,ZbN];have e2:(arr.setIfInBounds (off+k) m).toList=(A1++[m])++Old++A2:=by
   rw[Array.toList_setIfInBounds,e,← h1];simp
  have:=QnK M (k+1) (arr.setIfInBounds (off+k) m) off (A1++[m]) Old A2 e2 (by simp;lia) (by simpa using h2);rw[this];simp
def QoO{lt:Keyed->Keyed->Bool}{X Y:List Keyed}(sx:QaC lt X)(sy:QaC lt Y)(h:∀x∈X,∀y∈Y,lt y x=false):Qbe lt (X++Y) (X++Y):=⟨List.Perm.refl _,List.pairwise_append.mpr ⟨sx,sy,h⟩⟩
def QwU{lt:Keyed->Keyed->Bool}{X1 X2 Y1 Y2 M:List Keyed}(hM:Qbe lt (X2++Y1) M)(s1:QaC lt X1)(s2:QaC lt Y2)(h1:∀x∈X1,∀y∈X2++Y1,lt y x=false)(h2:∀x∈X1,∀y∈Y2,lt y x=false)(h3:∀x∈X2++Y1,∀y∈Y2,lt y x=false):Qbe lt ((X1++X2)++(Y1++Y2)) (X1++M++Y2):=by
 have hm:∀x,x∈M↔x∈X2++Y1:=λx=>hM.1.mem_iff;refine⟨?_,List.pairwise_append.mpr ⟨List.pairwise_append.mpr ⟨s1,hM.2,λx hx y hy=>h1 x hx y ((hm y).mp hy)⟩,s2,λx hx y hy=>?_⟩⟩
 .have e:(X1++X2)++(Y1++Y2)=X1++(X2++Y1)++Y2:= ⋯
  rw[e];exact List.Perm.append_right _ (ZaM _ hM.1)
 .rcases Zf.mp hx with hx | hx
  .exact h2 x hx y hy
  .exact h3 x ((hm x).mp hx) y hy
def Qj3{arr:Array Keyed}{B X C:List Keyed}{n:Nat}(e:arr.toList=B++X++C)(hn:B.length=n){i:Nat}(hi:i<X.length)(h:n+i<arr.size):arr[n+i]=X[i]:=by
 have:arr[n+i]? =some X[i]:=by
  rw[← ZA,e,ZI,ZbC ⋯,Zay ⋯,show n+i-B.length=i by lia];exact Zg hi
 rw[Zr h]at this;exact Option.some.inj this
def Qq4{arr:Array Keyed}{B X C:List Keyed}{n k:Nat}(e:arr.toList=B++X++C)(hn:B.length=n)(hk:k=n+X.length):(arr.extract n k).toList=X:=by
 subst hk;rw[Array.toList_extract,List.extract_eq_take_drop,e,ZI,← hn,List.drop_left',Zbr,Zbv]
 .rfl
 .rfl
def QaC.arr{lt:Keyed->Keyed->Bool}{a:Array Keyed}(hr:∀x,lt x x=false)(h:QaC lt a.toList):Qee lt a:=λi j hi hj hij=>by
 by_cases e:i=j
 .subst e;exact hr _
 .have:=Zan.mp h i j (by simpa using hi) (by simpa using hj) ⋯;simpa using this
section
variable {ω:WdS}{lt:Keyed->Keyed->Bool}{P:Keyed->Prop}
def Qzp{st st':SortSt}{Q:PUnit->SortSt->Prop}(h:Q ⟨⟩ st'):Wp ω (set st') Q st:=by
 unfold Wp wpS;rw[StateT.run_set];exact wpAny_pure ⟨rfl,h⟩
def Qhc{l:List Keyed}{k:Nat}{x:Keyed}(h:x∈l.take k):∃(i:Nat) (hi:i<l.length),i<k/\l[i]=x:=by
 obtain⟨n,hn,e⟩:=List.mem_iff_getElem.mp h;rw[ZP]at hn;exact⟨n,⋯,⋯,by rw[← e,List.getElem_take]⟩
def QgS{l:List Keyed}{k:Nat}{x:Keyed}(h:x∈l.drop k):∃(i:Nat) (hi:i<l.length),k<=i/\l[i]=x:=by
 obtain⟨n,hn,e⟩:=List.mem_iff_getElem.mp h;rw[ZZ]at hn;exact⟨k+n,⋯,⋯,by rw[← e,List.getElem_drop]⟩
def Qz8(st st':SortSt)(i sa na nb pw:Nat)(B M C:List Keyed):Prop:=kindOf st'=kindOf st/\failedOf st'=failedOf st/\(arrOf st').toList=B++M++C/\pendingOf st'=((pendingOf st).setIfInBounds i (sa,na+nb,pw)).eraseIdxIfInBounds (i+1)
def Qqk(hL:Qec ω P lt)(hO:Qeo lt)(hr:∀x,lt x x=false){st:SortSt}{Q:Bool->SortSt->Prop}{i sa na pw nb pw2:Nat}{B X Y C:List Keyed}(hk:kindOf st=oneType')(hfl:failedOf st=none)(hp:(pendingOf st)[i]? =some (sa,na,pw))(hp2:(pendingOf st)[i+1]? =some (sa+na,nb,pw2))(e:(arrOf st).toList=B++(X++Y)++C)(hB:B.length=sa)(hX:X.length=na)(hY:Y.length=nb)(na0:0<na)(nb0:0<nb)(hP:∀x∈B++(X++Y)++C,P x)(sx:QaC lt X)(sy:QaC lt Y)
  (h:∀M st',Qbe lt (X++Y) M->Qz8 st st' i sa na nb pw B M C->Q true st'):Wp ω (mergeAt' i) Q st:=by
 have eX:(arrOf st).toList=B++X++(Y++C):=by rw[e];simp
 have eY:(arrOf st).toList=(B++X)++Y++C:=by rw[e];simp
 have hBX:(B++X).length=sa+na:=by rw[ZG];lia
 have sz:(arrOf st).size=sa+na+nb+C.length:=by
  rw[← Zo,e];simp;lia
 have hPa:∀(i:Nat) (h:i<(arrOf st).size),P (arrOf st)[i]:=λi h=>hP _ (by rw[← e];exact Array.mem_toList_iff.mpr (Array.getElem_mem h));have SX:∀(p q:Nat) (hp:p<X.length) (hq:q<X.length),p<=q->lt X[q] X[p]=false:=λp q hp hq hpq=>by
  by_cases z:p=q
  .subst z;exact hr _
  .exact Zan.mp sx p q hp hq ⋯
 have SY:∀(p q:Nat) (hp:p<Y.length) (hq:q<Y.length),p<=q->lt Y[q] Y[p]=false:=λp q hp hq hpq=>by
  by_cases z:p=q
  .subst z;exact hr _
  .exact Zan.mp sy p q hp hq ⋯
 have ay0:(arrOf st)[sa+na]'⋯ =Y[0]'⋯ :=Qj3 (i:=0) eY hBX ⋯ ⋯;unfold mergeAt';refine QE (QdD ?_);rw[hp,hp2];dsimp only;refine QE (Qzp ?_);refine QaR (show sa+na<(arrOf st).size by lia) ?_;refine QE (Qe6 hL hk (hPa _ _) hPa (show sa+na<=(arrOf st).size by lia) na0 (λi=>if h:i<X.length then !(lt (Y[0]'⋯) X[i])else false) (λi h1 h2=>?_) (λp q hpq hq hb=>?_) λk k1 k2 k3=>?_)
 .rw[dif_pos (show i<X.length by lia),ay0,Qj3 eX hB (show i<X.length by lia) h1];rfl
 .rw[dif_pos (show q<X.length by lia)]at hb;rw[dif_pos (show p<X.length by lia)];simp only[Zak]at hb ⊢;exact hO.tr _ _ _ (SX p q ⋯ ⋯ hpq) hb
 have k2':∀(i:Nat) (hi:i<X.length),i<k->lt (Y[0]'⋯) X[i]=false:=λi hi h1=>by
  have z:=k2 i h1;rw[dif_pos hi]at z;simpa using z
 have k3':∀(i:Nat) (hi:i<X.length),k<=i->lt (Y[0]'⋯) X[i]=true:=λi hi h1=>by
  have z:=k3 i h1 ⋯;rw[dif_pos hi]at z;simpa using z
 dsimp only;by_cases e1:na-k=0
 .rw[if_pos (by simpa using e1)];refine Qq (h (X++Y) _ (QoO sx sy λx hx y hy=>?_) ⟨rfl,rfl,e,rfl⟩);obtain⟨p,hp,rfl⟩:=List.mem_iff_getElem.mp hx;obtain⟨q,hq,rfl⟩:=List.mem_iff_getElem.mp hy;exact hO.tr _ _ _ (k2' p hp ⋯) (SY 0 q ⋯ hq (ZS _))
 rw[if_neg (by simpa using e1)];have ei:sa+k+(na-k)-1=sa+(na-1):= ⋯
 rw[ei];have axl:(arrOf st)[sa+(na-1)]'⋯ =X[na-1]'⋯ :=Qj3 eX hB ⋯ ⋯;refine QaR (show sa+(na-1)<(arrOf st).size by lia) ?_;refine QE (Qe6 hL hk (hPa _ _) hPa (show sa+na+nb<=(arrOf st).size by lia) (show nb-1<nb by lia) (λi=>if h:i<Y.length then lt Y[i] (X[na-1]'⋯)else false) (λi h1 h2=>?_) (λp q hpq hq hb=>?_) λm m1 m2 m3=>?_)
 .rw[dif_pos (show i<Y.length by lia),axl,Qj3 eY hBX (show i<Y.length by lia) h1];rfl
 .rw[dif_pos (show q<Y.length by lia)]at hb;rw[dif_pos (show p<Y.length by lia)];cases hc:lt (Y[p]'⋯) (X[na-1]'⋯)with
  | true=>rfl
  | false=>
   have:=hO.tr _ _ _ hc (SY p q ⋯ ⋯ hpq);rw[hb]at this;cases this
 have m2':∀(i:Nat) (hi:i<Y.length),i<m->lt Y[i] (X[na-1]'⋯)=true:=λi hi h1=>by
  have z:=m2 i h1;rw[dif_pos hi]at z;exact z
 have m3':∀(i:Nat) (hi:i<Y.length),m<=i->lt Y[i] (X[na-1]'⋯)=false:=λi hi h1=>by
  have z:=m3 i h1 ⋯;rw[dif_pos hi]at z;exact z
 dsimp only;by_cases e2:m=0
 .rw[if_pos (by simpa using e2)];refine Qq (h (X++Y) _ (QoO sx sy λx hx y hy=>?_) ⟨rfl,rfl,e,rfl⟩);obtain⟨p,hp,rfl⟩:=List.mem_iff_getElem.mp hx;obtain⟨q,hq,rfl⟩:=List.mem_iff_getElem.mp hy;exact hO.tr _ _ _ (SX p (na-1) hp ⋯ ⋯) (m3' q hq ⋯)
 rw[if_neg (by simpa using e2)];have ex1:((arrOf st).extract (sa+k) (sa+na)).toList=X.drop k:=by
  refine Qq4 (B:=B++X.take k) (C:=Y++C) ?_ (by rw[ZG,ZP];lia) (by rw[ZZ];lia);rw[eX,ZI B (X.take k),Zai]
 have ey1:((arrOf st).extract (sa+na) (sa+na+m)).toList=Y.take m:=by
  refine Qq4 (C:=Y.drop m++C) ?_ hBX (by rw[ZP];lia);rw[eY,ZI (B++X) (Y.take m),← ZI (Y.take m),Zai,ZI]
 generalize (arrOf st).extract (sa+k) (sa+na)=x at ex1;generalize (arrOf st).extract (sa+na) (sa+na+m)=y at ey1;have lx:x.size=na-k:=by rw[← Zo,ex1,ZZ,hX]
 have ly:y.size=m:=by rw[← Zo,ey1,ZP];lia
 have xat:∀(p:Nat) (hp:p<x.size),x[p]=X[k+p]'⋯ :=λp hp=>by
  have:x.toList[p]? =(X.drop k)[p]? :=by rw[ex1]
  rw[ZA,Zr hp,Zcl,Zg ⋯]at this;exact Option.some.inj this
 have yat:∀(p:Nat) (hp:p<y.size),y[p]=Y[p]'⋯ :=λp hp=>by
  have:y.toList[p]? =(Y.take m)[p]? :=by rw[ey1]
  rw[ZA,Zr hp,Zbm ⋯,Zg ⋯]at this;exact Option.some.inj this
 have px:∀(p:Nat) (hp:p<x.size),P x[p]:=λp hp=>by rw[xat p hp];exact hP _ ⋯
 have py:∀(p:Nat) (hp:p<y.size),P y[p]:=λp hp=>by rw[yat p hp];exact hP _ ⋯
 have ssx:Qee lt x:=QaC.arr hr (by rw[ex1];exact sx.sublist (Zcn _ _));have ssy:Qee lt y:=QaC.arr hr (by rw[ey1];exact sy.sublist (ZbS _ _));have x0:0<x.size:= ⋯
 have y0:0<y.size:= ⋯
 have hl:∀(p:Nat) (hp:p<y.size),lt (x[x.size-1]'⋯) y[p]=false:=λp hp=>by
  rw[xat _ ⋯,yat p hp];have ee:k+(x.size-1)=na-1:= ⋯
  simp only[ee];exact hO.as _ _ (m2' p ⋯ ⋯)
 have fin:∀(r:Array Keyed) (st':SortSt),QbV (SortSt.mk' (kindOf st) (arrOf st) (((pendingOf st).setIfInBounds i (sa,na+nb,pw)).eraseIdxIfInBounds (i+1)) (gallopOf st) (failedOf st)) st'->Qbe lt (x.toList++y.toList) r.toList->Qbe lt (X++Y) (X.take k++r.toList++Y.drop m)/\(r.toList.zipIdx.foldl (λa (p:Keyed×Nat)=>a.setIfInBounds (sa+k+p.2) p.1) (arrOf st')).toList=B++(X.take k++r.toList++Y.drop m)++C:=λr st' hg hf=>by
  obtain⟨g,rfl⟩:=hg;rw[ex1,ey1]at hf;refine⟨?_,?_⟩
  .have z:=QwU (X1:=X.take k) (Y2:=Y.drop m) hf (sx.sublist (ZbS _ _)) (sy.sublist (Zcn _ _)) (λa ha b hb=>?_) (λa ha b hb=>?_) (λa ha b hb=>?_)
   .rw[Zai,Zai]at z;exact z
   .obtain⟨p,hp,p1,rfl⟩:=Qhc ha;rcases Zf.mp hb with hb | hb
    .obtain⟨q,hq,q1,rfl⟩:=QgS hb;exact SX p q hp hq ⋯
    .obtain⟨q,hq,q1,rfl⟩:=Qhc hb;exact hO.tr _ _ _ (k2' p hp p1) (SY 0 q ⋯ hq (ZS _))
   .obtain⟨p,hp,p1,rfl⟩:=Qhc ha;obtain⟨q,hq,q1,rfl⟩:=QgS hb;exact hO.tr _ _ _ (k2' p hp p1) (SY 0 q ⋯ hq (ZS _))
   .obtain⟨q,hq,q1,rfl⟩:=QgS hb;rcases Zf.mp ha with ha | ha
    .obtain⟨p,hp,p1,rfl⟩:=QgS ha;exact hO.tr _ _ _ (SX p (na-1) hp ⋯ ⋯) (m3' q hq q1)
    .obtain⟨p,hp,p1,rfl⟩:=Qhc ha;exact SY p q hp hq ⋯
  .have z:=QnK r.toList 0 (arrOf st) (sa+k) (B++X.take k) (X.drop k++Y.take m) (Y.drop m++C) (by
    rw[e];have t1:=Zai k X;have t2:=Zai m Y;rw[show B++(X++Y)++C=B++((X.take k++X.drop k)++(Y.take m++Y.drop m))++C by rw[t1,t2]];simp only[ZI]) (by rw[ZG,ZP];lia) (by rw[← hf.1.length_eq])
   refine Eq.trans z ?_;simp
 have enn:(failedOf st).isNone=true:=by rw[hfl];rfl
 split
 .refine QE (Qqd hL hO hk px py ssx ssy x0 y0 (by rw[xat 0 x0,yat 0 y0];exact k3' _ ⋯ ⋯) hl λr st' hg hf=>?_);obtain⟨f1,f2⟩:=fin r st' hg hf;refine QE (QfA (QE (QdD (Qq ?_))));obtain⟨g,rfl⟩:=hg;have:=h _ (SortSt.mk' (kindOf st) (r.toList.zipIdx.foldl (λa (p:Keyed×Nat)=>a.setIfInBounds (sa+k+p.2) p.1) (arrOf st)) (((pendingOf st).setIfInBounds i (sa,na+nb,pw)).eraseIdxIfInBounds (i+1)) g (failedOf st)) f1 ⟨rfl,rfl,f2,rfl⟩;show Q (failedOf st).isNone (SortSt.mk' (kindOf st) (r.toList.zipIdx.foldl (λa (p:Keyed×Nat)=>a.setIfInBounds (sa+k+p.2) p.1) (arrOf st)) (((pendingOf st).setIfInBounds i (sa,na+nb,pw)).eraseIdxIfInBounds (i+1)) g (failedOf st));rw[enn];exact this
 .refine QE (QpW hL hO hk px py ssx ssy x0 y0 (λp hp=>by rw[xat p hp,yat 0 y0];exact hO.as _ _ (k3' _ ⋯ ⋯)) hl λr st' hg hf=>?_);obtain⟨f1,f2⟩:=fin r st' hg hf;refine QE (QfA (QE (QdD (Qq ?_))));obtain⟨g,rfl⟩:=hg;have:=h _ (SortSt.mk' (kindOf st) (r.toList.zipIdx.foldl (λa (p:Keyed×Nat)=>a.setIfInBounds (sa+k+p.2) p.1) (arrOf st)) (((pendingOf st).setIfInBounds i (sa,na+nb,pw)).eraseIdxIfInBounds (i+1)) g (failedOf st)) f1 ⟨rfl,rfl,f2,rfl⟩;show Q (failedOf st).isNone (SortSt.mk' (kindOf st) (r.toList.zipIdx.foldl (λa (p:Keyed×Nat)=>a.setIfInBounds (sa+k+p.2) p.1) (arrOf st)) (((pendingOf st).setIfInBounds i (sa,na+nb,pw)).eraseIdxIfInBounds (i+1)) g (failedOf st));rw[enn];exact this
end
section
variable {ω:WdS}{lt:Keyed->Keyed->Bool}{P:Keyed->Prop}
def Qb4(lt:Keyed->Keyed->Bool)(arr:Array Keyed)(lo hi:Nat):Prop:=∀i j x y,lo<=i->i<=j->j<hi->arr[i]? =some x->arr[j]? =some y->lt y x=false
structure RB (a₀:Array Keyed) (lo:Nat) (pend:Array (Nat×Nat×Nat)) (st:SortSt):Prop where
 kind:kindOf st=oneType'
 failed:failedOf st=none
 pend:pendingOf st=pend
 perm:(arrOf st).Perm a₀
 pre:∀k,k<lo->(arrOf st)[k]? =a₀[k]?
def RB.size{a₀:Array Keyed}{lo:Nat}{pend:Array (Nat×Nat×Nat)}{st:SortSt}(h:RB a₀ lo pend st):(arrOf st).size=a₀.size:=h.perm.size_eq
def RB.get{a₀:Array Keyed}{lo:Nat}{pend:Array (Nat×Nat×Nat)}{st:SortSt}(h:RB a₀ lo pend st)(hP:∀x∈a₀.toList,P x){i:Nat}(hi:i<a₀.size):∃x,(arrOf st)[i]? =some x/\P x:=by
 have hi':i<(arrOf st).size:=by rw[h.size];exact hi
 refine⟨_,Zr hi',hP _ ?_⟩;exact(Array.Perm.mem_iff h.perm |>.mp (Array.getElem_mem hi')) |> Array.mem_toList_iff.mpr
def Qhq{α:Type}(hL:Qec ω P lt){st:SortSt}{f:Option Bool->SM α}{Q:α->SortSt->Prop}{i j:Nat}{x y:Keyed}(hk:kindOf st=oneType')(hi:(arrOf st)[i]? =some x)(hj:(arrOf st)[j]? =some y)(hx:P x)(hy:P y)(h:Wp ω (f (some (lt x y))) Q st):Wp ω (ltAt' i j >>= f) Q st:=by
 rw[ltAt'_eq];refine QE (QE (QdD ?_));show Wp _ (do let x ← elem' (arrOf st) i;let y ← elem' (arrOf st) j;lt' x y) _ _;rw[elem'_eq,elem'_eq,hi,hj];exact QE (Qq (QE (Qq (Qpb hL hk hx hy h))))
def QwV(hO:Qeo lt)(hr:∀x,lt x x=false){arr:Array Keyed}{lo k l:Nat}{pv:Keyed}(hseg:Qb4 lt arr lo (lo+k))(hl:l<=k)(hz:lo+k<arr.size)(hpv:arr[lo+k]? =some pv)(g4:∀i x,i<l->arr[lo+i]? =some x->lt pv x=false)(g5:∀i x,l<=i->i<k->arr[lo+i]? =some x->lt pv x=true):Qb4 lt (bubble arr (lo+k) (lo+k-(lo+l))) lo (lo+(k+1)):=by
 intro i j x y hi hij hj ex ey;have gb:=λq=>getElem?_bubble (show lo+k<(arr).size by lia) (lo+k-(lo+l)) ⋯ q;have ed:lo+k-(lo+k-(lo+l))=lo+l:= ⋯
 have ex:(bubble (arr) (lo+k) (lo+k-(lo+l)))[i]? =some x:=ex;have ey:(bubble (arr) (lo+k) (lo+k-(lo+l)))[j]? =some y:=ey;rw[gb,ed]at ex ey;by_cases i1:i=lo+l
 .rw[if_pos i1,hpv]at ex;cases ex;by_cases j1:j=lo+l
  .rw[if_pos j1,hpv]at ey;cases ey;exact hr _
  .rw[if_neg j1,if_pos ⋯]at ey;refine hO.as _ _ (g5 (j-1-lo) y ⋯ ⋯ ?_);rw[show lo+(j-1-lo)=j-1 by lia];exact ey
 .rw[if_neg i1]at ex;by_cases i2:lo+l<i
  .rw[if_pos ⋯]at ex;rw[if_neg ⋯,if_pos ⋯]at ey;exact hseg (i-1) (j-1) x y ⋯ ⋯ ⋯ ex ey
  .rw[if_neg ⋯]at ex;by_cases j1:j=lo+l
   .rw[if_pos j1,hpv]at ey;cases ey;refine g4 (i-lo) x ⋯ ?_;rw[show lo+(i-lo)=i by lia];exact ex
   .rw[if_neg j1]at ey;by_cases j2:lo+l<j
    .rw[if_pos ⋯]at ey;exact hseg i (j-1) x y ⋯ ⋯ ⋯ ex ey
    .rw[if_neg ⋯]at ey;exact hseg i j x y ⋯ ⋯ ⋯ ex ey
def QrX(hL:Qec ω P lt)(hO:Qeo lt)(hr:∀x,lt x x=false){a₀:Array Keyed}{lo n ok:Nat}{pend:Array (Nat×Nat×Nat)}{st:SortSt}{Q:Bool->SortSt->Prop}(hP:∀x∈a₀.toList,P x)(hB:RB a₀ lo pend st)(hseg:Qb4 lt (arrOf st) lo (lo+ok))(ok1:1<=ok)(okn:ok<=n)(hz:lo+n<=a₀.size)
  (h:∀st',RB a₀ lo pend st'->Qb4 lt (arrOf st') lo (lo+n)->Q true st'):Wp ω (binarySort' lo n ok) Q st:=by
 unfold binarySort';refine Qf1 (show max ok 1<=n by lia) (λc st'=>c=(none,())/\RB a₀ lo pend st'/\Qb4 lt (arrOf st') lo (lo+n)) (λk c st'=>c=(none,())/\RB a₀ lo pend st'/\Qb4 lt (arrOf st') lo (lo+k)) ⟨rfl,hB,by rw[show max ok 1=ok by lia];exact hseg⟩ ?_ (λ_ _ h=>h) λc st' ⟨e,hB,hseg⟩=>by subst e;exact Qq (h _ hB hseg)
 rintro k c st1 Q1 h1 h2 ⟨rfl,hB,hseg⟩ hd hy;obtain⟨pv,hpv,ppv⟩:=hB.get hP (show lo+k<a₀.size by lia);refine QaS (λc st'=>∃l,c=(none,l,l)/\st'=st1/\l<=k/\(∀i x,i<l->(arrOf st1)[lo+i]? =some x->lt pv x=false)/\(∀i x,l<=i->i<k->(arrOf st1)[lo+i]? =some x->lt pv x=true)) (λi c st'=>∃l r,c=(none,l,r)/\st'=st1/\l<=r/\r<=k/\r-l+i<=k/\(∀i x,i<l->(arrOf st1)[lo+i]? =some x->lt pv x=false)/\(∀i x,r<=i->i<k->(arrOf st1)[lo+i]? =some x->lt pv x=true)) ⟨0,k,rfl,rfl,ZS _,Zt _,Zt _,λi _ hi=>absurd hi (Nat.not_lt_zero _),λi _ h1 h2=>absurd h2 (Nat.not_lt_of_le h1)⟩ ?_ ?_ ?_
 .rintro i c st' Q2 hin ⟨l,r,rfl,rfl,g1,g2,g3,g4,g5⟩ hd hy;refine QD (λhl=>Qq (hd _ _ ?_)) λhl=>?_
  .obtain rfl:l=r:=Zcf g1 hl;exact⟨l,rfl,rfl,g2,g4,g5⟩
  have hl:l<r:=Nat.lt_of_not_le hl;have m2:(l+r) / 2<r:= ⋯
  obtain⟨mv,hmv,pmv⟩:=hB.get hP (show lo+(l+r) / 2<a₀.size by lia);refine Qhq hL hB.kind hpv hmv ppv pmv (QD (λhb=>Qq (hy _ _ ⟨l,(l+r) / 2,rfl,rfl,⋯,⋯,⋯,g4,λq x hq hqk e=>?_⟩)) λhb=>Qq (hy _ _ ⟨(l+r) / 2+1,r,rfl,rfl,m2,g2,⋯,λq x hq e=>?_,g5⟩))
  .cases hc:lt pv x with
   | true=>rfl
   | false=>rw[hO.tr _ _ _ (hseg (lo+(l+r) / 2) (lo+q) mv x ⋯ ⋯ ⋯ hmv e) hc]at hb;cases hb
  .exact hO.tr _ _ _ (hseg (lo+q) (lo+(l+r) / 2) x mv ⋯ ⋯ ⋯ e hmv) (Bool.not_eq_true _▸hb)
 .rintro c st' ⟨l,r,rfl,rfl,g1,g2,g3,g4,g5⟩;obtain rfl:l=r:= ⋯
  exact⟨l,rfl,rfl,g2,g4,g5⟩
 .rintro c st2 ⟨l,rfl,rfl,g2,g4,g5⟩;refine QE (show Wp ω (moveDown' (lo+k) (lo+l)) _ st2 from ?_);rw[moveDown'_eq];refine(QfA (Qq (hy _ _ ⟨rfl,⟨hB.kind,hB.failed,hB.pend,(bubble_perm _ _ _).trans hB.perm,λq hq=>?_⟩,?_⟩)))
  .show(bubble (arrOf st2) (lo+k) (lo+k-(lo+l)))[q]? =_;rw[getElem?_bubble (by rw[hB.size];lia) _ ⋯,if_neg ⋯,if_neg ⋯];exact hB.pre q hq
  .exact QwV hO hr hseg g2 (by rw[hB.size];lia) hpv g4 g5
end
section
variable {ω:WdS}{lt:Keyed->Keyed->Bool}{P:Keyed->Prop}
def Qd3(lt:Keyed->Keyed->Bool)(arr:Array Keyed)(lo hi:Nat):Prop:=∀i j x y,lo<=i->i<=j->j<hi->arr[i]? =some x->arr[j]? =some y->lt x y=false
def QeT(lt:Keyed->Keyed->Bool)(arr:Array Keyed)(lo hi:Nat):Prop:=∀i j x y,lo<=i->i<hi->lo<=j->j<hi->arr[i]? =some x->arr[j]? =some y->lt x y=false
def QAH{arr:Array Keyed}{lo hi:Nat}(h:Qd3 lt arr lo hi)(hz:hi<=arr.size):Qb4 lt (mirror arr lo hi ((hi-lo) / 2)) lo hi:=λi j x y hi' hij hj ex ey=>by
 rw[getElem?_mirror_all hz,if_pos ⟨⋯,⋯⟩]at ex ey;exact h (lo+hi-1-j) (lo+hi-1-i) y x ⋯ ⋯ ⋯ ey ex
def QAp{arr:Array Keyed}{lo hi:Nat}(h:Qb4 lt arr lo hi)(hz:hi<=arr.size):Qd3 lt (mirror arr lo hi ((hi-lo) / 2)) lo hi:=λi j x y hi' hij hj ex ey=>by
 rw[getElem?_mirror_all hz,if_pos ⟨⋯,⋯⟩]at ex ey;exact h (lo+hi-1-j) (lo+hi-1-i) y x ⋯ ⋯ ⋯ ey ex
def Qwo{arr:Array Keyed}{lo b hi:Nat}(h:Qd3 lt arr lo hi)(he:QeT lt arr b hi)(hb:lo<=b)(hz:hi<=arr.size):Qd3 lt (mirror arr b hi ((hi-b) / 2)) lo hi:=λi j x y hi' hij hj ex ey=>by
 rw[getElem?_mirror_all hz]at ex ey;by_cases i1:b<=i
 .rw[if_pos ⟨⋯,⋯⟩]at ex ey;exact he _ _ x y ⋯ ⋯ ⋯ ⋯ ex ey
 .rw[if_neg ⋯]at ex;by_cases j1:b<=j
  .rw[if_pos ⟨⋯,⋯⟩]at ey;exact h i _ x y ⋯ ⋯ ⋯ ex ey
  .rw[if_neg ⋯]at ey;exact h i j x y ⋯ ⋯ ⋯ ex ey
def RB.mir{a₀:Array Keyed}{lo:Nat}{pend:Array (Nat×Nat×Nat)}{st:SortSt}(h:RB a₀ lo pend st){i j:Nat}(hi:lo<=i)(hj:j<=a₀.size):RB a₀ lo pend (setArr st (mirror (arrOf st) i j ((j-i) / 2))):=⟨h.kind,h.failed,h.pend,(mirror_perm _ _ _ _).trans h.perm,λk hk=>by
 show(mirror (arrOf st) i j ((j-i) / 2))[k]? =_;rw[getElem?_mirror_all (by rw[h.size];exact hj),if_neg ⋯];exact h.pre k hk⟩
def Qis{α:Type}{st:SortSt}{f:Unit->SM α}{Q:α->SortSt->Prop}{i j:Nat}(h:Wp ω (f ()) Q (setArr st (mirror (arrOf st) i j ((j-i) / 2)))):Wp ω (reverseSlice' i j >>= f) Q st:=QE (wpS_reverse h)
def Qb4.snoc{arr:Array Keyed}{lo n:Nat}{x y:Keyed}(hO:Qeo lt)(hr:∀x,lt x x=false)(h:Qb4 lt arr lo (lo+n))(hn:1<=n)(ex:arr[lo+n]? =some x)(ey:arr[lo+n-1]? =some y)(hb:lt x y=false):Qb4 lt arr lo (lo+(n+1)):=λi j u v hi hij hj eu ev=>by
 by_cases j1:j=lo+n
 .subst j1;rw[ex]at ev;cases ev;by_cases i1:i=lo+n
  .subst i1;rw[ex]at eu;cases eu;exact hr _
  .exact hO.tr _ _ _ (h i (lo+n-1) u y hi ⋯ ⋯ eu ey) hb
 .exact h i j u v hi hij ⋯ eu ev
def Qd3.snoc{arr:Array Keyed}{lo n:Nat}{x y:Keyed}(hO:Qeo lt)(hr:∀x,lt x x=false)(h:Qd3 lt arr lo (lo+n))(hn:1<=n)(ex:arr[lo+n]? =some x)(ey:arr[lo+n-1]? =some y)(hb:lt y x=false):Qd3 lt arr lo (lo+(n+1)):=λi j u v hi hij hj eu ev=>by
 by_cases j1:j=lo+n
 .subst j1;rw[ex]at ev;cases ev;by_cases i1:i=lo+n
  .subst i1;rw[ex]at eu;cases eu;exact hr _
  .exact hO.tr _ _ _ hb (h i (lo+n-1) u y hi ⋯ ⋯ eu ey)
 .exact h i j u v hi hij ⋯ eu ev
def QeT.one{arr:Array Keyed}{p:Nat}(hr:∀x,lt x x=false):QeT lt arr (p+1-1) (p+1):=λi j x y h1 h2 h3 h4 ex ey=>by
 obtain rfl:i=j:= ⋯
 rw[ex]at ey;cases ey;exact hr _
def QeT.snoc{arr:Array Keyed}{b p:Nat}{u v:Keyed}(hO:Qeo lt)(hr:∀x,lt x x=false)(h:QeT lt arr b p)(hb:b<p)(eu:arr[p]? =some u)(ev:arr[p-1]? =some v)(h1:lt u v=false)(h2:lt v u=false):QeT lt arr b (p+1):=λi j x y hi hi2 hj hj2 ex ey=>by
 by_cases i1:i=p
 .subst i1;rw[eu]at ex;cases ex;by_cases j1:j=i
  .subst j1;rw[eu]at ey;cases ey;exact hr _
  .exact hO.tr _ _ _ (h (i-1) j v y ⋯ ⋯ hj ⋯ ev ey) h1
 .by_cases j1:j=p
  .subst j1;rw[eu]at ey;cases ey;exact hO.tr _ _ _ h2 (h i (j-1) x v hi ⋯ ⋯ ⋯ ex ev)
  .exact h i j x y hi ⋯ hj ⋯ ex ey
def Qsz(hL:Qec ω P lt)(hO:Qeo lt)(hr:∀x,lt x x=false){a₀:Array Keyed}{lo nrem:Nat}{pend:Array (Nat×Nat×Nat)}{st:SortSt}{Q:Option Nat->SortSt->Prop}(hP:∀x∈a₀.toList,P x)(hB:RB a₀ lo pend st)(h1:1<=nrem)(hz:lo+nrem<=a₀.size)
  (h:∀n st',1<=n->n<=nrem->RB a₀ lo pend st'->Qb4 lt (arrOf st') lo (lo+n)->Q (some n) st'):Wp ω (countRun' lo nrem) Q st:=by
 unfold countRun';have one:∀(arr:Array Keyed),Qb4 lt arr lo (lo+1):=λarr i j x y hi hij hj ex ey=>by
  obtain rfl:i=j:= ⋯
  rw[ex]at ey;cases ey;exact hr _
 have rise:∀{γ:Type}{n0:Nat}{st1:SortSt}{f:Nat->(Option (Option Nat)×Nat)->SM (ForInStep (Option (Option Nat)×Nat))}{g:Option (Option Nat)×Nat->SM γ}{R:γ->SortSt->Prop},1<=n0->n0<=nrem->RB a₀ lo pend st1->Qb4 lt (arrOf st1) lo (lo+n0)→
   (∀(x n:Nat) (R':ForInStep (Option (Option Nat)×Nat)->SortSt->Prop) (u v:Keyed),P u->P v->(arrOf st1)[lo+n]? =some u->(arrOf st1)[lo+n-1]? =some v->(lt u v=true->R' (.done (none,n)) st1)->(lt u v=false->R' (.yield (none,n+1)) st1)->Wp ω (f x (none,n)) R' st1)→
   (∀n,1<=n->n<=nrem->Qb4 lt (arrOf st1) lo (lo+n)->(n<nrem->∀u v,(arrOf st1)[lo+n]? =some u->(arrOf st1)[lo+n-1]? =some v->lt u v=true)->Wp ω (g (none,n)) R st1)->Wp ω (forIn [n0:nrem] (none,n0) f >>= g) R st1:=by
  intro γ n0 st1 f g R h1 h2 hB hseg hf hq;refine Qf1 h2 (λc st'=>∃n,c=(none,n)/\st'=st1/\1<=n/\n<=nrem/\Qb4 lt (arrOf st1) lo (lo+n)/\(n<nrem->∀u v,(arrOf st1)[lo+n]? =some u->(arrOf st1)[lo+n-1]? =some v->lt u v=true)) (λi c st'=>c=(none,i)/\st'=st1/\Qb4 lt (arrOf st1) lo (lo+i)) ⟨rfl,rfl,hseg⟩ ?_ (λc st' ⟨e1,e2,hseg⟩=>⟨nrem,e1,e2,ZJ h1 h2,Zt _,hseg,λz=>absurd z (ZaZ _)⟩) ?_
  .rintro i c st' Q1 hi1 hi2 ⟨rfl,rfl,hseg⟩ hd hy;obtain⟨u,eu,pu⟩:=hB.get hP (show lo+i<a₀.size by lia);obtain⟨v,ev,pv⟩:=hB.get hP (show lo+i-1<a₀.size by lia);refine hf i i _ u v pu pv eu ev (λhb=>hd _ _ ⟨i,rfl,rfl,ZJ h1 hi1,ZaB hi2,hseg,λ_ u' v' eu' ev'=>?_⟩) λhb=>hy _ _ ⟨rfl,rfl,hseg.snoc hO hr (ZJ h1 hi1) eu ev hb⟩;rw[eu]at eu';rw[ev]at ev';cases eu';cases ev';exact hb
  .rintro c st' ⟨n,rfl,rfl,n1,n2,hseg,hb⟩;exact hq n n1 n2 hseg hb
 have ask:∀{st1:SortSt}{u v:Keyed}{i j:Nat}{α:Type}{x y:SM α}{z:Option Bool->SM α}{Q:α->SortSt->Prop},RB a₀ lo pend st1->P u->P v->(arrOf st1)[i]? =some u->(arrOf st1)[j]? =some v->(lt u v=true->Wp ω x Q st1)->(lt u v=false->Wp ω y Q st1)->Wp ω (ltAt' i j >>= λr=>match r with | some b=>if b=true then x else y | r=>z r) Q st1:=λhB pu pv eu ev h h'=>Qhq hL hB.kind eu ev pu pv (QD h λhb=>h' (Bool.not_eq_true _▸hb));refine rise (Zt 1) h1 hB (one _) (λx n R' u v pu pv eu ev y1 y2=>ask hB pu pv eu ev (λhb=>Qq (y1 hb)) λhb=>Qq (y2 hb)) λn n1 n2 hseg hbrk=>QD (λ_=>Qq (h n st n1 n2 hB hseg)) λe1=>?_;have e1:n<nrem:=Zam n2 (QaX e1);obtain⟨u,eu,pu⟩:=hB.get hP (show lo+n<a₀.size by lia);obtain⟨v,ev,pv⟩:=hB.get hP (show lo+n-1<a₀.size by lia);have huv:=hbrk e1 u v eu ev
 extract_lets-underBinder jp
 have hj:∀st2,RB a₀ lo pend st2->Qd3 lt (arrOf st2) lo (lo+(n+1))->Wp ω (jp ()) Q st2:=λst2 hB2 hD=>by
  refine QhH (Qf1 (show n+1<=nrem from e1) (λc st'=>∃i q,c=(none,i,q)/\1<=i/\i<=nrem/\RB a₀ lo pend st'/\Qd3 lt (arrOf st') lo (lo+i)/\q+1<=i/\QeT lt (arrOf st') (lo+i-(q+1)) (lo+i)) (λi c st'=>∃q,c=(none,i,q)/\RB a₀ lo pend st'/\Qd3 lt (arrOf st') lo (lo+i)/\q+1<=i/\QeT lt (arrOf st') (lo+i-(q+1)) (lo+i)) ⟨0,rfl,hB2,hD,Zbs (ZS _),QeT.one hr⟩ ?_ (λc st3 ⟨q,e,hB,hD,hq,hE⟩=>⟨nrem,q,e,ZJ n1 n2,Zt _,hB,hD,hq,hE⟩) ?_)
  .rintro i c st3 Q2 hi1 hi2 ⟨q,rfl,hB,hD,hq,hE⟩ hd hy;obtain⟨u,eu,pu⟩:=hB.get hP (show lo+i<a₀.size by lia);obtain⟨v,ev,pv⟩:=hB.get hP (show lo+i-1<a₀.size by lia);have i0:1<=i:= ⋯
   refine Qhq hL hB.kind eu ev pu pv (QD (λhb=>QD (λq0=>Qis (i:=lo+i-(q+1)) (j:=lo+i) (Qq (hy _ _ ?_))) λq0=>Qq (hy _ _ ⟨0,rfl,hB,hD.snoc hO hr i0 eu ev (hO.as _ _ hb),Zbs (ZS _),QeT.one hr⟩)) λhb=>Qhq hL hB.kind ev eu pv pu (QD (λ_=>Qq (hd _ _ ⟨i,q,rfl,i0,ZaB hi2,hB,hD,hq,hE⟩)) λhb2=>Qq (hy _ _ ?_)))
   .have sz:=hB.size;obtain⟨x,ex,px⟩:=hB.get hP (show lo+i-(q+1)<a₀.size by lia);refine⟨0,rfl,hB.mir ⋯ ⋯,?_,Zbs (ZS _),QeT.one hr⟩;refine Qd3.snoc hO hr (Qwo hD hE ⋯ ⋯) i0 (x:=u) (y:=x) ?_ ?_ (hO.tr _ _ _ (hO.as _ _ hb) (hE _ _ x v ⋯ ⋯ ⋯ ⋯ ex ev))
    .rw[getElem?_mirror_all ⋯,if_neg ⋯];exact eu
    .rw[getElem?_mirror_all ⋯,if_pos ⟨⋯,⋯⟩,show lo+i-(q+1)+(lo+i)-1-(lo+i-1)=lo+i-(q+1) by lia];exact ex
   .refine⟨q+1,rfl,hB,hD.snoc hO hr i0 eu ev (Bool.not_eq_true _▸hb2),Zbs hq,?_⟩;rw[show lo+(i+1)-(q+1+1)=lo+i-(q+1) by lia];exact QeT.snoc (p:=lo+i) hO hr hE (show lo+i-(q+1)<lo+i by lia) eu ev (Bool.not_eq_true _▸hb) (Bool.not_eq_true _▸hb2)
  .rintro c st3 ⟨i,q,rfl,i1,i2,hB3,hD3,hq,hE⟩;refine QD (λq0=>Qis (i:=lo+i-(q+1)) (j:=lo+i) ?_) λq0=>?_
   case' refine_1=>
    have hB4:=hB3.mir (i:=lo+i-(q+1)) (j:=lo+i) ⋯ ⋯;have hD4:Qd3 lt (arrOf (setArr st3 (mirror (arrOf st3) (lo+i-(q+1)) (lo+i) ((lo+i-(lo+i-(q+1))) / 2)))) lo (lo+i):=Qwo hD3 hE ⋯ (by rw[hB3.size];lia)
   case' refine_2=>
    have hB4:=hB3;have hD4:=hD3
   all_goals
    have hB5:=hB4.mir (i:=lo) (j:=lo+i) (Zt _) ⋯;exact Qis (i:=lo) (j:=lo+i) (rise i1 i2 hB5 (QAH hD4 (by rw[hB4.size];lia)) (λx n R' u v pu pv eu ev y1 y2=>ask hB5 pu pv eu ev (λhb=>Qq (y1 hb)) λhb=>Qq (y2 hb)) λn n1 n2 hseg _=>Qq (h n _ n1 n2 hB5 hseg))
 clear_value jp
 refine QD (λe2=>?_) λe2=>hj _ hB ?_
 .obtain⟨f,ef,pf⟩:=hB.get hP (show lo<a₀.size by lia);refine ask hB pf pv ef ev (λ_=>Qq (h n st n1 n2 hB hseg)) λhrose=>Qis (hj _ (hB.mir (i:=lo) (j:=lo+n) (Zt _) ⋯) ?_);have sz:=hB.size;refine Qd3.snoc hO hr (QAp hseg ⋯) n1 (x:=u) (y:=f) ?_ ?_ (hO.tr _ _ _ (hO.as _ _ huv) hrose)
  .show(mirror (arrOf st) lo (lo+n) ((lo+n-lo) / 2))[lo+n]? =_;rw[getElem?_mirror_all ⋯,if_neg ⋯];exact eu
  .show(mirror (arrOf st) lo (lo+n) ((lo+n-lo) / 2))[lo+n-1]? =_;rw[getElem?_mirror_all ⋯,if_pos ⟨⋯,⋯⟩,show lo+(lo+n)-1-(lo+n-1)=lo by lia];exact ef
 .refine Qd3.snoc hO hr (λi j x y hi hij hj ex ey=>?_) n1 eu ev (hO.as _ _ huv);obtain rfl:i=j:= ⋯
  rw[ex]at ey;cases ey;exact hr _
end
def PM(lt:Keyed->Keyed->Bool):Nat->List (Nat×Nat×Nat)->List (List Keyed)->Prop
 | _,[],[]=>True
 | s,q::p,R::Rs=>q.1=s/\q.2.1=R.length/\0<R.length/\QaC lt R/\PM lt (s+R.length) p Rs
 | _,_,_=>False
section
variable {lt:Keyed->Keyed->Bool}
def PM.len:∀{s:Nat}{p:List (Nat×Nat×Nat)}{Rs:List (List Keyed)},PM lt s p Rs->p.length=Rs.length
 | _,[],[],_=>rfl
 | s,q::p,R::Rs,h=>by
  simp only[Zw];rw[PM.len h.2.2.2.2]
 | _,[],_::_,h=>h.elim
 | _,_::_,[],h=>h.elim
def PM.two:∀{i s:Nat}{p:List (Nat×Nat×Nat)}{Rs:List (List Keyed)}{q q2:Nat×Nat×Nat},PM lt s p Rs->p[i]? =some q->p[i+1]? =some q2->∃L X Y T,Rs=L++X::Y::T/\L.length=i/\q.1=s+L.flatten.length/\q.2.1=X.length/\q2.1=q.1+X.length/\q2.2.1=Y.length/\0<X.length/\0<Y.length/\QaC lt X/\QaC lt Y∧
  ∀M,M.length=X.length+Y.length->QaC lt M->PM lt s ((p.set i (q.1,X.length+Y.length,q.2.2)).eraseIdx (i+1)) (L++M::T)
 | 0,s,q0::q1::p,R::R1::Rs,q,q2,h,e1,e2=>by
  cases e1;cases e2;obtain⟨h1,h2,h3,h4,g1,g2,g3,g4,g5⟩:=h;refine⟨[],R,R1,Rs,rfl,rfl,by simp[h1],h2,by rw[g1,h1],g2,h3,g3,h4,g4,λM hM hs=>?_⟩;refine⟨h1,hM.symm,⋯,hs,?_⟩;rw[hM,← Nat.add_assoc];exact g5
 | i+1,s,q0::p,R::Rs,q,q2,h,e1,e2=>by
  obtain⟨h1,h2,h3,h4,h5⟩:=h;obtain⟨L,X,Y,T,k1,k2,k3,k4,k5,k6,k7,k8,k9,k10,k11⟩:=PM.two (i:=i) h5 (by simpa using e1) (by simpa using e2);refine⟨R::L,X,Y,T,by rw[k1];rfl,by simp[k2],by rw[k3];simp;lia,k4,k5,k6,k7,k8,k9,k10,λM hM hs=>?_⟩;exact⟨h1,h2,h3,h4,k11 M hM hs⟩
 | _,_,[],_,_,_,_,e1,_=>by simp at e1
 | 0,_,[_],_,_,_,_,_,e2=>by simp at e2
 | _,_,_::_,[],_,_,h,_,_=>h.elim
 | 0,_,_::_::_,[_],_,_,h,_,_=>h.2.2.2.2.elim
def PM.snoc:∀{s:Nat}{p:List (Nat×Nat×Nat)}{Rs:List (List Keyed)}{R:List Keyed}{pw:Nat},PM lt s p Rs->0<R.length->QaC lt R->PM lt s (p++[(s+Rs.flatten.length,R.length,pw)]) (Rs++[R])
 | s,[],[],R,pw,_,h1,h2=>⟨⋯,rfl,h1,h2,trivial⟩
 | s,q::p,R0::Rs,R,pw,h,h1,h2=>by
  obtain⟨g1,g2,g3,g4,g5⟩:=h;have z:=PM.snoc (pw:=pw) g5 h1 h2;refine⟨g1,g2,g3,g4,?_⟩;rw[show s+(R0::Rs).flatten.length=s+R0.length+Rs.flatten.length by simp;lia];exact z
 | _,[],_::_,_,_,h,_,_=>h.elim
 | _,_::_,[],_,_,h,_,_=>h.elim
def PM.pow:∀{s:Nat}{p p':List (Nat×Nat×Nat)}{Rs:List (List Keyed)},PM lt s p Rs->(p'.map λq=>(q.1,q.2.1))=(p.map λq=>(q.1,q.2.1))->PM lt s p' Rs
 | _,[],[],[],h,_=>trivial
 | s,q::p,q'::p',R::Rs,h,e=>by
  simp only[Zy,List.cons.injEq,Prod.mk.injEq]at e;obtain⟨g1,g2,g3,g4,g5⟩:=h;exact⟨e.1.1.trans g1,e.1.2.trans g2,g3,g4,PM.pow g5 e.2⟩
 | _,[],_::_,_,_,e=>by simp at e
 | _,_::_,[],_,_,e=>by simp at e
 | _,[],[],_::_,h,_=>h.elim
 | _,_::_,_::_,[],h,_=>h.elim
end
section
variable {ω:WdS}{lt:Keyed->Keyed->Bool}{P:Keyed->Prop}
structure SrI (lt:Keyed->Keyed->Bool) (a₀:Array Keyed) (Z:List Keyed) (st:SortSt):Prop where
 kind:kindOf st=oneType'
 failed:failedOf st=none
 perm:(arrOf st).Perm a₀
 runs:∃Rs,(arrOf st).toList=Rs.flatten++Z/\PM lt 0 (pendingOf st).toList Rs
def Qb4.list{arr:Array Keyed}{lo n:Nat}(h:Qb4 lt arr lo (lo+n)):QaC lt ((arr.toList.drop lo).take n):=by
 unfold QaC;rw[Zan];intro p q hp hq hpq;rw[ZP,ZZ,Zo]at hp hq;rw[List.getElem_take,List.getElem_take,List.getElem_drop,List.getElem_drop];refine h (lo+p) (lo+q) _ _ ⋯ ⋯ ⋯ ?_ ?_
 .rw[← ZA];exact Zg _
 .rw[← ZA];exact Zg _
def RB.take{a₀:Array Keyed}{lo:Nat}{pend:Array (Nat×Nat×Nat)}{st:SortSt}(h:RB a₀ lo pend st):(arrOf st).toList.take lo=a₀.toList.take lo:=by
 apply Zaq;intro k;by_cases hk:k<lo
 .rw[Zbm hk,Zbm hk,ZA,ZA];exact h.pre k hk
 .rw[Zz (by rw[ZP];lia),Zz (by rw[ZP];lia)]
def Qre(hL:Qec ω P lt)(hO:Qeo lt)(hr:∀x,lt x x=false){a₀:Array Keyed}{Z:List Keyed}{i:Nat}{st:SortSt}{Q:Bool->SortSt->Prop}(hP:∀x∈a₀.toList,P x)(hI:SrI lt a₀ Z st)(hi:i+1<(pendingOf st).size)(h:∀st',SrI lt a₀ Z st'->(pendingOf st').size+1=(pendingOf st).size->Q true st'):Wp ω (mergeAt' i) Q st:=by
 obtain⟨hk,hf,hp,Rs,e,pm⟩:=hI;have e1:(pendingOf st).toList[i]? =some (pendingOf st)[i]:=by rw[ZA];exact Zr ⋯
 have e2:(pendingOf st).toList[i+1]? =some (pendingOf st)[i+1]:=by rw[ZA];exact Zr ⋯
 obtain⟨L,X,Y,T,k1,k2,k3,k4,k5,k6,k7,k8,k9,k10,k11⟩:=pm.two e1 e2;generalize hq:(pendingOf st)[i]=q at *;generalize hq2:(pendingOf st)[i+1]=q2 at *;obtain⟨sa,na,pw⟩:=q;obtain⟨sb,nb,pw2⟩:=q2;dsimp only at k3 k4 k5 k6 k11;subst k4 k6 k5;have earr:(arrOf st).toList=L.flatten++(X++Y)++(T.flatten++Z):=by rw[e,k1];simp
 rw[ZA]at e1 e2;refine Qqk hL hO hr hk hf e1 e2 earr ⋯ rfl rfl k7 k8 (λx hx=>hP x ?_) k9 k10 λM st' hM hMg=>?_
 .rw[← earr]at hx;exact(Array.Perm.toList hp).mem_iff.mp hx
 obtain⟨m1,m2,m3,m4⟩:=hMg;have hlen:M.length=X.length+Y.length:=by rw[hM.1.length_eq,ZG]
 refine h st' ⟨m1.trans hk,m2.trans hf,?_,L++M::T,by rw[m3];simp,?_⟩ ?_
 .refine Array.perm_iff_toList_perm.mpr ?_;refine List.Perm.trans ?_ (Array.perm_iff_toList_perm.mp hp);rw[m3,earr];exact List.Perm.append_right _ (ZaM _ hM.1)
 .rw[m4];have z:=k11 M hlen hM.2;rw[Array.toList_eraseIdxIfInBounds,Array.toList_setIfInBounds];exact z
 .rw[← Zo,m4,Array.toList_eraseIdxIfInBounds,Array.toList_setIfInBounds,List.length_eraseIdx,ZaS,Zo,if_pos hi];lia
end
section
variable {ω:WdS}{lt:Keyed->Keyed->Bool}{P:Keyed->Prop}
def PM.mod{p:Array (Nat×Nat×Nat)}{Rs:List (List Keyed)}{i pw:Nat}(h:PM lt 0 p.toList Rs):PM lt 0 (p.modify i λx=>(x.1,x.2.1,pw)).toList Rs:=by
 refine h.pow ?_;rw[Array.toList_modify];apply Zaq;intro k;rw[Zk,Zk,List.getElem?_modify];cases p.toList[k]? with
 | none=>simp
 | some q=>by_cases z:i=k<;>simp[z]
def SrI.push{a₀:Array Keyed}{Z:List Keyed}{st:SortSt}(h:SrI lt a₀ Z st){lo k g:Nat}(hlo:lo+Z.length=a₀.size)(hk1:1<=k)(hk2:k<=Z.length)(hs:QaC lt (Z.take k)):SrI lt a₀ (Z.drop k) (SortSt.mk' (kindOf st) (arrOf st) ((pendingOf st).push (lo,k,0)) g (failedOf st)):=by
 obtain⟨hk,hf,hp,Rs,e,pm⟩:=h;have szr:Rs.flatten.length=lo:=by
  have:=hp.size_eq;rw[← Zo,e,ZG]at this;lia
 have lk:(Z.take k).length=k:=by rw[ZP];lia
 refine⟨hk,hf,hp,Rs++[Z.take k],?_,?_⟩
 .show(arrOf st).toList=_;rw[e];simp
 .have z:=pm.snoc (R:=Z.take k) (pw:=0) ⋯ hs;rw[lk,szr,ZaW]at z;show PM lt 0 ((pendingOf st).push (lo,k,0)).toList _;rw[Array.toList_push];exact z
def PM.small:∀{s:Nat}{p:List (Nat×Nat×Nat)}{Rs:List (List Keyed)},PM lt s p Rs->Rs.length<=Rs.flatten.length
 | _,[],[],_=>by simp
 | s,q::p,R::Rs,h=>by
  have:=PM.small h.2.2.2.2;have:=h.2.2.1;simp only[Zw,Zbk,ZG];lia
 | _,[],_::_,h=>h.elim
 | _,_::_,[],h=>h.elim
def RB.si{a₀:Array Keyed}{lo:Nat}{st1 st3:SortSt}{Rs:List (List Keyed)}{Z:List Keyed}(hB:RB (arrOf st1) lo (pendingOf st1) st3)(e:(arrOf st1).toList=Rs.flatten++Z)(szr:Rs.flatten.length=lo)(pm:PM lt 0 (pendingOf st1).toList Rs)(hp:(arrOf st1).Perm a₀):SrI lt a₀ ((arrOf st3).toList.drop lo) st3:=by
 refine⟨hB.kind,hB.failed,hB.perm.trans hp,Rs,?_,by rw[hB.pend];exact pm⟩;have z:=hB.take;rw[e,Zbv szr]at z;rw[← z,Zai]
def RB.si2{a₀:Array Keyed}{lo k:Nat}{st1 st3:SortSt}{Rs:List (List Keyed)}{Z:List Keyed}(hB:RB (arrOf st1) lo (pendingOf st1) st3)(hseg:Qb4 lt (arrOf st3) lo (lo+k))(e:(arrOf st1).toList=Rs.flatten++Z)(szr:Rs.flatten.length=lo)(pm:PM lt 0 (pendingOf st1).toList Rs)(hp:(arrOf st1).Perm a₀):∃Z3,SrI lt a₀ Z3 st3/\QaC lt (Z3.take k)/\Z3.length=a₀.size-lo:=
 ⟨_,hB.si e szr pm hp,hseg.list,by rw[ZZ,Zo,hB.size,hp.size_eq]⟩
def QvF(hL:Qec ω P lt)(hO:Qeo lt)(hr:∀x,lt x x=false){a₀:Array Keyed}{st:SortSt}{Q:Unit->SortSt->Prop}(hP:∀x∈a₀.toList,P x)(hI:SrI lt a₀ a₀.toList st)(hp0:pendingOf st= #[])(h2:2<=a₀.size)
  (h:∀st',failedOf st'=none->(arrOf st').Perm a₀->QaC lt (arrOf st').toList->Q () st'):Wp ω sortRuns' Q st:=by
 have sz:(arrOf st).size=a₀.size:=hI.perm.size_eq;unfold sortRuns';refine QE (QdD ?_);rw[sz];refine QaS (λc st'=>c.1=none/\SrI lt a₀ [] st') (λi c st'=>∃lo Z,c=(none,lo)/\SrI lt a₀ Z st'/\lo+Z.length=a₀.size/\i<=lo) ⟨0,_,rfl,hI,⋯,⋯⟩ ?_ ?_ ?_
 .rintro i c st1 Q1 hin ⟨lo,Z,rfl,hI,hlo,hil⟩ hd hy;refine QD (λhl=>Qq (hd _ _ ?_)) λhl=>?_
  .have:Z=[]:=Zax (by have hl:a₀.size<=lo:=hl;lia);subst this;exact⟨rfl,hI⟩
  have hl:¬a₀.size<=lo:=hl;obtain⟨hk,hf,hp,Rs,e,pm⟩:=id hI;have szr:Rs.flatten.length=lo:=by
   have:=hp.size_eq;rw[← Zo,e,ZG]at this;lia
  have hB:RB (arrOf st1) lo (pendingOf st1) st1:=⟨hk,hf,rfl,Array.Perm.refl _,λ_ _=>rfl⟩;have hP1:∀x∈(arrOf st1).toList,P x:=λx hx=>hP x ((Array.Perm.toList hp).mem_iff.mp hx);have sz1:(arrOf st1).size=a₀.size:=hp.size_eq;refine QE (Qsz hL hO hr hP1 hB (show 1<=a₀.size-lo by lia) ⋯ λn st2 n1 n2 hB2 hseg=>?_);dsimp-zeta only
  extract_lets-underBinder nn jp
  have hj:∀(m:Nat) (st3:SortSt),1<=m->m<=a₀.size-lo->RB (arrOf st1) lo (pendingOf st1) st3->Qb4 lt (arrOf st3) lo (lo+m)->Wp ω (jp () m) Q1 st3:=λm st3 k1 k2 hB3 hseg3=>by
   refine QE (QdD ?_);obtain⟨Z3,hI3,hR,lz⟩:=hB3.si2 hseg3 e szr pm hp;have up:∀{st5:SortSt}{g:Nat},SrI lt a₀ Z3 st5->∃lo' Z',(none,lo+m)=((none:Option Unit),lo')/\SrI lt a₀ Z' (SortSt.mk' (kindOf st5) (arrOf st5) ((pendingOf st5).push (lo,m,0)) g (failedOf st5))/\lo'+Z'.length=a₀.size/\i+1<=lo':=λhI=>⟨_,_,rfl,hI.push ⋯ k1 ⋯ hR,by rw[ZZ];lia,ZJ (Zbs hil) (Zch k1 lo)⟩;split
   .rename_i s1 m1 p1 hbk;refine QaS (λc st'=>c=(none,())/\SrI lt a₀ Z3 st') (λ_ c st'=>c=(none,())/\SrI lt a₀ Z3 st') ⟨rfl,hI3⟩ ?_ (λc st h=>h) ?_
    .rintro i c st4 Q2 hin ⟨rfl,hI⟩ hd hy;refine QE (QdD ?_);dsimp only;by_cases hz:(pendingOf st4).size>1
     .rw[if_pos hz,Zr (show(pendingOf st4).size-2<(pendingOf st4).size by lia)];exact QD (λ_=>Qq (hd _ _ ⟨rfl,hI⟩)) λ_=>QE (Qre hL hO hr hP hI (show(pendingOf st4).size-2+1<(pendingOf st4).size by lia) λst5 hI5 _=>Qq (hy _ _ ⟨rfl,hI5⟩))
     .rw[if_neg hz];exact Qq (hd _ _ ⟨rfl,hI⟩)
    rintro c st4 ⟨rfl,x1,x2,x3,Rs4,x4,x5⟩;exact QE (QfA (QE (QfA (Qq (hy _ _ (up (st5:=SortSt.mk' (kindOf st4) (arrOf st4) ((pendingOf st4).modify ((pendingOf st4).size-1) λx=>(x.1,x.2.1,_)) (gallopOf st4) (failedOf st4)) ⟨x1,x2,x3,Rs4,x4,x5.mod⟩))))))
   .exact QE (QfA (Qq (hy _ _ (up hI3))))
  clear_value jp
  refine QD (λhm=>QhH (QE (QrX hL hO hr hP1 hB2 hseg n1 (show n<=min (a₀.size-lo) (minRun' a₀.size a₀.size 0)from Nat.le_min.mpr ⟨n2,ZaB hm⟩) ⋯ λst3 hB3 hseg3=>QD (λz=>by cases z) λ_=>hj _ st3 ?_ (ZcN _ _) hB3 hseg3))) λhm=>hj n st2 n1 n2 hB2 hseg;exact Nat.le_min.mpr ⟨⋯,ZJ n1 (ZaB hm)⟩
 .rintro c st1 ⟨lo,Z,rfl,hI,hlo,hil⟩;have:Z=[]:=Zax ⋯;subst this;exact⟨rfl,hI⟩
 rintro⟨c1,c2⟩ st2 ⟨hc,hI2⟩;dsimp only at hc;subst hc;dsimp only;have len0:(pendingOf st2).size<=a₀.size:=by
  obtain⟨_,_,x3,Rs,x4,x5⟩:=hI2;have y1:=x5.len;have y2:=x5.small;have y3:=x3.size_eq;rw[← Zo,x4,ZV]at y3;have y4:(pendingOf st2).size=Rs.length:=by rw[← y1,Zo]
  have y5:Rs.flatten.length=a₀.size:=y3;show(pendingOf st2).size<=a₀.size;rw[y4,← y5];exact y2
 refine QaS (λc st'=>c=(none,())/\SrI lt a₀ [] st'/\(pendingOf st').size<=1) (λi c st'=>c=(none,())/\SrI lt a₀ [] st'/\(pendingOf st').size+i<=a₀.size) ⟨rfl,hI2,⋯⟩ ?_ (λc st ⟨h1,h3,h4⟩=>⟨h1,h3,⋯⟩) ?_
 .rintro i c st4 Q2 hin ⟨rfl,hI,hz⟩ hd hy;refine QE (QdD ?_);by_cases h1:(pendingOf st4).size<=1
  .rw[if_pos h1];exact Qq (hd _ _ ⟨rfl,hI,h1⟩)
  rw[if_neg h1];refine QE (Qre hL hO hr hP hI ?_ λst5 hI5 h5=>Qq (hy _ _ ⟨rfl,hI5,⋯⟩));have any:∀(c:Prop) [Decidable c] (m:Nat),1<m->(if c then m-2-1 else m-2)+1<m:=λc _ m hm=>by split<;>lia
  exact any _ (pendingOf st4).size ⋯
 rintro c st3 ⟨rfl,hI3,h1⟩;obtain⟨_,x2,x3,Rs,x4,x5⟩:=hI3;refine Qq (h _ x2 x3 ?_);have y1:=x5.len;rw[Zo]at y1;rw[x4,ZV]
 match Rs,x5,y1 with
 | [],_,_=>exact List.Pairwise.nil
 | [R],x5,_=>
  cases hpl:(pendingOf st3).toList with
  | nil=>rw[hpl]at x5;exact x5.elim
  | cons q p=>
   rw[hpl]at x5;simpa using x5.2.2.2.1
 | _::_::_,_,y1=>simp only[Zw]at y1;exact absurd h1 (by show ¬(pendingOf st3).size<=1;lia)
end
end HS
namespace HS
open PySem PyProof.Rows
section
open PySem.SeqAt
open PySem.AutoSeq1 (wpAny_loadPart')
open PySem.MeetsSeq PySem.MeetsSeq2 PySem.MeetsSeq3
def Qtj(l b:Addr)(items items2:Array Value)(n n2:Nat)(dd dd2:Option Addr)(sl sl2:Array (Option Value))(ns ms:List Int)(hi:IntsAre items.toList ns)(hj:IntsAre items2.toList ms)(k:Nat):
  ∀i:Nat,items.size-i=k->i<=items.size->i<=items2.size->Meets (Builtin.«list.__eq__.loop» ⟨[.ref l,.ref b,rawInt i,rawInt 0],[]⟩)
   (λ_ R s=>s.heap.get? l=some {cls:= .type "list",dict:=dd,data:= .seq items n,slots:=sl}/\s.heap.get? b=some {cls:= .type "list",dict:=dd2,data:= .seq items2 n2,slots:=sl2}/\R (.ok (.ret (.bool (HT.lexLt (ns.drop i) (ms.drop i))))) s):=by
 have z1:items.size=ns.length:=by rw[← hi.length];simp
 have z2:items2.size=ms.length:=by rw[← hj.length];simp
 induction k with
 | zero=>
  intro i hk b1 b2 prog w A R s h;obtain⟨hp,g,d,tk,os⟩:=s;obtain⟨hl,hb,h⟩:=h
  wp_walk using wpAny_loadPart' hl,wpAny_loadPart' hb
  have hi1:items[((i:Nat):Int).toNat]? =none:=by simp;lia
  rw[hi1]
  wp_walk using wpAny_loadPart' hl,wpAny_loadPart' hb
  show R (.ok (.ret (.bool (decide (items.size<items2.size))))) _;have e:HT.lexLt (ns.drop i) (ms.drop i)=decide (items.size<items2.size):=by
   rw[ZaY (by lia:ns.length<=i)];cases hm:ms.drop i with
   | nil=>rw[HT.Qnb];exact(decide_eq_false (by have:=congrArg List.length hm;rw[ZZ,List.length_nil]at this;lia)).symm
   | cons y ys=>rw[HT.Qk0];exact(decide_eq_true (by have:=congrArg List.length hm;rw[ZZ,Zw]at this;lia)).symm
  rw[e]at h;exact h
 | succ k ih=>
  intro i hk b1 b2 prog w A R s h;obtain⟨hp,g,d,tk,os⟩:=s;obtain⟨hl,hb,h⟩:=h
  wp_walk using wpAny_loadPart' hl,wpAny_loadPart' hb
  have hlt:i<items.size:= ⋯
  have hi1:items[((i:Nat):Int).toNat]? =some items[i]:=by simp[hlt]
  have hc:((i:Int)+1)=((i+1:Nat):Int):=by push_cast;rfl
  obtain⟨x,t,ex,nx⟩:=hi.at i items[i] (by simp[hlt]);have dn:ns.drop i=x::ns.drop (i+1):=by rw[ZaL ⋯];rw[Zg ⋯]at nx;rw[Option.some.inj nx]
  by_cases hlt2:i<items2.size
  .have hi2:items2[((i:Nat):Int).toNat]? =some items2[i]:=by simp[hlt2]
   obtain⟨y,u,ey,ny⟩:=hj.at i items2[i] (by simp[hlt2]);have dm:ms.drop i=y::ms.drop (i+1):=by rw[ZaL ⋯];rw[Zg ⋯]at ny;rw[Option.some.inj ny]
   rw[dn,dm,HT.Qbq]at h;rw[hi1,hi2,ex,ey];obtain⟨e,he,hiff⟩:=HT.Qv2 A.in1 ⟨hp,g,d,tk,os⟩ x t y u;refine wpAny_bind (he prog w _ _ ?_);cases e with
   | true=>
    rw[if_pos (hiff.mp rfl)]at h
    wp_walk
    rw[hc];exact⟨plainId_quiet plain_eq_loop _,codeAny_builtin entry_eq_loop (by
     rw[Around.under_plainId plain_eq_loop _];exact ih (i+1) ⋯ ⋯ ⋯ prog w A R _ ⟨hl,hb,h⟩)⟩
   | false=>
    rw[if_neg (λq=>absurd (hiff.mpr q) Bool.false_ne_true)]at h;have hri:=HT.Qvb A.in1 ⟨hp,g,d,tk,os⟩ x t y u prog w
    wp_walk using wpAny_loadPart' hl,wpAny_loadPart' hb
    rw[hi1,hi2,ex,ey]
    wp_walk using hri
    simpa using h
  .have hi2:items2[((i:Nat):Int).toNat]? =none:=by simp;lia
   rw[hi1,hi2]
   wp_walk using wpAny_loadPart' hl,wpAny_loadPart' hb
   show R (.ok (.ret (.bool (decide (items.size<items2.size))))) _;rw[dn,ZaY (by lia:ms.length<=i),HT.QlB]at h;rw[decide_eq_false ⋯];exact h
def QhM(l b:Addr)(items items2:Array Value)(n n2:Nat)(dd dd2:Option Addr)(sl sl2:Array (Option Value))(ns ms:List Int)(hi:IntsAre items.toList ns)(hj:IntsAre items2.toList ms):
  Meets (Builtin.«list.__lt__» ⟨[.ref l,.ref b],[]⟩)
   (λ_ R s=>s.heap.get? l=some {cls:= .type "list",dict:=dd,data:= .seq items n,slots:=sl}/\s.heap.get? b=some {cls:= .type "list",dict:=dd2,data:= .seq items2 n2,slots:=sl2}/\R (.ok (.ret (.bool (HT.lexLt ns ms)))) s):=by
 intro prog w A R s h;obtain⟨hp,g,d,tk,os⟩:=s;obtain⟨hl,hb,h⟩:=h;have f3:=AutoSeq1.sub_list_list
 wp_walk using wpAny_loadPart' hl,wpAny_loadPart' hb
 exact⟨plainId_quiet plain_eq_loop _,codeAny_builtin entry_eq_loop (by
  rw[Around.under_plainId plain_eq_loop _];exact Qtj l b items items2 n n2 dd dd2 sl sl2 ns ms hi hj _ 0 rfl (ZS _) (ZS _) prog w A R _ ⟨hl,hb,h⟩)⟩
end
section
variable {prog:Program}{w:World}{A:Around}{E:Value->Shared->Prop}{s:Shared}
def QAX{l b:Addr}{items items2:Array Value}{ns ms:List Int}{Q:Value->Shared->Prop}(hl:s.heap.IsList l items)(hb:s.heap.IsList b items2)(hi:IntsAre items.toList ns)(hj:IntsAre items2.toList ms)
  (hu:A.units<cLine) (h:Q (.bool (HT.lexLt ns ms)) s):wpAny (model prog w) A (compareOp .Lt (.ref l) (.ref b)) Q E s:=by
 obtain⟨⟨cls,dd,data,sl⟩,ho,hc,n,hd⟩:=id hl;obtain⟨⟨cls2,dd2,data2,sl2⟩,ho2,hc2,n2,hd2⟩:=id hb;simp only at hc hd hc2 hd2;subst hc hd hc2 hd2
 exact richCompare_meets_room (op:= .Lt) ⟨_,ho,rfl⟩ ⟨_,ho2,rfl⟩ PySem.F.slot_list_lt PySem.F.entry_list_lt (PySem.F.args_list_lt_2 _ _) (QhM l b items items2 n n2 dd dd2 sl sl2 ns ms hi hj)
  ⟨ho,ho2,show Value.bool (HT.lexLt ns ms)≠Value.notImplemented/\Q (.bool (HT.lexLt ns ms)) s from⟨(λx=>nomatch x),h⟩⟩ hu
def QtJ{l b:Addr}{items items2:Array Value}{ns ms:List Int}{Q:Bool->Shared->Prop}(hl:s.heap.IsList l items)(hb:s.heap.IsList b items2)(hi:IntsAre items.toList ns)(hj:IntsAre items2.toList ms)
  (hu:A.units<cLine) (h:Q (HT.lexLt ns ms) s):wpAny (model prog w) A (keyLt' oneType' (.ref l) (.ref b)) Q E s:=by
 obtain⟨⟨cls,dd,data,sl⟩,ho,hc,n,hd⟩:=id hl;obtain⟨⟨cls2,dd2,data2,sl2⟩,ho2,hc2,n2,hd2⟩:=id hb;simp only at hc hd hc2 hd2;subst hc hd hc2 hd2;rw[keyLt'_oneType,oneLt'_eq];simp only[if_true];refine wpAny_bind (wpAny_cRoomFor hu ?_);refine wpAny_bind (wpAny_callSpecialIfBound?_slot (T:= "list") ⟨_,ho,rfl⟩ PySem.F.slot_list_lt (call_meets PySem.F.slot_list_lt ⟨_,ho,rfl⟩ PySem.F.entry_list_lt (PySem.F.args_list_lt_2 _ _) (QhM l b items items2 n n2 dd dd2 sl sl2 ns ms hi hj) ⟨ho,ho2,?_⟩));exact wpAny_truthy_bool h
end
end HS
namespace HS
open PySem PyProof.Rows PySem.W
def Qlv:∀x:List Int,HT.lexLt x x=false
 | []=>rfl
 | a::x=>by rw[HT.Qbq,if_pos rfl];exact Qlv x
def Qj4:∀x y:List Int,HT.lexLt x y=true->HT.lexLt y x=false
 | [],[],_=>rfl
 | [],_::_,_=>rfl
 | _::_,[],h=>by cases h
 | a::x,b::y,h=>by
  rw[HT.Qbq]at h ⊢;by_cases e:a=b
  .rw[if_pos e]at h;rw[if_pos e.symm];exact Qj4 x y h
  .rw[if_neg e]at h;rw[if_neg (λq=>e q.symm)];have:=of_decide_eq_true h;exact decide_eq_false ⋯
def Qoh:∀x y z:List Int,HT.lexLt y x=false->HT.lexLt z y=false->HT.lexLt z x=false
 | [],_,[],_,_=>rfl
 | [],_,_::_,_,_=>rfl
 | _::_,[],_,h,_=>by cases h
 | _::_,_::_,[],_,h=>by cases h
 | a::x,b::y,c::z,h,k=>by
  rw[HT.Qbq]at h k ⊢;by_cases e:b=a
  .rw[if_pos e]at h;by_cases e2:c=b
   .rw[if_pos e2]at k;rw[if_pos (e2.trans e)];exact Qoh x y z h k
   .rw[if_neg e2]at k;rw[if_neg (λq=>e2 (q.trans e.symm))];have:=of_decide_eq_false k;exact decide_eq_false ⋯
  .rw[if_neg e]at h;have:=of_decide_eq_false h;by_cases e2:c=b
   .rw[if_neg (λq=>e (e2.symm.trans q))];exact decide_eq_false ⋯
   .rw[if_neg e2]at k;have:=of_decide_eq_false k;rw[if_neg ⋯];exact decide_eq_false ⋯
def QtM:∀x y:List Int,HT.lexLt x y=false->HT.lexLt y x=false->x=y
 | [],[],_,_=>rfl
 | [],_::_,h,_=>by cases h
 | _::_,[],_,h=>by cases h
 | a::x,b::y,h,k=>by
  rw[HT.Qbq]at h k;by_cases e:a=b
  .rw[if_pos e]at h;rw[if_pos e.symm]at k;rw[e,QtM x y h k]
  .rw[if_neg e]at h;rw[if_neg (λq=>e q.symm)]at k;have:=of_decide_eq_false h;have:=of_decide_eq_false k;lia
def Qg4(vs:List Value):(pairsOf vs).toList=vs.map λv=>(v,v):=by
 have:∀l:List Value,l.zip l=l.map λv=>(v,v):=λl=>by
  induction l with
  | nil=>rfl
  | cons x l ih=>rw[List.zip_cons_cons,ih];rfl
 rw[← this];simp[pairsOf]
section
variable {prog:Program}{w:World}{A:Around}{E:Value->Shared->Prop}{s:Shared}
def Qwa{a:Addr}{vs:List Value}{n:Nat}{P:PySem.Fin->Shared->Prop}(ho:s.heap.get? a=some (seqObj "list" vs.toArray n))(hz:vs.length<=sizeLine)(f:Value->List Int)
  (hv:∀v∈vs,∃l items,v= .ref l/\l≠a/\s.heap.IsList l items/\IntsAre items.toList (f v)) (hu:A.units<cLine)
  (h:∀out:Array Value,out.toList.Perm vs->out.toList.Pairwise (λx y=>HT.lexLt (f y) (f x)=false)->P (.done (.ret .none)) {s with heap:=sortedHeap s.heap a vs out}):
  wpAny (model prog w) A (Builtin.«list.sort» ⟨[.ref a],[]⟩) P E s:=by
 rw[list_sort_plain];have ha:a<s.heap.objs.size:=ZW ho;refine wpAny_bind (listItems_at ho rfl ?_);refine wpAny_bind (listUpdate_at ho rfl ?_ (by rw[Zm];exact hz) (ZS _));obtain⟨e1,ho1⟩:∃e1,(s.heap.update a (Obj.mapSeq λ_=>(#[]:Array Value))).get? a=some (seqObj "list" #[] e1):=⟨_,get?_update_seq ho λ_=> #[]⟩;refine wpAny_bind (seqEpoch_at ho1 rfl ?_);refine wpAny_bind (wpAny_newTuple ?_ (by show vs.length<=_;exact hz));refine wpAny_bind (wpAny_newList ?_ (ZS _));refine wpAny_holding ?_;have keep:∀b o,b≠a->s.heap.get? b=some o->(((s.heap.update a (Obj.mapSeq λ_=>(#[]:Array Value))).push (seqObj "tuple" vs.toArray 0)).push (seqObj "list" #[] 0)).get? b=some o:=λb o hb q=>by
  have hlt:b<s.heap.objs.size:=ZW q;rw[Heap.get?_push_ne _ _ _ (by rw[size_push',Heap.size_update];exact Zad (Zau hlt)),Heap.get?_push_ne _ _ _ (by rw[Heap.size_update];exact Zad hlt),Heap.get?_update_ne _ _ _ _ hb];exact q
 have ho6:(((s.heap.update a (Obj.mapSeq λ_=>(#[]:Array Value))).push (seqObj "tuple" vs.toArray 0)).push (seqObj "list" #[] 0)).get? a=some (seqObj "list" #[] e1):=by
  rw[Heap.get?_push_ne _ _ _ (by rw[size_push',Heap.size_update];exact Zad (Zau ha)),Heap.get?_push_ne _ _ _ (by rw[Heap.size_update];exact Zad ha)];exact ho1
 show wpAny (model prog w) A _ P E {s with heap:=((s.heap.update a (Obj.mapSeq λ_=>(#[]:Array Value))).push (seqObj "tuple" vs.toArray 0)).push (seqObj "list" #[] 0)};dsimp only;have hsz:vs.toArray.size=vs.length:= ⋯
 by_cases h2:vs.toArray.size<2
 .rw[if_pos h2,if_pos h2];refine wpAny_bind (wpAny_pure ?_);rw[StateT.run_pure];refine wpAny_bind (wpAny_pure ?_);dsimp only;refine wpAny_bind (seqEpoch_at ho6 rfl ?_);refine wpAny_bind (listUpdate_at ho6 rfl ?_ (ZS _) (by rw[Array.size_map];show(pairsOf vs).size<=_;rw[pairsOf_size];lia));simp only[bne_self_eq_false,ZaG,if_false];have eo:((arrOf (SortSt.mk' general' (vs.toArray.zip vs.toArray) #[] 7 none)).map (λx:Keyed=>x.2)).toList=vs:=by
   show((vs.toArray.zip vs.toArray).map (·.2)).toList=vs;simp[List.map_snd_zip]
  suffices hh:(vs.Pairwise λx y=>HT.lexLt (f y) (f x)=false) by
   exact wpAny_pure (h ((arrOf (SortSt.mk' general' (vs.toArray.zip vs.toArray) #[] 7 none)).map (λx:Keyed=>x.2)) (by rw[eo]) (by rw[eo];exact hh))
  match vs,hsz,h2 with
  | [],_,_=>exact .nil
  | [_],_,_=>exact List.pairwise_singleton _ _
  | _::_::_,hs,h2=>rw[hs]at h2;simp only[Zw]at h2;lia
 .rw[if_neg h2,if_neg h2];have h2':2<=vs.length:= ⋯
  refine wpAny_bind (kas_kind (T:= .type "list") h2' (λv hv'=>?_) rfl rfl ?_)
  .obtain⟨l,items,rfl,hl,⟨o,hl1,hl2,hl3⟩,_⟩:=hv v hv';exact λ_ _ _ s' k q=>wpAny_typeOf (T:= "list") ⟨o,k _ _ (keep _ _ hl hl1),hl2⟩ q
  have hL:Qec ⟨prog,w,A,E,{s with heap:=((s.heap.update a (Obj.mapSeq λ_=>(#[]:Array Value))).push (seqObj "tuple" vs.toArray 0)).push (seqObj "list" #[] 0)}⟩ (λx=>x.1∈vs) (λx y=>HT.lexLt (f x.1) (f y.1)):=by
   rintro⟨x,x'⟩ ⟨y,y'⟩ E Q hx hy hq;obtain⟨l,items,rfl,hl,⟨o,hl1,hl2,hl3⟩,hl4⟩:=hv x hx;obtain⟨l',items',rfl,hl',⟨o',hl1',hl2',hl3'⟩,hl4'⟩:=hv y hy;exact QtJ ⟨o,keep _ _ hl hl1,hl2,hl3⟩ ⟨o',keep _ _ hl' hl1',hl2',hl3'⟩ hl4 hl4' hu hq
  refine wpAny_bind (wpAny_mono (QvF (st:=SortSt.mk' oneType' (vs.toArray.zip vs.toArray) #[] 7 none) (a₀:=pairsOf vs) (Q:=λ_ st'=>failedOf st'=none/\(arrOf st').Perm (pairsOf vs)/\QaC (λx y=>HT.lexLt (f x.1) (f y.1)) (arrOf st').toList) hL ⟨λx y z h1 h2=>Qoh _ _ _ h1 h2,λx y h=>Qj4 _ _ h⟩ (λx=>Qlv _) (λx hx=>?_) ⟨rfl,rfl,Array.Perm.refl _,[],rfl,trivial⟩ rfl (by rw[pairsOf_size];exact h2') λst' a2 a3 a4=>⟨a2,a3,a4⟩) ?_ λ_ _ e=>e)
  .rw[Qg4]at hx;obtain⟨v,h1,rfl⟩:=Zs.mp hx;exact h1
  rintro⟨⟨⟩,st'⟩ s' ⟨rfl,hf,hp,hs⟩;dsimp only;refine wpAny_bind (seqEpoch_at ho6 rfl ?_);refine wpAny_bind (listUpdate_at ho6 rfl ?_ (ZS _) (by refine ZJ (ZcH ((Array.size_map ..).trans (hp.size_eq.trans (pairsOf_size _)))) ?_;lia));rw[hf];simp only[bne_self_eq_false,ZaG,if_false];refine wpAny_pure (h _ ?_ ?_)
  .rw[Array.toList_map];have:=(Array.perm_iff_toList_perm.mp hp).map (λx=>x.2);rw[Qg4,ZN]at this;have e:((λx:Keyed=>x.2) ∘ λv:Value=>(v,v))=id:=rfl;rw[e,List.map_id]at this;exact this
  .rw[Array.toList_map,ZX];have dup:∀x∈(arrOf st').toList,x.1=x.2:=λx hx=>by
    have:=(Array.perm_iff_toList_perm.mp hp).mem_iff.mp hx;rw[Qg4]at this;obtain⟨v,h1,h2⟩:=Zs.mp this;rw[← h2]
   exact(List.Pairwise.and_mem.mp hs).imp λ{x y} q=>by rw[← dup x q.1,← dup y q.2.1];exact q.2.2
end
end HS
namespace HS
open PySem PyProof.Rows L2
section
variable {prog:Program}{w:World}{A:Around}{E:Value->Shared->Prop}{s:Shared}
def QrP{l:Addr}{vs:List Value}{Q:Value->Shared->Prop}(hl:s.heap.IsList l vs.toArray)(hz:vs.length<=sizeLine)(f:Value->List Int)
  (hv:∀v∈vs,∃l items,v= .ref l/\s.heap.IsList l items/\IntsAre items.toList (f v)) (hu:A.units+2<cLine)
  (h:∀out:Array Value,out.toList.Perm vs->out.toList.Pairwise (λx y=>HT.lexLt (f y) (f x)=false)->Q (.ref (s.heap.objs.size+1)) {s with heap:=sortedAll s.heap vs out}):
  wpAny (model prog w) A (call (.builtin "sorted") [.ref l]) Q E s:=by
 refine Calls.call_function_entry kind_sorted plain_sorted entry_sorted (args_sorted1 _) ?_;unfold Builtin.«sorted»;refine wpAny_bind (m:=checkCount "sorted" 1 1 _) (wpAny_pure ?_);refine wpAny_bind (collect_list hl ?_ hz);refine wpAny_bind (wpAny_newList ?_ hz);have hsz:((s.heap.push (seqObj "list" #[] 0)).update s.heap.objs.size (Obj.mapSeq (· ++vs.toArray))).objs.size=s.heap.objs.size+1:=by
  rw[Heap.size_update,size_push']
 have hoL:(((s.heap.push (seqObj "list" #[] 0)).update s.heap.objs.size (Obj.mapSeq (· ++vs.toArray))).push (seqObj "list" vs.toArray 0)).get? (s.heap.objs.size+1)=some (seqObj "list" vs.toArray 0):=by
  rw[← hsz];exact ZF _ rfl
 have keep:∀b o,s.heap.get? b=some o->(((s.heap.push (seqObj "list" #[] 0)).update s.heap.objs.size (Obj.mapSeq (· ++vs.toArray))).push (seqObj "list" vs.toArray 0)).get? b=some o:=λb o q=>by
  have hlt:b<s.heap.objs.size:=ZW q;rw[Heap.get?_push_ne _ _ _ (by rw[hsz];exact Zad (Zau hlt)),Heap.get?_update_ne _ _ _ _ (Zad hlt),Heap.get?_push_ne _ _ _ (Zad hlt)];exact q
 show wpAny _ _ _ _ _ {s with heap:=((s.heap.push (seqObj "list" #[] 0)).update s.heap.objs.size (Obj.mapSeq (· ++vs.toArray))).push (seqObj "list" vs.toArray 0)};rw[hsz];refine wpAny_bind (wpAny_holding (wpAny_call_entry slot_list_sort ⟨_,hoL,rfl⟩ entry_list_sort (Qwa hoL hz f (λv hv'=>?_) hu λout a1 a2=>⟨_,rfl,?_⟩) (args_list_sort _)))
 .obtain⟨l',items,rfl,⟨o,hl1,hl2⟩,hl4⟩:=hv v hv';exact⟨l',items,rfl,Zad (Zau (ZW hl1)),⟨o,keep _ _ hl1,hl2⟩,hl4⟩
 .exact wpAny_pure ⟨_,rfl,h out a1 a2⟩
end
noncomputable def Qiq:List D->Option (List (List Int))
 | []=>some []
 | d::ds=>(match d with | .lst xs=>Qa4 xs | _=>none).bind λr=>(Qiq ds).bind λq=>some (r::q)
noncomputable def Qe8(rs:List (List Int)):List D:=rs.map λr=> .lst (r.map .int)
def QmE:∀{ds:List D}{rs:List (List Int)},Qiq ds=some rs->ds=Qe8 rs
 | [],_,h=>by cases h;rfl
 | d::ds,rs,h=>by
  unfold Qiq at h;refine Qj h λr h1 h=>?_;refine Qj h λq h2 h=>?_;cases h;split at h1
  .rw[QeM h1,QmE h2];rfl
  .cases h1
noncomputable def Ql2(x:List Int):List (List Int)->List (List Int)
 | []=>[x]
 | y::l=>if HT.lexLt y x then y::Ql2 x l else x::y::l
noncomputable def QfP:List (List Int)->List (List Int)
 | []=>[]
 | x::l=>Ql2 x (QfP l)
def SrR(l:List (List Int)):Prop:=l.Pairwise λx y=>HT.lexLt y x=false
def Qh9(x:List Int):∀l,(Ql2 x l).Perm (x::l)
 | []=> .refl _
 | y::l=>by
  unfold Ql2;split
  .exact((Qh9 x l).cons y).trans (List.Perm.swap ..)
  .exact .refl _
def QeR:∀l,(QfP l).Perm l
 | []=> .refl _
 | x::l=>(Qh9 x (QfP l)).trans ((QeR l).cons x)
def Qo0(x:List Int):∀l,SrR l->SrR (Ql2 x l)
 | [],_=>List.pairwise_singleton _ _
 | y::l,h=>by
  have h1:=Zas.mp h;unfold Ql2;split
  .rename_i hxy;refine Zas.mpr ⟨λz hz=>?_,Qo0 x l h1.2⟩;rcases Zq.mp ((Qh9 x l).mem_iff.mp hz)with rfl | hz
   .exact Qj4 _ _ hxy
   .exact h1.1 z hz
  .rename_i hxy;have hxy:HT.lexLt y x=false:=by simpa using hxy
   refine Zas.mpr ⟨λz hz=>?_,h⟩;rcases Zq.mp hz with rfl | hz
   .exact hxy
   .exact Qoh _ _ _ hxy (h1.1 z hz)
def QfJ:∀l,SrR (QfP l)
 | []=> .nil
 | x::l=>Qo0 x _ (QfJ l)
def QiA:∀{l l':List (List Int)},SrR l->SrR l'->l.Perm l'->l=l'
 | [],l',_,_,p=>(List.Perm.nil_eq p)
 | x::l,[],_,_,p=>by have:=p.length_eq;simp at this
 | x::l,y::l',h,h',p=>by
  have h1:=Zas.mp h;have h2:=Zas.mp h';have e:x=y:=by
   have a:=p.mem_iff.mp (Zv);have b:=p.mem_iff.mpr (Zv);rcases Zq.mp a with a | a
   .exact a
   .rcases Zq.mp b with b | b
    .exact b.symm
    .exact QtM _ _ (h2.1 x a) (h1.1 y b)
  subst e;rw[QiA h1.2 h2.2 (List.Perm.cons_inv p)]
section
variable {K:Fgg}
def QrN{ds:List D}{rs:List (List Int)}(p:ds.Perm (Qe8 rs)):∃qs,ds=Qe8 qs/\qs.Perm rs:=by
 generalize e:Qe8 rs=es at p
 induction p generalizing rs with
 | nil=>cases rs with
  | nil=>exact⟨[],rfl,.refl _⟩
  | cons=>cases e
 | @cons x l l' p ih=>
  cases rs with
  | nil=>cases e
  | cons r rs=>
   simp only[Qe8,Zy]at e;injection e with e1 e2;obtain⟨qs,rfl,h⟩:=ih e2;exact⟨r::qs,by rw[← e1];rfl,h.cons r⟩
 | swap x y l=>
  match rs,e with
  | [],e=>cases e
  | [_],e=>simp only[Qe8,Zy,Zcj]at e;injection e with e1 e2;cases e2
  | r::r2::rs,e=>
   simp only[Qe8,Zy]at e;injection e with e1 e2;injection e2 with e2 e3;exact⟨r2::r::rs,by rw[← e1,← e2,← e3];rfl,List.Perm.swap ..⟩
 | trans p q ih1 ih2=>
  obtain⟨q2,rfl,h2⟩:=ih2 e;obtain⟨q1,rfl,h1⟩:=ih1 rfl;exact⟨q1,rfl,h1.trans h2⟩
end
section
variable {X:Cx}
noncomputable def QnR(fs:DA):DE:=λJ=>(fs J).bind λr=>match r.ds with
 | [.lst xs]=>(Qiq xs).bind λrs=>some ⟨.lst (Qe8 (QfP rs)),r.fr,r.M⟩
 | _=>none
noncomputable def Qd6(fs:DA):DE:=λJ=>match QfE fs J with
 | some r=>some r
 | none=>QnR fs J
def Qvf{fs:DA}{J:En}{r:HS.R}(h:QfE fs J=some r):Qd6 fs J=some r:=by
 unfold Qd6;rw[h]
end
end HS
namespace HS
open PySem PySem.Spec L2
noncomputable abbrev Cn:=Int
noncomputable abbrev cnD(i:Cn):D:= .int i
noncomputable abbrev cnV(i:Cn)(t:Tok):Value:= .int i t
structure FnR where
 n:Nat
 dfl:List D
 den:Den
structure Th where
 N:List Str
 sc:List (Str×NameKind)
 Γ:List (Str×FnR)
 cs:List (Str×Cn)
 tr:Stmt->Option DS:=λ_=>none
 te:Expr->Option DE:=λ_=>none
noncomputable def posOf(x:Str):List Str->Option Nat
 | []=>none
 | y::ys=>if x=y then some 0 else(posOf x ys).map (· +1)
def QfW:∀{x:Str}{ys:List Str}{i:Nat},posOf x ys=some i->ys[i]? =some x
 | x,[],i,h=>by cases h
 | x,y::ys,i,h=>by
  unfold posOf at h;split at h
  .rename_i e;cases h;subst e;rfl
  .obtain⟨j,hj,rfl⟩:=Zn.mp h;simpa using QfW hj
noncomputable def look{α:Type}(x:Str):List (Str×α)->Option α
 | []=>none
 | (y,a)::r=>if x=y then some a else look x r
def QbH{α:Type}:∀{x:Str}{l:List (Str×α)},look x l=l.lookup x
 | x,[]=>rfl
 | x,(y,a)::r=>by
  unfold look;rw[ZL];by_cases h:x=y
  .subst h;simp
  .rw[if_neg h,QbH];have:(x == y)=false:=by simpa using h
   rw[this]
noncomputable def Qwq:NameKind->Bool
 | .local =>true | .cell=>true | .free=>true | _=>false
noncomputable def Qwn:NameKind->Bool
 | .local =>true | .cell=>true | _=>false
noncomputable def QBa:NameKind->Bool
 | .globalImplicit=>true | _=>false
noncomputable def isFree:NameKind->Bool
 | .free=>true | _=>false
noncomputable def odd(x:Str):Bool:=decide (x= "__debug__") || decide (x= "__classdict__") || decide (x= "__name__")
noncomputable def Th.slot(Y:Th)(x:Str):Option Nat:=if((look x Y.sc).map Qwq).getD false && !odd x then posOf x Y.N else none
noncomputable def Th.QiK(Y:Th)(x:Str):Option Nat:=if((look x Y.sc).map Qwn).getD false && !odd x then posOf x Y.N else none
noncomputable def Th.gl(Y:Th)(x:Str):Bool:=((look x Y.sc).map QBa).getD false && !odd x
noncomputable def Qgp:List Str:=["range","enumerate","zip","len","list","min","max","sum","abs","isinstance","int","bool","tuple","str","divmod","sorted","any","all","set"]
section
def QlL(h:odd x=false):(x == ("__debug__" :Str))=false/\(x == ("__classdict__" :Str))=false/\x≠ "__name__" :=by
 unfold odd at h;simp only[Bool.or_eq_false_iff,decide_eq_false_iff_not]at h;exact⟨by simpa using h.1.1,by simpa using h.1.2,h.2⟩
end
noncomputable def QzA:Expr->Option Str
 | .Name x _=>some x
 | _=>none
noncomputable def QoV(Y:Th):Expr->Option Tg
 | .Name x _=>(Y.QiK x).map .nm
 | .Tuple es _ _=>((es.mapM QzA).bind λxs=>xs.mapM Y.QiK).map .tp
 | _=>none
noncomputable def Qv7(x:Str):Option String:=
 if x= "int" then some "int" else if x= "bool" then some "bool" else if x= "list" then some "list" else if x= "tuple" then some "tuple" else if x= "str" then some "str" else none
noncomputable def inner(Y:Th)(scope:Scope):Th:={N:=(scope.names.filter λy=>Qwq y.2).map (·.1),sc:=scope.names,Γ:=Y.Γ,cs:=Y.cs}
noncomputable def QkL(Y:Th)(scope:Scope):List (Option Nat):=(inner Y scope).N.map λx=>if((look x scope.names).map isFree).getD false then posOf x Y.N else none
noncomputable def Qog(Y:Th)(scope:Scope)(t:Tg):Bool:=(scope.kind == .function) && decide (inner Y scope).N.Nodup &&
 (scope.names.all λy=>match y.2 with
  | .cell=>decide (look y.1 scope.names=some .cell)
  | .local =>decide (look y.1 scope.names=some .local)
  | .free=>match look y.1 Y.sc with
   | some .cell=>true
   | some .free=>true
   | _=>false
  | _=>true) &&
 t.slots.all λj=>match (QkL Y scope)[j]? with
  | some (some _)=>false
  | _=>true
noncomputable def Qjx(Y:Th)(x:Str)(a:Expr):Option Expr:=match a with
 | .Call (.Name y _) [b] [] _=>if x= "list" /\y= "range" /\Y.gl y=true/\(look y Y.Γ).isNone=true then some b else none
 | _=>none
noncomputable def setArg(Y:Th)(x:Str)(a:Expr):Option Expr:=match a with
 | .Call (.Name y _) [b] [] _=>if x= "sorted" /\y= "set" /\Y.gl y=true/\(look y Y.Γ).isNone=true then some b else none
 | _=>none
noncomputable def Qsq(Y:Th)(ks:List (Option Expr))(vs:List Expr):Option (Option Expr):=match ks,vs with
 | [],[]=>some none
 | [some (.Call (.Name y _) [b] [] _)],[.Constant (.bool true) _ _]=>if y= "tuple" /\Y.gl y=true then some (some b)else none
 | _,_=>none
def QsJ{Y:Th}{ks:List (Option Expr)}{vs:List Expr}{o:Option Expr}(h:Qsq Y ks vs=some o):
  (ks=[]/\vs=[]/\o=none)∨∃p a cp j q,ks=[some (.Call (.Name "tuple" p) [a] [] cp)]/\vs=[.Constant (.bool true) j q]/\Y.gl "tuple" =true/\o=some a:=by
 unfold Qsq at h;split at h
 .cases h;exact .inl ⟨rfl,rfl,rfl⟩
 .split at h
  .rename_i hc;obtain⟨rfl,hg⟩:=hc;cases h;exact .inr ⟨_,_,_,_,_,rfl,rfl,hg,rfl⟩
  .cases h
 .cases h
noncomputable def QnO(Y:Th)(a i e:Expr):Option (Str×Expr):=match a with
 | .Name x _=>match i with
  | .Call (.Name y _) [b] [] _=>match e with
   | .Constant (.bool true) _ _=>if y= "tuple" /\Y.gl y=true then some (x,b)else none
   | _=>none
  | _=>none
 | _=>none
def Qrx{Y:Th}{a i e:Expr}{q:Str×Expr}(h:QnO Y a i e=some q):∃p p' cp j r,a= .Name q.1 p/\i= .Call (.Name "tuple" p') [q.2] [] cp/\e= .Constant (.bool true) j r/\Y.gl "tuple" =true:=by
 unfold QnO at h;split at h
 .split at h
  .split at h
   .split at h
    .rename_i hc;obtain⟨rfl,hg⟩:=hc;cases h;exact⟨_,_,_,_,_,rfl,rfl,rfl,hg⟩
    .cases h
   .cases h
  .cases h
 .cases h
noncomputable def QAB:List Expr->Bool
 | []=>true | [_]=>true | _=>false
section
noncomputable def Qco:DS:=λ_=>none
def Qhm:∀{n:Nat}{J:En}{o:Out},Qbt g fb n J=some o->Qbt g fb (n+1) J=some o
 | 0,_,_,h=>by cases h
 | n+1,J,o,h=>by
  unfold Qbt at h ⊢;refine Qj h λb hb h=>?_;rw[hb];cases b with
  | false=>exact h
  | true=>
   rw[if_pos rfl]at h;refine Qj h λo1 ho h=>?_;rw[Za,if_pos rfl,ho];cases o1 with
   | nx J2=>exact Qhm h
   | ct J2=>exact Qhm h
   | bk J2=>exact h
   | rt d fr=>exact h
def QnC(h:Qbt g fb n J=some o)(hm:n<=m):Qbt g fb m J=some o:=by
 induction hm with
 | refl=>exact h
 | step _ ih=>exact Qhm ih
open Classical in
noncomputable def Qc6(g:DT)(fb:DS):DS:=λJ=>if h:∃n,(Qbt g fb n J).isSome=true then Qbt g fb h.choose J else none
def Qds:Qc6 g fb J=some o↔∃n,Qbt g fb n J=some o:=by
 unfold Qc6;constructor
 .intro h;split at h
  .exact⟨_,h⟩
  .cases h
 .rintro⟨n,h⟩;have hx:∃n,(Qbt g fb n J).isSome=true:=⟨n,by rw[h];rfl⟩;rw[dif_pos hx];obtain⟨o',ho'⟩:=Zcs.mp hx.choose_spec;have h1:=QnC h (Nat.le_max_left n hx.choose);have h2:=QnC ho' (Nat.le_max_right n hx.choose);rw[h1]at h2;rw[ho',← h2]
def Qs7(g:DT)(fb:DS)(J:En):Qc6 g fb J=(g J).bind λb=>if b=true then(fb J).bind λo=>match o with
  | .nx J2=>Qc6 g fb J2
  | .ct J2=>Qc6 g fb J2
  | .bk J2=>some (.nx J2)
  | .rt d fr=>some (.rt d fr)
  else some (.nx J):=by
 apply Option.ext;intro o;rw[Qds];constructor
 .rintro⟨n,h⟩;cases n with
  | zero=>cases h
  | succ n=>
   unfold Qbt at h;refine Qj h λb hb h=>?_;rw[hb];cases b with
   | false=>exact h
   | true=>
    rw[if_pos rfl]at h;refine Qj h λo1 ho h=>?_;rw[Za,if_pos rfl,ho];cases o1 with
    | nx J2=>exact Qds.mpr ⟨n,h⟩
    | ct J2=>exact Qds.mpr ⟨n,h⟩
    | bk J2=>exact h
    | rt d fr=>exact h
 .intro h;refine Qj h λb hb h=>?_;cases b with
  | false=>exact⟨1,by unfold Qbt;rw[hb];exact h⟩
  | true=>
   rw[if_pos rfl]at h;refine Qj h λo1 ho h=>?_;cases o1 with
   | nx J2=>
    obtain⟨n,hn⟩:=Qds.mp h;exact⟨n+1,by unfold Qbt;rw[hb];rw[Za,if_pos rfl,ho];exact hn⟩
   | ct J2=>
    obtain⟨n,hn⟩:=Qds.mp h;exact⟨n+1,by unfold Qbt;rw[hb];rw[Za,if_pos rfl,ho];exact hn⟩
   | bk J2=>exact⟨1,by unfold Qbt;rw[hb];rw[Za,if_pos rfl,ho];exact h⟩
   | rt d fr=>exact⟨1,by unfold Qbt;rw[hb];rw[Za,if_pos rfl,ho];exact h⟩
noncomputable def Qd0(t:Tg)(fa:DE):DS:=λJ=>(fa J).bind λr=>(Qca t r.d (QaT r.norm.M J)).map .nx
end
end HS
namespace HS
open PySem PySem.Spec L2 PyProof.Rows
section
variable {X:Cx}{a b e:Expr}{fa fb:DE}{pf:DP}{x:Nat}{pos apos:Pos}
noncomputable def Qlh(x:Nat)(pf:DP):DS:=λJ=>match J[x]? with
 | some (some (d,true))=>(pf J).bind λis=>match Qak d is with
  | some (.lst _)=>some (.nx (J.set x (some (Qa2 is d (.lst []),true))))
  | _=>none
 | _=>none
noncomputable def QbB(xs:List α)(k:Nat)(y:α):List α:=xs.take k++y::xs.drop k
noncomputable def Qjw(x:Nat)(pf:DP)(fi fa:DE):DS:=λJ=>match J[x]? with
 | some (some (d,true))=>(pf J).bind λis=>(fi J).bind λri=>(fa J).bind λr0=>match Qak d is,ri.d with
  | some (.lst ds),.int i=>if r0.d.flat=true/\0<=i/\i<2^62/\ds.length<sizeLine then some (.nx (J.set x (some (Qa2 is d (.lst (QbB ds (min i.toNat ds.length) r0.d)),true))))else none
  | _,_=>none
 | _=>none
noncomputable def Qfk(x y:Nat)(fi:DE):DS:=λJ=>match J[x]?,J[y]? with
 | some (some (.lst xs,true)),some (some (.lst ys,true))=>(fi J).bind λri=>match ri.d with
  | .int i=>if x≠y/\Q3 ys=true/\0<=i/\i<2^62/\xs.length<sizeLine then(ys[i.toNat]?).map λd=> .nx ((J.set y (some (.lst (ys.eraseIdx i.toNat),true))).set x (some (.lst (xs++[d]),true)))else none
  | _=>none
 | _,_=>none
end
noncomputable def Qit:Expr->Bool
 | .ListComp .. =>false
 | .SetComp .. =>false
 | .DictComp .. =>false
 | _=>true
def Qil(h:Qit e=true):swapsWith e t l env=pure false:=by
 cases e<;>first | rfl | cases h
noncomputable def Qza:Expr->Bool
 | .Tuple .. =>true
 | _=>false
noncomputable def QqP:Expr->Bool
 | .Name .. =>true
 | .Subscript _ (.Slice ..) _=>false
 | .Subscript (.Call ..) _ _=>false
 | .Subscript .. =>true
 | _=>false
noncomputable def QwH:Expr->Bool
 | .Slice .. =>true
 | _=>false
def Qub:swapsWithSole [.Subscript a i p] e l env=pure false:=by
 cases e<;>rfl
noncomputable def Qau(k:Nat)(ds:List D):En:=ds.map (λd=>some (d,d.flat))++List.replicate (k-ds.length) none
noncomputable def outD:Out->Option (D×Bool)
 | .rt d fr=>some (d,fr)
 | .nx _=>some (.non,true)
 | _=>none
noncomputable def Qm(k:Nat)(f:DS):Den:=λds=>(f (Qau k ds)).bind outD
def QiY{k:Nat}{ds:List D}{i:Nat}{d:D}{b:Bool}(h:(Qau k ds)[i]? =some (some (d,b))):ds[i]? =some d/\b=d.flat:=by
 unfold Qau at h;by_cases hi:i<ds.length
 .rw[Zay (by simpa using hi),Zk]at h;cases e:ds[i]? with
  | none=>rw[e]at h;cases h
  | some a=>rw[e]at h;cases h;exact⟨rfl,rfl⟩
 .rw[ZbC (by simpa using hi),List.getElem?_replicate]at h;split at h<;>cases h
section
variable (P:Program) (w:World) (K:Fgg) (mg:Str->Option Value) (base:Heap)
structure QkJ (cs:List (Str×Cn)):Prop where
 bn:∀x∈Qgp,mg x=none
 cs:∀x i,look x cs=some i->∃t,mg x=some (cnV i t)
end
section
variable {P:Program}{w:World}{K:Fgg}{mg:Str->Option Value}{base:Heap}
noncomputable def namesOf(sc:Scope):List Str:=(sc.names.filter λy=>Qwn y.2).map (·.1)
noncomputable def QnT(st:Stmt)(Γ:List (Str×FnR))(cs:List (Str×Cn)):Th:=⟨namesOf (QB st),(QB st).names,Γ,cs,λ_=>none,λ_=>none
 ⟩
structure Fact (K:Fgg) (x:Str) (st:Stmt):Prop where
 ex:∃f fd,Fun K x x st f fd/\PySem.W.nsIn K mainGlobals x=some (some (.ref f))
def fact_mk{x:Str}{st:Stmt}{f:Addr}{oc:Value}{od an:Option Addr}{osl:Array (Option Value)}{kV doc pm cdv ct:Value}(a:PySem.W.nsIn K mainGlobals x=some (some (.ref f)))(l:K.lookup f=some ⟨oc,od,.func (PySem.W.fnOf x x (Qfm st) (Qck st) (QB st) .none kV doc pm an cdv ct),osl⟩)
  (c:PySem.W.codeIn K cdv x=true) (k:PySem.W.keepIn K (.ref f)=true):Fact K x st:=⟨f,_,QyJ l c k,a⟩
def l0{α:Type}{P:List α->Prop}(h:P []):∀l:List α,l.length=0->P l:=λl e=>(List.length_eq_zero_iff.mp e).symm▸h
def lc{α:Type}{n:Nat}{P:List α->Prop}(h:∀a,∀l:List α,l.length=n->P (a::l)):∀l:List α,l.length=n+1->P l
 | a::l,e=>h a l (Nat.succ.inj e)
def Qw(x:Str)(st:Stmt)(ps:List Str):Prop:=∀(kV doc pm:Value) (an:Option Addr) (cdv ct:Value) (us:List Value),us.length=ps.length->bindArgs (PySem.W.fnOf x x (Qfm st) (Qck st) (QB st) .none kV doc pm an cdv ct) ⟨us,[]⟩=pure (ps.zip us)
end
def QkY:∀(ns:List Int) (n:Int),n∈ns->Builtin.Int.intBits n<=PySem.W.WData.weightAll (ns.map PySem.W.WData.int)
 | a::r,n,h=>by
  have e:PySem.W.WData.weight (.int a)=Builtin.Int.intBits a:=by simp only[PySem.W.WData.weight,Builtin.Int.intBits]
  simp only[Zy,PySem.W.WData.weightAll,e];rcases Zq.mp h with rfl | h
  .lia
  .have:=QkY r n h;lia
def Qtc{ns:List Int}(h:PySem.W.WData.layableAll [.list (ns.map .int)]=true)(k:Nat):Builtin.Int.intBits (ns.getD k 0)<=2^20:=by
 have h1:=(PySem.W.layW_cons h).1;simp only[PySem.W.WData.layable,Zl,decide_eq_true_eq,PySem.W.WData.weight]at h1;rw[Zaa];cases e:ns[k]? with
 | none=>show Builtin.Int.intBits 0<=2^20;decide
 | some n=>exact ZJ (QkY ns n (Zu e)) (of_decide_eq_true h1.2)
open PySem.W Att PySem.Calls in
def Qpi{l:OpenLaw}{n:Nat}{q:Program}{loose:List Str}{XP:(Str->Option Value)->Heap->Prop}{YP:World->Heap->Prop}{d:DefRec}
  (hn:l.most=some n) (hdf:d.params.defaults=[])
  (call:∀(w:World) (s₀ s₁:Shared) (mg mb:Str->Option Value) (fa:Addr) (o:Obj) (pm cd doc:Value) (a:Addr) (vs:List Value) (ns:List Int),
   Ground q loose [] XP w s₀ mg mb s₁.heap->YP w s₁.heap→
   s₁.heap.get? fa=some o->o.data= .func (docDef d.name d.params d.body d.scope pm cd doc)->s₁.heap.CodeRec cd d.name->mg d.name=some (.ref fa)→
   s₁.heap.get? a=some {cls:= .type "list",data:= .seq vs.toArray}->IntsAre vs ns->ns.length<=n->WData.layableAll [.list (ns.map .int)]=true->s₁.gens= #[]→
   codeAny (model l.prog w) callerA (.call (.ref fa) ⟨[.ref a],[]⟩) (λr s'=>r= .ok (.ret (.bool true))/\OldK s₁.heap s'.heap/\s'.os=s₁.os/\AllBare s'.gens) s₁):
  WalkO q loose XP YP l.row.toRowW d [] (λf vs=>PySem.call f vs):=by
 intro w s₀ s₁ mg mb G Y fa o pm cd doc dV kV ho hd hcd hD hmg hg args vals as hpre hlay hrd hwl hlo;obtain rfl:dV= .none:=Dflts.none hD hdf;obtain rfl:kV= .none:=Dflts.noKw hD;obtain⟨a,vs,ns,rfl,rfl,hobj,hints,hlen⟩:=Qt3 hn hpre hwl;refine enter_call (codeAny_mono (call w s₀ s₁ mg mb fa o pm cd doc a vs ns G Y ho (fd_plain hd) hcd hmg hobj hints hlen hlay hg) λr s' hq=>?_);obtain⟨rfl,h2,h3,h4⟩:=hq;exact⟨.inl ⟨.bool true,.bool true,[],rfl,λ_=>rfl,.bool true,QtN l _,λ_=>⟨List.Pairwise.nil,λ_ hm=>(nomatch hm)⟩⟩,h2,h3,h4⟩
end HS
namespace HN
open PySem PySem.Spec PyProof.Rows HS
structure Ex (s s':Shared):Prop where
 hp:∀a o,s.heap.get? a=some o->s'.heap.get? a=some o
 os:s'.os=s.os
 br:AllBare s.gens->AllBare s'.gens
def Ex.refl:Ex s s:=⟨λ_ _ h=>h,rfl,id⟩
def Ex.trans(a:Ex s s1)(b:Ex s1 s2):Ex s s2:=⟨λc o h=>b.hp c o (a.hp c o h),b.os.trans a.os,λh=>b.br (a.br h)⟩
def Ex.of{s:Shared}(k:∀a o,s.heap.get? a=some o->h'.get? a=some o):Ex s {s with heap:=h',toks:=t'}:=⟨k,rfl,id⟩
def Ex.tok{s:Shared}:Ex s {s with toks:=t'}:=⟨λ_ _ h=>h,rfl,id⟩
def Ex.push{s:Shared}:Ex s {s with heap:=s.heap.push o,toks:=t'}:= .of λ_ _ e=>Ze _ e
def Ex.no(x:Ex s s')(h:s'.heap.get? a=none):s.heap.get? a=none:=by
 cases e:s.heap.get? a with
 | none=>rfl
 | some o=>rw[x.hp a o e]at h;cases h
def QaD{h:Heap}:h.get? h.objs.size=none:=ZK (Zt _)
structure Gb where
 P:Program
 w:World
 K:PySem.W.Frag
 mg:Str->Option Value
 base:Heap
noncomputable abbrev LA:=List Addr
noncomputable abbrev QbF(its:List Value)(n:Nat):Obj:={cls:= .type "list",data:= .seq its.toArray n}
def At:D->Value->Prop
 | .non,v=>v= .none
 | .bl b,v=>v= .bool b
 | .int i,v=>∃t,v= .int i t
 | .str x,v=>∃t,v= .str x t
 | _,_=>False
def Qhb(g:Gb)(ex:LA)(h:Heap)(a:Addr)(ks:List (List Int)):Prop:=(a == sysModules)=false/\ks.length<=sizeLine/\∃xs:List (List Int×Addr×Value),xs.map (·.1)=ks/\(∀x∈xs,x.2.1∉ex)/\Heap.DictOfH (tupleKind (intKind g.P g.w)) h a xs
def QvW{h h':Heap}(k:∀o:Obj,o.cls= .type "tuple" ->h.get? a=some o->h'.get? a=some o)(x:(tupleKind (intKind P w)).is h ks a):(tupleKind (intKind P w)).is h' ks a:=by
 obtain⟨o,its,n,e,c,r⟩:=x;exact⟨o,its,n,k o c e,c,r⟩
def Qhb.keep{h h':Heap}(k:∀b o,b∉ex->b=a∨o.cls= .type "tuple" ->h.get? b=some o->h'.get? b=some o)(x:a∉ex)(r:Qhb g ex h a ks):Qhb g ex h' a ks:=by
 obtain⟨z,l,xs,e,n,o,es,ep,h1,h2,h3,h4,h5,h6⟩:=r;exact⟨z,l,xs,e,n,o,es,ep,k a o x (.inl rfl) h1,h2,h3,h4,λy m=>QvW (λo c=>k _ o (n y m) (.inr c)) (h5 y m),h6⟩
inductive Rps (g:Gb) (ex:LA) (h:Heap):List D->List Value->LA->Prop
 | nil:Rps g ex h [] [] []
 | atm:At d v->Rps g ex h ds vs F->Rps g ex h (d::ds) (v::vs) F
 | lst:a∉ex->es.length<=sizeLine->h.get? a=some (QbF its n)->Rps g ex h es its G->Rps g ex h ds vs F->Rps g ex h (.lst es::ds) (.ref a::vs) (a::(G++F))
 | tup:a∉ex->es.length<=sizeLine->IsTup h a its.toArray->Rps g ex h es its G->Rps g ex h ds vs F->Rps g ex h (.tup es::ds) (.ref a::vs) (G++F)
 | dk:a∉ex->Qhb g ex h a ks->Rps g ex h ds vs F->Rps g ex h (.dk ks::ds) (.ref a::vs) (a::F)
noncomputable abbrev Rp(g:Gb)(ex:LA)(h:Heap)(d:D)(v:Value)(F:LA):=Rps g ex h [d] [v] F
section
variable {g:Gb}{ex:LA}{h h':Heap}
def Rps.keep(r:Rps g ex h ds vs F)(k:∀a o,a∉ex->a∈F∨o.cls= .type "tuple" ->h.get? a=some o->h'.get? a=some o):Rps g ex h' ds vs F:=by
 induction r with
 | nil=>exact .nil
 | atm x _ i=>exact .atm x (i k)
 | lst x z e _ _ i j=>exact .lst x z (k _ _ x (.inl (.head _)) e) (i λa o n m=>k a o n (m.imp (λm=> .tail _ (Zh _ m)) id)) (j λa o n m=>k a o n (m.imp (λm=> .tail _ (Zc _ m)) id))
 | tup x z e _ _ i j=>
  obtain⟨o,e,c,d⟩:=e;exact .tup x z ⟨o,k _ _ x (.inr c) e,c,d⟩ (i λa o n m=>k a o n (m.imp (Zh _) id)) (j λa o n m=>k a o n (m.imp (Zc _) id))
 | dk x r _ j=>exact .dk x (r.keep (λb o n m=>k b o n (m.imp (λe=>by rw[e];exact .head _) id)) x) (j λa o n m=>k a o n (m.imp (.tail _) id))
def Rps.ext{s s':Shared}(r:Rps g ex s.heap ds vs F)(x:Ex s s'):Rps g ex s'.heap ds vs F:=r.keep λa o _ _=>x.hp a o
def Rps.mem(r:Rps g ex h ds vs F):∀a∈F,a∉ex/\∃o,h.get? a=some o:=by
 induction r with
 | nil=>exact λ_ h=>nomatch h
 | atm _ _ i=>exact i
 | lst x _ e _ _ i j=>
  intro a m;rcases Zq.mp m with rfl | m
  .exact⟨x,_,e⟩
  .exact(Zf.mp m).elim (i a) (j a)
 | tup _ _ _ _ _ i j=>exact λa m=>(Zf.mp m).elim (i a) (j a)
 | dk x r _ j=>
  intro a m;rcases Zq.mp m with rfl | m
  .obtain⟨_,_,_,_,_,o,_,_,e,_⟩:=r;exact⟨x,o,e⟩
  .exact j a m
def Rps.len(r:Rps g ex h ds vs F):ds.length=vs.length:=by
 induction r with
 | nil=>rfl
 | atm _ _ i=>exact congrArg (· +1) i
 | lst _ _ _ _ _ _ j=>exact congrArg (· +1) j
 | tup _ _ _ _ _ _ j=>exact congrArg (· +1) j
 | dk _ _ _ j=>exact congrArg (· +1) j
def Rps.QbX(r:Rps g ex h ds vs F):Q3 ds=true->F=[]:=by
 induction r with
 | nil=>exact λ_=>rfl
 | atm _ _ i=>intro h;simp only[Q3,Zl]at h;exact i h.2
 | lst=>intro h;simp[Q3,D.flat]at h
 | tup _ _ _ _ _ i j=>intro h;simp only[Q3,D.flat,Zl]at h;rw[i h.1,j h.2];rfl
 | dk=>intro h;simp[Q3,D.flat]at h
def Rps.app(r:Rps g ex h ds vs F)(q:Rps g ex h ds' vs' F'):Rps g ex h (ds++ds') (vs++vs') (F++F'):=by
 induction r with
 | nil=>exact q
 | atm x _ i=>exact .atm x i
 | lst x z e t _ _ j=>simp only[Zbb,ZI];exact .lst x z e t j
 | tup x z e t _ _ j=>rw[ZI];exact .tup x z e t j
 | dk x r _ j=>exact .dk x r j
def Rps.inv(r:Rps g ex h (d::ds) us F):∃v vs G F',us=v::vs/\F=G++F'/\Rp g ex h d v G/\Rps g ex h ds vs F':=by
 cases r with
 | atm x t=>exact⟨_,_,[],_,rfl,rfl,.atm x .nil,t⟩
 | lst x z e q t=>exact⟨_,_,_::(_++[]),_,rfl,by rw[ZV];rfl,.lst x z e q .nil,t⟩
 | tup x z e q t=>exact⟨_,_,_++[],_,rfl,by rw[ZV],.tup x z e q .nil,t⟩
 | dk x r t=>exact⟨_,_,[_],_,rfl,rfl,.dk x r .nil,t⟩
def Rps.lst_inv(r:Rp g ex h (.lst es) v F):∃a its n G,v= .ref a/\F=a::G/\a∉ex/\es.length<=sizeLine/\h.get? a=some (QbF its n)/\Rps g ex h es its G:=by
 cases r with
 | atm x=>cases x
 | lst x z e q t=>cases t;exact⟨_,_,_,_,rfl,by rw[ZV],x,z,e,q⟩
def Rps.Qfp(r:Rp g ex h (.tup es) v F):∃a its,v= .ref a/\a∉ex/\es.length<=sizeLine/\IsTup h a its.toArray/\Rps g ex h es its F:=by
 cases r with
 | atm x=>cases x
 | tup x z e q t=>cases t;exact⟨_,_,rfl,x,z,e,by rw[ZV];exact q⟩
def Rps.Qd9(x:a∉ex)(z:es.length<=sizeLine)(e:h.get? a=some (QbF its n))(q:Rps g ex h es its G):Rp g ex h (.lst es) (.ref a) (a::G):=by
 have:=Rps.lst x z e q .nil;rwa[ZV]at this
def Rps.Qii(x:a∉ex)(z:es.length<=sizeLine)(e:IsTup h a its.toArray)(q:Rps g ex h es its G):Rp g ex h (.tup es) (.ref a) G:=by
 have:=Rps.tup x z e q .nil;rwa[ZV]at this
def Rps.Qkk{d:D}(r:Rp g ex h d v F)(hd:At d u):At d v/\F=[]:=by
 cases r with
 | atm x t=>cases t;exact⟨x,rfl⟩
 | lst=>cases hd
 | tup=>cases hd
 | dk=>cases hd
def Rps.QtT(r:Rp g ex h (.dk ks) v F):∃a,v= .ref a/\F=[a]/\a∉ex/\Qhb g ex h a ks:=by
 cases r with
 | atm x=>cases x
 | dk x r t=>cases t;exact⟨_,rfl,rfl,x,r⟩
def Rps.int_inv(r:Rp g ex h (.int i) v F):∃t,v= .int i t:=(r.Qkk ⟨0,rfl⟩).1
def Rps.QeN(r:Rp g ex h (.bl i) v F):v= .bool i:=(r.Qkk (u:= .bool i) rfl).1
def Rps.QiM(r:Rp g ex h .non v F):v= .none:=(r.Qkk (u:= .none) rfl).1
def Rps.str_inv(r:Rp g ex h (.str i) v F):∃t,v= .str i t:=(r.Qkk ⟨0,rfl⟩).1
def Rps.int:Rp g ex h (.int i) (.int i t) []:= .atm ⟨_,rfl⟩ .nil
def Rps.bl:Rp g ex h (.bl i) (.bool i) []:= .atm rfl .nil
def Rps.non:Rp g ex h .non .none []:= .atm rfl .nil
def Rps.str:Rp g ex h (.str i) (.str i t) []:= .atm ⟨_,rfl⟩ .nil
def Rps.split:∀{ds:List D}{vs F i d},Rps g ex h ds vs F->ds[i]? =some d→
  ∃F1 G F2 v,F=F1++(G++F2)/\vs[i]? =some v/\Rps g ex h (ds.take i) (vs.take i) F1/\Rp g ex h d v G/\Rps g ex h (ds.drop (i+1)) (vs.drop (i+1)) F2
 | d::ds,_,_,0,_,r,e=>by
  obtain⟨v,vs,G,F',rfl,rfl,p,q⟩:=r.inv;cases e;exact⟨[],G,F',v,rfl,rfl,.nil,p,q⟩
 | d::ds,_,_,i+1,_,r,e=>by
  obtain⟨v,vs,G,F',rfl,rfl,p,q⟩:=r.inv;obtain⟨F1,G',F2,u,rfl,e1,h1,h2,h3⟩:=q.split (i:=i) e;exact⟨G++F1,G',F2,u,by rw[ZI],e1,p.app h1,h2,h3⟩
def Rps.join{i:Nat}{ds:List D}{vs:List Value}(h1:Rps g ex h (ds.take i) (vs.take i) F1)(p:Rp g ex h d v G)(h2:Rps g ex h (ds.drop (i+1)) (vs.drop (i+1)) F2)(hd:i<ds.length)(hv:i<vs.length):Rps g ex h (ds.set i d) (vs.set i v) (F1++(G++F2)):=by
 rw[ZbR,if_pos hd,ZbR,if_pos hv];exact h1.app (p.app h2)
end
structure Cx where
 g:Gb
 A:Around
 N:List Str
 h0:Heap
 A0:Addr->Prop
 env:Env
 fn:Str->Bool
 calm:Bool
noncomputable abbrev Cx.M(X:Cx):Model:=model X.g.P X.g.w
abbrev Cx.Nw(X:Cx)(a:Addr):Prop:=X.h0.get? a=none
structure Cx.Ok (X:Cx):Prop where
 mod:L2.Mod X.g.K X.g.mg X.g.base
 nd:X.N.Nodup
 kind:X.env.scope.kind= .function
 glob:X.env.globals=mainGlobals
 blt:X.env.builtins=builtinsNs
 inj:∀x y c,X.env.cells.lookup x=some c->X.env.cells.lookup y=some c->x=y
 has:∀x,X.env.kindOf x=some .cell∨X.env.kindOf x=some .free->∃c,X.env.cells.lookup x=some c
 hd:X.calm=true->X.A.handled=none
 b0:∀a,X.Nw a->X.g.base.get? a=none
 new:X.Nw X.env.locals/\∀x c,X.fn x=true->X.env.cells.lookup x=some c->X.Nw c
noncomputable abbrev Hs:=List (D×Value×LA)
noncomputable abbrev Ft:=Nat->LA
structure Ow (X:Cx) (hs:Hs) (J:En) (F:Ft):Prop where
 own:∀(i:Nat) d,J[i]? =some (some (d,true))->(F i).Nodup/\∀a∈F i,X.Nw a/\(∀(j:Nat) d' b',j≠i->J[j]? =some (some (d',b'))->a∉F j)/\∀t∈hs,a∉t.2.2
 src:∀(i:Nat) d b,J[i]? =some (some (d,b))->∀a∈F i,X.Nw a∨X.A0 a
structure Rel (X:Cx) (ex:LA) (hs:Hs) (J:En) (F:Ft) (s:Shared):Prop where
 ok:X.Ok
 bk:∀a o,X.g.base.get? a=some o->s.heap.get? a=some o
 br:AllBare s.gens
 nw:∀a,s.heap.get? a=none->X.Nw a
 ns:∃m,s.heap.Ns X.env.locals m/\∀(i:Nat) d b,J[i]? =some (some (d,b))->∃x v,X.N[i]? =some x/\L2.Look X.env s.heap m x v/\Rp X.g ex s.heap d v (F i)
 cell:∀x c,X.env.cells.lookup x=some c->c∈ex/\∃v,s.heap.IsCell c v
 loc:X.env.locals∈ex
 exl:∀b∈ex,∃o,s.heap.get? b=some o
 len:J.length=X.N.length
 ow:Ow X hs J F
 held:∀t∈hs,Rp X.g ex s.heap t.1 t.2.1 t.2.2/\∀a∈t.2.2,X.Nw a∨X.A0 a
section
variable {X:Cx}{ex:LA}{hs:Hs}{J:En}{F:Ft}{s s1 s2 s':Shared}
def nm{α:Type}{P:α->Prop}:∀a∈([]:List α),P a:=λ_ h=>nomatch h
def Qdh{h h':Heap}(l:L2.Look env h m x u)(k:∀c v,env.cells.lookup x=some c->h.IsCell c v->h'.IsCell c v):L2.Look env h' m x u:=l.imp id λ⟨a,c,e,z⟩=>⟨a,c,e,k c _ e z⟩
def Rel.ext(r:Rel X ex hs J F s)(x:Ex s s'):Rel X ex hs J F s':=
 {r with
  bk:=λa o e=>x.hp a o (r.bk a o e)
  br:=x.br r.br
  nw:=λa h=>r.nw a (x.no h)
  ns:=let ⟨m,n,q⟩:=r.ns;⟨m,n.keeps x.hp,λi d b e=>let ⟨y,v,e1,l,p⟩:=q i d b e;⟨y,v,e1,Qdh l λ_ _ _ z=>z.keeps x.hp,p.ext x⟩⟩
  cell:=λy c e=>let ⟨m,v,z⟩:=r.cell y c e;⟨m,v,z.keeps x.hp⟩
  exl:=λb m=>let ⟨o,e⟩:=r.exl b m;⟨o,x.hp b o e⟩
  held:=λt m=>⟨(r.held t m).1.ext x,(r.held t m).2⟩}
def Rel.val(r:Rel X ex hs J F s)(e:J[i]? =some (some (d,b))):∃x v m,X.N[i]? =some x/\s.heap.Ns X.env.locals m/\L2.Look X.env s.heap m x v/\Rp X.g ex s.heap d v (F i):=
 let ⟨m,n,q⟩:=r.ns;let ⟨y,v,e1,l,p⟩:=q i d b e;⟨y,v,m,e1,n,l,p⟩
def Rel.has(r:Rel X ex hs J F s)(e:J[i]? =some (some (d,b)))(h:a∈F i)(z:s.heap.get? a=none):False:=by
 obtain⟨_,_,_,_,_,_,p⟩:=r.val e;obtain⟨_,_,q⟩:=p.mem a h;rw[z]at q;cases q
def Rel.nex(r:Rel X ex hs J F s)(h:s.heap.get? a=none):a∉ex:=λm=>by
 obtain⟨o,e⟩:=r.exl a m;rw[h]at e;cases e
abbrev Src(J:En)(F:Ft)(s:Shared)(M:List Nat)(G:LA):Prop:=∀a∈G,s.heap.get? a=none∨∃i d b,J[i]? =some (some (d,b))/\a∈F i/\(b=true->i∈M)
def Nd(F:Ft)(M:List Nat):Prop:=∀i a,a∈F i->M.count i<=1
def Nd.of(h:M.Nodup):Nd F M:=λi _ _=>List.nodup_iff_count.mp h i
structure Qaf (X:Cx) (ex:LA) (J:En) (F:Ft) (s s':Shared) (ds:List D) (fr:Bool) (M:List Nat) (vs:List Value) (G:LA):Prop where
 ext:Ex s s'
 rp:Rps X.g ex s'.heap ds vs G
 src:Src J F s M G
 frs:fr=true->Nd F M->G.Nodup/\∀a∈G,s.heap.get? a=none∨∃i∈M,a∈F i
 own:∀i∈M,∃d,J[i]? =some (some (d,true))
abbrev Qb7(X:Cx)(ex:LA)(J:En)(F:Ft)(s s':Shared)(r:R)(v:Value)(G:LA):Prop:=Qaf X ex J F s s' [r.d] r.fr r.M [v] G
def Qaf.app(r:Rel X ex hs J F s)(p:Qaf X ex J F s s1 ds fr M vs G)(q:Qaf X ex J F s1 s2 ds' fr' M' vs' G'):Qaf X ex J F s s2 (ds++ds') (fr && fr') (M++M') (vs++vs') (G++G') where
 ext:=p.ext.trans q.ext
 rp:=(p.rp.ext q.ext).app q.rp
 src:=λa m=>(Zf.mp m).elim (λm=>(p.src a m).imp id λ⟨i,d,b,e,h,k⟩=>⟨i,d,b,e,h,λz=>Zh _ (k z)⟩)
  λm=>(q.src a m).imp p.ext.no λ⟨i,d,b,e,h,k⟩=>⟨i,d,b,e,h,λz=>Zc _ (k z)⟩
 frs:=λf n=>by
  rw[Zl]at f;have n3:∀i a,a∈F i->M.count i+M'.count i<=1:=λi a h=>by rw[← List.count_append];exact n i a h
  obtain⟨a1,a2⟩:=p.frs f.1 λi a h=>ZJ (ZbG _ _) (n3 i a h);obtain⟨b1,b2⟩:=q.frs f.2 λi a h=>ZJ (Nat.le_add_left _ _) (n3 i a h);refine⟨Zal.mpr ⟨a1,b1,λa ha b hb e=>?_⟩,λa m=>(Zf.mp m).elim (λm=>(a2 a m).imp id λ⟨i,h,k⟩=>⟨i,Zh _ h,k⟩) λm=>(b2 a m).imp p.ext.no λ⟨i,h,k⟩=>⟨i,Zc _ h,k⟩⟩;subst e;rcases b2 a hb with z | ⟨j,hj,kj⟩
  .obtain⟨_,_,w⟩:=p.rp.mem a ha;rw[z]at w;cases w
  .obtain⟨d,ej⟩:=q.own j hj;rcases a2 a ha with z | ⟨i,hi,ki⟩
   .exact r.has ej kj z
   .obtain⟨d',ei⟩:=p.own i hi;exact((r.ow.own i d' ei).2 a ki).2.1 j d true (λz=>by subst z;have:=n3 j a kj;have:=List.count_pos_iff.mpr hi;have:=List.count_pos_iff.mpr hj;lia) ej kj
 own:=λi m=>(Zf.mp m).elim (p.own i) (q.own i)
def Qaf.nil:Qaf X ex J F s s [] true [] [] []:=⟨.refl,.nil,nm,λ_ _=>⟨.nil,nm⟩,nm⟩
def Qaf.flat(x:Ex s s')(p:Rps X.g ex s'.heap ds vs []):Qaf X ex J F s s' ds true [] vs []:=⟨x,p,nm,λ_ _=>⟨.nil,nm⟩,nm⟩
def Qaf.sub(p:Qaf X ex J F s s1 ds fr M vs G)(x:Ex s1 s')(q:Rps X.g ex s'.heap ds' vs' G')(m:∀a∈G',a∈G∨s1.heap.get? a=none)(n:fr'=true->fr=true/\(G.Nodup->G'.Nodup)):Qaf X ex J F s s' ds' fr' M vs' G' where
 ext:=p.ext.trans x
 rp:=q
 src:=λa h=>(m a h).elim (p.src a) λz=> .inl (p.ext.no z)
 frs:=λf d=>let ⟨u,v⟩:=n f;let ⟨a,b⟩:=p.frs u d;⟨v a,λc h=>(m c h).elim (b c) λz=> .inl (p.ext.no z)⟩
 own:=p.own
def Qaf.more(p:Qaf X ex J F s s1 ds fr M vs G)(x:Ex s1 s'):Qaf X ex J F s s' ds fr M vs G:=⟨p.ext.trans x,p.rp.ext x,p.src,p.frs,p.own⟩
def Qaf.norm{r:R}(p:Qb7 X ex J F s s' r v G):Qb7 X ex J F s s' r.norm v G:=by
 unfold R.norm;split
 .rename_i h;have:G=[]:=p.rp.QbX (by simp[Q3,h]);subst this;exact .flat p.ext p.rp
 .exact p
def Qaf.QnS{p:Addr}(x:Ex s s1)(y:Ex s1 s')(hn:s1.heap.get? p=none)(hx:p∉ex)(e:s'.heap.get? p=some (QbF its n))(z:ds.length<=sizeLine)(r:Rps X.g ex s'.heap ds its []):Qb7 X ex J F s s' ⟨.lst ds,true,[]⟩ (.ref p) [p]:=
 ⟨x.trans y,.Qd9 hx z e r,λa h=> .inl (by rw[Zj.mp h];exact x.no hn),λ_ _=>⟨⋯,λa h=> .inl (by rw[Zj.mp h];exact x.no hn)⟩,nm⟩
def Qaf.Qa7{p:Addr}(q:Qaf X ex J F s s1 ds0 fr M vs0 G)(x:Ex s1 s')(hn:s1.heap.get? p=none)(hx:p∉ex)(e:s'.heap.get? p=some (QbF its n))(z:ds.length<=sizeLine)(r:Rps X.g ex s'.heap ds its G')(m:∀a∈G',a∈G):∃G,Qb7 X ex J F s s' (Qa7 ds M) (.ref p) G:=by
 unfold HS.Qa7;split
 .rename_i f;have:G'=[]:=r.QbX f;subst this;exact⟨[p],.QnS q.ext x hn hx e z r⟩
 .exact⟨p::G',q.sub x (.Qd9 hx z e r) (λa h=>(Zq.mp h).elim (λh=> .inr (h▸hn)) λh=> .inl (m a h)) λh=>nomatch h⟩
def SE(X:Cx)(e:Expr)(f:DE):Prop:=∀ ⦃ex hs J F s r⦄,Rel X ex hs J F s->f J=some r->wpAny X.M X.A (eval e X.env) (λv s'=>∃G,Qb7 X ex J F s s' r v G) (λ_ _=>False) s
def SA(X:Cx)(es:List Expr)(f:DA):Prop:=∀ ⦃ex hs J F s r⦄ (pos:Pos),Rel X ex hs J F s->f J=some r->wpAny X.M X.A (spliced (backTo pos (starEach es X.env))) (λvs s'=>∃G,Qaf X ex J F s s' r.ds r.fr r.M vs G) (λ_ _=>False) s
def ST(X:Cx)(e:Expr)(f:DT):Prop:=∀ ⦃ex hs J F s b⦄,Rel X ex hs J F s->f J=some b->wpAny X.M X.A (isTrue e X.env (eval e X.env)) (λc s'=>c=b/\Ex s s') (λ_ _=>False) s
def thn(h:wpAny M A t Q E s)(k:∀a s,Q a s->Q' a s):wpAny M A t Q' E s:=wpAny_mono h k λ_ _ x=>x
def any(h:wpAny M A t Q (λ_ _=>False) s):wpAny M A t Q E s:=wpAny_mono h (λ_ _ x=>x) λ_ _ x=>x.elim
end
section
variable {X:Cx}{ex:LA}{hs:Hs}{J J1:En}{F:Ft}{s s1 s2 s':Shared}
def set_inv{J:En}{x:Option (D×Bool)}(e:(J.set i x)[j]? =some (some y)):(j=i/\x=some y)∨(j≠i/\J[j]? =some (some y)):=by
 by_cases h:j=i
 .subst h;rw[Zco]at e;simp only[if_true]at e;split at e
  .exact .inl ⟨rfl,Option.some.inj e⟩
  .cases e
 .rw[ZaO (Ne.symm h)]at e;exact .inr ⟨h,e⟩
noncomputable abbrev put(F:Ft)(i:Nat)(G:LA):Ft:=λj=>if j=i then G else F j
def QdK:put F i G i=G:=if_pos rfl
def QeS(h:j≠i):put F i G j=F j:=if_neg h
abbrev QuY(X:Cx)(hs:Hs)(J:En)(F:Ft)(i:Nat)(a:Addr):Prop:=X.Nw a/\(∀(j:Nat) d' b',j≠i->J[j]? =some (some (d',b'))->a∉F j)/\∀t∈hs,a∉t.2.2
def Ow.weak(o:Ow X hs J F)(w:Qbz J J1):Ow X hs J1 F where
 own:=λi d e=>by
  obtain⟨b,h,k⟩:=w.2 i d true e;obtain⟨n,q⟩:=o.own i d (by rw[h,k rfl]);exact⟨n,λa m=>⟨(q a m).1,λj d' b' z e'=>let ⟨c,h',_⟩:=w.2 j d' b' e';(q a m).2.1 j d' c z h',(q a m).2.2⟩⟩
 src:=λi d b e=>let ⟨c,h,_⟩:=w.2 i d b e;o.src i d c h
def Ow.set(o:Ow X hs J F)(sr:∀a∈G,X.Nw a∨X.A0 a)(ap:∀(j:Nat) d',j≠i->J[j]? =some (some (d',true))->∀a∈F j,a∉G)(hb:b=true->G.Nodup/\∀a∈G,QuY X hs J F i a):Ow X hs (J.set i (some (d,b))) (put F i G) where
 own:=λj d' e=>by
  rcases set_inv e with⟨rfl,e1⟩ | ⟨z,e1⟩
  .cases e1;obtain⟨n,q⟩:=hb rfl;rw[QdK];refine⟨n,λa m=>⟨(q a m).1,λk d'' b'' h e=>?_,(q a m).2.2⟩⟩;rw[QeS h];exact(q a m).2.1 k d'' b'' h ((set_inv e).elim (λz=>absurd z.1 h) (·.2))
  .obtain⟨n,q⟩:=o.own j d' e1;rw[QeS z];refine⟨n,λa m=>⟨(q a m).1,λk d'' b'' h e'=>?_,(q a m).2.2⟩⟩;rcases set_inv e' with⟨rfl,_⟩ | ⟨h',e2⟩
   .rw[QdK];exact ap j d' z e1 a m
   .rw[QeS h'];exact(q a m).2.1 k d'' b'' h e2
 src:=λj d' b' e=>by
  rcases set_inv e with⟨rfl,e⟩ | ⟨z,e⟩
  .rw[QdK];exact sr
  .rw[QeS z];exact o.src j d' b' e
def Rel.Qlb(r:Rel X ex hs J F s)(p:Src J F s M G):∀a∈G,X.Nw a∨X.A0 a:=λa m=>(p a m).elim (λz=> .inl (r.nw a z)) λ⟨i,d,b,e,h,_⟩=>r.ow.src i d b e a h
def Rel.shr(r:Rel X ex hs J F s)(p:Src J F s M G){j:Nat}(e:(QaT M J)[j]? =some (some (d,true))):∀a∈F j,a∉G:=λa h m=>by
 obtain⟨b,e2,k⟩:=(QaM M J).2 j d true e;cases k rfl;rcases p a m with z | ⟨i,d',b,e',m',hb⟩
 .exact r.has e2 h z
 .by_cases hij:i=j
  .subst hij;rw[e']at e2;cases e2;exact QkG M J i _ (hb rfl) e
  .exact((r.ow.own j d e2).2 a h).2.1 i d' b hij e' m'
def Qaf.QjT(r:Rel X ex hs J F s)(p:Qaf X e' J F s s' ds fr M vs G)(f:fr=true)(n:M.Nodup):G.Nodup/\∀a∈G,QuY X hs (kill M J) F i a/\∀(j:Nat) d b,(kill M J)[j]? =some (some (d,b))->a∉F j:=by
 obtain⟨g1,g2⟩:=p.frs f (.of n);refine⟨g1,λa m=>?_⟩;have ap:∀(j:Nat) d b,(kill M J)[j]? =some (some (d,b))->a∉F j:=λj d b e h=>by
  obtain⟨b',e',_⟩:=(Qcz M J).2 j d b e;rcases g2 a m with z | ⟨k,hk,ak⟩
  .exact r.has e' h z
  .obtain⟨d',ek⟩:=p.own k hk;exact((r.ow.own k d' ek).2 a ak).2.1 j d b' (λz=>QmB M J j d b (z▸hk) e) e' h
 refine⟨⟨?_,λj d b _=>ap j d b,λt ht h=>?_⟩,ap⟩
 .rcases g2 a m with z | ⟨k,hk,ak⟩
  .exact r.nw a z
  .obtain⟨d',ek⟩:=p.own k hk;exact((r.ow.own k d' ek).2 a ak).1
 .rcases g2 a m with z | ⟨k,hk,ak⟩
  .obtain⟨_,_,q⟩:=(r.held t ht).1.mem a h;rw[z]at q;cases q
  .obtain⟨d',ek⟩:=p.own k hk;exact((r.ow.own k d' ek).2 a ak).2.2 t ht h
def Qaf.asg{r:R}(rel:Rel X ex hs J F s)(p:Qb7 X e' J F s s' r v G):∃J1 b,asg i r J=J1.set i (some (r.d,b))/\Qbz J J1/\Ow X hs (J1.set i (some (r.d,b))) (put F i G):=by
 have p':=p.norm;unfold HS.asg;split
 .rename_i h;simp only[Zl,decide_eq_true_eq]at h;obtain⟨n,q⟩:=p'.QjT (i:=i) rel h.1 h.2;exact⟨_,_,rfl,Qcz _ _,(rel.ow.weak (Qcz _ _)).set (rel.Qlb p'.src) (λj d' z e a m g=>(q a g).2 j d' true e m) λ_=>⟨n,λa m=>(q a m).1⟩⟩
 .refine⟨_,_,rfl,QaM _ _,(rel.ow.weak (QaM _ _)).set (rel.Qlb p'.src) (λj d' z e=>rel.shr p'.src e) λh=>?_⟩;have:G=[]:=p.rp.QbX (by simp[Q3,h]);subst this;exact⟨.nil,nm⟩
def Imm(o:Obj):Prop:=(∀es ep,o.data≠ .dict es ep)/\(∀v,o.data≠ .cell v)/\o.cls≠ .type "list" /\∀C,o.cls≠ .ref C
structure Fx (X:Cx) (hs:Hs) (s s':Shared):Prop where
 hp:∀a o,s.heap.get? a=some o->(X.Nw a->Imm o∨∃t∈hs,a∈t.2.2)->s'.heap.get? a=some o
 os:s'.os=s.os
 br:AllBare s.gens->AllBare s'.gens
def Fx.refl:Fx X hs s s:=⟨λ_ _ h _=>h,rfl,id⟩
def Fx.trans(a:Fx X hs s s1)(b:Fx X hs s1 s2):Fx X hs s s2:=⟨λc o h i=>b.hp c o (a.hp c o h i) i,b.os.trans a.os,λh=>b.br (a.br h)⟩
def Fx.of(x:Ex s s'):Fx X hs s s':=⟨λa o h _=>x.hp a o h,x.os,x.br⟩
def Fx.less(x:Fx X (ts++hs) s s'):Fx X hs s s':=⟨λa o h i=>x.hp a o h λn=>(i n).imp id λ⟨t,m,k⟩=>⟨t,Zc _ m,k⟩,x.os,x.br⟩
def Fx.one{h':Heap}(b:Heap.SameBut p s.heap h')(n:X.Nw p)(e:s.heap.get? p=some o)(i:¬Imm o)(hh:∀t∈hs,p∉t.2.2):Fx X hs s {s with heap:=h',toks:=t}:=
 ⟨λa o' h k=>by
  by_cases z:a=p
  .subst z;rw[e]at h;cases h;exact((k n).elim i λ⟨t,m,k⟩=>hh t m k).elim
  .rw[b.2 a z];exact h,rfl,id⟩
def Rps.but{h h':Heap}{F:LA}(r:Rps g ex h ds vs F)(b:Heap.SameBut p h h')(hp:p∈ex∨p∉F/\∀o,h.get? p=some o->o.cls≠ .type "tuple"):Rps g ex h' ds vs F:=r.keep λa o x m e=>by
 rw[b.2 a (λz=>by subst z;rcases hp with y | ⟨y,y'⟩;exact x y;exact m.elim y (y' o e))];exact e
def Sl(X:Cx)(x:Str)(i:Nat):Prop:=X.N[i]? =some x/\L2.Loc X.env.scope x/\(X.fn x=true∨X.env.scope.names.lookup x=some .local)
def Rel.store(r:Rel X ex hs J F s)(w:Qbz J J1)(sl:Sl X x i)(p:Rp X.g ex s.heap d v G)(o:Ow X hs (J1.set i (some (d,b))) (put F i G))
  (k:∀s',Fx X hs s s'->Rel X ex hs (J1.set i (some (d,b))) (put F i G) s'->(∃q∈ex,(q=X.env.locals∨∃y,X.env.cells.lookup y=some q)/\Heap.SameBut q s.heap s'.heap)->Q () s'):wpAny M A (storeName X.env x v) Q E s:=by
 obtain⟨hi,hx,hf⟩:=sl;obtain⟨m,hn,hv⟩:=r.ns
 have fin:∀{a h' m' t},Heap.SameBut a s.heap h'->a∈ex->X.Nw a->(∃q,h'.get? a=some q)->h'.Ns X.env.locals m'->(∀y c,X.env.cells.lookup y=some c->∃v,h'.IsCell c v)->L2.Look X.env h' m' x v->(∀y u,y≠x->L2.Look X.env s.heap m y u->L2.Look X.env h' m' y u)→
   Rel X ex hs (J1.set i (some (d,b))) (put F i G) {s with heap:=h',toks:=t}:=λ{a h' m' t} sb hx hw he hn' hc hl ho=>
  {ok:=r.ok
   bk:=λc q e=>(sb.2 c (λz=>by subst z;rw[r.ok.b0 c hw]at e;cases e)).trans (r.bk c q e)
   br:=r.br
   nw:=λc e=>by
    by_cases z:c=a
    .exact z▸hw
    .exact r.nw c ((sb.2 c z).symm.trans e)
   ns:=⟨m',hn',λj d' b' e=>by
    rcases set_inv e with⟨rfl,e1⟩ | ⟨z,e1⟩
    .cases e1;rw[QdK];exact⟨x,v,hi,hl,p.but sb (.inl hx)⟩
    .obtain⟨b2,e2,_⟩:=w.2 j d' b' e1;obtain⟨y,u,h1,h2,h3⟩:=hv j d' b2 e2;rw[QeS z];exact⟨y,u,h1,ho y u (λe=>z (L2.Qu5 r.ok.nd (e▸h1) hi)) h2,h3.but sb (.inl hx)⟩⟩
   cell:=λy c e=>⟨(r.cell y c e).1,hc y c e⟩
   loc:=r.loc
   exl:=λc e=>by
    by_cases z:c=a
    .exact z▸he
    .obtain⟨q,h⟩:=r.exl c e;exact⟨q,(sb.2 c z).trans h⟩
   len:=by rw[ZaS,w.1,r.len]
   ow:=o
   held:=λt e=>⟨(r.held t e).1.but sb (.inl hx),(r.held t e).2⟩}
 have hh:∀a∈ex,∀t∈hs,a∉t.2.2:=λa m t ht h=>((r.held t ht).1.mem a h).1 m;have cne:∀y c,X.env.cells.lookup y=some c->c≠X.env.locals:=λy c e z=>by
  obtain⟨_,_,q,h1,h2⟩:=r.cell y c e;obtain⟨q',_,_,h3,h4,_⟩:=hn;rw[z,h3]at h1;cases h1;rw[h4]at h2;cases h2
 rcases hx with hk | hk
 .refine wpAny_storeName_local hk hn (λh' hn' sb=>?_) (by rw[r.ok.kind];rfl);obtain⟨q,es,ep,h1,h2,_⟩:=id hn;obtain⟨q',_,_,h1',_⟩:=id hn';refine k _ (.one sb r.ok.new.1 h1 (λz=>z.1 _ _ h2) (hh _ r.loc)) (fin sb r.loc r.ok.new.1 ⟨q',h1'⟩ hn' (λy c e=>let ⟨_,u,z⟩:=r.cell y c e;⟨u,z.sameBut sb (cne y c e)⟩) (.inl ⟨hk,if_pos rfl⟩) λy u hy l=>?_) ⟨_,r.loc,.inl rfl,sb⟩;exact l.imp (λ⟨a,e⟩=>⟨a,(if_neg hy).trans e⟩) λ⟨a,c,e,z⟩=>⟨a,c,e,z.sameBut sb (cne y c e)⟩
 .obtain⟨c,hc⟩:=r.ok.has x (.inl hk);obtain⟨hcx,u,q,h1,h2⟩:=r.cell x c hc;refine wpAny_storeName_cell r.ok.kind hk hc ⟨q,h1,h2⟩ λh' hc' sb=>?_;have hw:=r.ok.new.2 x c (hf.elim id λz=>by rw[z]at hk;cases hk) hc;obtain⟨q',h1',_⟩:=id hc';refine k _ (.one (t:=s.toks) sb hw h1 (λz=>z.2.1 _ h2) (hh _ hcx)) (fin sb hcx hw ⟨q',h1'⟩ (hn.sameBut sb (Ne.symm (cne x c hc))) (λy c' e=>?_) (.inr ⟨.inl hk,c,hc,hc'⟩) λy u hy l=>?_) ⟨_,hcx,.inr ⟨x,hc⟩,sb⟩
  .by_cases z:c'=c
   .exact⟨_,z▸hc'⟩
   .obtain⟨_,u',z'⟩:=r.cell y c' e;exact⟨u',z'.sameBut sb z⟩
  .exact l.imp id λ⟨a,c',e,z⟩=>⟨a,c',e,z.sameBut sb λe'=>hy (r.ok.inj _ _ _ (e'▸e) hc)⟩
end
section
variable {X:Cx}{ex:LA}{hs:Hs}{J:En}{F:Ft}{s s':Shared}{a b:Expr}{fa fb:DE}{pos:Pos}
def fl1{d:D}(h:d.flat=true):Q3 [d]=true:=by simp[Q3,h]
def Val(X:Cx)(s:Shared)(i:Nat)(v:Value):Prop:=∃y m,X.N[i]? =some y/\s.heap.Ns X.env.locals m/\L2.Look X.env s.heap m y v
def Rel.Qnf{Q:Value->Shared->Prop}{b:Bool}(rel:Rel X ex hs J F s)(q:J[i]? =some (some (d,b)))(hN:X.N[i]? =some x)(h2:(x == ("__classdict__" :Str))=false)(k:∀v,Val X s i v->Rp X.g ex s.heap d v (F i)->Q v s):wpAny X.M A (loadName X.env x) Q E s:=by
 obtain⟨y,v,m,e1,hn,l,p⟩:=rel.val q;have k:=k v ⟨y,m,e1,hn,l⟩ p;rw[hN]at e1;cases e1;rcases l with⟨hk,hm⟩ | ⟨hk | hk,c,hc,z⟩
 .exact wpAny_loadName_local rel.ok.kind hk hn hm k
 .exact wpAny_loadName_cell rel.ok.kind hk hc z k
 .exact wpAny_loadName_free rel.ok.kind hk hc z k h2
def Qzr(hN:X.N[i]? =some x)(h1:(x == ("__debug__" :Str))=false)(h2:(x == ("__classdict__" :Str))=false):SE X (.Name x pos) (Qn i):=λex hs J F s r rel e=>by
 unfold Qn at e;split at e
 .rename_i d b q;refine wpAny_Name (rel.Qnf q hN h2 λv _ p=>?_) h1;split at e
  .rename_i h;cases e;have:=p.QbX (fl1 h);rw[this]at p;exact⟨[],.flat .refl p⟩
  .split at e
   .rename_i h;cases e;cases h;exact⟨F i,.refl,p,λa m=> .inr ⟨i,d,true,q,m,λ_=>List.mem_singleton_self i⟩,λ_ _=>⟨(rel.ow.own i d q).1,λa m=> .inr ⟨i,List.mem_singleton_self i,m⟩⟩,λj m=>⟨d,Zj.mp m▸q⟩⟩
   .rename_i h;cases e;exact⟨F i,.refl,p,λa m=> .inr ⟨i,d,b,q,m,λz=>absurd z h⟩,(nomatch ·),nm⟩
 .cases e
def Qzn:SE X (.Constant (.int i) j pos) (dC (.int i)):=λ_ _ _ _ _ _ _ e=>by cases e;exact wpAny_Constant_int ⟨[],.flat .tok .int⟩
def QAA:SE X (.Constant (.bool i) j pos) (dC (.bl i)):=λ_ _ _ _ _ _ _ e=>by cases e;exact Constant_bool ⟨[],.flat .refl .bl⟩
def QzK:SE X (.Constant .none j pos) (dC .non):=λ_ _ _ _ _ _ _ e=>by cases e;exact Constant_none ⟨[],.flat .refl .non⟩
def Qy6:SE X (.Constant (.str i) j pos) (dC (.str i)):=λ_ _ _ _ _ _ _ e=>by cases e;exact Calls.Constant_str ⟨[],.flat .tok .str⟩
def Gl(X:Cx)(x:Str):Prop:=X.env.kindOf x=some .globalImplicit
def Rel.glob{Q:Value->Shared->Prop}(r:Rel X ex hs J F s)(hg:Gl X x)(hm:X.g.mg x=some u)(q:Q u s)(hd:(x == ("__debug__" :Str))=false):wpAny X.M X.A (eval (.Name x pos) X.env) Q E s:=
 Calls.Name_function_global r.ok.kind hg (Calls.loadGlobal_global (by rw[r.ok.glob];exact r.ok.mod.glob.keeps r.bk) hm q) hd
def Rel.Qze{Q:Value->Shared->Prop}(r:Rel X ex hs J F s)(hg:Gl X x)(hm:X.g.mg x=none)(hv:bootBuiltins x=some u)(q:Q u s)(hn:x≠ "__name__" :=by decide)(hd:(x == ("__debug__" :Str))=false:=by decide):wpAny X.M X.A (eval (.Name x pos) X.env) Q E s:=by
 obtain⟨mb,h1,h2⟩:=r.ok.mod.blt;exact Calls.Name_function_global r.ok.kind hg (Calls.loadGlobal_builtin (by rw[r.ok.glob];exact r.ok.mod.glob.keeps r.bk) hm (by rw[r.ok.blt];exact h1.keeps r.bk) (by rw[h2 x hn];exact hv) q) hd
def Qym(hg:Gl X x)(hm:X.g.mg x=some u)(h:At d u)(hd:(x == ("__debug__" :Str))=false):SE X (.Name x pos) (dC d):=λ_ _ _ _ _ _ rel e=>by cases e;exact rel.glob hg hm ⟨[],.flat .refl (.atm h .nil)⟩ hd
def Qbd:SA X [] Qe:=λ_ _ _ _ _ _ _ rel e=>by cases e;exact ZaI ⟨[],.nil⟩
def Qad(ha:SE X a fa)(hb:SA X es fs)(hs:starEach (a::es) X.env=(false,eval a X.env)::starEach es X.env):SA X (a::es) (Qa fa fs):=λex hs' J F s r pos rel e=>by
 refine Qj e λra ea e=>Qj e λrs es' e=>?_;cases e;rw[hs];exact Zaz (thn (ha rel ea) λv s1 ⟨G,p⟩=>thn (hb pos (rel.ext p.ext) es') λvs s2 ⟨G',q⟩=>⟨_,p.app rel q⟩)
def two{Q:Value->Value->Shared->Prop}(ha:SE X a fa)(hb:SE X b fb)(rel:Rel X ex hs J F s)(ea:fa J=some ra)(eb:fb J=some rb)
  (k:∀x y s1 s' G G',Qb7 X ex J F s s1 ra x G->Qb7 X ex J F s1 s' rb y G'->Rel X ex hs J F s'->Rp X.g ex s'.heap ra.d x G->Q x y s'):
  wpAny X.M X.A (eval a X.env) (λx s1=>wpAny X.M X.A (eval b X.env) (λy s2=>Q x y s2) (λ_ _=>False) s1) (λ_ _=>False) s:=
 thn (ha rel ea) λx s1 ⟨G,p⟩=>thn (hb (rel.ext p.ext) eb) λy s2 ⟨G',q⟩=>k x y s1 s2 G G' p q ((rel.ext p.ext).ext q.ext) (p.rp.ext q.ext)
def Op(X:Cx)(c:Value->Value->Sem Value)(g:D->D->Option D):Prop:=∀ ⦃ex hs J F s a b d x y G G'⦄,Rel X ex hs J F s->g a b=some d->Rp X.g ex s.heap a x G->Rp X.g ex s.heap b y G'→
 wpAny X.M X.A (c x y) (λv s'=>Ex s s'/\Rp X.g ex s'.heap d v []) (λ_ _=>False) s
def Qjz{ra rb:R}(rel:Rel X ex hs J F s)(ho:Op X c g)(e:((g ra.d rb.d).map λd=>(⟨d,true,[]⟩:R))=some r)(x:Ex s0 s)(p:Rp X.g ex s.heap ra.d v G)(q:Rp X.g ex s.heap rb.d u G'):wpAny X.M X.A (c v u) (λv s'=>∃G,Qb7 X ex J F s0 s' r v G) (λ_ _=>False) s:=by
 obtain⟨d,e1,rfl⟩:=Zn.mp e;exact thn (ho rel e1 p q) λv s' ⟨y,q⟩=>⟨[],.flat (x.trans y) q⟩
def Qkw(ho:Op X (binaryOp op) g)(ha:SE X a fa)(hb:SE X b fb):SE X (.BinOp a op b pos) (dOp g fa fb):=λex hs J F s r rel e=>by
 refine Qj e λra ea e=>Qj e λrb eb e=>?_;exact wpAny_BinOp (two ha hb rel ea eb λx y s1 s' G G' p q rel' p'=>Qjz rel' ho e (p.ext.trans q.ext) p' q.rp)
def Qzo(ho:Op X (compareOp op) g)(ha:SE X a fa)(hb:SE X b fb)(hm:behindInMarks op b=false):SE X (.Compare a [op] [b] pos) (dOp g fa fb):=λex hs J F s r rel e=>by
 refine Qj e λra ea e=>Qj e λrb eb e=>?_;exact wpAny_Compare1 (two ha hb rel ea eb λx y s1 s' G G' p q rel' p'=>Qjz rel' ho e (p.ext.trans q.ext) p' q.rp) hm
def Qfz(rule:∀i j d s t u,f i j=some d->wpAny X.M X.A (c (.int i t) (.int j u)) (λv s'=>Ex s s'/\At d v) (λ_ _=>False) s):Op X c (gI f):=λex hs J F s a b d x y G G' rel e p q=>by
 obtain⟨i,j,rfl,rfl,e⟩:=QpI e;obtain⟨t,rfl⟩:=p.int_inv;obtain⟨u,rfl⟩:=q.int_inv;exact thn (rule i j d s t u e) λv s' ⟨x,z⟩=>⟨x,.atm z .nil⟩
def QAi:Op X (binaryOp .Sub) Qbo:=Qfz λi j d s t u e=>by cases e;exact sub_int ⟨.tok,_,rfl⟩
def Qy2:Op X (binaryOp .FloorDiv) QdM:=Qfz λi j d s t u e=>by
 split at e
 .rename_i h;cases e;simp only[Qb9,Zl,decide_eq_true_eq]at h;refine floordiv_int h.1 ⟨.tok,_,by rw[QiV]⟩ (.inl (ZbL ?_));exact ZbT ((Nat.log2_lt ⋯).mpr h.2) ∅
 .cases e
def QAc:Op X (binaryOp .Mod) QbE:=Qfz λi j d s t u e=>by
 split at e
 .cases e;exact mod_int' (by assumption) ⟨.tok,_,by rw[Qiu]⟩
 .cases e
def bits_le{i:Int}{n:Nat}(h:i.natAbs<2^n):Builtin.Int.intBits i<=n:=by
 unfold Builtin.Int.intBits;split
 .lia
 .rename_i h0;have h0':i.natAbs≠0:=λz=>by simp_all
  have:=(Nat.log2_lt h0').mpr h;lia
def Qzx:Op X (binaryOp .Pow) Qlz:=Qfz λi j d s t u e=>by
 split at e
 .rename_i h;cases e;refine pow_int h.1 ?_ ⟨.tok,_,rfl⟩;have:=bits_le h.2.2;have h1:((Builtin.Int.intBits i:Nat):Int)*j<=200*1000:=Zcm ⋯ h.2.1 h.1 ∅;lia
 .cases e
def Qy5:Op X (binaryOp .RShift) Qot:=Qfz λi j d s t u e=>by
 split at e
 .cases e;exact rshift_int (by assumption) ⟨.tok,_,by rw[Zck i (L2.Qsk _)]⟩
 .cases e
def QzL:Op X (compareOp .Lt) (gI λi j=>some (.bl (decide (i<j)))):=Qfz λi j d s t u e=>by cases e;exact lt_int ⟨.refl,rfl⟩
def QA2:Op X (compareOp .LtE) gLe:=Qfz λi j d s t u e=>by cases e;exact le_int ⟨.refl,rfl⟩
def QAI:Op X (compareOp .Gt) gGt:=Qfz λi j d s t u e=>by cases e;exact gt_int ⟨.refl,rfl⟩
def QAW:Op X (compareOp .GtE) gGe:=Qfz λi j d s t u e=>by cases e;exact ge_int ⟨.refl,rfl⟩
def Qx8:Op X (inplaceOp .Add) (gI λi j=>some (.int (i+j))):=Qfz λi j d s t u e=>by cases e;exact iadd_int ⟨.tok,_,rfl⟩
def Qw7:Op X (inplaceOp .Sub) Qbo:=Qfz λi j d s t u e=>by cases e;exact isub_int ⟨.tok,_,rfl⟩
def QvG(h:QeI i j=true):IntMulOk i j:=by
 simp only[QeI,Zbj,Zl,decide_eq_true_eq]at h;exact h.elim (λh=>h.elim (λh=> .of_left (bits_le h)) λh=> .of_right (bits_le h)) λh=> .of_bits h.1 h.2
def Rel.push(r:Rel X ex hs J F s):s.heap.objs.size∉ex:=r.nex QaD
def Qaf.lay{its:List Value}(rel:Rel X ex hs J F s)(p:Qaf X ex J F s0 s ds0 fr M vs G)(z:ds.length<=sizeLine)(q:Rps X.g ex s.heap ds its G')(m:∀a∈G',a∈G)(n:Nat)(t:Nat):∃L,Qb7 X ex J F s0 {s with heap:=s.heap.push (QbF its n),toks:=t} (HS.Qa7 ds M) (.ref s.heap.objs.size) L:=
 p.Qa7 .push QaD rel.push (ZF _ rfl) z (q.ext .push) m
def QzX(ha:SE X a fa)(hb:SE X b fb):SE X (.BinOp a .Add b pos) (QJ fa fb):=λex hs J F s r rel e=>by
 refine Qj e λra ea e=>Qj e λrb eb e=>?_;refine wpAny_BinOp (two ha hb rel ea eb λx y s1 s' G1 G2 p q rel' p1=>?_);have p2:=q.rp;have x:=p.ext.trans q.ext;split at e
 .rename_i i j h1 h2;rw[h1]at p1;rw[h2]at p2;cases e;obtain⟨t,rfl⟩:=p1.int_inv;obtain⟨u,rfl⟩:=p2.int_inv;exact add_int ⟨[],.flat (x.trans .tok) .int⟩
 .rename_i xs ys h1 h2;rw[h1]at p1;rw[h2]at p2;split at e
  .rename_i hz;cases e;obtain⟨l,its,n,L,rfl,rfl,_,z1,e1,q1⟩:=p1.lst_inv;obtain⟨l2,its2,n2,L2,rfl,rfl,_,z2,e2,q2⟩:=p2.lst_inv;refine PySem.P.add_list e1 e2 ?_ (by rw[Zm,Zm,← q1.len,← q2.len];exact hz);rw[show its.toArray++its2.toArray=(its++its2).toArray by simp];exact(p.app rel q).lay rel' (by rw[ZG];exact hz) (q1.app q2) (λa m=>(Zf.mp m).elim (λm=>Zh _ (.tail _ m)) λm=>Zc _ (.tail _ m)) _ s'.toks
  .cases e
 .cases e
def Qth(r:Rps g ex h ds vs []):∀n,Rps g ex h (List.replicate n ds).flatten (List.replicate n vs).flatten []
 | 0=> .nil
 | n+1=>by rw[ZaT,ZaT,Zbk,Zbk];exact r.app (Qth r n)
def QzI(ha:SE X a fa)(hb:SE X b fb):SE X (.BinOp a .Mult b pos) (Qai fa fb):=λex hs J F s r rel e=>by
 refine Qj e λra ea e=>Qj e λrb eb e=>?_;refine wpAny_BinOp (two ha hb rel ea eb λx y s1 s' G1 G2 p q rel' p1=>?_);have p2:=q.rp;have x:=p.ext.trans q.ext;split at e
 .rename_i i j h1 h2;rw[h1]at p1;rw[h2]at p2;split at e
  .cases e;obtain⟨t,rfl⟩:=p1.int_inv;obtain⟨u,rfl⟩:=p2.int_inv;exact mul_int ⟨[],.flat (x.trans .tok) .int⟩ (QvG (by assumption))
  .cases e
 .rename_i xs k h1 h2;rw[h1]at p1;rw[h2]at p2;split at e
  .rename_i hc;cases e;obtain⟨hz,c1,c2,hf⟩:=hc;obtain⟨l,its,n,L,rfl,rfl,_,z1,e1,q1⟩:=p1.lst_inv;obtain⟨t,rfl⟩:=p2.int_inv;have hlen:its.toArray.size*k.toNat<=sizeLine:=by rw[Zm,← q1.len];exact hz
   have hnew:List.foldl (λx1 x2=>x1++x2) #[] (List.replicate (if its.toArray.isEmpty=true then 0 else k.toNat) its.toArray)=(List.replicate k.toNat its).flatten.toArray:=by
    have f0:∀m:Nat,List.foldl (λx1 x2=>x1++x2) #[] (List.replicate m its.toArray)=(List.replicate m its).flatten.toArray:=λm=>by
     have:=L2.foldl_rep its m [];rwa[ZcM]at this
    rw[f0];cases its with
    | nil=>simp
    | cons a r'=>rw[if_neg ⋯]
   refine wpAny_binaryOp_repeat_ref ∅ ⟨_,e1,rfl⟩ (λs'=>typeIs_int s' k t) noFill_list_mul PySem.F.fills_int_mul PySem.F.slot_int_rmul repeat_list PySem.F.slot_int_index.lookup
    (call_meets PySem.F.slot_int_rmul (typeIs_int s' k t) PySem.F.entry_int_rmul (PySem.F.args_int_rmul_2 _ _) (int___rmul___int_list k t l its.toArray n)
     ⟨e1,rfl,⟨_,e1,rfl⟩,call_meets PySem.F.slot_list_mul ⟨_,e1,rfl⟩ PySem.F.entry_list_mul (PySem.F.args_list_mul_2 _ _) (AutoListH.list___mul___list_int_3 l its.toArray n k t (by rw[fitsIndex_both c1 c2];decide) (by have:(sizeLine:Nat)<=(2^63-1) / 8:=∅;lia) (by rw[L2.Qvh hlen];decide)) ⟨e1,?_⟩⟩)
   rw[hnew];have:L=[]:=q1.QbX hf;subst this;exact⟨_,.QnS x .push QaD rel'.push (ZF _ rfl) (by rw[L2.len_rep,Nat.mul_comm];exact hz) ((Qth q1 k.toNat).ext .push)⟩
  .cases e
 .cases e
end
section
variable {X:Cx}{ex:LA}{hs:Hs}{J:En}{F:Ft}{s s':Shared}{a b:Expr}{fa fb:DE}{pos:Pos}{es:List Expr}{fs:DA}
def QyY(h:SA X es fs):SE X (.Tuple es k pos) (QaQ fs):=λex hs J F s r rel e=>by
 refine Qj e λrs e1 e=>?_;split at e
 .cases e;refine wpAny_Tuple_spliced (thn (h pos rel e1) λvs s1 ⟨G,p⟩=>?_);have z:rs.ds.length<=sizeLine:=ZJ (by assumption) ∅;exact⟨by rw[← p.rp.len];exact z,G,p.sub .push (.Qii (rel.ext p.ext).push z ⟨_,ZF _ rfl,rfl,_,rfl⟩ (p.rp.ext .push)) (λ_=> .inl) λh=>⟨h,id⟩⟩
 .cases e
def QzW(h:SA X es fs):SE X (.List es pos) (Q0 fs):=λex hs J F s r rel e=>by
 refine Qj e λrs e1 e=>?_;split at e
 .cases e;refine wpAny_List_spliced (thn (h pos rel e1) λvs s1 ⟨G,p⟩=>?_);have z:rs.ds.length<=sizeLine:=ZJ (by assumption) ∅;refine⟨by rw[← p.rp.len];exact z,s1.heap.objs.size::G,p.sub .push (.Qd9 (rel.ext p.ext).push z (ZF _ rfl) (p.rp.ext .push)) (λa h=>(Zq.mp h).elim (λh=> .inr (h▸QaD)) .inl) λh=>⟨h,λn=>Zaf.mpr ⟨λm=>?_,n⟩⟩⟩;obtain⟨_,_,q⟩:=p.rp.mem _ m;rw[QaD]at q;cases q
 .cases e
def Rps.seq{d:D}{h:Heap}(r:Rp g ex h d v G)(e:d.items=some ds):∃p its G',v= .ref p/\Rps g ex h ds its G'/\(∀a∈G',a∈G)/\(G.Nodup->G'.Nodup)/\ds.length<=sizeLine/\((d= .lst ds/\∃n,h.get? p=some (QbF its n))∨(d= .tup ds/\IsTup h p its.toArray)):=by
 unfold D.items at e;split at e
 .cases e;obtain⟨p,its,n,G',e1,rfl,_,z,e2,q⟩:=r.lst_inv;exact⟨p,its,G',e1,q,λ_ h=> .tail _ h,λh=>(Zaf.mp h).2,z,.inl ⟨rfl,n,e2⟩⟩
 .cases e;obtain⟨p,its,e1,_,z,e2,q⟩:=r.Qfp;exact⟨p,its,_,e1,q,λ_ h=>h,id,z,.inr ⟨rfl,e2⟩⟩
 .cases e
def isL{h:Heap}(e:h.get? p=some (QbF its n)):h.IsList p its.toArray:=⟨_,e,rfl,n,rfl⟩
def Qgu:(sizeLine:Int)<2^63:= ∅
def item{ds:List D}{its:List Value}{h:Heap}(r:Rps g ex h ds its G)(e:L2.atI ds i=some d):∃j v G',seqIndex? i its.length=some j/\its[j]? =some v/\ -(its.length:Int)<=i/\i<its.length/\Rp g ex h d v G'/\(∀a∈G',a∈G)/\(G.Nodup->G'.Nodup):=by
 obtain⟨j,h1,h2,_,h4,h5⟩:=L2.QwJ e;obtain⟨F1,G',F2,v,rfl,h6,_,q,_⟩:=r.split h2;rw[r.len]at h1 h4 h5;exact⟨j,v,G',h1,h6,h4,h5,q,λa m=>Zc _ (Zh _ m),λn=>(Zal.mp (Zal.mp n).2.1).1⟩
def Qj7{w:List Value}(z:((w.length:Nat):Int)<2^63)(h:s.heap.IsList l w.toArray∨IsTup s.heap l w.toArray)(h1:seqIndex? i w.length=some j)(h2:w[j]? =some v)(h4: -(w.length:Int)<=i)(h5:i<w.length)(q:Q v s):wpAny (model P w') A (getItem (.ref l) (.int i t)) Q E s:=by
 rcases h with h | h
 .by_cases h0:0<=i
  .refine wpAny_getItem_list h h0 ⋯ (x:=v) ?_ q;rw[seqIndex_of h0 h5]at h1;rw[Option.some.inj h1];simpa using h2
  .refine wpAny_getItem_list_neg h ⋯ (by rw[Zm];exact h4) ⋯ (x:=v) ?_ q;rw[seqIndex_neg ⋯ h4]at h1;rw[Zm,Option.some.inj h1];simpa using h2
 .exact getItem_tuple (j:=j) h ⋯ ⋯ (by rw[Zm];exact h1) (by simpa using h2) q
def Qzk(ha:SE X a fa)(hb:SE X b fb)(hp:L2.Ql8 b):SE X (.Subscript a b pos) (Qk fa fb):=λex hs J F s r rel e=>by
 refine Qj e λra ea e=>Qj e λrb eb e=>?_;refine Subscript_ (two ha hb rel ea eb λx y s1 s' G1 G2 p q rel' p1=>?_);have p2:=q.rp;have main:∀i,rb.d= .int i->((ra.d.items).bind λxs=>(L2.atI xs i).map λd=>(R.norm ⟨d,ra.fr,ra.M⟩))=some r->wpAny X.M X.A (subscriptTail a b x y) (λv s'=>∃G,Qb7 X ex J F s s' r v G) (λ_ _=>False) s':=λi h2 e=>by
  rw[h2]at p2;obtain⟨t,rfl⟩:=p2.int_inv;refine Qj e λds e1 e=>?_;obtain⟨d,e2,rfl⟩:=Zn.mp e;obtain⟨l,its,G',rfl,r1,m,n,z,k⟩:=p1.seq e1;obtain⟨j,v,G3,h3,h4,h5,h6,r3,m3,n3⟩:=item r1 e2;have z:((its.length:Nat):Int)<2^63:=by rw[← r1.len];have:=Qgu;lia
  have fin:∃G,Qb7 X ex J F s s' (R.norm ⟨d,ra.fr,ra.M⟩) v G:=⟨G3,Qaf.norm (r:=⟨d,ra.fr,ra.M⟩) (p.sub q.ext r3 (λa h=> .inl (m a (m3 a h))) λh=>⟨h,λw=>n3 (n w)⟩)⟩;rcases k with⟨_,_,k⟩ | ⟨_,k⟩
  .exact tail_any (isL k).typeIs slot_list_getitem.lookup (Qj7 z (.inl (isL k)) h3 h4 h5 h6 fin) (hp _ _)
  .exact tail_any k.typeIs slot_tuple_getitem.lookup (Qj7 z (.inr k) h3 h4 h5 h6 fin) (hp _ _)
 split at e
 .rename_i i h2;exact main i h2 e
 .cases e
abbrev SO(X:Cx)(e:Option Expr)(f:DO):Prop:=∀ ⦃ex hs J F s o⦄,Rel X ex hs J F s->f J=some o->wpAny X.M X.A (evalPart e X.env) (λv s'=>IsPart v o/\Ex s s') (λ_ _=>False) s
def QwY:SO X none Qfa:=λex hs J F s o rel e=>by cases e;rw[evalPart_none];exact wpAny_pure ⟨.none,.refl⟩
def QyA(h:SE X a fa):SO X (some a) (Qcb fa):=λex hs J F s o rel e=>by
 rw[evalPart_some];refine Qj e λr e1 e=>thn (h rel e1) λv s' ⟨G,p⟩=>?_;have q:=p.rp;split at e
 .rename_i i h;cases e;rw[h]at q;obtain⟨t,rfl⟩:=q.int_inv;exact⟨.int i t,p.ext⟩
 .cases e
def Rps.take{h:Heap}:∀(n:Nat) {ds vs G},Rps g ex h ds vs G->∃G',Rps g ex h (ds.take n) (vs.take n) G'/\∀a∈G',a∈G
 | 0,_,_,_,r=>⟨[],.nil,nm⟩
 | n+1,[],_,_,r=>by cases r;exact⟨[],.nil,nm⟩
 | n+1,d::ds,_,_,r=>by
  obtain⟨v,vs,G,F',rfl,rfl,p,q⟩:=r.inv;obtain⟨G',h1,h2⟩:=q.take n;exact⟨G++G',p.app h1,λa m=>Zf.mpr ((Zf.mp m).imp id (h2 a))⟩
def Rps.drop{h:Heap}:∀(n:Nat) {ds vs G},Rps g ex h ds vs G->∃G',Rps g ex h (ds.drop n) (vs.drop n) G'/\∀a∈G',a∈G
 | 0,_,_,_,r=>⟨_,r,λ_ h=>h⟩
 | n+1,[],_,_,r=>by cases r;exact⟨[],.nil,nm⟩
 | n+1,d::ds,_,_,r=>by
  obtain⟨v,vs,G,F',rfl,rfl,p,q⟩:=r.inv;obtain⟨G',h1,h2⟩:=q.drop n;exact⟨G',h1,λa m=>Zc _ (h2 a m)⟩
def QzU{lo hi:Option Expr}{fl fh:DO}{p2:Pos}(ha:SE X a fa)(hl:SO X lo fl)(hh:SO X hi fh):SE X (.Subscript a (.Slice lo hi none p2) pos) (Qep fa fl fh):=λex hs J F s r rel e=>by
 refine Qj e λra ea e=>Qj e λl el e=>Qj e λu eu e=>?_;refine Subscript_ (thn (ha rel ea) λx s1 ⟨G,p⟩=>wpAny_Slice (thn (hl (rel.ext p.ext) el) λvl s2 ⟨pl,x2⟩=>thn (hh ((rel.ext p.ext).ext x2) eu) λvu s3 ⟨pu,x3⟩=>?_));rw[evalPart_none];refine wpAny_pure ?_;have xx:Ex s1 {s3 with heap:=s3.heap.push {cls:= .type "slice",data:= .fields #[vl,vu,.none]}}:=(x2.trans x3).trans .push;have q:=p.rp.ext xx;have rel':=(rel.ext p.ext).ext xx;split at e
 .rename_i xs h;cases e;rw[h]at q;obtain⟨l',its,n,L,rfl,rfl,_,z,e1,q1⟩:=q.lst_inv;refine tail_any (ops:=[.ref s3.heap.objs.size,.ref l']) (isL e1).typeIs slot_list_getitem.lookup (wpAny_getItem_list_slice (isL e1) (Heap.IsSliceOf.new ..) pl pu .none ⋯ ?_ (by rw[Zm,← q1.len];exact z)) (by with_unfolding_all rfl);rw[L2.Qna,← q1.len];obtain⟨G1,r1,m1⟩:=q1.drop (HT.sIx xs.length 0 l);obtain⟨G2,r2,m2⟩:=r1.take (HT.sIx xs.length xs.length u-HT.sIx xs.length 0 l);exact(p.more xx).lay rel' (by rw[ZP,ZZ];lia) r2 (λa m=> .tail _ (m1 a (m2 a m))) _ _
 .cases e
def Bf(X:Cx)(f:Value)(g:List D->Option D):Prop:=∀ ⦃ex hs J F s ds vs d G⦄,Rel X ex hs J F s->g ds=some d->Rps X.g ex s.heap ds vs G->wpAny X.M X.A (call f vs) (λv s'=>Ex s s'/\Rp X.g ex s'.heap d v []) (λ_ _=>False) s
end
section
variable {X:Cx}{ex:LA}{hs:Hs}{J:En}{F:Ft}{s s':Shared}{a b:Expr}{fa fb:DE}{pos p:Pos}{es:List Expr}{fs:DA}{x:Str}
structure Cb (X:Cx) (x:Str) (f:Value) (a:Expr) (es:List Expr) (pos:Pos):Prop where
 g:Gl X x
 m:X.g.mg x=none
 v:bootBuiltins x=some f
 k:∃k,f= .builtin k∨f= .type k
 n:x≠ "__name__"
 d:(x == ("__debug__" :Str))=false
 e:starEach (a::es) X.env=(false,eval a X.env)::starEach es X.env
 l:(backTo pos (starEach es X.env)).any (·.1)=false
def Cb.call{Q:Value->Shared->Prop}(c:Cb X x f a es pos)(rel:Rel X ex hs J F s)(h:wpAny X.M X.A (spliced (backTo pos (starEach (a::es) X.env))) (λvs s'=>wpAny X.M X.A (call f vs) Q E s') E s):wpAny X.M X.A (eval (.Call (.Name x p) (a::es) [] pos) X.env) Q E s:=by
 obtain⟨k,hk⟩:=c.k;refine wpAny_Call_Name_kw (rel.Qze c.g c.m c.v ?_ c.n c.d);rcases hk with rfl | rfl
 .exact PyProof.Rows.callWith_builtin1 h c.e c.l
 .exact PyProof.Rows.callWith_type1 h c.e c.l
def Qwv(c:Cb X x f a es pos)(hb:Bf X f g)(ha:SA X (a::es) fs):SE X (.Call (.Name x p) (a::es) [] pos) (dBf g fs):=λex hs J F s r rel e=>by
 refine Qj e λrs e1 e=>?_;obtain⟨d,e2,rfl⟩:=Zn.mp e;exact c.call rel (thn (ha pos rel e1) λvs s1 ⟨G,q⟩=>thn (hb (rel.ext q.ext) e2 q.rp) λv s2 ⟨x,r⟩=>⟨[],.flat (q.ext.trans x) r⟩)
def Rps.one{h:Heap}(r:Rps g ex h [d] vs G):∃v,vs=[v]/\Rp g ex h d v G:=by
 obtain⟨v,vs,G,F',rfl,rfl,p,q⟩:=r.inv;cases q;exact⟨v,rfl,by rwa[ZV]⟩
def Rps.two{h:Heap}(r:Rps g ex h [d,d'] vs G):∃v v' G' G'',vs=[v,v']/\Rp g ex h d v G'/\Rp g ex h d' v' G'':=by
 obtain⟨v,vs,G,F',rfl,rfl,p,q⟩:=r.inv;obtain⟨v',rfl,q⟩:=q.one;exact⟨v,v',_,_,rfl,p,q⟩
def QzQ:Bf X (.builtin "abs") QrF:=λex hs J F s ds vs d G rel e r=>by
 unfold QrF at e;split at e<;>cases e;obtain⟨v,rfl,q⟩:=r.one;obtain⟨t,rfl⟩:=q.int_inv;exact call_abs_int λu tk=>⟨.tok,.int⟩
def Qw8(hc:X.calm=true):Bf X (.builtin "min") QfS:=λex hs J F s ds vs d G rel e r=>by
 unfold QfS at e;split at e<;>cases e;obtain⟨v,v',_,_,rfl,q,q'⟩:=r.two;obtain⟨t,rfl⟩:=q.int_inv;obtain⟨u,rfl⟩:=q'.int_inv;refine min_two_ints (rel.ok.hd hc) λh' tk k=>⟨.of k,?_⟩;split<;>exact .int
def QBy(hc:X.calm=true):Bf X (.builtin "max") Qwt:=λex hs J F s ds vs d G rel e r=>by
 unfold Qwt at e;split at e<;>cases e;obtain⟨v,v',_,_,rfl,q,q'⟩:=r.two;obtain⟨t,rfl⟩:=q.int_inv;obtain⟨u,rfl⟩:=q'.int_inv;refine max_two_ints (rel.ok.hd hc) λh' tk k=>⟨.of k,?_⟩;split<;>exact .int
abbrev Sq(h:Heap)(l:Addr)(its:List Value):Prop:=h.IsList l its.toArray∨IsTup h l its.toArray
def Rps.sq{d:D}{h:Heap}(r:Rp g ex h d v G)(e:d.items=some ds):∃l its G',v= .ref l/\Rps g ex h ds its G'/\(∀a∈G',a∈G)/\its.length<=sizeLine/\Sq h l its:=by
 obtain⟨l,its,G',e1,q,m,_,z,k⟩:=r.seq e;exact⟨l,its,G',e1,q,m,q.len▸z,k.imp (λ⟨_,_,k⟩=>isL k) (·.2)⟩
def QAg:Bf X (.builtin "len") Qan:=λex hs J F s ds vs d G rel e r=>by
 have main:∀c xs,ds=[c]->c.items=some xs->wpAny X.M X.A (call (.builtin "len") vs) (λv s'=>Ex s s'/\Rp X.g ex s'.heap (.int xs.length) v []) (λ_ _=>False) s:=λc xs h1 h2=>by
  subst h1;obtain⟨v,rfl,q⟩:=r.one;obtain⟨l,its,G',rfl,q,_,z,k⟩:=q.sq h2;have:=Qgu;rw[q.len];rcases k with k | k
  .exact Calls.call_len_list k (by rw[Zm];lia) ⟨.tok,.int⟩
  .exact len_tuple k (by rw[Zm];lia) ⟨.tok,.int⟩
 unfold Qan at e;split at e
 .cases e;exact main _ _ rfl rfl
 .cases e;exact main _ _ rfl rfl
 .cases e
noncomputable abbrev itN:List String:=["list_iterator","tuple_iterator","range_iterator","str_ascii_iterator","str_iterator"]
def Pl(h:Heap)(I:Addr):Prop:=∃o n vs,h.get? I=some o/\o.cls= .type n/\o.data= .fields vs/\n∈itN
def Pl.imm{h:Heap}:Pl h I->∃o,h.get? I=some o/\Imm o:=λ⟨o,n,vs,e,c,d,m⟩=>⟨o,e,by rw[Imm,c,d];exact⟨⋯,⋯,λz=>by cases z;revert m;decide,⋯⟩⟩
def Pl.go{tg:Expr}(p:Pl s.heap I)(q:Q () s):wpAny (model P w) A (letOwnedTupleGo tg (.ref I) v) Q E s:=by
  obtain⟨o,n,vs,e,c,d,m⟩:=p;unfold letOwnedTupleGo;have:["enumerate","zip","dict_itemiterator","dict_reverseitemiterator","odict_iterator","itertools.zip_longest","itertools.pairwise"].contains n=false:=by
    simp only[itN,Zq,Zbq,or_false]at m;rcases m with rfl | rfl | rfl | rfl | rfl<;>rfl
  cases tg<;>first
    | exact wpAny_pure q
    | (cases v<;>first
        | exact wpAny_pure q
        | (refine wpAny_bind (wpAny_load e ?_)
           simp only[c,d,this,Bool.false_and];exact wpAny_pure q))
abbrev Sw(s:Shared)(h:Heap)(l:Addr)(its:List Value):Prop:=(s.heap.IsList l its.toArray/\h.IsList l its.toArray)∨IsTup h l its.toArray
def Qeq{its:List Value}(hh:A.handled=none)(k:Sq s.heap l its)
  (q:∀h' I St,Walks P w A I [I,l] [I] its.toArray.size (λi v=>its.toArray[i]? =some v) St->St 0 h'->(∀b∈[I,l],b<h'.objs.size)->(∀b o,s.heap.get? b=some o->h'.get? b=some o/\b∉[I])->s.heap.get? I=none->(∀i h,St i h->Pl h I/\Sw s h l its)->Q (.ref I) {s with heap:=h'}):wpAny (model P w) A (pyIter (.ref l)) Q E s:=by
 have lt:l<s.heap.objs.size:=by rcases k with⟨_,e,_⟩ | ⟨_,e,_⟩<;>exact ZW e
 have fin:∀o St,o.isFreed=false->Walks P w A s.heap.objs.size [s.heap.objs.size,l] [s.heap.objs.size] its.toArray.size (λi v=>its.toArray[i]? =some v) St->St 0 (s.heap.push o)->(∀i h,St i h->Pl h s.heap.objs.size/\Sw s h l its)->Q (.ref s.heap.objs.size) {s with heap:=s.heap.push o}:=λo St ho W st im=>
  q _ _ St W st (λb hb=>by
   rw[Zar];simp only[Zq,Zbq,or_false]at hb;rcases hb with rfl | rfl
   .exact Zaj _
   .exact Zau lt) (λb o' e=>⟨Ze _ e,λz=>absurd (Zj.mp z▸ZW e) (ZaZ _)⟩) QaD im
 rcases k with k | k
 .have k0:=k;refine wpAny_pyIter_list k (fin _ _ rfl (Walks.list hh s.heap.objs.size l (Zad lt) its.toArray) ⟨⟨_,ZF _ rfl,rfl,rfl⟩,k.push _⟩ λi h st=>?_)
  .obtain⟨⟨o,e,c,d⟩,k⟩:=st;exact⟨⟨o,_,_,e,c,d,∅⟩,.inl ⟨k0,k⟩⟩
 .refine wpAny_pyIter_tuple k (fin _ _ rfl (Walks.tuple hh s.heap.objs.size l (Zad lt) its.toArray) ⟨⟨_,ZF _ rfl,rfl,rfl⟩,Heap.IsTuple.push k _⟩ λi h st=>?_)
  .obtain⟨⟨o,e,c,d⟩,k⟩:=st;exact⟨⟨o,_,_,e,c,d,∅⟩,.inr k⟩
def Qrm{h:Heap}:∀{ns:List Int}{vs G},Rps g ex h (ns.map .int) vs G->∀(i:Nat) v,vs[i]? =some v->∃t,v= .int (ns.getD i 0) t
 | [],_,_,r,i,v,e=>by cases r;cases e
 | n::ns,_,_,r,i,v,e=>by
  obtain⟨u,vs,G,F',rfl,rfl,p,q⟩:=r.inv;cases i with
  | zero=>cases e;exact p.int_inv
  | succ i=>exact Qrm q i v e
def row{d:D}{h:Heap}(r:Rp g ex h d v G)(e:d.items=some xs)(e2:Qa4 xs=some ns):∃l its,v= .ref l/\Sq h l its/\its.toArray.size=ns.length/\∀(i:Nat) v,its.toArray[i]? =some v->∃t,v= .int (ns.getD i 0) t:=by
 obtain⟨l,its,G',e1,q,_,_,k⟩:=r.sq e;rw[QeM e2]at q;exact⟨l,its,e1,k,by rw[Zm,← q.len,Zd],λi v e=>Qrm q i v (by simpa using e)⟩
def Qyf(hh:X.A.handled=none){its:List Value}(k:Sq s.heap l its)(hl:its.toArray.size=ns.length)(hi:∀(i:Nat) v,its.toArray[i]? =some v->∃t,v= .int (ns.getD i 0) t)(hm:QhL ns=some m):wpAny X.M X.A (call (.builtin "min") [.ref l]) (λv s'=>Ex s s'/\Rp X.g ex s'.heap (.int m) v []) (λ_ _=>False) s:=by
 have hp:0<ns.length:=by cases ns with | nil=>cases hm | cons=>exact Nat.succ_pos _
 refine call_min_walk (Qeq (A:=X.A.in1) hh k λh' I St W st lt kp _ _=>⟨I,_,_,_,_,_,_,rfl,W,st,lt,hl▸hp,CmpOf.ints_lt (λi=>ns.getD i 0) hi,λv h'' tk hv hk=>?_⟩);obtain⟨t,rfl⟩:=hi _ v hv;obtain⟨h1,h2⟩:=argBest_lt (λi=>ns.getD i 0) (its.toArray.size-1);generalize argBest _ _=j at h1 h2 hv ⊢;rw[QtS (QlC hm) (b:=ns.getD j 0) ⟨PySem.getD_mem ⋯,λa ha=>?_⟩]
 .exact⟨.of λb o e=>hk b o (kp b o e).2 (kp b o e).1,.int⟩
 .obtain⟨i,hj,rfl⟩:=mem_getD ha;exact h2 i ⋯
def QxE(hh:X.A.handled=none){its:List Value}(k:Sq s.heap l its)(hl:its.toArray.size=ns.length)(hi:∀(i:Nat) v,its.toArray[i]? =some v->∃t,v= .int (ns.getD i 0) t)(hm:Qin ns=some m):wpAny X.M X.A (call (.builtin "max") [.ref l]) (λv s'=>Ex s s'/\Rp X.g ex s'.heap (.int m) v []) (λ_ _=>False) s:=by
 have hp:0<ns.length:=by cases ns with | nil=>cases hm | cons=>exact Nat.succ_pos _
 refine call_max_walk (Qeq (A:=X.A.in1) hh k λh' I St W st lt kp _ _=>⟨I,_,_,_,_,_,_,rfl,W,st,lt,hl▸hp,CmpOf.ints_gt (λi=>ns.getD i 0) hi,λv h'' tk hv hk=>?_⟩);obtain⟨t,rfl⟩:=hi _ v hv;obtain⟨h1,h2⟩:=argBest_gt (λi=>ns.getD i 0) (its.toArray.size-1);generalize argBest _ _=j at h1 h2 hv ⊢;rw[Qsy (Qld hm) (b:=ns.getD j 0) ⟨PySem.getD_mem ⋯,λa ha=>?_⟩]
 .exact⟨.of λb o e=>hk b o (kp b o e).2 (kp b o e).1,.int⟩
 .obtain⟨i,hj,rfl⟩:=mem_getD ha;exact h2 i ⋯
def QwP(hc:X.calm=true):Bf X (.builtin "min") QeF:=λex hs J F s ds vs d G rel e r=>by
 unfold QeF at e;split at e
 iterate 2
  .refine Qj e λns h1 e=>?_;obtain⟨m,h2,rfl⟩:=Zn.mp e;obtain⟨v,rfl,q⟩:=r.one;obtain⟨l,its,rfl,k,hl,hi⟩:=row q rfl h1;exact Qyf (rel.ok.hd hc) k hl hi h2
 .cases e
def QxL(hc:X.calm=true):Bf X (.builtin "max") QdH:=λex hs J F s ds vs d G rel e r=>by
 unfold QdH at e;split at e
 iterate 2
  .refine Qj e λns h1 e=>?_;obtain⟨m,h2,rfl⟩:=Zn.mp e;obtain⟨v,rfl,q⟩:=r.one;obtain⟨l,its,rfl,k,hl,hi⟩:=row q rfl h1;exact QxE (rel.ok.hd hc) k hl hi h2
 .cases e
def Qxc(hc:X.calm=true):Bf X (.builtin "sum") QeG:=λex hs J F s ds vs d G rel e r=>by
 unfold QeG at e;split at e
 iterate 2
  .obtain⟨ns,h1,rfl⟩:=Zn.mp e;obtain⟨v,rfl,q⟩:=r.one;obtain⟨l,its,rfl,k,hl,hi⟩:=row q rfl h1;refine call_sum_walkG (Qeq (A:=X.A.in1) (rel.ok.hd hc) k λh' I St W st lt kp _ _=>⟨I,_,_,_,_,_,λi=>ns.getD i 0,rfl,W,st,lt,hi,λh'' tk t' hk=>⟨.of λb o e=>hk b o (kp b o e).2 (kp b o e).1,?_⟩⟩);rw[hl,preSum_getD,Zbc];exact .int
 .cases e
end
section
variable {X:Cx}{ex:LA}{hs:Hs}{J:En}{F:Ft}{s s':Shared}{a b c:Expr}{fa fb:DE}{ga gb gc:DT}{pos p:Pos}{es rest:List Expr}{fs:DA}{x:Str}
def Qvv{h:Heap}:∀{d v},At d v->∃as,Reads h v d.py as
 | .non,_,rfl=>⟨_,.none⟩
 | .bl b,_,rfl=>⟨_,.bool b⟩
 | .int i,_,⟨t,rfl⟩=>⟨_,.int i t⟩
 | .str i,_,⟨t,rfl⟩=>⟨_,.str i t⟩
def Rps.Qzy{h:Heap}(r:Rps g ex h ds vs L):QfM ds=true->∃as,ReadsAll h vs (pys ds) as:=by
 induction r with
 | nil=>exact λ_=>⟨_,.nil⟩
 | atm x _ i=>
  intro n;simp only[QfM,Zl]at n;obtain⟨as,q⟩:=Qvv x;obtain⟨bs,q'⟩:=i n.2;exact⟨_,.cons q q'⟩
 | lst _ _ e _ _ i j=>
  intro n;simp only[QfM,D.noX,Zl]at n;obtain⟨as,q⟩:=i n.1;obtain⟨bs,q'⟩:=j n.2;exact⟨_,.cons (.list e rfl rfl (by simpa using q)) q'⟩
 | tup _ _ e _ _ i j=>
  intro n;simp only[QfM,D.noX,Zl]at n;obtain⟨as,q⟩:=i n.1;obtain⟨bs,q'⟩:=j n.2;obtain⟨o,h1,h2,m,h3⟩:=e;exact⟨_,.cons (.tuple h1 h2 h3 (by simpa using q)) q'⟩
 | dk=>intro n;simp[QfM,D.noX]at n
def Rps.reads{d:D}{h:Heap}(r:Rp g ex h d v L)(n:d.sim 8=true):(∃as,Reads h v d.py as)/\d.py.canLay0=true/\d.py.depth<=9:=by
 obtain⟨as,q⟩:=r.Qzy (by simp only[QfM,QlF 8 d n,Bool.and_true]);cases q with
 | cons q _=>exact⟨⟨_,q⟩,Qgx 8 d n⟩
def QAS(hu:X.A.units+64<cLine):Op X (compareOp .Eq) gEq:=λex hs J F s a b d x y G G' rel e p q=>by
 unfold gEq at e;split at e
 .rename_i h;simp only[Zl]at h;cases e;obtain⟨⟨_,ra⟩,a1,a2⟩:=p.reads h.1;obtain⟨⟨_,rb⟩,b1,b2⟩:=q.reads h.2;exact SeqAt.compareEq_reads ra rb a1 b1 (by have:=ZcN a.py.depth b.py.depth;lia) ⟨.refl,.bl⟩
 .cases e
def QAr(hu:X.A.units+64<cLine):Op X (compareOp .NotEq) gNe:=λex hs J F s a b d x y G G' rel e p q=>by
 unfold gNe at e;split at e
 .rename_i h;simp only[Zl]at h;cases e;obtain⟨⟨_,ra⟩,a1,a2⟩:=p.reads h.1;obtain⟨⟨_,rb⟩,b1,b2⟩:=q.reads h.2;exact SeqAt.compareNe_reads ra rb a1 b1 (by have:=ZcN a.py.depth b.py.depth;lia) ⟨.refl,.bl⟩
 .cases e
def QoC{h:Heap}{a:Addr}:∀{ds:List D}{its k L},IsTup h a its.toArray->Rps g ex h ds its L->intsOf ds=some k->(tupleKind (intKind g.P g.w)).is h k a:=λ{ds its k L} r t e=>by
 obtain⟨o,h1,h2,n,h3⟩:=r;refine⟨o,its.toArray,n,h1,h2,h3,?_⟩;rw[List.toList_toArray];clear h1 h3
 induction ds generalizing its k L with
 | nil=>cases t;cases e;exact .nil
 | cons d ds ih=>
  obtain⟨v,vs,G,F',rfl,rfl,p,q⟩:=t.inv;unfold intsOf at e;split at e
  .obtain⟨k',e1,rfl⟩:=Zn.mp e;obtain⟨t,rfl⟩:=p.int_inv;exact .cons (by simp[intKind,Value.isInt]) (ih q e1)
  .cases e
def QnH:∀(xs:List (List Int×Addr×Value)) (k:List Int),(atKey xs k).isSome=(xs.map (·.1)).contains k
 | [],_=>rfl
 | x::xs,k=>by
  have:=QnH xs k;simp only[atKey,List.find?_cons,Zy,List.contains_cons]at this ⊢;by_cases h:x.1=k
  .simp[h]
  .have h2:(k == x.1)=false:=by simpa using Ne.symm h
   simp only[h,decide_false,h2,Bool.false_or];exact this
noncomputable def inO(neg:Bool):CmpOp:=if neg then .NotIn else .In
def Qwy(neg:Bool)(hu:X.A.units+64<cLine):Op X (compareOp (inO neg)) (gIn neg):=λex hs J F s a b d x y G G' rel e p q=>by
 unfold gIn at e;split at e
 iterate 2
  .rename_i xs;split at e
   .rename_i h;simp only[Zl]at h;cases e;obtain⟨⟨_,ra⟩,a1,a2⟩:=p.reads h.1;obtain⟨⟨_,rb⟩,b1,b2⟩:=q.reads h.2;have hu:X.A.units+1+min (PyData.depthAll (pys xs)) a.py.depth<cLine:=by have:=Zcz (PyData.depthAll (pys xs)) a.py.depth;lia
    rw[← Qzf];cases neg
    .first | exact SeqAt.in_list_reads rb ra b1 a1 hu ⟨.refl,.bl⟩ | exact SeqAt.in_tuple_reads rb ra b1 a1 hu ⟨.refl,.bl⟩
    .first | exact SeqAt.notIn_list_reads rb ra b1 a1 hu ⟨.refl,.bl⟩ | exact SeqAt.notIn_tuple_reads rb ra b1 a1 hu ⟨.refl,.bl⟩
   .cases e
 .unfold gDk at e;split at e
  .rename_i e2;cases e2;obtain⟨k,e1,rfl⟩:=Zn.mp e;obtain⟨b',rfl,_,_,z,l,xs,ek,_,dd⟩:=q.QtT;obtain⟨a',its,rfl,_,_,r,t⟩:=p.Qfp;have ky:=QoC r t e1;have w:=QnH xs k;rw[ek]at w;have hu:(tupleKind (intKind X.g.P X.g.w)).room X.A.in1:=tupleKind_room_in1 ⋯;cases neg
   .exact wpAny_in_heap hu ky z dd ⟨.tok,by rw[w,Bool.bne_false];exact .bl⟩
   .exact wpAny_notIn_heap hu ky z dd ⟨.tok,by rw[w,Bool.bne_true];exact .bl⟩
  .cases e
 .cases e
def Qn0{d:D}(r:Rp g ex h d v L):(v == Value.none)=d.Qso:=by
 cases r with
 | atm x=>cases d<;>first | (cases x;done) | (cases x;rfl) | (obtain⟨t,rfl⟩:=x;rfl)
 | lst=>rfl
 | tup=>rfl
 | dk=>rfl
def QA3:Op X (compareOp .Is) (Qig false):=λex hs J F s a b d x y G G' rel e p q=>by
 unfold Qig at e;split at e
 .cases e;rw[q.QiM];exact is_none ⟨.refl,by rw[Qn0 p];exact .bl⟩
 .cases e;rw[p.QeN,q.QeN];exact is_bool ⟨.refl,.bl⟩
 .cases e
def QuC:Op X (compareOp .IsNot) (Qig true):=λex hs J F s a b d x y G G' rel e p q=>by
 unfold Qig at e;split at e
 .cases e;rw[q.QiM];exact isNot_none ⟨.refl,by rw[Qn0 p];exact .bl⟩
 .cases e;rw[p.QeN,q.QeN];exact isnot_bool ⟨.refl,.bl⟩
 .cases e
def Rps.tru{d:D}(r:Rp X.g ex s.heap d v L)(e:d.tru=some k):wpAny X.M X.A (truthy v) (λc s'=>c=k/\Ex s s') (λ_ _=>False) s:=by
 have z:=Qgu;have emp:∀{ds vs G},Rps X.g ex s.heap ds vs G->(!vs.toArray.isEmpty)= !ds.isEmpty:=λ{ds vs G} r=>by
  have:=r.len;cases ds<;>cases vs<;>simp_all
 cases d with
 | non=>cases e;rw[r.QiM];exact truthy_none ⟨rfl,.refl⟩
 | bl=>cases e;rw[r.QeN];exact wpAny_truthy_bool ⟨rfl,.refl⟩
 | int=>cases e;obtain⟨t,rfl⟩:=r.int_inv;exact PySem.P.truthy_int ⟨rfl,.refl⟩
 | lst ds=>
  cases e;obtain⟨l,its,n,G,rfl,_,_,z1,e1,q⟩:=r.lst_inv;exact wpAny_truthy_list (isL e1) (by rw[Zm,← q.len];lia) ⟨emp q,.tok⟩
 | tup ds=>
  cases e;obtain⟨l,its,rfl,_,z1,e1,q⟩:=r.Qfp;exact truthy_tuple e1 (by rw[Zm,← q.len];lia) ⟨emp q,.tok⟩
 | str i=>cases e
 | _=>cases e
def QyI(ha:SE X a fa)(he:∀whole,isTrue a X.env whole=(do let v ← whole;standAt a.pos;holding [v] (truthy v))):ST X a (QA fa):=λex hs J F s b rel e=>by
 refine Qj e λr e1 e=>?_;exact isTrue_plain (thn (ha rel e1) λv s1 ⟨G,p⟩=>thn (p.rp.tru e) λc s2 ⟨h,x⟩=>⟨h,p.ext.trans x⟩) (he _)
def Qzc(ho:Op X (compareOp op) g)(ha:SE X a fa)(hb:SE X b fb)(hm:behindInMarks op b=false):ST X (.Compare a [op] [b] pos) (QA (dOp g fa fb)):=λex hs J F s k rel e=>by
 refine Qj e λr e0 e=>Qj e0 λra ea e0=>Qj e0 λrb eb e0=>?_;exact wpAny_isTrue_Compare1 (two ha hb rel ea eb λx y s1 s' G G' p q rel' p'=>thn (Qjz rel' ho e0 (p.ext.trans q.ext) p' q.rp) λv s3 ⟨G3,p3⟩=>thn (p3.rp.tru e) λc s4 ⟨h,x⟩=>⟨h,p3.ext.trans x⟩) hm
def QyX(ha:ST X a ga):ST X (.UnaryOp .Not a pos) (QdJ ga):=λex hs J F s k rel e=>by
 refine Qj e λc e1 e=>?_;cases e;exact isTrue_not (thn (ha rel e1) λd s1 ⟨h,x⟩=>⟨congrArg (!·) h,x⟩)
def Qw3(ha:ST X a ga):ST X (.BoolOp .And [a] pos) ga:=λex hs J F s k rel e=>by
 refine isTrue_and (thn (ha rel e) λd s1 h=>?_);cases d with
 | true=>exact isTrue_and_nil h
 | false=>exact h
def QAk(ha:ST X a ga):ST X (.BoolOp .Or [a] pos) ga:=λex hs J F s k rel e=>by
 refine isTrue_or (thn (ha rel e) λd s1 h=>?_);cases d with
 | true=>exact h
 | false=>exact isTrue_or_nil h
def QyH(ha:ST X a ga)(hb:ST X (.BoolOp .And (b::rest) pos) gb):ST X (.BoolOp .And (a::b::rest) pos) (Qh7 ga gb):=λex hs J F s k rel e=>by
 refine Qj e λc e1 e=>isTrue_and (thn (ha rel e1) λd s1 ⟨h,x⟩=>?_);subst h;cases d with
 | true=>exact thn (hb (rel.ext x) e) λc s2 ⟨h,y⟩=>⟨h,x.trans y⟩
 | false=>cases e;exact⟨rfl,x⟩
def QAP(ha:ST X a ga)(hb:ST X (.BoolOp .Or (b::rest) pos) gb):ST X (.BoolOp .Or (a::b::rest) pos) (bOr ga gb):=λex hs J F s k rel e=>by
 refine Qj e λc e1 e=>isTrue_or (thn (ha rel e1) λd s1 ⟨h,x⟩=>?_);subst h;cases d with
 | true=>cases e;exact⟨rfl,x⟩
 | false=>exact thn (hb (rel.ext x) e) λc s2 ⟨h,y⟩=>⟨h,x.trans y⟩
def Qaf.back(x:Ex s s1)(p:Qaf X ex J F s1 s' ds fr M vs G):Qaf X ex J F s s' ds fr M vs G:=
 ⟨x.trans p.ext,p.rp,λa m=>(p.src a m).imp x.no id,λf n=>let ⟨a,b⟩:=p.frs f n;⟨a,λc m=>(b c m).imp x.no id⟩,p.own⟩
def Qsv{op}(h:SE X a fa):SE X (.BoolOp op [a] pos) fa:=λex hs J F s r rel e=>BoolOp_one (h rel e)
def Qy4(ha:SE X a fa)(hb:SE X (.BoolOp .And (b::rest) pos) fb):SE X (.BoolOp .And (a::b::rest) pos) (Qhf fa fb):=λex hs J F s r rel e=>by
 refine Qj e λra e1 e=>Qj e λc e2 e=>?_;refine BoolOp_and (thn (ha rel e1) λv s1 ⟨G,p⟩=>thn (p.rp.tru e2) λk s2 ⟨h,x⟩=>?_);subst h;cases k with
 | true=>exact thn (hb ((rel.ext p.ext).ext x) e) λw s3 ⟨G3,q⟩=>⟨G3,q.back (p.ext.trans x)⟩
 | false=>cases e;exact⟨G,p.more x⟩
def QAL(ha:SE X a fa)(hb:SE X (.BoolOp .Or (b::rest) pos) fb):SE X (.BoolOp .Or (a::b::rest) pos) (dOr fa fb):=λex hs J F s r rel e=>by
 refine Qj e λra e1 e=>Qj e λc e2 e=>?_;refine BoolOp_or (thn (ha rel e1) λv s1 ⟨G,p⟩=>thn (p.rp.tru e2) λk s2 ⟨h,x⟩=>?_);subst h;cases k with
 | true=>cases e;exact⟨G,p.more x⟩
 | false=>exact thn (hb ((rel.ext p.ext).ext x) e) λw s3 ⟨G3,q⟩=>⟨G3,q.back (p.ext.trans x)⟩
def Qz1(ha:SE X a fa):SE X (.UnaryOp .Not a pos) (Qu0 fa):=λex hs J F s r rel e=>by
 refine Qj e λra e1 e=>Qj e λc e2 e=>?_;cases e;exact UnaryOp_ (thn (ha rel e1) λv s1 ⟨G,p⟩=>not_of <| thn (p.rp.tru e2) λk s2 ⟨h,x⟩=>⟨[],.flat (p.ext.trans x) (h▸ .bl)⟩)
def QAv(hc:ST X c gc)(ha:SE X a fa)(hb:SE X b fb):SE X (.IfExp c a b pos) (dIf gc fa fb):=λex hs J F s r rel e=>by
 refine Qj e λk e1 e=>wpAny_IfExp (thn (hc rel e1) λd s1 ⟨h,x⟩=>?_);subst h;cases d with
 | true=>exact thn (ha (rel.ext x) e) λw s3 ⟨G3,q⟩=>⟨G3,q.back x⟩
 | false=>exact thn (hb (rel.ext x) e) λw s3 ⟨G3,q⟩=>⟨G3,q.back x⟩
def Qz5(ha:SE X a fa):SE X (.UnaryOp .USub a pos) (Qhk fa):=λex hs J F s r rel e=>by
 refine Qj e λra e1 e=>UnaryOp_ (thn (ha rel e1) λv s1 ⟨G,p⟩=>?_);have q:=p.rp;split at e
 .rename_i h;cases e;rw[h]at q;obtain⟨t,rfl⟩:=q.int_inv;exact neg_int ⟨[],.flat (p.ext.trans .tok) .int⟩
 .cases e
end
section
variable {X:Cx}{ex:LA}{hs:Hs}{J:En}{F:Ft}{s s':Shared}{a b c:Expr}{fa fb:DE}{pos p p' pos' apos cpos:Pos}{es:List Expr}{fs:DA}{x:Str}
def Qq7{h:Heap}:∀{ns:List Int}{vs:List Value},vs.length=ns.length->(∀(i:Nat) v,vs[i]? =some v->∃t,v= .int (ns.getD i 0) t)->Rps g ex h (ns.map .int) vs []
 | [],[],_,_=> .nil
 | n::ns,v::vs,l,k=> .atm (k 0 v rfl) (Qq7 (Nat.succ.inj l) λi u e=>k (i+1) u e)
def QwK(c:Cb X x (.type "list") a es pos)(ha:SA X (a::es) fs):SE X (.Call (.Name x p) (a::es) [] pos) (dList fs):=λex hs J F s r rel e=>by
 refine Qj e λrs e1 e=>c.call rel (thn (ha pos rel e1) λvs s1 ⟨G,q⟩=>?_);have main:∀d xs,rs.ds=[d]->d.items=some xs->some (Qa7 xs rs.M)=some r->wpAny X.M X.A (call (.type "list") vs) (λv s'=>∃G,Qb7 X ex J F s s' r v G) (λ_ _=>False) s1:=λd xs h1 h2 h3=>by
  cases h3;have t:=q.rp;rw[h1]at t;obtain⟨v,rfl,t⟩:=t.one;obtain⟨l,its,G',rfl,t,m,_,z,k⟩:=t.seq h2;have z':its.toArray.size<=sizeLine:=by rw[Zm,← t.len];exact z
  have fin:∀h' c',(∀b o,s1.heap.get? b=some o->h'.get? b=some o)->h'.get? s1.heap.objs.size=some (QbF its c')->∃L,Qb7 X ex J F s {s1 with heap:=h'} (Qa7 xs rs.M) (.ref s1.heap.objs.size) L:=λh' c' kp e=>q.Qa7 (.of (t':=s1.toks) kp) QaD (rel.ext q.ext).push e z (t.ext (.of (t':=s1.toks) kp)) m;rcases k with⟨_,n,k⟩ | ⟨_,o,k1,k2,n,k3⟩
  .exact call_list_seq l (.inl rfl) k rfl rfl fin z'
  .exact call_list_seq l (.inr rfl) k1 k2 k3 fin z'
 split at e
 .rename_i xs h;exact main _ xs h rfl e
 .rename_i xs h;split at e
  .exact main _ xs h rfl e
  .cases e
 .cases e
def QnB{its:List Value}(z:its.length<=sizeLine)(e:s.heap.get? l=some (QbF its n))(k:∀h' p,(∀b o,s.heap.get? b=some o->h'.get? b=some o)->s.heap.get? p=none->IsTup h' p its.toArray->Q (.ref p) {s with heap:=h'}):wpAny (model P w) A (call (.type "tuple") [.ref l]) Q E s:=by
 refine call_tuple_list (isL e) (λh' kp=>k _ _ (λb o e=>Ze _ (kp b o e)) ?_ (IsTup.new _ _)) (by rw[Zm];exact z);cases w:s.heap.get? h'.objs.size with
 | none=>rfl
 | some o=>have:=kp _ _ w;rw[QaD]at this;cases this
def QwF(c:Cb X x (.type "tuple") a es pos)(ha:SA X (a::es) fs):SE X (.Call (.Name x p) (a::es) [] pos) (QiO fs):=λex hs J F s r rel e=>by
 refine Qj e λrs e1 e=>c.call rel (thn (ha pos rel e1) λvs s1 ⟨G,q⟩=>?_);have t:=q.rp;split at e
 .rename_i xs h;rw[h]at t;split at e
  .rename_i hf;cases e;obtain⟨v,rfl,t⟩:=t.one;obtain⟨l,its,n,G',rfl,_,_,z,k,t⟩:=t.lst_inv;have:G'=[]:=t.QbX hf;subst this;refine QnB (by rw[← t.len];exact z) k λh' p kp hn e=>?_;have y:Ex s1 {s1 with heap:=h'}:= .of (t':=s1.toks) kp;exact⟨[],.flat (q.ext.trans y) (.Qii ((rel.ext q.ext).nex hn) z e (t.ext y))⟩
  .cases e
 .cases e
def QAZ(c:Cb X x (.builtin "divmod") a es pos)(ha:SA X (a::es) fs):SE X (.Call (.Name x p) (a::es) [] pos) (dDm fs):=λex hs J F s r rel e=>by
 refine Qj e λrs e1 e=>c.call rel (thn (ha pos rel e1) λvs s1 ⟨G,q⟩=>?_);have t:=q.rp;split at e
 .rename_i i j h;rw[h]at t;split at e
  .rename_i hc;cases e;obtain⟨v,v',_,_,rfl,q1,q2⟩:=t.two;obtain⟨t,rfl⟩:=q1.int_inv;obtain⟨u,rfl⟩:=q2.int_inv;simp only[Qb9,Zl,decide_eq_true_eq]at hc;refine divmod_int hc.1 ?_ (.inl (ZbL (ZbT ((Nat.log2_lt ⋯).mpr hc.2) ∅)));rw[← QiV,← Qiu];exact⟨[],.flat (q.ext.trans .push) (.Qii (rel.ext q.ext).push (by show 2<=sizeLine;decide) (IsTup.new s1.heap #[.int (Qd8 i j) s1.toks,.int (QdI i j) (s1.toks+1)]) (.atm ⟨_,rfl⟩ (.atm ⟨_,rfl⟩ .nil)))⟩
  .cases e
 .cases e
def Qzs{d:D}(rel:Rel X ex hs J F s)(r:Rp X.g ex s.heap d v L)(e:d.isa T=some k)(q:∀tk,Q (.bool k) {s with toks:=tk}):wpAny X.M X.A (call (.builtin "isinstance") [v,.type T]) Q E s:=by
 have kit:PySem.W.kitOne X.g.K (.type d.tyN) (.type T)=some k:=by
  unfold D.isa at e;split at e
  .rename_i hT;cases e;simp only[Zl,Zbj,beq_iff_eq]at hT;obtain⟨hT,hE⟩:=hT;rcases hT with(((rfl | rfl) | rfl) | rfl) | rfl<;>cases d<;>first | rfl | (cases hE)
  .cases e
 have K:=rel.ok.mod.kin.keeps rel.bk;have bad:d.isE=true->False:=λh=>by unfold D.isa at e;rw[h]at e;simp at e
 cases d with
 | non=>rw[r.QiM];exact Zbw PySem.W.kitx_none K True.intro kit (λz=>nomatch z) q
 | bl y=>rw[r.QeN];exact Zbw PySem.W.kitx_bool K True.intro kit (λz=>nomatch z) q
 | int i=>obtain⟨t,rfl⟩:=r.int_inv;exact Zbw PySem.W.kitx_int K True.intro kit (λz=>nomatch z) q
 | str i=>obtain⟨t,rfl⟩:=r.str_inv;exact Zbw PySem.W.kitx_str K True.intro kit (λz=>nomatch z) q
 | tup ds=>obtain⟨l,its,rfl,_,_,⟨o,h1,h2,_⟩,_⟩:=r.Qfp;exact Zbw PySem.W.kitx_tuple K ⟨o,h1,h2⟩ kit (λz=>nomatch z) q
 | lst ds=>obtain⟨l,its,n,G,rfl,_,_,_,e1,_⟩:=r.lst_inv;exact Zbw PySem.W.kitx_list K ⟨_,e1,rfl⟩ kit (λz=>nomatch z) q
 | _=>exact(bad rfl).elim
def QyN(c:Cb X x (.builtin "isinstance") a [.Name y p'] pos)(hT:bootBuiltins y=some (.type T))(hg:Gl X y)(hm:X.g.mg y=none)(hn:y≠ "__name__")(hd:(y == ("__debug__" :Str))=false)(ha:SE X a fa):SE X (.Call (.Name x p) [a,.Name y p'] [] pos) (Qll T fa):=λex hs J F s r rel e=>by
 refine Qj e λra e1 e=>c.call rel ?_;obtain⟨k,e2,rfl⟩:=Zn.mp e;rw[c.e];refine Zaz (thn (ha rel e1) λv s1 ⟨G,q⟩=>Zaz ((rel.ext q.ext).Qze hg hm hT (ZaI ?_) hn hd));exact Qzs (rel.ext q.ext) q.rp e2 λtk=>⟨[],.flat (q.ext.trans .tok) .bl⟩
def QwR(ha:SE X a fa)(hb:attributeBase a "bit_length" X.env (eval a X.env)=eval a X.env)(hl:(apos.endLine == cpos.line)=true):SE X (.Call (.Attribute a "bit_length" apos) [] [] cpos) (QrK fa):=λex hs J F s r rel e=>by
 refine Qj e λra e1 e=>wpAny_Call_method0_late hb hl (thn (ha rel e1) λv s1 ⟨G,q⟩=>?_);have t:=q.rp;split at e
 .rename_i i h;cases e;rw[h]at t;obtain⟨t,rfl⟩:=t.int_inv;exact⟨"int",_,PySem.F.plainAttrs_int,PySem.F.slot_int_bit_length,PySem.F.type_int_bit_length,typeIs_int _ _ _,(λ_ z=>nomatch z),Calls.callWith_builtin rfl (PySem.evalArgs_none (call_int_bit_length ⟨[],.flat (q.ext.trans .tok) .int⟩))⟩
 .cases e
def QxU(hc:X.calm=true)(c:Cb X x (.type "list") (.Call (.Name y p') [a] [] pos') [] pos)(c':Cb X y (.type "range") a [] pos')(ha:SE X a fa):SE X (.Call (.Name x p) [.Call (.Name y p') [a] [] pos'] [] pos) (QiR fa):=λex hs J F s r rel e=>by
 refine Qj e λra e1 e=>c.call rel ?_;rw[c.e];refine Zaz (c'.call rel (thn (Qad ha Qbd c'.e pos' rel (r:=⟨[ra.d],ra.fr && true,ra.M++[]⟩) (by simp[Qa,e1,Qe])) λvs s1 ⟨G,q⟩=>?_));have t:=q.rp;split at e
 .rename_i j h;rw[h]at t;split at e
  .rename_i hj;cases e;obtain⟨v,rfl,t⟩:=t.one;obtain⟨u,rfl⟩:=t.int_inv;refine call_range_1 (ZaI (call_list_range (n:=j.toNat) (rel.ok.hd hc) (IsRange.new ..) (small_one ⋯ ⋯ ⋯ ⋯) (by rw[rangeSize_one];split<;>lia) ⋯ λh' tk' acc' c' hk hS hacc=>?_));have y:Ex s1 {s1 with heap:=h',toks:=tk'}:= .of λb o e=>hk b o (Ze _ e);refine⟨_,.QnS (q.ext.trans .push) (.of hk) QaD ((rel.ext q.ext).ext .push).push (its:=acc'.toList) (by simpa using hS) (by simp[Qfu];lia) ?_⟩;have:=Qq7 (g:=X.g) (ex:=ex) (h:=h') (ns:=(List.range j.toNat).map λ(k:Nat)=>(k:Int)) (vs:=acc'.toList) (by simp[hacc.1]) λi v e=>by
    rw[ZA]at e;obtain⟨t,rfl⟩:=hacc.2 i v e;have:i<j.toNat:=by rw[← hacc.1];exact(Array.getElem?_eq_some_iff.mp e).1
    exact⟨t,by simp[Zaa,this]⟩
   rwa[ZN]at this
  .cases e
 .cases e
def Qpo{h:Heap}:∀{ns:List Bool}{vs G},Rps g ex h (ns.map .bl) vs G->∀(i:Nat) v,vs[i]? =some v->∃k,ns[i]? =some k/\v= .bool k
 | [],_,_,r,i,v,e=>by cases r;cases e
 | n::ns,_,_,r,i,v,e=>by
  obtain⟨u,vs,G,F',rfl,rfl,p,q⟩:=r.inv;cases i with
  | zero=>cases e;exact⟨n,rfl,p.QeN⟩
  | succ i=>exact Qpo q i v e
def range_all(ns:List Bool):(List.range ns.length).all (λi=>(ns[i]?).getD true)=ns.all id:=by
 rw[Bool.eq_iff_iff];simp only[Zae,Zb,id];constructor
 .intro h k m;obtain⟨i,hi,rfl⟩:=List.getElem_of_mem m;simpa[hi]using h i hi
 .intro h i hi;simpa[hi]using h _ (Zbp hi)
def range_any(ns:List Bool):(List.range ns.length).any (λi=>(ns[i]?).getD false)=ns.any id:=by
 rw[Bool.eq_iff_iff];simp only[List.any_eq_true,Zb,id];constructor
 .rintro⟨i,hi,h⟩;exact⟨ns[i],Zbp hi,by simpa[hi]using h⟩
 .rintro⟨k,m,rfl⟩;obtain⟨i,hi,h⟩:=List.getElem_of_mem m;exact⟨i,hi,by simpa[hi]using h⟩
def QAh(hc:X.calm=true):Bf X (.builtin "all") QiH:=λex hs J F s ds vs d G rel e r=>by
 unfold QiH at e;split at e
 .obtain⟨ns,h1,rfl⟩:=Zn.mp e;obtain⟨v,rfl,q⟩:=r.one;obtain⟨l,its,G',rfl,q,_,z,k⟩:=q.sq rfl;rw[Qjm h1]at q;refine call_all_walk (Qeq (A:=X.A.in1) (rel.ok.hd hc) k λh' I St W st lt kp _ _=>⟨I,_,_,_,_,_,λi=>(ns[i]?).getD true,rfl,W,st,λi v s' Q' E' hP hQ=>?_,λh'' tk hk=>⟨.of λb o e=>hk b o (kp b o e).2 (kp b o e).1,?_⟩⟩)
  .obtain⟨b,e,rfl⟩:=Qpo q i v (by simpa using hP);simp only[e,Option.getD_some]at hQ;exact wpAny_truthy_bool hQ
  .rw[Zm,← q.len,Zd,range_all];exact .bl
 .cases e
def QyL(hc:X.calm=true):Bf X (.builtin "any") Qiz:=λex hs J F s ds vs d G rel e r=>by
 unfold Qiz at e;split at e
 .obtain⟨ns,h1,rfl⟩:=Zn.mp e;obtain⟨v,rfl,q⟩:=r.one;obtain⟨l,its,G',rfl,q,_,z,k⟩:=q.sq rfl;rw[Qjm h1]at q;refine call_any_walk (Qeq (A:=X.A.in1) (rel.ok.hd hc) k λh' I St W st lt kp _ _=>⟨I,_,_,_,_,_,λi=>(ns[i]?).getD false,rfl,W,st,λi v s' Q' E' hP hQ=>?_,λh'' tk hk=>⟨.of λb o e=>hk b o (kp b o e).2 (kp b o e).1,?_⟩⟩)
  .obtain⟨b,e,rfl⟩:=Qpo q i v (by simpa using hP);simp only[e,Option.getD_some]at hQ;exact wpAny_truthy_bool hQ
  .rw[Zm,← q.len,Zd,range_any];exact .bl
 .cases e
end
abbrev E0:Value->Shared->Prop:=λ_ _=>False
structure Trn (X:Cx) (tg:Expr) (I:Addr) (fp wr T:LA) (n:Nat) (P:Nat->Value->Shared->Heap->Prop) (St:Nat->Heap->Prop):Prop where
 sub:∀b∈wr,b∈fp
 frame:∀i h h',St i h->(∀b∈fp,∀o,h.get? b=some o->h'.get? b=some o)->St i h'
 obj:∀i h,St i h->∀b∈fp,∃o,h.get? b=some o/\(Imm o∨b∈T)
 turn:∀i s (Q:Value->Shared->Prop),i<n->St i s.heap->(∀v h' tk,P i v s h'->St (i+1) h'->(∀b o,b∉wr->s.heap.get? b=some o->h'.get? b=some o)->Q v {s with heap:=h',toks:=tk})→
  wpAny X.M X.A (pyNext (.ref I)) (λr s1=>∃v,r=some v/\wpAny X.M X.A (letOwnedTupleGo tg (.ref I) v) (λ_ s2=>Q v s2) E0 s1) E0 s
 done:∀s (Q:Shared->Prop),St n s.heap->(∀h' tk,(∀b o,b∉wr->s.heap.get? b=some o->h'.get? b=some o)->Q {s with heap:=h',toks:=tk})->wpAny X.M X.A (pyNext (.ref I)) (λr s1=>r=none/\Q s1) E0 s
 self:∀i s (Q:Value->Shared->Prop),St i s.heap->Q (.ref I) s->wpAny X.M X.A (pyIter (.ref I)) Q E0 s
section
variable {X:Cx}{ex:LA}{hs:Hs}{J:En}{F:Ft}{s s':Shared}{a b c tg:Expr}{fa fb fc:DE}{pos p:Pos}{es:List Expr}{fs:DA}{x:Str}{I:Addr}{fp wr T:LA}{n:Nat}{St:Nat->Heap->Prop}
def Trn.w{P:Nat->Value->Prop}(W:Walks X.g.P X.g.w X.A I fp wr n P St)(go:∀i h,St i h->Pl h I)(obj:∀i h,St i h->∀b∈fp,∃o,h.get? b=some o/\(Imm o∨b∈T)):Trn X tg I fp wr T n (λi v _ _=>P i v) St:=
 ⟨W.sub,W.frame,obj,λi s Q hi st k=>W.item i s _ _ hi st λv h' tk q st' kp=>⟨v,rfl,(go _ _ st').go (k v h' tk q st' kp)⟩,λs Q st k=>W.done s _ _ st λh' tk kp=>⟨rfl,k h' tk kp⟩,λi s Q st q=>W.self i s Q _ st q⟩
def Trn.t{Pt:Nat->Array Value->Prop}{Mid:Nat->Addr->Heap->Prop}(W:WalksT X.g.P X.g.w X.A I fp wr n Pt St Mid)(obj:∀i h,St i h->∀b∈fp,∃o,h.get? b=some o/\(Imm o∨b∈T)):Trn X (.Tuple es k pos) I fp wr T n (λi v s h'=>∃a vals,v= .ref a/\Pt i vals/\h'.IsTuple a vals/\s.heap.get? a=none) St:=
 ⟨W.sub,W.frame,obj,λi s Q hi st k=>W.item i s _ _ hi st λa vals h' tk q lt it m kp=>⟨_,rfl,W.go _ _ _ _ _ _ _ _ m λh'' st' kp'=>k _ h'' tk ⟨a,vals,rfl,q,it.at λo e=>kp' a o (W.apart _ _ _ m) e,ZK lt⟩ st' λb o n e=>kp' b o n (kp b o n e)⟩,λs Q st k=>W.done s _ _ st λh' tk kp=>⟨rfl,k h' tk kp⟩,λi s Q st q=>W.self i s Q _ st q⟩
def Itr(X:Cx)(ex:LA)(J:En)(F:Ft)(tg:Expr)(s s2:Shared)(it:Value)(ir:IR):Prop:=∃I fp wr T P St,∃ts:Hs,it= .ref I/\Ex s s2/\Trn X tg I fp wr T ir.items.length P St/\St 0 s2.heap/\(∀b∈wr,s.heap.get? b=none)/\(∀a∈T,∃t∈ts,a∈t.2.2)∧
 (∀t∈ts,Rp X.g (wr++ex) s2.heap t.1 t.2.1 t.2.2/\Src J F s ir.M t.2.2)/\(∀i∈ir.M,∃d,J[i]? =some (some (d,true)))/\ir.items.length<=sizeLine∧
 ∀e' i v s3 h' d,P i v s3 h'->St (i+1) h'->(∀b∈e',∃o,s3.heap.get? b=some o)->(∀t∈ts,Rp X.g e' h' t.1 t.2.1 t.2.2)->ir.items[i]? =some d->∃G,Rp X.g e' h' d v G/\∀a∈G,∃t∈ts,a∈t.2.2
def SI(X:Cx)(tg e:Expr)(f:DI):Prop:=∀ ⦃ex hs J F s ir⦄,Rel X ex hs J F s->f J=some ir->wpAny X.M X.A (eval e X.env) (λv s1=>wpAny X.M X.A (pyIter v) (λit s2=>Itr X ex J F tg s s2 it ir) E0 s1) E0 s
def Rps.grow{h:Heap}(r:Rps g ex h ds vs L)(n:∀b∈w,h.get? b=none):Rps g (w++ex) h ds vs L:=by
 have ne:∀a o,h.get? a=some o->a∉w:=λa o e m=>by rw[n a m]at e;cases e
 have no:∀a o,h.get? a=some o->a∉ex->a∉w++ex:=λa o e x m=>(Zf.mp m).elim (ne a o e) x
 induction r with
 | nil=>exact .nil
 | atm x _ i=>exact .atm x i
 | lst x z e _ _ i j=>exact .lst (no _ _ e x) z e i j
 | tup x z e _ _ i j=>obtain⟨o,e',_⟩:=id e;exact .tup (no _ _ e' x) z e i j
 | dk x r _ j=>
  obtain⟨z,l,xs,e,n',o,es,ep,h1,h2,h3,h4,h5,h6⟩:=r;exact .dk (no _ _ h1 x) ⟨z,l,xs,e,λy m=>(by obtain⟨o,_,_,e,_⟩:=h5 y m;exact no _ _ e (n' y m)),o,es,ep,h1,h2,h3,h4,h5,h6⟩ j
def Rps.less{h:Heap}(r:Rps g ex h ds vs L)(n:∀b∈ex',b∈ex):Rps g ex' h ds vs L:=by
 induction r with
 | nil=>exact .nil
 | atm x _ i=>exact .atm x i
 | lst x z e _ _ i j=>exact .lst (λm=>x (n _ m)) z e i j
 | tup x z e _ _ i j=>exact .tup (λm=>x (n _ m)) z e i j
 | dk x r _ j=>
  obtain⟨z,l,xs,e,n',r⟩:=r;exact .dk (λm=>x (n _ m)) ⟨z,l,xs,e,λy m m'=>n' y m (n _ m'),r⟩ j
def QsG{h:Heap}{its its':List Value}(a:Sq h l its)(b:Sq h l its'):its=its':=by
 have:its.toArray=its'.toArray:=by
  rcases a with⟨o,e,c,n,d⟩ | ⟨o,e,c,n,d⟩<;>rcases b with⟨o',e',c',n',d'⟩ | ⟨o',e',c',n',d'⟩<;>rw[e]at e'<;>cases e'<;>first | (rw[d]at d';cases d';rfl) | (rw[c]at c';cases c')
 exact congrArg Array.toList this
def Qyo{h:Heap}(e:IsTup h l its):∃o,h.get? l=some o/\Imm o:=by
 obtain⟨o,h1,h2,n,h3⟩:=e;exact⟨o,h1,by rw[Imm,h2,h3];simp⟩
def Qok{d:D}(hc:X.calm=true)(rel:Rel X ex hs J F s)(p:Qaf X ex J F s s1 [d] fr M [v] G)(e:d.items=some ds):wpAny X.M X.A (pyIter v) (λit s2=>Itr X ex J F tg s s2 it ⟨ds,M⟩) E0 s1:=by
 obtain⟨l,its,G',rfl,r,m,_,z,k⟩:=p.rp.seq e;have hl:its.toArray.size=ds.length:=by rw[Zm,r.len]
 refine Qeq (rel.ok.hd hc) (k.imp (λ⟨_,_,k⟩=>isL k) (·.2)) λh' I St W st lt kp fr im=>?_;have y:Ex s1 {s1 with heap:=h'}:= .of (t':=s1.toks) λb o e=>(kp b o e).1;have mt:∀i h,St i h->∀b∈[I,l],∃o,h.get? b=some o/\(Imm o∨b∈G):=λi h st b hb=>by
  obtain⟨pl,q⟩:=im i h st;rcases Zq.mp hb with rfl | hb
  .obtain⟨o,e,i⟩:=pl.imm;exact⟨o,e,.inl i⟩
  .cases Zj.mp hb;rcases q with⟨⟨o1,e1,c1,_⟩,o,e,_⟩ | q
   .rcases k with⟨rfl,n,k⟩ | ⟨_,o2,e2,c2,_⟩
    .obtain⟨_,_,_,_,e',rfl,_⟩:=p.rp.lst_inv;cases e';exact⟨o,by assumption,.inr (.head _)⟩
    .rw[e1]at e2;cases e2;rw[c1]at c2;exact absurd c2 ∅
   .obtain⟨o,e,i⟩:=Qyo q;exact⟨o,e,.inl i⟩
 have r2:=(p.rp.grow (w:=[I]) λb hb=>Zj.mp hb▸fr).ext y;refine⟨I,_,_,G,_,St,[(d,.ref l,G)],rfl,p.ext.trans y,hl▸Trn.w W (λi h st=>(im i h st).1) mt,st,λb hb=>Zj.mp hb▸p.ext.no fr,λa h=>⟨_,.head _,h⟩,λt ht=>?_,p.own,z,λ_ i v s3 h' d' pi st _ hh e'=>?_⟩
 .cases Zj.mp ht;exact⟨r2,p.src⟩
 .obtain⟨l',its',G2,e1,r',m',_,_,k'⟩:=(hh _ (.head _)).seq e;cases e1;have:its'=its:=QsG (k'.imp (λ⟨_,_,k⟩=>isL k) (·.2)) ((im _ _ st).2.imp (·.2) id);subst this;obtain⟨F1,G3,F2,u,rfl,e3,_,r3,_⟩:=r'.split e';simp only[List.getElem?_toArray]at pi;rw[pi]at e3;cases e3;exact⟨G3,r3,λa h=>⟨_,.head _,m' a (Zc _ (Zh _ h))⟩⟩
def Itr.flat{P:Nat->Value->Prop}{h':Heap}(W:Walks X.g.P X.g.w X.A I [I] [I] n P St)(pl:∀i h,St i h->Pl h I)(st:St 0 h')(x:Ex s s1)(sh:s1.heap=h')(no:s.heap.get? I=none)(hn:n=ds.length)(z:ds.length<=sizeLine)(k:∀i v d,ds[i]? =some d->P i v->At d v):Itr X ex J F tg s s1 (.ref I) ⟨ds,[]⟩:=
 ⟨I,_,_,[],_,St,[],rfl,x,hn▸Trn.w W pl λi h st b hb=>(by obtain⟨o,e,q⟩:=(pl i h st).imm;exact⟨o,Zj.mp hb▸e,.inl q⟩),sh▸st,λb hb=>Zj.mp hb▸no,nm,nm,nm,z,λ_ i v s3 h' d p _ _ _ e=>⟨[],.atm (k i v d e p) .nil,nm⟩⟩
def QjO{lo hi c:Int}(hc:X.calm=true)(rel:Rel X ex hs J F s)(x:Ex s s1)(hs:Builtin.Range.small lo hi c=true)(hn:((ds.length:Nat):Int)=Builtin.Range.rangeSize lo hi c)(z:ds.length<=sizeLine)(k:∀(i:Nat) d,ds[i]? =some d->d= .int (lo+i*c)):
  wpAny X.M X.A (pyIter (.ref s1.heap.objs.size)) (λit s2=>Itr X ex J F tg s s2 it ⟨ds,[]⟩) E0 {s1 with heap:=s1.heap.push {cls:= .type "range",data:= .fields #[.int lo t,.int hi u,.int c v]},toks:=tk}:=by
 refine wpAny_pyIter_range (IsRange.new ..) hs (Itr.flat (n:=ds.length) (Walks.range (rel.ok.hd hc) _ lo c _) (λi h e=>⟨_,_,_,e,rfl,rfl,∅⟩) (by
  show Heap.get? _ _=_;rw[hn];simp only[Int.natCast_zero,ZT,ZaF,Int.sub_zero];exact ZF _ rfl) ((x.trans .push).trans .push) rfl ((x.trans .push).no QaD) rfl z λi v d e ⟨t,q⟩=>?_)
 rw[k i d e];exact⟨t,q⟩
def dc(h:fa J=some r)(k:fs J=some rs):Qa fa fs J=some ⟨r.d::rs.ds,r.fr && rs.fr,r.M++rs.M⟩:=by simp[Qa,h,k]
def Qtp(hc:X.calm=true)(cb:Cb X x (.type "range") a [] pos)(ha:SE X a fa):SI X tg (.Call (.Name x p) [a] [] pos) (Qa1 fa):=λex hs J F s ir rel e=>by
 refine Qj e λr e1 e=>?_;refine cb.call rel (thn (Qad ha Qbd cb.e pos rel (dc e1 rfl)) λvs s1 ⟨G,p⟩=>?_);obtain⟨v,rfl,q⟩:=p.rp.one;split at e
 .rename_i j h;rw[h]at q;obtain⟨t,rfl⟩:=q.int_inv;split at e
  .cases e;have:=Qfu;exact call_range_1 (QjO hc rel p.ext (small_one ⋯ ⋯ ⋯ ⋯) (by rw[Qhp,rangeSize_one];split<;>lia) (by rw[Qhp];lia) λi d e=>by rw[(Qoo e).2];simp)
  .cases e
 .cases e
def QtR(hc:X.calm=true)(cb:Cb X x (.type "range") a [b] pos)(hb':starEach [b] X.env=(false,eval b X.env)::starEach [] X.env)(ha:SE X a fa)(hb:SE X b fb):SI X tg (.Call (.Name x p) [a,b] [] pos) (QcR fa fb):=λex hs J F s ir rel e=>by
 refine Qj e λr e1 e=>Qj e λr' e2 e=>?_;refine cb.call rel (thn (Qad ha (Qad hb Qbd hb') cb.e pos rel (dc e1 (dc e2 rfl))) λvs s1 ⟨G,p⟩=>?_);obtain⟨v,v',_,_,rfl,q,q'⟩:=p.rp.two;split at e
 .rename_i i j h h';rw[h]at q;rw[h']at q';obtain⟨t,rfl⟩:=q.int_inv;obtain⟨u,rfl⟩:=q'.int_inv;split at e
  .cases e;have:=Qfu;exact call_range_2 (QjO hc rel p.ext (small_one ⋯ ⋯ ⋯ ⋯) (by rw[Qhp,rangeSize_one];split<;>lia) (by rw[Qhp];lia) λi d e=>by rw[(Qoo e).2,ZbP])
  .cases e
 .cases e
def QsZ(hc:X.calm=true)(cb:Cb X x (.type "range") a [b,c] pos)(hb':starEach [b,c] X.env=(false,eval b X.env)::starEach [c] X.env)(hc':starEach [c] X.env=(false,eval c X.env)::starEach [] X.env)(ha:SE X a fa)(hb:SE X b fb)(hc:SE X c fc):SI X tg (.Call (.Name x p) [a,b,c] [] pos) (QgE fa fb fc):=λex hs J F s ir rel e=>by
 refine Qj e λr e1 e=>Qj e λr' e2 e=>Qj e λr'' e3 e=>?_;refine cb.call rel (thn (Qad ha (Qad hb (Qad hc Qbd hc') hb') cb.e pos rel (dc e1 (dc e2 (dc e3 rfl)))) λvs s1 ⟨G,p⟩=>?_);obtain⟨v,vs,_,_,rfl,_,q,qs⟩:=p.rp.inv;obtain⟨v',v'',_,_,rfl,q',q''⟩:=qs.two;split at e
 .rename_i i j h h' h'';rw[h]at q;rw[h']at q';rw[h'']at q'';obtain⟨t,rfl⟩:=q.int_inv;obtain⟨u,rfl⟩:=q'.int_inv;obtain⟨w,rfl⟩:=q''.int_inv;split at e
  .cases e;have:=Qfu;exact call_range_3 ∅ (QjO ‹_› rel p.ext (small_down ⋯ ⋯ ⋯ ⋯) (by rw[Qnt,Qmd];split<;>lia) (by rw[Qnt];lia) λi d e=>by rw[(Qvj e).2,Int.mul_neg_one,Int.sub_eq_add_neg]) (.inl (ZbL (by decide+kernel)))
  .cases e
 .cases e
def QgC(hc:X.calm=true)(ha:SE X a fa):SI X tg a (Q7 fa):=λex hs J F s ir rel e=>by
 refine Qj e λr e1 e=>thn (ha rel e1) λv s1 ⟨G,p⟩=>?_;split at e
 .rename_i xs h;cases e;exact Qok hc rel p (by rw[h];rfl)
 .rename_i xs h;split at e
  .cases e;exact Qok hc rel p (by rw[h];rfl)
  .cases e
 .cases e
def Itr.tup{Pt:Nat->Array Value->Prop}{Mid:Nat->Addr->Heap->Prop}{ts:Hs}(W:WalksT X.g.P X.g.w X.A I fp wr n Pt St Mid)(obj:∀i h,St i h->∀b∈fp,∃o,h.get? b=some o/\(Imm o∨b∈T))(st:St 0 s1.heap)(x:Ex s s1)(no:∀b∈wr,s.heap.get? b=none)(hn:n=ds.length)(z:ds.length<=sizeLine)(hT:∀a∈T,∃t∈ts,a∈t.2.2)(ht:∀t∈ts,Rp X.g ex s.heap t.1 t.2.1 t.2.2/\Src J F s0 M t.2.2)
  (x0:Ex s0 s) (hM:∀i∈M,∃d,J[i]? =some (some (d,true))) (k:∀e' (i:Nat) vals h' d,Pt i vals->St (i+1) h'->(∀t∈ts,Rp X.g e' h' t.1 t.2.1 t.2.2)->ds[i]? =some d->∃es G,d= .tup es/\es.length<=64/\Rps X.g e' h' es vals.toList G/\∀a∈G,∃t∈ts,a∈t.2.2):Itr X ex J F (.Tuple es kk pos) s0 s1 (.ref I) ⟨ds,M⟩:=
 ⟨I,_,_,T,_,St,ts,rfl,x0.trans x,hn▸Trn.t W obj,st,λb hb=>x0.no (no b hb),hT,λt m=>⟨((ht t m).1.grow no).ext x,(ht t m).2⟩,hM,z,λ_ i v s3 h' d ⟨a,vals,e,p,it,na⟩ st' al hh e'=>by
  obtain⟨es,G,rfl,l,r,m⟩:=k _ i vals h' d p st' hh e';subst e;exact⟨G,.Qii (λh=>by obtain⟨o,q⟩:=al a h;rw[na]at q;cases q) (ZJ l ∅) it r,m⟩⟩
def Rps.at{h:Heap}{i:Nat}(r:Rp g ex h (.lst xs) (.ref l) G)(k:h.IsList l its)(e:xs[i]? =some d)(q:its[i]? =some v):∃G',Rp g ex h d v G'/\∀a∈G',a∈G:=by
 obtain⟨_,its',n,G',e1,rfl,_,_,e2,r'⟩:=r.lst_inv;cases e1;have:its'=its.toList:=QsG (l:=l) (.inl (isL e2)) (.inl k);subst this;obtain⟨F1,G3,F2,u,rfl,e3,_,r3,_⟩:=r'.split e;rw[ZA,q]at e3;cases e3;exact⟨G3,r3,λa h=> .tail _ (Zc _ (Zh _ h))⟩
def fa1{α:Type}{P:α->Prop}{a:α}{l:List α}(h:P a)(k:∀b∈l,P b):∀b∈a::l,P b:=λb m=>(Zq.mp m).elim (λe=>e▸h) (k b)
def Qh1{h:Heap}{b:Addr}{nm:String}(e:h.get? b=some o)(c:o.cls= .type nm)(d:(∀es ep,o.data≠ .dict es ep)/\∀v,o.data≠ .cell v)(n:nm≠ "list"):∃o,h.get? b=some o/\(Imm o∨b∈T):=⟨o,e,.inl ⟨d.1,d.2,by rw[c];simpa,by simp[c]⟩⟩
def QgA{h:Heap}{b:Addr}(k:h.IsListIter b l i):∃o,h.get? b=some o/\(Imm o∨b∈T):=by obtain⟨o,e,c,d⟩:=k;exact Qh1 e c (by simp[d]) ∅
def Ql0{h:Heap}{b:Addr}(k:h.IsList b its)(m:b∈T):∃o,h.get? b=some o/\(Imm o∨b∈T):=by obtain⟨o,e,_⟩:=k;exact⟨o,e,.inr m⟩
def Qx0(hc:X.calm=true)(cb:Cb X x (.type "enumerate") a [] pos)(ha:SE X a fa):SI X (.Tuple es kk pos') (.Call (.Name x p) [a] [] pos) (Qcj fa):=λex hs J F s ir rel e=>by
 refine Qj e λr e1 e=>?_;refine cb.call rel (thn (Qad ha Qbd cb.e pos rel (dc e1 rfl)) λvs s1 ⟨G,p⟩=>?_);obtain⟨v,rfl,q⟩:=p.rp.one;split at e
 .rename_i xs h;rw[h]at q;cases e;obtain⟨l,its,n,G',rfl,rfl,_,z,k,r'⟩:=q.lst_inv;have lt:=ZW k
  refine call_enumerate_list (isL k) λh' he hi _ hk=>wpAny_pyIter_enum he (Itr.tup (T:=[l]) (ts:=[(.lst xs,.ref l,l::G')]) (s:=s1)
   (WalksT.enumerate (rel.ok.hd hc) _ _ l ⋯ ⋯ ⋯ its.toArray) (λi h ⟨⟨_,a⟩,b,c⟩=>fa1 (Qh1 a rfl ⋯ ∅) (fa1 (QgA b) (fa1 (Ql0 c (.head _)) nm))) ⟨⟨_,he⟩,hi,(isL k).at λo e=>hk _ o e⟩ (.of (t':=s1.toks) hk) (fa1 (ZK ⋯) (fa1 QaD nm))
   (by rw[QmK,Zm,r'.len]) (by rw[QmK];exact z) (λa m=>⟨_,.head _,Zj.mp m▸ .head _⟩) (λt m=>by cases Zj.mp m;exact⟨q,λa m=>by have:=p.src a m;simpa using this⟩) p.ext (by have:=p.own;simpa using this) λ_ i vals h' d ⟨t,y,e1,e2⟩ ⟨_,_,kl⟩ hh e=>?_)
  obtain⟨d',e3,rfl⟩:=QsB e;obtain⟨G2,r2,m⟩:=(hh _ (.head _)).at kl e3 e1;subst e2;exact⟨_,_,rfl,ZbY rfl,Rps.int.app r2,λa h=>⟨_,.head _,m a h⟩⟩
 .cases e
def QzS(hc:X.calm=true)(cb:Cb X x (.type "zip") a [b] pos)(hb':starEach [b] X.env=(false,eval b X.env)::starEach [] X.env)(ha:SE X a fa)(hb:SE X b fb):SI X (.Tuple es kk pos') (.Call (.Name x p) [a,b] [] pos) (QaW fa fb):=λex hs J F s ir rel e=>by
 refine Qj e λr e1 e=>Qj e λr' e2 e=>?_;refine cb.call rel (thn (Qad ha (Qad hb Qbd hb') cb.e pos rel (dc e1 (dc e2 rfl))) λvs s1 ⟨G,p⟩=>?_);obtain⟨v,vs,G1,G2,rfl,rfl,q,qs⟩:=p.rp.inv;obtain⟨v',rfl,q'⟩:=qs.one;split at e
 .rename_i xs ys h h';rw[h]at q;rw[h']at q';cases e;obtain⟨l,its,n,G1',rfl,rfl,_,z,k,r'⟩:=q.lst_inv;obtain⟨l',its',n',G2',rfl,rfl,_,z',k',r''⟩:=q'.lst_inv;have lt:=ZW k;have lt':=ZW k'
  refine call_zip_2 (isL k) (isL k') λh' hz h1 h2 i1 i2 _ hk=>wpAny_pyIter_zip hz (Itr.tup (T:=[l,l']) (ts:=[(.lst xs,.ref l,l::G1'),(.lst ys,.ref l',l'::G2')]) (s:=s1)
   (WalksT.zip2 (rel.ok.hd hc) _ _ _ _ _ l l' (by constructor<;>lia) its.toArray its'.toArray) (λi h ⟨a,b,⟨_,_,c⟩,d,d',e,e'⟩=>fa1 (Qh1 a rfl ⋯ ∅) (fa1 (Qh1 b rfl ⋯ ∅) (fa1 (Qh1 c rfl ⋯ ∅) (fa1 (QgA d) (fa1 (QgA d') (fa1 (Ql0 e (.head _)) (fa1 (Ql0 e' (.tail _ (.head _))) nm)))))))
   ⟨hz,h1,⟨_,_,h2⟩,i1,i2,(isL k).at λo e=>hk _ o e,(isL k').at λo e=>hk _ o e⟩ (.of (t':=s1.toks) hk) (fa1 (ZK ⋯) (fa1 (ZK ⋯) (fa1 QaD (fa1 (ZK ⋯) nm))))
   (by rw[QoY,Zm,Zm,r'.len,r''.len]) (by rw[QoY];lia) (fa1 ⟨_,.head _,.head _⟩ (fa1 ⟨_,.tail _ (.head _),.head _⟩ nm)) (fa1 ⟨q,λa m=>?_⟩ (fa1 ⟨q',λa m=>?_⟩ nm)) p.ext (by have:=p.own;simpa using this) λ_ i vals h' d ⟨y,y',e1,e1',e2⟩ ⟨_,_,_,_,_,kl,kl'⟩ hh e=>?_)
  .have:=p.src a (Zh _ m);simpa using this
  .have:=p.src a (Zc _ m);simpa using this
  .obtain⟨d',d'',e3,e3',rfl⟩:=Qv8 e;obtain⟨G2,r2,m⟩:=(hh _ (.head _)).at kl e3 e1;obtain⟨G2',r2',m'⟩:=(hh _ (.tail _ (.head _))).at kl' e3' e1';subst e2;exact⟨_,_,rfl,ZbY rfl,r2.app r2',λa h=>(Zf.mp h).elim (λh=>⟨_,.head _,m a h⟩) λh=>⟨_,.tail _ (.head _),m' a h⟩⟩
 .cases e
end
inductive Tgs (X:Cx):List Expr->List Nat->Prop
 | nil:Tgs X [] []
 | cons:Sl X x i->Tgs X es is->Tgs X (.Name x p::es) (i::is)
section
variable {X:Cx}{ex w:LA}{hs ts:Hs}{J J':En}{F:Ft}{s s' s1 s2:Shared}{a b c e tg:Expr}{fa fb fc:DE}{f g:DS}{gc:DT}{pos p:Pos}{es:List Expr}{st:Stmt}{sts body:List Stmt}{x:Str}{d:D}
def Shr(X:Cx)(J:En)(F:Ft)(G:LA):Prop:=∀a∈G,(X.Nw a∨X.A0 a)/\∀(j:Nat) d,J[j]? =some (some (d,true))->a∉F j
def SG(X:Cx)(tg:Expr)(t:Tg):Prop:=∀ ⦃ex hs J F s d v G J'⦄,Rel X ex hs J F s->Rp X.g ex s.heap d v G->Shr X J F G->Qca t d J=some J'→
 wpAny X.M X.A (assign tg X.env v) (λ_ s'=>Fx X hs s s'/\∃F',Rel X ex hs J' F' s'/\(∀j a,a∈F' j->a∈F j∨a∈G)/\∀a o,a∉ex->s.heap.get? a=some o->s'.heap.get? a=some o) E0 s
def Rel.slot(r:Rel X ex hs J F s)(sl:Sl X x i)(p:Rp X.g ex s.heap d v G)(h:Shr X J F G)(k:∀s',Fx X hs s s'->Rel X ex hs (J.set i (some (d,d.flat))) (put F i G) s'->(∃q∈ex,(q=X.env.locals∨∃y,X.env.cells.lookup y=some q)/\Heap.SameBut q s.heap s'.heap)->Q () s'):wpAny M A (storeName X.env x v) Q E s:=
 r.store .refl sl p (r.ow.set (λa m=>(h a m).1) (λj d' _ e a m g=>(h a g).2 j d' e m) λf=>by rw[p.QbX (fl1 f)];exact⟨.nil,nm⟩) k
def Qqz{j:Nat}{a:Addr}(h:a∈put F i G j):a∈F j∨a∈G:=by
 by_cases hj:j=i
 .exact .inr (by rwa[hj,QdK]at h)
 .exact .inl (by rwa[QeS hj]at h)
def Qx5(sl:Sl X x i):SG X (.Name x pos) (.nm i):=λex hs J F s d v G J' rel p h e=>by
 cases e;exact wpAny_assign_Name (rel.slot sl p h λs' x r ⟨_,k,_,sb⟩=>⟨x,_,r,λj a=>Qqz,λa o n e=>(sb.2 a λz=>n (z▸k)).trans e⟩)
def Tgs.len(t:Tgs X es is):(assignEach es X.env).length=is.length/\(assignEach es X.env).findIdx? (·.1)=none:=by
 induction t with
 | nil=>exact⟨rfl,rfl⟩
 | cons _ _ ih=>exact⟨congrArg (· +1) ih.1,by
   show List.findIdx? _ ((false,_)::assignEach _ X.env)=none;rw[List.findIdx?_cons,ih.2];rfl⟩
def Tgs.asg(t:Tgs X es is):∀{J F s ds vs G},Rel X ex hs J F s->Rps X.g ex s.heap ds vs G->Shr X J F G->ds.length=is.length→
  wpAny X.M X.A (assignInOrder ((assignEach es X.env).map (·.2)) vs) (λ_ s'=>Fx X hs s s'/\∃F',Rel X ex hs (Qd7 is ds J) F' s'/\(∀j a,a∈F' j->a∈F j∨a∈G)/\∀a o,a∉ex->s.heap.get? a=some o->s'.heap.get? a=some o) E0 s:=by
 induction t with
 | nil=>
  intro J F s ds vs G rel p h l;cases List.length_eq_zero_iff.mp l;cases p;exact assignInOrder_nil ⟨.refl,F,rel,λ_ _=> .inl,λ_ _ _ e=>e⟩
 | @cons x i es is _ sl t ih=>
  intro J F s ds vs G rel p h l;cases ds with
  | nil=>cases l
  | cons d ds=>
   obtain⟨v,vs,G1,G2,rfl,rfl,p1,p2⟩:=p.inv;refine assignInOrder_cons (wpAny_assign_Name (rel.slot sl p1 (λa m=>h a (Zh _ m)) λs' x' r ⟨_,k,_,sb⟩=>thn (ih r (p2.but sb (.inl k)) (λa m=>⟨(h a (Zc _ m)).1,λj d' e m'=>?_⟩) (Nat.succ.inj l)) λ_ s2 ⟨x2,F2,r2,m2,k2⟩=>⟨x'.trans x2,F2,r2,λj a m=>?_,λa o n e=>k2 a o n ((sb.2 a λz=>n (z▸k)).trans e)⟩))
   .rcases set_inv e with⟨rfl,e1⟩ | ⟨z,e1⟩
    .have:d.flat=true:=congrArg Prod.snd (Option.some.inj e1);rw[QdK,p1.QbX (fl1 this)]at m';cases m'
    .rw[QeS z]at m';exact(h a (Zc _ m)).2 j d' e1 m'
   .exact(m2 j a m).elim (λm=>(Qqz m).imp id (Zh _)) λm=> .inr (Zc _ m)
def Qzm(hc:X.calm=true)(t:Tgs X es is):SG X (.Tuple es k pos) (.tp is):=λex hs J F s d v G J' rel p h e=>by
 unfold Qca at e;split at e
 .cases ‹Tg.tp _=_›
 .split at e
  .cases e;rename_i q l;cases q;obtain⟨a,its,rfl,_,_,k,r⟩:=p.Qfp;refine assign_Tuple_tuple (rel.ok.hd hc) k (by rw[t.len.1,Zm,← r.len,l]) t.len.2 λh' hx=>?_;have x:Ex s {s with heap:=h'}:= .of (t':=s.toks) λb o e=>hx b o (Zad (ZW e)) e;exact thn (t.asg (rel.ext x) (r.ext x) h l) λ_ s' ⟨x',F',r',m,k⟩=>⟨(Fx.of x).trans x',F',r',m,λa o n e=>k a o n (x.hp a o e)⟩
  .cases e
 .split at e
  .cases e;rename_i q l;cases q;obtain⟨a,its,n,G',rfl,rfl,_,_,k,r⟩:=p.lst_inv;rw[PyProof.Rows.assign_Tuple];refine wpAny_bind (wpAny_standAt ?_);unfold unpack;rw[t.len.1,t.len.2,← l,r.len,← Zm];refine wpAny_bind (wpAny_holding (PySem.W.kun_itemsOf (rel.ok.hd hc) (isL k) λh' hx=>?_));have x:Ex s {s with heap:=h'}:= .of (t':=s.toks) λb o e=>hx b o (Zad (ZW e)) e;exact thn (t.asg (rel.ext x) (r.ext x) (λa m=>h a (.tail _ m)) l) λ_ s' ⟨x',F',r',m,k⟩=>⟨(Fx.of x).trans x',F',r',λj a h=>(m j a h).imp id (.tail _),λa o n e=>k a o n (x.hp a o e)⟩
  .cases e
 .cases e
structure Ret (X:Cx) (ex:LA) (s':Shared) (d:D) (fr:Bool) (v:Value) (G:LA):Prop where
 rp:Rp X.g ex s'.heap d v G
 src:∀a∈G,X.Nw a∨X.A0 a
 frs:fr=true->G.Nodup/\∀a∈G,X.Nw a
def Fl(X:Cx)(ex:LA)(hs:Hs)(s:Shared)(o:Out)(f:Flow)(s':Shared):Prop:=Fx X hs s s'/\match o with
 | .nx J=>f= .next/\∃F,Rel X ex hs J F s'
 | .bk J=>f= .brk/\∃F,Rel X ex hs J F s'
 | .ct J=>f= .cont/\∃F,Rel X ex hs J F s'
 | .rt d fr=>∃v G,f= .ret v/\Ret X ex s' d fr v G
def S1(X:Cx)(st:Stmt)(f:DS):Prop:=∀ ⦃ex hs J F s o⦄,Rel X ex hs J F s->f J=some o->wpAny X.M X.A (exec st X.env) (Fl X ex hs s o) E0 s
def SS(X:Cx)(st:List Stmt)(f:DS):Prop:=∀ ⦃ex hs J F s o⦄,Rel X ex hs J F s->f J=some o->wpAny X.M X.A (execs st X.env) (Fl X ex hs s o) E0 s
def QAj:SS X [] Ql:=λex hs J F s o rel e=>by cases e;exact wpAny_execs_nil ⟨.refl,rfl,F,rel⟩
def QwS(h1:S1 X st f)(h2:SS X sts g):SS X (st::sts) (Qc f g):=λex hs J F s o rel e=>by
 refine Qj e λo1 e1 e=>wpAny_execs_cons (thn (h1 rel e1) λfl s1 ⟨x,q⟩=>?_);cases o1 with
 | nx J'=>obtain⟨rfl,F',r'⟩:=q;exact thn (h2 r' e) λ_ _ ⟨y,q⟩=>⟨x.trans y,q⟩
 | bk J'=>cases e;obtain⟨rfl,q⟩:=q;exact⟨x,rfl,q⟩
 | ct J'=>cases e;obtain⟨rfl,q⟩:=q;exact⟨x,rfl,q⟩
 | rt d fr=>cases e;obtain⟨v,G,rfl,q⟩:=q;exact⟨x,v,G,rfl,q⟩
def QxV:S1 X (.Pass pos) Ql:=λex hs J F s o rel e=>by cases e;exact wpAny_Pass ⟨.refl,rfl,F,rel⟩
def Qy0:S1 X (.Break pos) Qzh:=λex hs J F s o rel e=>by cases e;exact wpAny_Break ⟨.refl,rfl,F,rel⟩
def QzE:S1 X (.Continue pos) QzC:=λex hs J F s o rel e=>by cases e;exact wpAny_Continue ⟨.refl,rfl,F,rel⟩
def Qvu:S1 X st Qco:=λ_ _ _ _ _ _ _ e=>nomatch e
def Qv3(h:SE X a fa):SE X a (Qbi fa):=λex hs J F s r rel e=>by
 obtain⟨r',e1,rfl⟩:=Zn.mp e;exact thn (h rel e1) λv s' ⟨G,p⟩=>⟨G,{p with frs:=nofun}⟩
def Rel.asg{r:R}(rel:Rel X ex hs J F s)(p:Qb7 X ex J F s s1 r v G)(sl:Sl X x i)(k:∀s' F',Fx X hs s s'->Rel X ex hs (asg i r J) F' s'->Q () s'):wpAny M A (storeName X.env x v) Q E s1:=by
 obtain⟨J1,b,e,w,o⟩:=p.asg (i:=i) rel;rw[e]at k;exact(rel.ext p.ext).store w sl p.rp o λs' x r _=>k s' _ ((Fx.of p.ext).trans x) r
def Qn8(h:SE X e fa)(sl:Sl X x i)(hs:swapsWith e (some (.Name x p)) pos.line X.env=pure false):S1 X (.Assign [.Name x p] e pos) (Qv i fa):=λex hs' J F s o rel e=>by
 refine Qj e λr e1 e=>?_;cases e;exact wpAny_Assign_Name (thn (h rel e1) λv s1 ⟨G,p⟩=>rel.asg p sl λs' F' x r=>⟨x,rfl,F',r⟩) hs
def Rel.weak(r:Rel X ex hs J F s)(w:Qbz J J'):Rel X ex hs J' F s:={r with
 ns:=let ⟨m,n,q⟩:=r.ns;⟨m,n,λi d b e=>let ⟨c,e1,_⟩:=w.2 i d b e;q i d c e1⟩
 len:=w.1.trans r.len
 ow:=r.ow.weak w}
def Rel.shared{r:R}(rel:Rel X ex hs J F s)(p:Qb7 X ex J F s s1 r v G):Shr X (QaT r.norm.M J) F G:=λa m=>⟨rel.Qlb p.norm.src a m,λj d e h=>rel.shr p.norm.src e a h m⟩
def Qyy(h:SE X e fa)(hg:SG X tg t)(hs:swapsWithSole [tg] e pos.line X.env=pure false)(hw:swappedStores [tg] e X.env=pure none)(h1:(assignEach [tg] X.env).map (·.2)=[assign tg X.env]):S1 X (.Assign [tg] e pos) (Qd0 t fa):=λex hs' J F s o rel e=>by
 refine Qj e λr e1 e=>?_;obtain⟨J',e2,rfl⟩:=Zn.mp e;refine wpAny_Assign_stores (thn (h rel e1) λv s1 ⟨G,p⟩=>?_) hs hw;rw[h1];exact thn (hg ((rel.ext p.ext).weak (QaM _ _)) p.rp (rel.shared p) e2) λ_ s2 ⟨x,F',r,_⟩=>⟨(Fx.of p.ext).trans x,rfl,F',r⟩
def Rel.quiet(r:Rel X ex hs J F s):interactive X.env=false:=by simp[interactive,r.ok.kind]
def QxD(h:SE X e fa)(hs:swapsWith e none pos.line X.env=pure false):S1 X (.Expr e pos) (Qc4 fa):=λex hs' J F s o rel e=>by
 refine Qj e λr e1 e=>?_;cases e;exact wpAny_Expr_any (thn (h rel e1) λv s1 ⟨G,p⟩=>⟨.of p.ext,rfl,F,rel.ext p.ext⟩) rel.quiet hs
def Rel.ret{r:R}(rel:Rel X ex hs J F s)(p:Qb7 X ex J F s s1 r v G):Ret X ex s1 r.d (r.norm.fr && decide r.norm.M.Nodup) v G where
 rp:=p.rp
 src:=rel.Qlb p.src
 frs:=λh=>by
  simp only[Zl,decide_eq_true_eq]at h;obtain⟨n,q⟩:=p.norm.QjT (i:=0) rel h.1 h.2;exact⟨n,λa m=>(q a m).1.1⟩
def Qz4(h:SE X e fa):S1 X (.Return (some e) pos) (QM fa):=λex hs J F s o rel e=>by
 refine Qj e λr e1 e=>?_;cases e;exact wpAny_Return_some (thn (h rel e1) λv s1 ⟨G,p⟩=>⟨.of p.ext,v,G,rfl,rel.ret p⟩)
def Qxg:S1 X (.Return none pos) Qwm:=λex hs J F s o rel e=>by cases e;exact wpAny_Return_none ⟨.refl,_,[],rfl,.non,nm,λ_=>⟨.nil,nm⟩⟩
def QAN(hc:ST X c gc)(ha:SS X sts f)(hb:SS X body g):S1 X (.If c sts body pos) (sIf gc f g):=λex hs J F s o rel e=>by
 refine Qj e λk e1 e=>wpAny_If (thn (hc rel e1) λk' s1 ⟨q,x⟩=>?_);subst q;cases k'
 .exact thn (hb (rel.ext x) e) λ_ _ ⟨y,q⟩=>⟨(Fx.of x).trans y,q⟩
 .exact thn (ha (rel.ext x) e) λ_ _ ⟨y,q⟩=>⟨(Fx.of x).trans y,q⟩
end
section
variable {X:Cx}{ex w:LA}{hs ts:Hs}{J J':En}{F:Ft}{s s' s1 s2:Shared}{a b c e tg iter:Expr}{fa fb fc:DE}{f g:DS}{gc:DT}{pos p:Pos}{es:List Expr}{st:Stmt}{sts body:List Stmt}{x:Str}{d:D}
def Rel.into(r:Rel X ex hs J F s)(x:Ex s s1)(no:∀b∈w,s.heap.get? b=none)(li:∀b∈w,∃o,s1.heap.get? b=some o)(ht:∀t∈ts,Rp X.g (w++ex) s1.heap t.1 t.2.1 t.2.2/\Src J F s M t.2.2):Rel X (w++ex) (ts++hs) (QaT M J) F s1:=
 let r1:=(r.ext x).weak (QaM M J)
 {r1 with
  ns:=let ⟨m,n,q⟩:=r.ns;⟨m,n.keeps x.hp,λi d b e=>let ⟨c,e1,_⟩:=(QaM M J).2 i d b e;let ⟨y,v,e2,l,p⟩:=q i d c e1;⟨y,v,e2,Qdh l λ_ _ _ z=>z.keeps x.hp,(p.grow no).ext x⟩⟩
  cell:=λy c e=>⟨Zc _ (r1.cell y c e).1,(r1.cell y c e).2⟩
  loc:=Zc _ r.loc
  exl:=λb m=>(Zf.mp m).elim (li b) (r1.exl b)
  ow:=⟨λi d e=>let ⟨n,q⟩:=r1.ow.own i d e;⟨n,λa m=>⟨(q a m).1,(q a m).2.1,λt h=>(Zf.mp h).elim (λh=>r.shr (ht t h).2 e a m) ((q a m).2.2 t)⟩⟩,r1.ow.src⟩
  held:=λt h=>(Zf.mp h).elim (λh=>⟨(ht t h).1,r.Qlb (ht t h).2⟩) λh=>⟨((r.held t h).1.grow no).ext x,(r.held t h).2⟩}
def Rel.out(r0:Rel X ex hs J' F' s')(r:Rel X (w++ex) (ts++hs) J F s):Rel X ex hs J F s:=
 {r with
  ns:=let ⟨m,n,q⟩:=r.ns;⟨m,n,λi d b e=>let ⟨y,v,e2,l,p⟩:=q i d b e;⟨y,v,e2,l,p.less λ_=>Zc _⟩⟩
  cell:=λy c e=>⟨(r0.cell y c e).1,(r.cell y c e).2⟩
  loc:=r0.loc
  exl:=λb m=>r.exl b (Zc _ m)
  ow:=⟨λi d e=>let ⟨n,q⟩:=r.ow.own i d e;⟨n,λa m=>⟨(q a m).1,(q a m).2.1,λt h=>(q a m).2.2 t (Zc _ h)⟩⟩,r.ow.src⟩
  held:=λt h=>let ⟨p,q⟩:=r.held t (Zc _ h);⟨p.less λ_=>Zc _,q⟩}
def Rel.turn{h':Heap}(r0:Rel X ex hs J' F' s')(no:∀b∈w,s'.heap.get? b=none)(r:Rel X (w++ex) ts J F s)(k:∀b o,b∉w->s.heap.get? b=some o->h'.get? b=some o)(li:∀b∈w',b∈w/\∃o,h'.get? b=some o):Rel X (w'++ex) ts J F {s with heap:=h',toks:=tk}:=by
 have ne:∀b∈ex,b∉w:=λb m h=>r0.nex (no b h) m;have dk:∀{ds vs G},Rps X.g (w++ex) s.heap ds vs G->Rps X.g (w'++ex) h' ds vs G:=λp=>(p.keep λa o n _=>k a o λh=>n (Zh _ h)).less λb m=>(Zf.mp m).elim (λm=>Zh _ (li b m).1) (Zc _);have ck:∀{c v},c∈ex->s.heap.IsCell c v->h'.IsCell c v:=λm ⟨o,e,d⟩=>⟨o,k _ o (ne _ m) e,d⟩
 exact{r with
  bk:=λa o e=>k a o (λm=>by rw[r.ok.b0 a (r0.nw a (no a m))]at e;cases e) (r.bk a o e)
  nw:=λa e=>by
   by_cases m:a∈w
   .exact r0.nw a (no a m)
   .cases q:s.heap.get? a with
    | none=>exact r.nw a q
    | some o=>rw[k a o m q]at e;cases e
  ns:=let ⟨m,n,q⟩:=r.ns;⟨m,n.at λo e=>k _ o (ne _ r0.loc) e,λi d b e=>let ⟨y,v,e2,l,p⟩:=q i d b e;⟨y,v,e2,Qdh l λc v e=>ck (r0.cell _ c e).1,dk p⟩⟩
  cell:=λy c e=>let ⟨_,v,z⟩:=r.cell y c e;let m:=(r0.cell y c e).1;⟨Zc _ m,v,ck m z⟩
  loc:=Zc _ r0.loc
  exl:=λb m=>(Zf.mp m).elim (λm=>(li b m).2) λm=>let ⟨o,e⟩:=r.exl b (Zc _ m);⟨o,k b o (ne b m) e⟩
  held:=λt m=>⟨dk (r.held t m).1,(r.held t m).2⟩}
def Qzd(hi:SI X tg iter fi)(hg:SG X tg t)(hb:SS X body f)(hf:∀x,foldedSetIterable iter X.env x=pure x):S1 X (.For tg iter body [] pos) (QaU fi t f):=λex hs J F s o rel e=>by
 refine Qj e λir e1 e=>wpAny_For (thn (hi rel e1) λv s1 h=>thn h λit s2 ⟨I,fp,wr,T,P,St,ts,e2,x,tr,st,no,hT,ht,own,z,yld⟩=>?_) hf;subst e2;have ob:∀i h,St i h->∀b∈wr,∃o,h.get? b=some o:=λi h st b m=>let ⟨o,e,_⟩:=tr.obj i h st b (tr.sub b m);⟨o,e⟩;refine codeAny_forLoop_any (λn s'=>∃i J F,n+i=ir.items.length/\Fx X hs s s'/\St i s'.heap/\Rel X (wr++ex) (ts++hs) J F s'/\Qdp t f (ir.items.drop i) J=some o) ?_ _ ⟨0,_,F,rfl,.of x,st,rel.into x no (ob _ _ st) ht,e⟩;rintro n s3 ⟨i,J3,F3,hn,x3,st3,r3,e3⟩;have next:∀{h' tk},(∀b o,b∉wr->s3.heap.get? b=some o->h'.get? b=some o)->Fx X hs s {s3 with heap:=h',toks:=tk}:=λk=>⟨λa o h i=>k a o (λm=>by rw[no a m]at h;cases h) (x3.hp a o h i),x3.os,x3.br⟩;cases n with
 | zero=>
  rw[show ir.items.drop i=[]from ZaY ⋯]at e3;cases e3;have:i=ir.items.length:= ⋯
  subst this;exact any (thn (tr.done s3 (λs4=>Fx X hs s s4/\Rel X ex hs J3 F3 s4) st3 λh' tk k=>⟨next k,rel.out (w:=[]) (rel.turn no r3 k nm)⟩) λr s4 ⟨q,x,r'⟩=>by subst q;exact wpAny_execs_nil ⟨x,rfl,F3,r'⟩)
 | succ n=>
  have lt:i<ir.items.length:= ⋯
  rw[ZaL lt]at e3;unfold Qdp at e3;refine Qj e3 λJ4 e4 e3=>Qj e3 λo1 eo e3=>?_;refine any (thn (tr.turn i s3 (λv s4=>∃G,Fx X hs s s4/\St (i+1) s4.heap/\Rel X (wr++ex) (ts++hs) J3 F3 s4/\Rp X.g (wr++ex) s4.heap ir.items[i] v G/\Shr X J3 F3 G) lt st3 λv h' tk p st4 k=>?_) λr s4 ⟨v,q,h⟩=>?_)
  .have r4:=rel.turn (tk:=tk) no r3 k λb m=>⟨m,ob _ _ st4 b m⟩;obtain⟨G,p,m⟩:=yld _ i v s3 h' _ p st4 r3.exl (λt m=>(r4.held t (Zh _ m)).1) (Zg lt);refine⟨G,next k,st4,r4,p,λa h=>?_⟩;obtain⟨t,ht,h⟩:=m a h;exact⟨(r4.held t (Zh _ ht)).2 a h,λj d e h'=>((r4.ow.own j d e).2 a h').2.2 t (Zh _ ht) h⟩
  .subst q;refine any (thn h λ_ s5 ⟨G,x5,st5,r5,p,sh⟩=>any (thn (hg r5 p sh e4) λ_ s6 ⟨x6,F6,r6,_⟩=>any (thn (hb r6 eo) λfl s7 ⟨x7,q⟩=>?_)));have x8:Fx X (ts++hs) s5 s7:=x6.trans x7;have x9:Fx X hs s s7:=x5.trans x8.less;have again:∀{J7 F7},Rel X (wr++ex) (ts++hs) J7 F7 s7->Qdp t f (ir.items.drop (i+1)) J7=some o->∃m,m<n+1/\∃i J F,m+i=ir.items.length/\Fx X hs s s7/\St i s7.heap/\Rel X (wr++ex) (ts++hs) J F s7/\Qdp t f (ir.items.drop i) J=some o:=λ{J7 F7} r7 e7=>
    ⟨n,Zaj n,i+1,J7,F7,⋯,x9,tr.frame _ _ _ st5 λb m o e=>x8.hp b o e λ_=>by
     obtain⟨o',e',q⟩:=tr.obj _ _ st5 b m;rw[e]at e';cases e';exact q.imp id λm=>let ⟨t,h,k⟩:=hT b m;⟨t,Zh _ h,k⟩,r7,e7⟩
   cases o1 with
   | nx J7=>obtain⟨rfl,F7,r7⟩:=q;exact again r7 e3
   | ct J7=>obtain⟨rfl,F7,r7⟩:=q;exact again r7 e3
   | bk J7=>obtain⟨rfl,F7,r7⟩:=q;cases e3;exact⟨x9,rfl,F7,rel.out r7⟩
   | rt d fr=>obtain⟨v,G,rfl,q⟩:=q;cases e3;exact⟨x9,v,G,rfl,{q with rp:=q.rp.less λ_=>Zc _}⟩
def Qu7(hc:ST X c gc)(hb:SS X body f):S1 X (.While c body [] pos) (Qc6 gc f):=λex hs J F s o rel e=>by
 obtain⟨n,hn⟩:=Qds.mp e;refine wpAny_While (codeAny_whileLoop (λn s'=>∃J F,Fx X hs s s'/\Rel X ex hs J F s'/\Qbt gc f n J=some o) ?_ n ⟨J,F,.refl,rel,hn⟩);rintro n s3 ⟨J3,F3,x3,r3,e3⟩;cases n with
 | zero=>cases e3
 | succ n=>
  unfold Qbt at e3;refine Qj e3 λk e4 e3=>any (thn (hc r3 e4) λk' s4 ⟨q,x4⟩=>?_);subst q;have x5:=x3.trans (.of x4);cases k' with
  | false=>cases e3;exact any (wpAny_execs_nil ⟨x5,rfl,F3,r3.ext x4⟩)
  | true=>
   refine Qj e3 λo1 eo e3=>any (thn (hb (r3.ext x4) eo) λfl s7 ⟨x7,q⟩=>?_);have x9:=x5.trans x7;cases o1 with
   | nx J7=>obtain⟨rfl,F7,r7⟩:=q;exact⟨n,Zaj n,J7,F7,x9,r7,e3⟩
   | ct J7=>obtain⟨rfl,F7,r7⟩:=q;exact⟨n,Zaj n,J7,F7,x9,r7,e3⟩
   | bk J7=>obtain⟨rfl,F7,r7⟩:=q;cases e3;exact⟨x9,rfl,F7,r7⟩
   | rt d fr=>obtain⟨v,G,rfl,q⟩:=q;cases e3;exact⟨x9,v,G,rfl,q⟩
end
section
variable {X:Cx}{ex w:LA}{hs ts:Hs}{J J':En}{F:Ft}{s s' s0 s1 s2:Shared}{a b c e tg iter:Expr}{fa fb fc fi:DE}{f g:DS}{gc:DT}{pos p apos cpos:Pos}{es:List Expr}{st:Stmt}{sts body:List Stmt}{x:Nat}{d dm d':D}{is:List Int}{h:Heap}
def Qip{e:D}:∀{is:List Int}{d:D},Qak d is=some dm->Qa2 (is++[i]) d e=Qa2 is d (Qa2 [i] dm e)
 | [],d,h=>by cases h;rfl
 | k::is,d,h=>by
  refine Qj h λds h1 h=>Qj h λd' h2 h=>?_;refine Qj h2 λj h3 h2=>?_;have ih:=Qip (i:=i) (e:=e) h;have e1:ds.getD j .non=d':=by simp[Zaa,h2]
  unfold D.items at h1;split at h1
  iterate 2
   .cases h1;simp only[Zbb,Qa2,h3,e1,ih]
  .cases h1
abbrev Kp(ex:LA)(h h':Heap)(L:LA):Prop:=∀a o,a∉ex->a∈L∨o.cls= .type "tuple" ->h.get? a=some o->h'.get? a=some o
def Kp.sub{L L':LA}(k:Kp ex h h' L)(m:∀a∈L',a∈L):Kp ex h h' L':=λa o n z=>k a o n (z.imp (m a) id)
def Qdz(g:Gb)(ex:LA)(h:Heap)(is:List Int)(d:D)(v:Value)(F:LA)(dm:D)(w:Value)(Gm:LA):Prop:=(Qak d is=some dm/\(is=[]->v=w))/\∃F1 F2,F=F1++(Gm++F2)/\Rp g ex h dm w Gm∧
 ∀h' dm' Gm',Rp g ex h' dm' w Gm'->Kp ex h h' (F1++F2)->Rp g ex h' (Qa2 is d dm') v (F1++(Gm'++F2))
def Qdz.ext{g:Gb}(H:Qdz g ex s.heap is d v L dm w' Gm)(x:Ex s s'):Qdz g ex s'.heap is d v L dm w' Gm:=
 let ⟨q,F1,F2,e,p,k⟩:=H;⟨q,F1,F2,e,p.ext x,λh' dm' Gm' r m=>k h' dm' Gm' r λa o n z e=>m a o n z (x.hp a o e)⟩
def Qdz.nil{g:Gb}(r:Rp g ex h d v L):Qdz g ex h [] d v L d v L:=⟨⟨rfl,λ_=>rfl⟩,[],[],⋯,r,λh' dm' Gm' r m=>by simpa[Qa2]using r⟩
def QmR:∀{is:List Int}{d:D},Qak d is=some dm->Qak d (is++js)=Qak dm js
 | [],d,h=>by cases h;rfl
 | k::is,d,h=>by
  refine Qj h λds h1 h=>Qj h λd' h2 h=>?_;simp only[Zbb,Qak,h1,h2,Za];exact QmR h
def Qdz.snoc{g:Gb}(H:Qdz g ex h is d v L dm w' Gm)(e:dm.items=some ds)(hd:L2.atI ds i=some d'):∃l its j u G,w'= .ref l/\Sq h l its/\ds.length<=sizeLine/\ds.length=its.length/\seqIndex? i its.length=some j/\its[j]? =some u/\ -(its.length:Int)<=i/\i<its.length/\Qdz g ex h (is++[i]) d v L d' u G:=by
 obtain⟨⟨q,_⟩,F1,F2,rfl,p,k⟩:=H;refine Qj hd λj h1 h2=>?_;obtain⟨h3,h4,h5,h6⟩:=L2.Qfd h1;have hp:∀u,Qak d (is++[i])=some d'/\(is++[i]=[]->v=u):=λu=>⟨by rw[QmR q];simp[Qak,e,hd],⋯⟩
 have fin:∀{its:List Value}{l G0},Sq h l its->ds.length<=sizeLine->Rps g ex h ds its G0→
   (∀A G B u,G0=A++(G++B)->its[j]? =some u->Rps g ex h (ds.take j) (its.take j) A->Rp g ex h d' u G->Rps g ex h (ds.drop (j+1)) (its.drop (j+1)) B->Qdz g ex h (is++[i]) d v (F1++(Gm++F2)) d' u G)->w'= .ref l→
   ∃l its j u G,w'= .ref l/\Sq h l its/\ds.length<=sizeLine/\ds.length=its.length/\seqIndex? i its.length=some j/\its[j]? =some u/\ -(its.length:Int)<=i/\i<its.length/\Qdz g ex h (is++[i]) d v (F1++(Gm++F2)) d' u G:=λ{its l G0} sq z r hh ew=>by
  obtain⟨A,G,B,u,e0,e1,r1,r2,r3⟩:=r.split h2;have hl:=r.len;exact⟨l,its,j,u,G,ew,sq,z,hl,hl▸h3,e1,hl▸h5,hl▸h6,hh A G B u e0 e1 r1 r2 r3⟩
 have join:∀{its:List Value}{h':Heap}{A B u G1 d1},its[j]? =some u->Rps g ex h' (ds.take j) (its.take j) A->Rp g ex h' d1 u G1->Rps g ex h' (ds.drop (j+1)) (its.drop (j+1)) B->Rps g ex h' (ds.set j d1) its (A++(G1++B)):=λ{its h' A B u G1 d1} e r1 r2 r3=>by
  obtain⟨hj,rfl⟩:=Zi.mp e;have:=Rps.join r1 r2 r3 h4 hj;rwa[List.set_getElem_self]at this
 unfold D.items at e;split at e
 .cases e;obtain⟨l,its,n,G0,rfl,rfl,na,z,kk,r⟩:=p.lst_inv;refine fin (.inl (isL kk)) z r (λA G B u e0 e1 r1 r2 r3=>?_) rfl;subst e0;refine⟨hp u,F1++l::A,B++F2,⋯,r2,λh' d1 G1 q1 m=>?_⟩;have:=k h' (.lst (ds.set j d1)) (l::(A++(G1++B))) (.Qd9 na (by rwa[ZaS]) (m _ _ na ⋯ kk) (join e1 (r1.keep (m.sub λa h=>by simp[h])) q1 (r3.keep (m.sub λa h=>by simp[h])))) (m.sub λa h=>by simp at h;rcases h with h | h<;>simp[h]);rw[Qip q];simpa[Qa2,h1]using this
 .cases e;obtain⟨l,its,rfl,na,z,kk,r⟩:=p.Qfp;refine fin (.inr kk) z r (λA G B u e0 e1 r1 r2 r3=>?_) rfl;subst e0;refine⟨hp u,F1++A,B++F2,⋯,r2,λh' d1 G1 q1 m=>?_⟩;obtain⟨o,ko,kc,kk⟩:=kk;have:=k h' (.tup (ds.set j d1)) (A++(G1++B)) (.Qii na (by rwa[ZaS]) ⟨o,m _ _ na (.inr kc) ko,kc,kk⟩ (join e1 (r1.keep (m.sub λa h=>by simp[h])) q1 (r3.keep (m.sub λa h=>by simp[h])))) (m.sub λa h=>by simp at h;rcases h with h | h<;>simp[h]);rw[Qip q];simpa[Qa2,h1]using this
 .cases e
def Val.ext(v:Val X s i u)(x:Ex s s'):Val X s' i u:=let ⟨y,m,e,n,l⟩:=v;⟨y,m,e,n.keeps x.hp,Qdh l λ_ _ _ z=>z.keeps x.hp⟩
def Val.inj(v:Val X s i u)(v':Val X s i u'):u=u':=by
 obtain⟨y,m,e,n,l⟩:=v;obtain⟨y',m',e',n',l'⟩:=v';rw[e]at e';cases e';rcases l with⟨k,l⟩ | ⟨k,c,ec,o,l1,l2⟩<;>rcases l' with⟨k',l'⟩ | ⟨k',c',ec',o',l1',l2'⟩
 .rw[n.agree n' y,l']at l;cases l;rfl
 .rw[k]at k';rcases k' with k' | k'<;>cases k'
 .rw[k']at k;rcases k with k | k<;>cases k
 .rw[ec]at ec';cases ec';rw[l1]at l1';cases l1';rw[l2]at l2';cases l2';rfl
def SPa(X:Cx)(e:Expr)(x:Nat)(pf:DP):Prop:=∀ ⦃ex hs J F s d b is dm⦄,Rel X ex hs J F s->J[x]? =some (some (d,b))->pf J=some is->Qak d is=some dm->wpAny X.M X.A (eval e X.env) (λw s'=>∃v Gm,Ex s s'/\Val X s' x v/\Qdz X.g ex s'.heap is d v (F x) dm w Gm) E0 s
def Qjr{y:Str}(hN:X.N[x]? =some y)(h1:(y == ("__debug__" :Str))=false)(h2:(y == ("__classdict__" :Str))=false):SPa X (.Name y pos) x Q8:=λex hs J F s d b is dm rel q e1 e2=>by
 cases e1;cases e2;exact wpAny_Name (rel.Qnf q hN h2 λv hv p=>⟨v,_,.refl,hv,.nil p⟩) h1
def Qxw(ha:SPa X a x pf)(hb:SE X b fb)(hp:L2.Ql8 b):SPa X (.Subscript a b pos) x (Qe4 pf fb):=λex hs J F s d b' is dm rel q e1 e2=>by
 refine Qj e1 λis' e3 e1=>Qj e1 λr e4 e1=>?_;split at e1
 .rename_i i hr;cases e1;obtain⟨dn,ds,g1,g2,g3⟩:=Qkx e2;refine Subscript_ (thn (ha rel q e3 g1) λw s1 ⟨v,Gm,x1,val,H⟩=>thn (hb (rel.ext x1) e4) λu s2 ⟨G,p⟩=>?_);have rp:=p.rp;rw[hr]at rp;obtain⟨t,rfl⟩:=rp.int_inv;obtain⟨l,its,j,u,G',rfl,sq,z,hl,h1,h2,h3,h4,H'⟩:=(H.ext p.ext).snoc g2 g3;have z:((its.length:Nat):Int)<2^63:=by have:=Qgu;lia
  have fin:=Qj7 (P:=X.g.P) (w':=X.g.w) (A:=X.A) (E:=E0) (t:=t) z sq h1 h2 h3 h4 (Q:=λw s'=>∃v Gm,Ex s s'/\Val X s' x v/\Qdz X.g ex s'.heap (is'++[i]) d v (F x) dm w Gm) ⟨v,G',x1.trans p.ext,val.ext p.ext,H'⟩;rcases sq with sq | sq
  .exact tail_any sq.typeIs slot_list_getitem.lookup fin (hp _ _)
  .exact tail_any sq.typeIs slot_tuple_getitem.lookup fin (hp _ _)
 .cases e1
def Rel.chg{l:Addr}{b:Bool}{h':Heap}(r:Rel X ex hs J F s)(w:Qbz J J')(hx:J[x]? =some (some (d,true)))(hl:l∈F x)(sb:Heap.SameBut l s.heap h')(he:∃o,h'.get? l=some o)(nt:∀o,s.heap.get? l=some o->o.cls≠ .type "tuple")(hv:Val X s x v0)(p:Rp X.g ex h' dn v0 G)(o:Ow X hs (J'.set x (some (dn,b))) (put F x G)):Rel X ex hs (J'.set x (some (dn,b))) (put F x G) {s with heap:=h',toks:=tk}:=by
 obtain⟨nw,ap,ah⟩:=(r.ow.own x d hx).2 l hl;obtain⟨m,n,q⟩:=r.ns;have nx:l∉ex:=by obtain⟨_,_,_,_,_,_,q⟩:=r.val hx;exact(q.mem l hl).1
 have ne:∀b∈ex,b≠l:=λb m z=>nx (z▸m);have ck:∀{c v},c∈ex->s.heap.IsCell c v->h'.IsCell c v:=λm z=>z.sameBut sb (ne _ m)
 exact{r with
  bk:=λc o e=>(sb.2 c (λz=>by rw[z,r.ok.b0 l nw]at e;cases e)).trans (r.bk c o e)
  nw:=λc e=>by
   by_cases z:c=l
   .exact z▸nw
   .exact r.nw c ((sb.2 c z).symm.trans e)
  ns:=⟨m,n.sameBut sb (ne _ r.loc),λj d' b' e=>by
   rcases set_inv e with⟨rfl,e1⟩ | ⟨z,e1⟩
   .cases e1;obtain⟨y,v,h1,h2,_⟩:=q j d true hx;have:v=v0:=Val.inj ⟨y,m,h1,n,h2⟩ hv;subst this;rw[QdK];exact⟨y,v,h1,Qdh h2 λc _ e=>ck (r.cell _ c e).1,p⟩
   .obtain⟨b2,e2,_⟩:=w.2 j d' b' e1;obtain⟨y,u,h1,h2,h3⟩:=q j d' b2 e2;rw[QeS z];exact⟨y,u,h1,Qdh h2 λc _ e=>ck (r.cell _ c e).1,h3.but sb (.inr ⟨ap j d' b2 z e2,nt⟩)⟩⟩
  cell:=λy c e=>let ⟨m,v,z⟩:=r.cell y c e;⟨m,v,ck m z⟩
  exl:=λb m=>let ⟨o,e⟩:=r.exl b m;⟨o,(sb.2 b (ne b m)).trans e⟩
  len:=by rw[ZaS,w.1,r.len]
  ow:=o
  held:=λt e=>⟨(r.held t e).1.but sb (.inr ⟨ah t e,nt⟩),(r.held t e).2⟩}
def QwC{F1 F2 Gp Gn G':LA}{l:Addr}(fn:(F1++(l::Gp++F2)).Nodup)(gn:Gn.Nodup)(dj:∀a∈Gn,a∉F1++(l::Gp++F2))(n':(Gp++Gn).Nodup->G'.Nodup)(m':∀a∈G',a∈Gp∨a∈Gn):
  (F1++(l::G'++F2)).Nodup/\l∉G'/\l∉F1++F2/\∀a∈F1++(l::G'++F2),a∈F1++(l::Gp++F2)∨a∈Gn:=by
 obtain⟨a1,a2,a3⟩:=Zal.mp fn;obtain⟨b1,b2⟩:=Zaf.mp a2;obtain⟨c1,c2,c3⟩:=Zal.mp b2;have key:∀a∈G',a∉F1/\a≠l/\a∉F2:=λa m=>(m' a m).elim (λm=>⟨λh=>a3 a h a (.tail _ (Zh _ m)) rfl,λz=>b1 (z▸Zh _ m),λh=>c3 a m a h rfl⟩) λm=>⟨λh=>dj a m (Zh _ h),λh=>dj a m (Zc _ (h▸ .head _)),λh=>dj a m (Zc _ (.tail _ (Zc _ h)))⟩;have hn:=n' (Zal.mpr ⟨c1,gn,λa h b hb z=>dj a (z▸hb) (Zc _ (.tail _ (Zh _ h)))⟩);have nl:l∉G':=λh=>(key l h).2.1 rfl;have n2:l∉F2:=λh=>b1 (Zc _ h);refine⟨Zal.mpr ⟨a1,Zaf.mpr ⟨λh=>(Zf.mp h).elim nl n2,Zal.mpr ⟨hn,c2,λa h b hb z=>(key a h).2.2 (z▸hb)⟩⟩,λa h b hb z=>?_⟩,nl,λh=>(Zf.mp h).elim (λh=>a3 l h l (.head _) rfl) n2,λa h=>?_⟩
 .subst z;rcases Zq.mp hb with rfl | hb
  .exact a3 a h a (.head _) rfl
  .exact(Zf.mp hb).elim (λhb=>(key a hb).1 h) λhb=>a3 a h a (.tail _ (Zc _ hb)) rfl
 .rcases Zf.mp h with h | h
  .exact .inl (Zh _ h)
  .rcases Zq.mp h with rfl | h
   .exact .inl (Zc _ (.head _))
   .rcases Zf.mp h with h | h
    .exact(m' a h).imp (λh=>Zc _ (.tail _ (Zh _ h))) id
    .exact .inl (Zc _ (.tail _ (Zc _ h)))
def Rel.write(r0:Rel X ex hs J F s0)(p:Qaf X ex J F s0 s ds1 fr M vs1 Gn)(hf:fr=true)(nd:M.Nodup)(hx:J[x]? =some (some (d,true)))(hM:x∉M)(hv:Val X s x v0)(H:Qdz X.g ex s.heap is d v0 (F x) (.lst ds) w' Gm):
  ∃l its n Gp,w'= .ref l/\s.heap.get? l=some (QbF its n)/\ds.length<=sizeLine/\Rps X.g ex s.heap ds its Gp/\∀{ds' its' G' f tk},f its.toArray=its'.toArray->ds'.length<=sizeLine->Rps X.g ex s.heap ds' its' G'->((Gp++Gn).Nodup->G'.Nodup)->(∀a∈G',a∈Gp∨a∈Gn)→
   Fl X ex hs s0 (.nx ((kill M J).set x (some (Qa2 is d (.lst ds'),true)))) .next {s with heap:=s.heap.update l (Obj.mapSeq f),toks:=tk}:=by
 obtain⟨_,F1,F2,eF,q,k⟩:=H;obtain⟨l,its,n,Gp,rfl,rfl,na,z,e,r⟩:=q.lst_inv;obtain⟨fn,fo⟩:=r0.ow.own x d hx;obtain⟨gn,gm⟩:=p.QjT (i:=x) r0 hf nd;have dj:∀a∈Gn,a∉F x:=λa m h=>by
  rcases(p.frs hf (.of nd)).2 a m with z | ⟨i,hi,ai⟩
  .exact r0.has hx h z
  .obtain⟨d',ei⟩:=p.own i hi;exact((r0.ow.own i d' ei).2 a ai).2.1 x d true (λz=>hM (z▸hi)) hx h
 have hl:l∈F x:=by rw[eF];simp
 refine⟨l,its,n,Gp,rfl,e,z,r,λ{ds' its' G' f tk} hf' z' r' n' m'=>?_⟩;rw[eF]at fn dj;have e':(s.heap.update l (Obj.mapSeq f)).get? l=some (QbF its' _):=hf'▸ZcA e f;have sb:Heap.SameBut l s.heap (s.heap.update l (Obj.mapSeq f)):= .update ..;have nt:∀o,s.heap.get? l=some o->o.cls≠ .type "tuple" :=λo h=>by rw[e]at h;cases h;simp
 obtain⟨nd',nl,nf,all⟩:=QwC fn gn dj n' m';rw[← eF]at all;have QjT:∀a∈F1++(l::G'++F2),QuY X hs (kill M J) F x a:=λa m=>(all a m).elim (λm=>⟨(fo a m).1,λj d' b' h e=>let ⟨c,h',_⟩:=(Qcz M J).2 j d' b' e;(fo a m).2.1 j d' c h h',(fo a m).2.2⟩) λm=>(gm a m).1;have rN:=k _ (.lst ds') (l::G') (.Qd9 na z' e' (r'.but sb (.inr ⟨nl,nt⟩))) λa o _ m h=>(sb.2 a λz=>by
  subst z;exact m.elim nf (nt o h)).trans h
 exact⟨(Fx.of p.ext).trans (.one sb (fo l hl).1 e (λi=>i.2.2.1 rfl) (fo l hl).2.2),rfl,_,(r0.ext p.ext).chg (Qcz M J) hx hl sb ⟨_,e'⟩ nt hv rN ((r0.ow.weak (Qcz M J)).set (λa m=> .inl (QjT a m).1) (λj d' h e a m m'=>(QjT a m').2.1 j d' true h e m) λ_=>⟨nd',QjT⟩)⟩
def Rel.QzP(r0:Rel X ex hs J F s0)(p:Qaf X ex J F s0 s ds1 fr M vs1 Gn)(hx:J[x]? =some (some (.lst ds,true)))(hM:x∉M)(hv:Val X s x v0)(H:Qdz X.g ex s.heap [] (.lst ds) v0 (F x) (.lst ds) w' Gm):
  ∃l its n Gp,w'= .ref l/\s.heap.get? l=some (QbF its n)/\ds.length<=sizeLine/\Rps X.g ex s.heap ds its Gp/\∀{ds' its' G' f tk},f its.toArray=its'.toArray->ds'.length<=sizeLine->Rps X.g ex s.heap ds' its' G'->(∀a∈G',a∈Gp∨a∈Gn)→
   Fl X ex hs s0 (.nx ((QaT M J).set x (some (.lst ds',false)))) .next {s with heap:=s.heap.update l (Obj.mapSeq f),toks:=tk}:=by
 obtain⟨⟨_,hw⟩,F1,F2,eF,q,k⟩:=H;obtain⟨l,its,n,Gp,rfl,rfl,na,z,e,r⟩:=q.lst_inv;obtain⟨fn,fo⟩:=r0.ow.own x _ hx;have hl:l∈F x:=by rw[eF];simp
 refine⟨l,its,n,Gp,rfl,e,z,r,λ{ds' its' G' f tk} hf' z' r' m'=>?_⟩;have sh:=λ{j:Nat}{d} (e:(QaT M J)[j]? =some (some (d,true)))=>r0.shr p.src e;have nl:l∉G':=λh=>(m' l h).elim (λh=>by rw[eF]at fn;exact(Zaf.mp (Zal.mp fn).2.1).1 (Zh _ h)) (sh ((Qi8 M J x hM).trans hx) l hl);have mem:∀a∈l::G',a∈F x∨a∈Gn:=λa m=>(Zq.mp m).elim (λh=> .inl (h▸hl)) λh=>(m' a h).imp (λh=>by rw[eF];exact Zc _ (.tail _ (Zh _ h))) id;have e':(s.heap.update l (Obj.mapSeq f)).get? l=some (QbF its' _):=hf'▸ZcA e f;have sb:Heap.SameBut l s.heap (s.heap.update l (Obj.mapSeq f)):= .update ..;have nt:∀o,s.heap.get? l=some o->o.cls≠ .type "tuple" :=λo h=>by rw[e]at h;cases h;simp
 cases hw rfl;exact⟨(Fx.of p.ext).trans (.one sb (fo l hl).1 e (λi=>i.2.2.1 rfl) (fo l hl).2.2),rfl,_,(r0.ext p.ext).chg (QaM M J) hx hl sb ⟨_,e'⟩ nt hv (.Qd9 na z' e' (r'.but sb (.inr ⟨nl,nt⟩))) ((r0.ow.weak (QaM M J)).set (λa m=>(mem a m).elim (λm=> .inl (fo a m).1) (r0.Qlb p.src a)) (λj d' h e a m m'=>(mem a m').elim (λm'=>let ⟨c,h',k⟩:=(QaM M J).2 j d' true e;((r0.ow.own j d' (k rfl▸h')).2 a m).2.1 x _ true (Ne.symm h) hx m') (sh e a m)) nofun)⟩
end
abbrev One(X:Cx)(a:Expr)(es:List Expr):Prop:=starEach (a::es) X.env=(false,eval a X.env)::starEach es X.env
structure Mc (X:Cx) (o:Expr) (m:Str) (apos:Pos) (args:List Expr) (cpos:Pos) (id:String):Prop where
 s:Slot "list" m id
 t:typeOf (.builtin id)=pure (.type "method_descriptor")
 b:attributeBase o m X.env (eval o X.env)=eval o X.env
 f:((backTo cpos (starEach args X.env)).all (λx=> !x.1) && (backToKw cpos (keywordEach [] X.env)).all (λx=>x.1.isSome) && decide (args.length+([]:List Keyword).length+(if([]:List Keyword).isEmpty then 0 else 1)<30))=true
 l:(apos.endLine == cpos.line)=true
 p:(backTo cpos (starEach args X.env)).any (·.1)=false
 e:∀a es,args=a::es->One X a es
def Sp(X:Cx)(cpos:Pos):List Expr->(List Value->Shared->Prop)->Shared->Prop
 | [],Q,s=>Q [] s
 | a::es,Q,s=>wpAny X.M X.A (spliced (backTo cpos (starEach (a::es) X.env))) Q E0 s
section
variable {X:Cx}{ex w:LA}{hs ts:Hs}{J J':En}{F:Ft}{s s' s0 s1 s2:Shared}{a b c e o tg iter:Expr}{fa fb fc fi:DE}{f g:DS}{gc:DT}{pos p apos cpos:Pos}{es args:List Expr}{st:Stmt}{sts body:List Stmt}{x y:Nat}{d dm d':D}{is:List Int}{h:Heap}{pf:DP}{i':String}
def Sp.mono(h:Sp X cpos args Q s)(k:∀vs s,Q vs s->Q' vs s):Sp X cpos args Q' s:=by
 cases args with
 | nil=>exact k _ _ h
 | cons=>exact thn h k
def Sp.cons(hs:One X a es)(h:wpAny X.M X.A (spliced (backTo cpos ((false,eval a X.env)::starEach es X.env))) Q E0 s):Sp X cpos (a::es) Q s:=by rw[← hs]at h;exact h
def Mc.call{Q:Value->Shared->Prop}(c:Mc X o m apos args cpos i')(ho:SPa X o x pf)(rel:Rel X ex hs J F s)(hx:J[x]? =some (some (d,k)))(e1:pf J=some is)(e2:Qak d is=some (.lst ds))
  (kk:∀w s1 v Gm,Ex s s1->Val X s1 x v->Qdz X.g ex s1.heap is d v (F x) (.lst ds) w Gm->Sp X cpos args (λvs s2=>wpAny X.M X.A (PySem.call (.builtin i') (w::vs)) Q E0 s2) s1):wpAny X.M X.A (eval (.Call (.Attribute o m apos) args [] cpos) X.env) Q E0 s:=by
 refine wpAny_Call_method_late c.b c.f c.l rfl (thn (ho rel hx e1 e2) λw s1 ⟨v,Gm,x1,val,H⟩=>?_);obtain⟨l,its,n,G,rfl,_,_,_,e,_⟩:=H.2.choose_spec.choose_spec.2.1.lst_inv;refine⟨"list",i',PySem.F.plainAttrs_list,c.s,c.t,⟨_,e,rfl⟩,λa z=>by cases z;exact⟨_,e,rfl⟩,Calls.callWith_builtin c.p ?_⟩;have q:=kk _ s1 v Gm x1 val H;cases args with
 | nil=>exact PySem.evalArgs_none q
 | cons a es=>replace q:wpAny _ _ (spliced (backTo cpos (starEach (a::es) X.env))) _ _ _:=q;rw[c.e a es rfl]at q ⊢;exact Calls.evalArgs_plain q
def Mc.stmt{o':Out}(c:Mc X o m apos args cpos i')(ho:SPa X o x pf)(rel:Rel X ex hs J F s)(hx:J[x]? =some (some (d,k)))(e1:pf J=some is)(e2:Qak d is=some (.lst ds))
  (kk:∀w s1 v Gm,Ex s s1->Rel X ex hs J F s1->Val X s1 x v->Qdz X.g ex s1.heap is d v (F x) (.lst ds) w Gm->Sp X cpos args (λvs s2=>wpAny X.M X.A (PySem.call (.builtin i') (w::vs)) (λ_=>Fl X ex hs s1 o' .next) E0 s2) s1):wpAny X.M X.A (exec (.Expr (.Call (.Attribute o m apos) args [] cpos) pos) X.env) (Fl X ex hs s o') E0 s:=
 wpAny_Expr_any (c.call ho rel hx e1 e2 λw s1 v Gm x1 val H=>(kk w s1 v Gm x1 (rel.ext x1) val H).mono λvs s2 q=>thn q λ_ s3 ⟨y,q⟩=>⟨(Fx.of x1).trans y,q⟩) rel.quiet rfl
def QAd(c:Mc X o "append" apos [a] cpos "list.append")(ho:SPa X o x pf)(ha:SE X a fa)(hs:One X a []):S1 X (.Expr (.Call (.Attribute o "append" apos) [a] [] cpos) pos) (Qb1 x pf fa):=λex hs' J F s o rel e=>by
 unfold Qb1 at e;split at e
 .rename_i d hx;refine Qj e λis e2 e=>Qj e λr0 e1 e=>?_;split at e
  .rename_i ds hp;split at e
   .rename_i hc;simp only[Zl,decide_eq_true_eq]at hc;obtain⟨c1,c2,c3⟩:=Qs0 hc.1;cases e;refine c.stmt ho rel hx e2 hp λw s1 v Gm x1 r1 val H=>?_;refine Sp.cons hs (Zaz (thn (ha r1 e1) λvn s2 ⟨Gn,p⟩=>ZaI ?_));obtain⟨l,its,n,Gp,rfl,e,z,r,k⟩:=r1.write p.norm c1 c2 hx c3 (val.ext p.ext) (H.ext p.ext);exact call_meets c.s ⟨_,e,rfl⟩ PySem.F.entry_list_append (PySem.F.args_list_append_2 _ _) (Zcp l its.toArray n vn (by rw[Zm,← r.len];exact z)) ⟨e,k (its':=its++[vn]) ⋯ (by rw[ZG];exact hc.2) (r.app p.rp) id λa m=>Zf.mp m⟩
   .cases e
  .cases e
 .cases e
def Qy1(c:Mc X o "clear" apos [] cpos "list.clear")(ho:SPa X o x pf):S1 X (.Expr (.Call (.Attribute o "clear" apos) [] [] cpos) pos) (Qlh x pf):=λex hs' J F s o rel e=>by
 unfold Qlh at e;split at e
 .rename_i d hx;refine Qj e λis e2 e=>?_;split at e
  .rename_i ds hp;cases e;refine c.stmt ho rel hx e2 hp λw s1 v Gm x1 r1 val H=>?_;obtain⟨l,its,n,Gp,rfl,e,z,r,k⟩:=r1.write .nil rfl .nil hx nofun val H
   exact call_meets c.s ⟨_,e,rfl⟩ PySem.F.entry_list_clear (PySem.F.args_list_clear_1 _) (AutoSeq1.list_clear_list_0 l its.toArray n (by rw[Zm,← r.len];exact z)) ⟨e,k (ds':=[]) (its':=[]) rfl (ZS _) .nil (λ_=> .nil) nm⟩
  .cases e
 .cases e
def Rps.ins{g:Gb}(r:Rps g ex h ds vs L)(q:Rp g ex h d v [])(k:Nat):Rps g ex h (QbB ds k d) (QbB vs k v) L:=by
 induction k generalizing ds vs L with
 | zero=>exact q.app r
 | succ k ih=>
  cases ds with
  | nil=>cases r;exact q
  | cons d' ds=>obtain⟨u,us,G,F',rfl,rfl,p1,p2⟩:=r.inv;exact p1.app (ih p2)
def QyZ(c:Mc X o "insert" apos [b,a] cpos "list.insert")(ho:SPa X o x pf)(hb:SE X b fi)(ha:SE X a fa)(hs:One X b [a])(hs':One X a []):S1 X (.Expr (.Call (.Attribute o "insert" apos) [b,a] [] cpos) pos) (Qjw x pf fi fa):=λex hs' J F s o rel e=>by
 unfold Qjw at e;split at e
 .rename_i d hx;refine Qj e λis e2 e=>Qj e λri e3 e=>Qj e λr0 e1 e=>?_;split at e
  .rename_i ds i hp hr;split at e
   .rename_i hc;cases e;refine c.stmt ho rel hx e2 hp λw s1 v Gm x1 r1 val H=>?_;refine Sp.cons hs ?_;rw[‹One X a []›];refine Zaz (thn (hb r1 e3) λvi s2 ⟨Gi,p⟩=>Zaz (thn (ha (r1.ext p.ext) e1) λvn s3 ⟨Gn,p'⟩=>ZaI ?_));have x2:=p.ext.trans p'.ext;have ri':=p.rp;rw[hr]at ri';obtain⟨t,rfl⟩:=ri'.int_inv;have rn:=p'.rp;have z0:=rn.QbX (fl1 hc.1);subst z0;obtain⟨l,its,n,Gp,rfl,e,z,r,k⟩:=r1.write (.flat x2 .nil) rfl .nil hx nofun (val.ext x2) (H.ext x2)
    have hl:=r.len;have hfit:¬(!Builtin.List.listFitsIndex i)=true:=by
     unfold Builtin.List.listFitsIndex;simp only[Zak,Bool.and_eq_false_iff,decide_eq_false_iff_not];lia
    refine call_meets c.s ⟨_,e,rfl⟩ PySem.F.entry_list_insert (PySem.F.args_list_insert_3 _ _ _) (AutoSeq1.list_insert_list_int_val_1 l its.toArray n i t vn hfit (by rw[Zm,← hl];exact z)) ⟨e,k (its':=QbB its (min i.toNat its.length) vn) ?_ ?_ (hl▸r.ins rn _) (by rw[ZV];exact id) λa=> .inl⟩
    .dsimp only;rw[if_neg ⋯];apply Array.ext';simp[QbB];rw[ZaX ⋯]
    .unfold QbB;rw[ZG,Zw,ZP,ZZ];lia
   .cases e
  .cases e
 .cases e
def Qpu{its:List Value}(e:s.heap.get? l=some (QbF its n))(z:its.length<=sizeLine)(h1:L2.ixN its.length i=some j)(q:Q () {s with heap:=s.heap.update l (Obj.mapSeq (·.setIfInBounds j v))}):wpAny (model P w') A (setItem (.ref l) (.int i t) v) Q E s:=by
 obtain⟨h2,h3,h4,h5⟩:=L2.Qfd h1;have:=Qgu;by_cases h0:0<=i
 .rw[seqIndex_of h0 h5]at h2;exact PySem.W.ki_setAt e h0 ⋯ (by rw[Zm];exact h5) (by rw[Option.some.inj h2];exact q)
 .rw[seqIndex_neg ⋯ h4]at h2;exact PySem.W.ki_setBack e ⋯ (by rw[Zm];exact h4) ⋯ (by rw[Zm,Option.some.inj h2];exact q)
def Rps.put{g:Gb}(r:Rps g ex h ds vs Gp)(q:Rp g ex h d v Gn)(hj:j<ds.length):∃G',Rps g ex h (ds.set j d) (vs.set j v) G'/\((Gp++Gn).Nodup->G'.Nodup)/\∀a∈G',a∈Gp∨a∈Gn:=by
 obtain⟨F1,G,F2,u,rfl,e1,r1,_,r3⟩:=r.split (Zg hj);refine⟨F1++(Gn++F2),.join r1 q r3 hj (r.len▸hj),λn=>?_,λa m=>?_⟩
 .simp only[Zal,Zf]at n ⊢
  grind
 .simp only[Zf]at m ⊢
  grind
def QAf(ha:SE X e fa)(ho:SPa X o x pf)(hi:SE X i fi)(hs:swapsWithSole [.Subscript o i p] e pos.line X.env=pure false)(hw:swappedStores [.Subscript o i p] e X.env=pure none)
  (hA:∀v,assign (.Subscript o i p) X.env v=(do
   let ov ← holding [v] (eval o X.env)
   let iv ← holding [v,ov] (eval i X.env)
   standAt p
   holding [v,ov,iv] (setItem ov iv v)
   release [v,ov,iv] [])) (h1:(assignEach [.Subscript o i p] X.env).map (·.2)=[assign (.Subscript o i p) X.env]):S1 X (.Assign [.Subscript o i p] e pos) (QdN x pf fi fa):=λex hs' J F s o rel e=>by
 refine Qj e λr0 e1 e=>?_;split at e
 .rename_i d hx;refine Qj e λis e2 e=>Qj e λri e3 e=>?_;split at e
  .rename_i k ds hk hp;refine Qj e λj e4 e=>?_;refine wpAny_Assign_stores (thn (ha rel e1) λvn s1 ⟨Gn,p⟩=>?_) hs hw;rw[h1];show wpAny _ _ (assign _ _ _) _ _ _;rw[hA];have r1:=rel.ext p.ext;refine wpAny_bind (wpAny_holding (thn (ho r1 hx e2 hp) λw s2 ⟨v,Gm,x2,val,H⟩=>wpAny_bind (wpAny_holding (thn (hi (r1.ext x2) e3) λiv s3 ⟨Gi,pi⟩=>wpAny_bind (wpAny_standAt (wpAny_bind (wpAny_holding ?_)))))));have x3:=x2.trans pi.ext;have ri':=pi.rp;rw[hk]at ri';obtain⟨t,rfl⟩:=ri'.int_inv;have p3:=p.more x3;split at e
   .rename_i hc;simp only[Zl,decide_eq_true_eq,Zak]at hc;cases e;obtain⟨l,its,n,Gp,rfl,e,z,r,k⟩:=rel.write p3.norm hc.1.1 hc.1.2 hx (λz=>by rw[ZbX.mpr z]at hc;cases hc.2) (val.ext pi.ext) (H.ext pi.ext);obtain⟨G',q1,q2,q3⟩:=r.put p3.rp (L2.Qfd e4).2.1;exact Qpu e (r.len▸z) (r.len▸e4) (wpAny_release (k (its':=its.set j vn) ⋯ (by rwa[ZaS]) q1 q2 q3))
   .split at e
    .rename_i hc;simp only[Zl,Zak,List.isEmpty_iff]at hc;cases e;obtain⟨rfl,hc⟩:=hc;cases hp;obtain⟨l,its,n,Gp,rfl,e,z,r,k⟩:=rel.QzP p3.norm hx (λz=>by rw[ZbX.mpr z]at hc;cases hc) (val.ext pi.ext) (H.ext pi.ext);obtain⟨G',q1,q2,q3⟩:=r.put p3.rp (L2.Qfd e4).2.1;exact Qpu e (r.len▸z) (r.len▸e4) (wpAny_release (k (its':=its.set j vn) ⋯ (by rwa[ZaS]) q1 q3))
    .cases e
  .cases e
 .cases e
def Qzg{y:Str}(ho:Op X (inplaceOp op) g')(ha:SE X e fa)(sl:Sl X y x)(h2:(y == ("__classdict__" :Str))=false)(hf:∀a b d,g' a b=some d->d.flat=true):S1 X (.AugAssign (.Name y p) op e pos) (QlX g' x fa):=λex hs J F s o rel e=>by
 unfold QlX at e;split at e
 .rename_i d b hd;refine Qj e λr e1 e=>?_;obtain⟨d',e2,rfl⟩:=Zn.mp e;refine wpAny_AugAssign_Name (rel.Qnf hd sl.1 h2 λv _ pv=>thn (ha rel e1) λu s1 ⟨G,pu⟩=>thn (ho (rel.ext pu.ext) e2 (pv.ext pu.ext) pu.rp) λz s2 ⟨x2,pz⟩=>?_);have r2:=(rel.ext pu.ext).ext x2;have sh:Shr X J F []:=nm;refine r2.slot sl pz sh λs3 x3 r3 _=>⟨((Fx.of pu.ext).trans (.of x2)).trans x3,rfl,put F x [],?_⟩;rw[hf _ _ _ e2]at r3;exact r3
 .cases e
def Qyd(ho':Op X (inplaceOp op) g')(ha:SE X e fa)(ho:SPa X o x pf)(hi:SE X i fi)
  (hA:∀ov iv new,augStore i ov iv new=(do holding [new,ov,iv] (setItem ov iv new);release [new,ov,iv] [];pure .next)):S1 X (.AugAssign (.Subscript o i p) op e pos) (QeD g' x pf fi fa):=λex hs J F s o rel e=>by
 unfold QeD at e;split at e
 .rename_i d hx;refine Qj e λis e2 e=>Qj e λri e3 e=>?_;split at e
  .rename_i k ds hk hp;refine Qj e λj e4 e=>Qj e λold e5 e=>Qj e λrv e6 e=>?_;obtain⟨new,e7,rfl⟩:=Zn.mp e;refine wpAny_AugAssign_SubscriptAny (thn (ho rel hx e2 hp) λw s2 ⟨v,Gm,x2,val,H⟩=>thn (hi (rel.ext x2) e3) λiv s3 ⟨Gi,pi⟩=>?_) hA;have x3:=x2.trans pi.ext;have ri':=pi.rp;rw[hk]at ri';obtain⟨t,rfl⟩:=ri'.int_inv;have at3:L2.atI ds k=some old:=by unfold L2.atI;rw[e4];exact e5
   obtain⟨l,its,j',u,G,rfl,sq,z,hl,h1,h2,h3,h4,Ho⟩:=(H.ext pi.ext).snoc rfl at3;refine Qj7 (by have:=Qgu;lia) sq h1 h2 h3 h4 (thn (ha (rel.ext x3) e6) λy s4 ⟨Gy,py⟩=>?_);have x4:=x3.trans py.ext;refine thn (ho' (rel.ext x4) e7 (Ho.2.choose_spec.choose_spec.2.1.ext py.ext) py.rp) λz s5 ⟨y5,pz⟩=>?_;have x5:=pi.ext.trans (py.ext.trans y5);obtain⟨l',its',n,Gp,el,e,z',r,k⟩:=rel.write (.flat (x2.trans x5) .nil) rfl .nil hx nofun (val.ext x5) (H.ext x5)
   cases el;obtain⟨G',q1,q2,q3⟩:=r.put pz (L2.Qfd e4).2.1;exact Qpu e (r.len▸z') (r.len▸e4) (k (its':=its'.set j z) ⋯ (by rwa[ZaS]) q1 q2 q3)
  .cases e
 .cases e
def Val.but{l:Addr}{h':Heap}(v:Val X s i u)(r:Rel X ex hs J F s)(sb:Heap.SameBut l s.heap h')(na:l∉ex):Val X {s with heap:=h',toks:=tk} i u:=
 let ⟨y,m,e,n,k⟩:=v;⟨y,m,e,n.sameBut sb λz=>na (z▸r.loc),Qdh k λc _ e z=>z.sameBut sb λz=>na (z▸(r.cell _ c e).1)⟩
def QoT:∀{l:List D}{k:Nat},Q3 l=true->l[k]? =some d->d.flat=true
 | a::l,0,f,h=>by cases h;simp only[Q3,Zl]at f;exact f.1
 | a::l,k+1,f,h=>by simp only[Q3,Zl]at f;exact QoT f.2 h
def Rps.erase{g:Gb}(k:Nat)(f:Q3 ds=true)(r:Rps g ex h ds vs L):Rps g ex h (ds.eraseIdx k) (vs.eraseIdx k) []:=by
 have:=r.QbX f;subst this;rw[List.eraseIdx_eq_take_drop_succ,List.eraseIdx_eq_take_drop_succ];obtain⟨A,r1,m1⟩:=r.take k;obtain⟨B,r2,m2⟩:=r.drop (k+1);have e1:A=[]:=List.eq_nil_iff_forall_not_mem.mpr λa h=>nomatch m1 a h;have e2:B=[]:=List.eq_nil_iff_forall_not_mem.mpr λa h=>nomatch m2 a h;subst e1 e2;exact r1.app r2
def QsS{o':Expr}{apos' cpos':Pos}(c:Mc X o "append" apos [.Call (.Attribute o' "pop" apos') [b] [] cpos'] cpos "list.append")(c':Mc X o' "pop" apos' [b] cpos' "list.pop")(ho:SPa X o x Q8)(ho':SPa X o' y Q8)(hb:SE X b fi)(hs:One X (.Call (.Attribute o' "pop" apos') [b] [] cpos') [])(hs':One X b []):
  S1 X (.Expr (.Call (.Attribute o "append" apos) [.Call (.Attribute o' "pop" apos') [b] [] cpos'] [] cpos) pos) (Qfk x y fi):=λex hs'' J F s o rel e=>by
 unfold Qfk at e;split at e
 .rename_i xs ys hx hy;refine Qj e λri e3 e=>?_;split at e
  .rename_i i hr;split at e
   .rename_i hc;obtain⟨hxy,hfl,h0,h1,hz⟩:=hc;obtain⟨d,hd,rfl⟩:=Zn.mp e;refine c.stmt ho rel hx rfl rfl λw s1 v Gm x1 r1 val H=>Sp.cons hs (Zaz (c'.call ho' r1 hy rfl rfl λw2 s2 v2 Gm2 x2 val2 H2=>Sp.cons hs' (Zaz (thn (hb (r1.ext x2) e3) λvi s3 ⟨Gi,pi⟩=>ZaI ?_))));have x3:=x2.trans pi.ext;have ri':=pi.rp;rw[hr]at ri';obtain⟨t,rfl⟩:=ri'.int_inv;obtain⟨l,_,_,_,rfl,_,na,_⟩:=H2.2.choose_spec.choose_spec.2.1.lst_inv;obtain⟨l',its,n,Gp,el,e,z,r,k⟩:=r1.write (.flat x3 .nil) rfl .nil hy nofun (val2.ext pi.ext) (H2.ext pi.ext)
    cases el;have hl:=r.len;have hi:i.toNat<ys.length:=(Zi.mp hd).1;have hg:Gp=[]:=r.QbX hfl;subst hg;obtain⟨_,G,_,u,eg,eu,_,ru,_⟩:=r.split hd;have:G=[]:=ru.QbX (fl1 (QoT hfl hd));subst this;refine call_meets c'.s ⟨_,e,rfl⟩ PySem.F.entry_list_pop (PySem.F.args_list_pop_2 _ _) (MeetsSeq.list_pop_at l its.toArray n i t i.toNat u (fitsIndex_both ⋯ ⋯) (by rw[Zm,seqIndex_of h0 ⋯]) (by simpa using eu) (by rw[Zm,← hl];exact z)) ⟨e,ZaI ?_⟩;obtain⟨xx,_,F',r'⟩:=k (tk:=s3.toks) (its':=its.eraseIdx i.toNat) (f:=λxs=>xs.eraseIdxIfInBounds i.toNat) (List.eraseIdxIfInBounds_toArray _ _) (by rw[List.length_eraseIdx];split<;>lia) (r.erase i.toNat hfl) (λ_=> .nil) nm;have hx':(J.set y (some (.lst (ys.eraseIdx i.toNat),true)))[x]? =some (some (.lst xs,true)):=by rw[ZaO (Ne.symm hxy)];exact hx
    obtain⟨_,v',m,h1,h2,h3,p⟩:=r'.val hx';have v4:Val X _ x v':=⟨_,m,h1,h2,h3⟩;have ev:=v4.inj ((val.ext x3).but (r1.ext x3) (.update ..) na);cases H.1.2 rfl;subst ev;obtain⟨l2,its2,n2,Gp2,rfl,e',z',r2,k2⟩:=r'.write .nil rfl .nil hx' nofun v4 (.nil p)
    exact call_meets c.s ⟨_,e',rfl⟩ PySem.F.entry_list_append (PySem.F.args_list_append_2 _ _) (Zcp l2 its2.toArray n2 u (by rw[Zm,← r2.len];exact z')) ⟨e',by
     obtain⟨y2,q⟩:=k2 (tk:=s3.toks) (f:=λxs=>xs.push u) (its':=its2++[u]) ⋯ (by rw[ZG];exact hz) (r2.app (ru.but (.update ..) (.inr ⟨nofun,λo h=>by rw[e]at h;cases h;simp⟩))) ⋯ ⋯;exact⟨xx.trans y2,q⟩⟩
   .cases e
  .cases e
 .cases e
end
noncomputable def cxb(X:Cx)(N':List Str)(scope:Scope)(cl:List (Str×Addr))(C:Addr)(h:Heap):Cx:=
 {X with N:=N',h0:=h,A0:=λ_=>True,env:=compEnvC scope cl C X.env,fn:=λx=>decide (scope.names.lookup x=some .cell)}
structure CSc (X:Cx) (N':List Str) (scope:Scope):Prop where
 nd:N'.Nodup
 kind:scope.kind= .function
 own:∀y∈scope.names,y.2= .cell->scope.names.lookup y.1=some .cell
 loc:∀y∈scope.names,y.2= .local ->scope.names.lookup y.1=some .local
 free:∀y∈scope.names,y.2= .free->X.env.kindOf y.1=some .cell∨X.env.kindOf y.1=some .free
structure Qj0 (X:Cx) (N':List Str) (scope:Scope) (cap:List (Option Nat)):Prop where
 len:cap.length=N'.length
 get:∀(j i:Nat),cap[j]? =some (some i)->∃x,N'[j]? =some x/\scope.names.lookup x=some .free/\X.N[i]? =some x/\(X.env.kindOf x=some .cell∨X.env.kindOf x=some .free)
def STs(X:Cx)(ifs:List Expr)(f:DT):Prop:=∀ ⦃ex hs J F s b⦄,Rel X ex hs J F s->f J=some b→
 wpAny X.M X.A (forIn ifs true λc r=>if r=true then do let ok ← isTrue c X.env (eval c X.env);pure (ForInStep.yield ok)else pure (ForInStep.yield r)) (λc s'=>c=b/\Ex s s') E0 s
structure Bk (wr:LA) (D C:Addr) (cs:List (Str×Addr)) (s2 s':Shared):Prop where
 k2:∀a o,a∉wr->s2.heap.get? a=some o->s'.heap.get? a=some o
 os:s'.os=s2.os
 br:AllBare s'.gens
 ns:∃m,s'.heap.Ns C m
 ce:∀x c,cs.lookup x=some c->∃v,s'.heap.IsCell c v
 wr:∀b∈wr,∃o,s'.heap.get? b=some o
 d:∃o,s'.heap.get? D=some o
section
variable {X:Cx}{ex wr:LA}{hs ts:Hs}{J J' Jc:En}{F Fc:Ft}{s s' s0 s1 s2 s3:Shared}{elt tg iter:Expr}{ifs:List Expr}{fe:DE}{ft:DT}{fi:DI}{pos p:Pos}{scope:Scope}{N':List Str}{cl:List (Str×Addr)}{cap:List (Option Nat)}{t:Tg}
def Qxm:STs X [] Qac:=λex hs J F s b rel e=>by cases e;exact wpAny_tests_nil ⟨rfl,.refl⟩
def Qxq(h:ST X c ft):STs X [c] ft:=λex hs J F s b rel e=>wpAny_tests_one (h rel e)
noncomputable abbrev QjD(cap:List (Option Nat))(J:En)(F:Ft):Ft:=λj=>match cap[j]? with
 | some (some i)=>(match J[i]? with
  | some (some _)=>F i
  | _=>[])
 | _=>[]
def Qrk{i b':_}(h1:cap[j]? =some (some i))(h2:J[i]? =some (some (d,b'))):QjD cap J F j=F i:=by simp only[QjD,h1,h2]
noncomputable abbrev QgU(names:List (Str×NameKind))(cs:List (Str×Addr))(C:Addr):LA:=(names.filterMap λy=>cs.lookup y.1).filter λc=>decide (C<c)
def block{D C:Addr}{h3:Heap}{cs:List (Str×Addr)}(rel:Rel X ex hs J F s)(S:CSc X N' scope)(K:Qj0 X N' scope cap)(hc1:∀x c,cl.lookup x=some c->X.env.cells.lookup x=some c)(hc2:∀y∈scope.names,y.2= .free->∃c,cl.lookup y.1=some c)
  (x:Ex s s2) (no:∀b∈wr,s.heap.get? b=none) (ht:∀t∈ts,Rp X.g (wr++ex) s2.heap t.1 t.2.1 t.2.2) (hD:D=s2.heap.objs.size) (hC:C=D+1) (hh:h3=s2.heap.push (QbF [] 0)) (hcs:cs=cellsFrom (C+1) scope.names cl) (B:Bk wr D C cs s2 s'):
  Rel (cxb X N' scope cs C h3) ((D::C::QgU scope.names cs C)++(wr++ex)) ts (QdF cap J) (QjD cap J F) s':=by
 have old:∀{a o},s.heap.get? a=some o->s'.heap.get? a=some o:=λ{a o} e=>B.k2 a o (λm=>by rw[no a m]at e;cases e) (x.hp a o e);have cl0:∀x c,cl.lookup x=some c->c∈ex/\c<D:=λx' c e=>let ⟨m,v,o,q,_⟩:=rel.cell x' c (hc1 x' c e);⟨m,hD▸ZW (x.hp c o q)⟩;have look:∀x c,cs.lookup x=some c->cl.lookup x=some c∨(C+1<=c/\(x,NameKind.cell)∈scope.names):=hcs▸L2.Qfi scope.names _ cl;have big:∀{c:Nat},D<=c->s2.heap.get? c=none:=λh=>ZK (hD▸h);have nW:∀b∈D::C::QgU scope.names cs C,s2.heap.get? b=none:=fa1 (big (Zt _)) (fa1 (big ⋯) λb m=>big (by have:=of_decide_eq_true (Zx.mp m).2;lia));have up:∀{ds vs G},Rps X.g (wr++ex) s2.heap ds vs G->Rps X.g ((D::C::QgU scope.names cs C)++(wr++ex)) s'.heap ds vs G:=λp=>(p.grow nW).keep λa o n _=>B.k2 a o λm=>n (Zc _ (Zh _ m));have dat:∀{ds vs G},Rps X.g ex s.heap ds vs G->Rps X.g ((D::C::QgU scope.names cs C)++(wr++ex)) s'.heap ds vs G:=λp=>up ((p.grow no).ext x);have flat:∀(j:Nat) d,(QdF cap J)[j]? =some (some (d,true))->QjD cap J F j=[]:=λj d e=>by
  obtain⟨i,b',h1,h2⟩:=Qml e;obtain⟨_,_,_,_,_,_,p⟩:=rel.val h2;rw[Qrk h1 h2];exact p.QbX (fl1 (Qjo cap J j d e))
 exact
  {ok:=
   {mod:=rel.ok.mod
    nd:=S.nd
    kind:=S.kind
    glob:=rel.ok.glob
    blt:=rel.ok.blt
    inj:=by
     show ∀x y c,cs.lookup x=some c->cs.lookup y=some c->x=y;rw[hcs];exact L2.Qob scope.names _ cl (λx y c h1 h2=>rel.ok.inj x y c (hc1 x c h1) (hc1 y c h2)) λx c e=>by have:=(cl0 x c e).2;lia
    has:=λy hy=>by
     show ∃c,cs.lookup y=some c;rw[hcs];obtain⟨k,hm,hk⟩:=L2.QeL hy;rcases hk with rfl | rfl
     .exact L2.Qgr scope.names _ cl y (hc2 _ hm rfl)
     .exact L2.QoI scope.names _ cl y hm
    hd:=rel.ok.hd
    b0:=λa h=>by
     show X.g.base.get? a=none;cases e:X.g.base.get? a with
     | none=>rfl
     | some o=>
      have:h3.get? a=some o:=hh▸Ze _ (x.hp a o (rel.bk a o e));rw[show h3.get? a=none from h]at this;cases this
    new:=by
     have:∀c,C<=c->h3.get? c=none:=λc h=>ZK (by rw[hh,Zar];lia);refine⟨this C (Zt _),λy c e1 e2=>this c ?_⟩;have e2:cs.lookup y=some c:=e2;have:=L2.QpB scope.names _ cl y c (ZaE (of_decide_eq_true e1)) (hcs▸e2);lia}
   bk:=λa o e=>old (rel.bk a o e)
   br:=B.br
   nw:=λa e=>by
    show h3.get? a=none;cases q:h3.get? a with
    | none=>rfl
    | some o=>
     rw[hh]at q;by_cases z:a=D
     .obtain⟨o',q'⟩:=B.d;rw[z,q']at e;cases e
     .by_cases m:a∈wr
      .obtain⟨o',q'⟩:=B.wr a m;rw[q']at e;cases e
      .rcases Heap.get?_push_cases q with⟨q,_⟩ | q
       .exact absurd (q.trans hD.symm) z
       .rw[B.k2 a o m q]at e;cases e
   ns:=by
    obtain⟨m,hm⟩:=B.ns;refine⟨m,hm,λj d b e=>?_⟩;obtain⟨i,b',h1,h2⟩:=Qml e;obtain⟨y,v,m',e1,n,l,p⟩:=rel.val h2;obtain⟨x',g1,g2,g3,g4⟩:=K.get j i h1;rw[g3]at e1;cases e1;refine⟨y,v,g1,.inr ⟨L2.Qc2 g2,?_⟩,by rw[Qrk h1 h2];exact dat p⟩;rcases l with⟨k,_⟩ | ⟨_,c,ec,o,oc,od⟩
    .rcases g4 with z | z<;>(rw[k]at z;cases z)
    .obtain⟨c',ec'⟩:=L2.Qgr scope.names (C+1) cl y (hc2 (y,.free) (ZaE g2) rfl);rw[← hcs]at ec';rcases look y c' ec' with q | ⟨_,q⟩
     .have:=hc1 y c' q;rw[ec]at this;cases this;exact⟨c,ec',o,old oc,od⟩
     .have:=S.own _ q rfl;rw[g2]at this;cases this
   cell:=λy c e=>by
    refine⟨?_,B.ce y c e⟩;rcases look y c e with q | ⟨q,h⟩
    .exact Zc _ (Zc _ (cl0 y c q).1)
    .exact Zh _ (.tail _ (.tail _ (Zx.mpr ⟨ZaN.mpr ⟨_,h,e⟩,decide_eq_true q⟩)))
   loc:= .tail _ (.head _)
   exl:=λb m=>(Zf.mp m).elim (fa1 (P:=λb=>∃o,s'.heap.get? b=some o) B.d (fa1 (let ⟨_,o,_,_,q,_⟩:=B.ns;⟨o,q⟩) λb m=>by
    obtain⟨y,_,e⟩:=ZaN.mp (Zx.mp m).1;obtain⟨_,o,q,_⟩:=B.ce y.1 b e;exact⟨o,q⟩) b) λm=>(Zf.mp m).elim (B.wr b) λm=>let ⟨o,e⟩:=rel.exl b m;⟨o,old e⟩
   len:=by rw[show(cxb X N' scope cs C h3).N=N' from rfl,← K.len];exact Zd ..
   ow:=⟨λj d e=>by rw[flat j d e];exact⟨.nil,nm⟩,λ_ _ _ _ _ _=> .inr trivial⟩
   held:=λt m=>⟨up (ht t m),λ_ _=> .inr trivial⟩}
def Bk.mv{D C:Addr}{w:LA}{h':Heap}(B:Bk wr D C cs s2 s')(k:∀b o,b∉w->s'.heap.get? b=some o->h'.get? b=some o)(h1:C∉w)(h2:∀x c,cs.lookup x=some c->c∉w)(h3:∀a o,s2.heap.get? a=some o->a∈w->a∈wr)(h4:∀b∈wr,∃o,h'.get? b=some o)(h5:∃o,h'.get? D=some o):Bk wr D C cs s2 {s' with heap:=h',toks:=tk}:=
 ⟨λa o n e=>k a o (λm=>n (h3 a o e m)) (B.k2 a o n e),B.os,B.br,let ⟨m,q⟩:=B.ns;⟨m,q.at λo e=>k C o h1 e⟩,λx c e=>let ⟨v,o,q,r⟩:=B.ce x c e;⟨v,o,k c o (h2 x c e) q,r⟩,h4,h5⟩
def Qwc{i j:Nat}(h1:cap[j]? =some (some i))(h2:J[i]? =some (some (d,true)))(h3:d.flat=false):i∈Qmb cap J:=
 ZaN.mpr ⟨some i,Zu h1,by simp only[Za,h2,h3];rfl⟩
def QuW{a:Addr}(rel:Rel X ex hs J F s)(h:a∈QjD cap J F j):∃i d b,J[i]? =some (some (d,b))/\a∈F i/\(b=true->i∈M++Qmb cap J):=by
 unfold QjD at h;split at h
 .rename_i i hi;split at h
  .rename_i db hdb;obtain⟨d,b⟩:=db;refine⟨i,d,b,hdb,h,λhb=>Zc _ ?_⟩;subst hb;obtain⟨_,_,_,_,_,_,p⟩:=rel.val hdb;refine Qwc hi hdb ?_;cases hf:d.flat with
   | false=>rfl
   | true=>rw[p.QbX (fl1 hf)]at h;cases h
  .cases h
 .cases h
def QuZ(h:i∈Qmb cap J):∃d,J[i]? =some (some (d,true)):=by
 obtain⟨o,_,e⟩:=ZaN.mp h;refine Qj e λi' e1 e=>?_;split at e
 .rename_i d b hd;split at e
  .rename_i hb;cases e;simp only[Zl]at hb;exact⟨d,hb.1▸hd⟩
  .cases e
 .cases e
def Qo2{use:Option (Value->Sem Unit)}{QV:Value->Shared->Prop}{cp:Pos}(S:CSc X N' scope)(K:Qj0 X N' scope cap)(hi:SI X tg iter fi)(hin:∀cs C h,SG (cxb X N' scope cs C h) tg t/\STs (cxb X N' scope cs C h) ifs ft/\SE (cxb X N' scope cs C h) elt fe)(hf:∀x,foldedSetIterable iter X.env x=pure x)(rel:Rel X ex hs J F s)(e:QO fi t cap ft fe J=some r)
  (fin:∀D C s' G,Qb7 X ([C]++ex) J F s s' r (.ref D) G->s.heap.get? C=none->(∃m,s'.heap.Ns C m)->compPost X.M X.A E0 use QV (.ref D) C (.ok .next) s'):
  wpAny X.M X.A (comprehension (.ListComp elt [⟨tg,iter,ifs,0⟩] scope pos) scope X.env cp (newList []) false (eval iter X.env) use) QV E0 s:=by
 obtain⟨cl,hcl,hc1,hc2⟩:=L2.Qyc λy hy hf=>rel.ok.has y.1 (S.free y hy hf);refine Qj e λir e1 e=>?_;obtain⟨⟨xs,f⟩,ef,er⟩:=Zn.mp e;refine wpAny_comprehension_free rfl hf hcl S.kind S.loc (thn (hi rel e1) λv s1 h=>thn h λit s2 ⟨I,fp,wr,T,P,St,ts,e2,x,tr,st,no,hT,ht,own,z,yld⟩=>?_);subst e2;refine wpAny_newObj_type (L2.QrH λh4 hns keep hown=>?_);generalize hh:s2.heap.push {cls:= .type "list",dict:=none,data:= .seq ([]:List Value).toArray}=h3 at hns keep hown ⊢;have hC:h3.objs.size=s2.heap.objs.size+1:=by rw[← hh,Zar]
 generalize hC':h3.objs.size=C at hC hns keep hown ⊢;generalize hD:s2.heap.objs.size=D at hC ⊢;generalize hcs:cellsFrom (C+1) scope.names cl=cs at hown ⊢;have blk:∀{s'},Bk wr D C cs s2 s'->Rel (cxb X N' scope cs C h3) ((D::C::QgU scope.names cs C)++(wr++ex)) ts (QdF cap J) (QjD cap J F) s':=λB=>block rel S K hc1 hc2 x no (λt m=>(ht t m).1) hD.symm hC hh.symm hcs.symm B;obtain⟨hg,hts,he⟩:=hin cs C h3;have wl:∀i h,St i h->∀b∈wr,∃o,h.get? b=some o:=λi h st b m=>let ⟨o,e,_⟩:=tr.obj i h st b (tr.sub b m);⟨o,e⟩;have big:∀{c:Nat},D<=c->s2.heap.get? c=none:=λh=>ZK (hD▸h);have nwr:∀{c:Nat},D<=c->c∉wr:=λh m=>by obtain⟨o,e⟩:=wl 0 _ st _ m;rw[big h]at e;cases e
 have cl0:∀x c,cl.lookup x=some c->c∉wr/\c<D/\∃v,s2.heap.IsCell c v:=λx' c e=>let ⟨m,v,q⟩:=rel.cell x' c (hc1 x' c e);⟨λh=>rel.nex (no c h) m,let ⟨o,q,_⟩:=q;hD▸ZW (x.hp c o q),v,q.keeps x.hp⟩;have look:∀x c,cs.lookup x=some c->cl.lookup x=some c∨(C+1<=c/\(x,NameKind.cell)∈scope.names):=hcs▸L2.Qfi scope.names _ cl;have cwr:∀x c,cs.lookup x=some c->c∉wr/\c≠D:=λx c e=>(look x c e).elim (λe=>⟨(cl0 x c e).1,Zad (cl0 x c e).2.1⟩) λe=>⟨nwr ⋯,⋯⟩;have in3:∀{a o},s2.heap.get? a=some o->h3.get? a=some o:=λe=>hh▸Ze _ e;have d3:h3.get? D=some (QbF [] 0):=by rw[← hh,← hD];exact ZF _ rfl
 have old:∀{s' a o},Bk wr D C cs s2 s'->s.heap.get? a=some o->s'.heap.get? a=some o:=λ{s' a o} B e=>B.k2 a o (λm=>by rw[no a m]at e;cases e) (x.hp a o e);have B4:Bk wr D C cs s2 {s2 with heap:=h4}:=⟨λa o _ e=>keep a o (in3 e),rfl,x.br rel.br,⟨_,hns⟩,λx' c e=>(look x' c e).elim (λe=>let ⟨_,_,v,o,q,r⟩:=cl0 x' c e;⟨v,o,keep c o (in3 q),r⟩) λq=>⟨none,hown (λx c e=>by have:=(cl0 x c e).2.1;lia) x' c e q.1⟩,λb m=>let ⟨o,e⟩:=wl 0 _ st b m;⟨o,keep b o (in3 e)⟩,⟨_,keep D _ d3⟩⟩;have sDC:D∉[C]++ex:=λm=>(Zf.mp m).elim (λm=>by have:=Zj.mp m;lia) (rel.nex (x.no (big (Zt _))));have loop:codeAny X.M X.A (.compLoop (.ListComp elt [⟨tg,iter,ifs,0⟩] scope pos) 0 (.ref I) (.ref D) (compEnvC scope cs C X.env)) (compPost X.M X.A E0 use QV (.ref D) C) {s2 with heap:=h4}:=by
  refine L2.Qts (λn s'=>∃i its nn ys g G,n+i=ir.items.length/\Bk wr D C cs s2 s'/\St i s'.heap/\s'.heap.get? D=some (QbF its nn)/\(ir.items.drop i).foldlM (QdG t ft fe (QdF cap J)) (ys,g)=some (xs,f)/\ys.length<=i/\Rps X.g ((D::C::QgU scope.names cs C)++(wr++ex)) s'.heap ys its G/\Src J F s (ir.M++Qmb cap J) G/\(g=true->G.Nodup/\∀a∈G,s.heap.get? a=none)) ?_ _
   ⟨0,[],0,[],true,[],rfl,B4,tr.frame _ _ _ st λb _ o e=>keep b o (in3 e),keep D _ d3,ef,Zt _,.nil,nm,λ_=>⟨.nil,nm⟩⟩
  rintro n s5 ⟨i,its,nn,ys,g,G,hn,B5,st5,d5,ef5,ly,p5,sr5,fr5⟩;cases n with
  | zero=>
   rw[show ir.items.drop i=[]from ZaY ⋯]at ef5;cases ef5;have:i=ir.items.length:= ⋯
   subst this;refine thn (tr.done s5 (compPost X.M X.A E0 use QV (.ref D) C (.ok .next)) st5 λh' tk k=>?_) λr s6 ⟨q,h⟩=>by subst q;exact h
   have x6:Ex s {s5 with heap:=h',toks:=tk}:=⟨λa o e=>k a o (λm=>by rw[no a m]at e;cases e) (old B5 e),B5.os.trans x.os,λ_=>B5.br⟩;have rp:Rp X.g ([C]++ex) h' (.lst xs) (.ref D) (D::G):= .Qd9 sDC (ZJ ly z) (k D _ (nwr (Zt _)) d5) ((p5.keep λa o n _=>k a o λm=>n (Zc _ (Zh _ m))).less λb m=>(Zf.mp m).elim (λm=> .tail _ (Zj.mp m▸ .head _)) λm=>Zc _ (Zc _ m));have nD:s.heap.get? D=none:=x.no (big (Zt _));refine fin D C _ (D::G) ?_ (x.no (big ⋯)) (let ⟨m,q⟩:=B5.ns;⟨m,q.at λo e=>k C o (nwr ⋯) e⟩);cases f
   .cases er;exact⟨x6,rp,λa m=>(Zq.mp m).elim (λm=> .inl (m▸nD)) (sr5 a),nofun,λi m=>(Zf.mp m).elim (own i) QuZ⟩
   .cases er;obtain⟨n1,n2⟩:=fr5 rfl;have nw:∀a∈D::G,s.heap.get? a=none:=fa1 nD n2;exact⟨x6,rp,λa m=> .inl (nw a m),λ_ _=>⟨Zaf.mpr ⟨λm=>(p5.mem D m).1 (.head _),n1⟩,λa m=> .inl (nw a m)⟩,nm⟩
  | succ n=>
   have lt:i<ir.items.length:= ⋯
   rw[ZaL lt,ZbH]at ef5;refine Qj ef5 λacc1 hstep hrest=>Qj hstep λJ1 eb hstep=>Qj hstep λc ec hstep=>?_;have sh1:QdE J1:=(Qjo cap J).bind eb;refine thn (tr.turn i s5 (λv s6=>∃G0,Bk wr D C cs s2 s6/\St (i+1) s6.heap/\s6.heap.get? D=some (QbF its nn)/\Rps X.g ((D::C::QgU scope.names cs C)++(wr++ex)) s6.heap ys its G/\Rp X.g ((D::C::QgU scope.names cs C)++(wr++ex)) s6.heap ir.items[i] v G0/\∀a∈G0,∃t∈ts,a∈t.2.2) lt st5 λv h' tk p st6 k=>?_) λr s6 ⟨v,q,h⟩=>?_
   .have B6:=B5.mv (tk:=tk) k (nwr ⋯) (λx c e=>(cwr x c e).1) (λ_ _ _ m=>m) (wl _ _ st6) ⟨_,k D _ (nwr (Zt _)) d5⟩;obtain⟨G0,q0,m0⟩:=yld _ i v s5 h' _ p st6 (blk B5).exl (λt m=>((blk B6).held t m).1) (Zg lt);exact⟨G0,B6,st6,k D _ (nwr (Zt _)) d5,p5.keep λa o n _=>k a o λm=>n (Zc _ (Zh _ m)),q0,m0⟩
   .subst q;refine thn h λ_ s6 ⟨G0,B6,st6,d6,p6,q0,m0⟩=>?_;have r6:=blk B6;refine thn (hg r6 q0 (λa m=>⟨.inr trivial,λj d e h=>?_⟩) eb) λ_ s7 ⟨x7,F7,r7,m7,k7⟩=>thn (hts r7 ec) λok s8 ⟨q,x8⟩=>?_
    .obtain⟨_,_,_,_,_,_,p⟩:=r6.val e;rw[p.QbX (fl1 (Qjo cap J j d e))]at h;cases h
    subst q;have back:∀{s'},Ex s8 s'->Bk wr D C cs s2 s'/\St (i+1) s'.heap/\s'.heap.get? D=some (QbF its nn)/\Rps X.g ((D::C::QgU scope.names cs C)++(wr++ex)) s'.heap ys its G:=λ{s'} y=>by
     have y7:=x8.trans y;have r:=r7.ext y7;have kk:∀a o,(∃o',h3.get? a=some o')->s6.heap.get? a=some o->s'.heap.get? a=some o:=λa o ⟨o',e'⟩ e=>y7.hp a o (x7.hp a o e λn=>by rw[show h3.get? a=none from n]at e';cases e')
     exact⟨⟨λa o n e=>kk a o ⟨o,in3 e⟩ (B6.k2 a o n e),y7.os.trans (x7.os.trans B6.os),r.br,let ⟨m,q,_⟩:=r.ns;⟨m,q⟩,λx c e=>(r.cell x c e).2,λb m=>r.exl b (Zc _ (Zh _ m)),r.exl D (.head _)⟩,
      tr.frame _ _ _ st6 λb m o e=>kk b o (let ⟨o,e,_⟩:=tr.obj _ _ st b m;⟨o,in3 e⟩) e,kk D _ ⟨_,d3⟩ d6,(p6.keep λa o n _=>k7 a o n).ext y7⟩
    cases ok with
    | false=>
     cases hstep;obtain⟨B8,st8,d8,p8⟩:=back .refl;exact⟨n,Zaj n,i+1,its,nn,ys,g,G,⋯,B8,st8,d8,hrest,⋯,p8,sr5,fr5⟩
    | true=>
     obtain⟨rr,er',rfl⟩:=Zn.mp hstep;refine thn (he (r7.ext x8) er') λy s9 ⟨G1,p9⟩=>?_;obtain⟨B8,_,_,p8⟩:=back .refl;obtain⟨B9,st9,d9,q9⟩:=back p9.ext;have sb:Heap.SameBut D s9.heap (s9.heap.update D (Obj.mapSeq λxs=>xs.push y)):= .update ..;have e':(s9.heap.update D (Obj.mapSeq λxs=>xs.push y)).get? D=some (QbF (its++[y]) _):=(List.push_toArray its y)▸ZcA d9 λxs=>xs.push y;have kd:∀b o,b≠D->s9.heap.get? b=some o->(s9.heap.update D (Obj.mapSeq λxs=>xs.push y)).get? b=some o:=λb o n e=>(sb.2 b n).trans e
     refine call_meets ZbM ⟨_,d9,rfl⟩ PySem.F.entry_list_append (PySem.F.args_list_append_2 _ _) (Zcp D its.toArray nn y (by rw[Zm,← q9.len];lia)) ⟨d9,n,Zaj n,i+1,its++[y],_,ys++[rr.d],g && rr.norm.fr,G++G1,⋯,
      B9.mv (w:=[D]) (tk:=s9.toks) (λb o m=>kd b o λz=>m (z▸ .head _)) (λm=>by have:=Zj.mp m;lia) (λx c e m=>(cwr x c e).2 (Zj.mp m)) (λa o e m=>by rw[Zj.mp m,big (Zt _)]at e;cases e) (λb m=>let ⟨o,e⟩:=B9.wr b m;⟨o,kd b o (λz=>nwr (Zt _) (z▸m)) e⟩) ⟨_,e'⟩,
      tr.frame _ _ _ st9 λb m o e=>kd b o (λz=>by obtain⟨o,e,_⟩:=tr.obj _ _ st b m;rw[z,big (Zt _)]at e;cases e) e,e',hrest,by rw[ZG];exact Zbs ly,(q9.but sb (.inl (.head _))).app (p9.rp.but sb (.inl (.head _))),λa m=>(Zf.mp m).elim (sr5 a) λm=>?_,λhg=>?_⟩
     .rcases p9.src a m with z | ⟨j,d,b,_,hj,_⟩
      .refine .inl ?_;cases q:s.heap.get? a with
       | none=>rfl
       | some o=>rw[old B8 q]at z;cases z
      .rcases m7 j a hj with w | w
       .exact .inr (QuW rel w)
       .obtain⟨t,h1,h2⟩:=m0 a w;exact((ht t h1).2 a h2).imp id λ⟨i,d,b,e,m,k⟩=>⟨i,d,b,e,m,λh=>Zh _ (k h)⟩
     .rw[Zl]at hg;have none7:∀i∈rr.norm.M,∀a,a∉F7 i:=λi m a h=>by
       obtain⟨d,e⟩:=p9.norm.own i m;obtain⟨_,_,_,_,_,_,p⟩:=r7.val e;rw[p.QbX (fl1 (sh1 i d e))]at h;cases h
      obtain⟨n1,n2⟩:=fr5 hg.1;obtain⟨n3,n4⟩:=p9.norm.frs hg.2 λi a h=>Nat.le_of_lt_succ (Zau (by
       by_cases m:i∈rr.norm.M
       .exact absurd h (none7 i m a)
       .rw[List.count_eq_zero.mpr m];exact Nat.one_pos))
      have n5:∀a∈G1,s8.heap.get? a=none:=λa m=>(n4 a m).elim id λ⟨i,m,h⟩=>absurd h (none7 i m a);refine⟨Zal.mpr ⟨n1,n3,λa m b m' z=>?_⟩,λa m=>(Zf.mp m).elim (n2 a) λm=>?_⟩
      .subst z;obtain⟨_,o,q⟩:=p8.mem a m;rw[n5 a m']at q;cases q
      .cases q:s.heap.get? a with
       | none=>rfl
       | some o=>have:=n5 a m;rw[old B8 q]at this;cases this
 exact codeAny_compStart_list loop (any (tr.self 0 _ _ (tr.frame _ _ _ st λb _ o e=>keep b o (in3 e)) loop))
def Fx.trans'{C:Addr}{h':Heap}(x:Fx X hs s s1)(nC:s.heap.get? C=none)(sb:Heap.SameBut C s1.heap h'):Fx X hs s {s1 with heap:=h'}:=⟨λa o e i=>(sb.2 a λz=>by rw[z,nC]at e;cases e).trans (x.hp a o e i),x.os,x.br⟩
def Qrn(S:CSc X N' scope)(K:Qj0 X N' scope cap)(hi:SI X tg iter fi)(hin:∀cs C h,SG (cxb X N' scope cs C h) tg t/\STs (cxb X N' scope cs C h) ifs ft/\SE (cxb X N' scope cs C h) elt fe)(hf:∀x,foldedSetIterable iter X.env x=pure x):SE X (.ListComp elt [⟨tg,iter,ifs,0⟩] scope pos) (QO fi t cap ft fe):=λex hs J F s r rel e=>by
 rw[eval_ListComp];exact Qo2 S K hi hin hf rel e λD C s' G p nC ⟨m,hm⟩=>⟨m,hm,λh' sb=>⟨G,⟨λa o q=>(sb.2 a λz=>by rw[z,nC]at q;cases q).trans (p.ext.hp a o q),p.ext.os,p.ext.br⟩,(p.rp.but sb (.inl (.head _))).less λ_=> .tail _,p.src,p.frs,p.own⟩⟩
def QxS{x:Str}{spos:Pos}(sl:Sl X x i)(S:CSc X N' scope)(K:Qj0 X N' scope cap)(hi:SI X tg iter fi)(hin:∀cs C h,SG (cxb X N' scope cs C h) tg t/\STs (cxb X N' scope cs C h) ifs ft/\SE (cxb X N' scope cs C h) elt fe)(hf:∀x,foldedSetIterable iter X.env x=pure x):S1 X (.Assign [.Name x p] (.ListComp elt [⟨tg,iter,ifs,0⟩] scope pos) spos) (Qv i (QO fi t cap ft fe)):=by
 obtain⟨b,hb⟩:∃b,swapsWith (.ListComp elt [⟨tg,iter,ifs,0⟩] scope pos) (some (.Name x p)) spos.line X.env=pure b:=⟨_,rfl⟩;cases b with
 | false=>exact Qn8 (Qrn S K hi hin hf) sl hb
 | true=>
  intro ex hs J F s o rel e;refine Qj e λr e1 e=>?_;cases e;rw[exec_Assign_Name_used _ _ _ _ hb];refine wpAny_bind (wpAny_standAt (wpAny_bind ?_));show wpAny _ X.A (do let _ ← comprehension (.ListComp elt [⟨tg,iter,ifs,0⟩] scope pos) scope X.env _ (newList []) false (eval iter X.env) (some (assign (.Name x p) X.env))) _ _ s;refine wpAny_bind (thn (Qo2 S K hi hin hf rel e1 λD C s' G p nC ⟨m,hm⟩=>?_) λ_ s' hq=>wpAny_pure (wpAny_pure hq));obtain⟨J1,b,e,w,o⟩:=p.asg (i:=i) rel;have cl:∀c∈[C],s.heap.get? c=none:=λc m=>Zj.mp m▸nC;have li:∀c∈[C],∃o,s'.heap.get? c=some o:=λc m=>let ⟨o,_,_,q,_⟩:=hm;⟨o,Zj.mp m▸q⟩;have r1:Rel X ([C]++ex) hs J F s':=rel.into (w:=[C]) (ts:=[]) (M:=[]) p.ext cl li nm;refine wpAny_assign_Name (r1.store w sl p.rp o λs2 x2 r2 ⟨q,_,hq,sb⟩=>⟨m,hm.sameBut sb λz=>?_,λh' sb'=>⟨((Fx.of p.ext).trans x2).trans' nC sb',rfl,_,e▸rel.turn (tk:=s2.toks) (w':=[]) cl r2 (λb o n h=>(sb'.2 b λz=>n (z▸ .head _)).trans h) nm⟩⟩);rcases hq with hq | ⟨y,hq⟩
  .exact rel.nex nC (z▸hq▸rel.loc)
  .exact rel.nex nC (z▸(rel.cell y q hq).1)
end
structure Sta (g:Gb) (ex:LA) (s:Shared):Prop where
 mod:L2.Mod g.K g.mg g.base
 bk:∀a o,g.base.get? a=some o->s.heap.get? a=some o
 br:AllBare s.gens
 exl:∀b∈ex,∃o,s.heap.get? b=some o
def Tells(g:Gb)(ex:LA)(s:Shared)(G:LA)(d:D)(fr:Bool)(v:Value)(s':Shared):Prop:=Ex s s'/\∃G',Rp g ex s'.heap d v G'/\(∀a∈G',s.heap.get? a=none∨a∈G)/\(fr=true->G'.Nodup/\∀a∈G',s.heap.get? a=none)
def Fn(g:Gb)(k:Nat)(f:Addr)(fd:FuncData)(ps:List Str)(den:Den):Prop:=∀ ⦃A s ex args us ds G d fr⦄,L2.Qc0 k A->Sta g ex s->BindsTo s fd args (ps.zip us)->Rps g ex s.heap ds us G->ds.length=ps.length->den ds=some (d,fr)→
 codeAny (model g.P g.w) A (.call (.ref f) args) (λr s'=>∃v,r= .ok (.ret v)/\Tells g ex s G d fr v s') s
def Kn(g:Gb)(k:Nat)(x:Str)(r:FnR):Prop:=∃f fd ps,Fn g k f fd ps r.den/\ps.length=r.n/\g.mg x=some (.ref f)/\PySem.W.keepIn g.K (.ref f)=true/\∀m,m<=r.dfl.length->∃dvs,L2.Binds g.K fd ps dvs/\∀ex h,Rps g ex h (r.dfl.drop (r.dfl.length-m)) dvs []
section
variable {X:Cx}{ex:LA}{hs:Hs}{J:En}{F:Ft}{s s' s1:Shared}{a:Expr}{es:List Expr}{fs:DA}{pos p:Pos}{x:Str}{g:Gb}{k n:Nat}{f:Addr}{fd:FuncData}{ps:List Str}{den:Den}
def Rel.sta(r:Rel X ex hs J F s):Sta X.g ex s:=⟨r.ok.mod,r.bk,r.br,r.exl⟩
def Sta.kin(r:Sta g ex s):g.K.In s.heap:=r.mod.kin.keeps r.bk
def Fn.call{Q:Value->Shared->Prop}(hF:Fn X.g k f fd ps den)(hr:L2.Qc0 k X.A)(rel:Rel X ex hs J F s)(hb:L2.Binds X.g.K fd ps dvs)(r:Rps X.g ex s.heap ds us G)(rd:Rps X.g ex s.heap dfl dvs [])(hl:(ds++dfl).length=ps.length)(hd:den (ds++dfl)=some (d,fr))
  (q:∀v s',Tells X.g ex s G d fr v s'->Q v s'):wpAny X.M X.A (call (.ref f) us) Q E0 s:=by
 have r2:=r.app rd;rw[ZV]at r2;refine wpAny_call (codeAny_mono (hF hr rel.sta (hb s us rel.sta.kin (by rw[← r2.len];exact hl)) r2 hl hd) λr s' ⟨v,e,t⟩=>?_);subst e;exact q v s' t
def Tells.post{ra:RA}(p:Qaf X ex J F s s1 ra.ds ra.fr ra.M us G)(t:Tells X.g ex s1 G d fr v s'):∃G',Qb7 X ex J F s s' (if fr=true then⟨d,true,[]⟩else R.norm ⟨d,false,ra.M⟩) v G':=by
 obtain⟨x,G',r,m,n⟩:=t;refine⟨G',?_⟩;split
 .rename_i h;obtain⟨n1,n2⟩:=n h;exact⟨p.ext.trans x,r,λa h=> .inl (p.ext.no (n2 a h)),λ_ _=>⟨n1,λa h=> .inl (p.ext.no (n2 a h))⟩,nm⟩
 .exact Qaf.norm (r:=⟨d,false,ra.M⟩) (p.sub x r (λa h=>(m a h).symm) nofun)
def Qw1{r:FnR}(K:Kn X.g k x r)(hr:L2.Qc0 k X.A)(hg:Gl X x)(hd:(x == ("__debug__" :Str))=false)(hm:r.n<=es.length+r.dfl.length/\es.length<=r.n)(ha:SA X es fs)(he:∀a es',es=a::es'->One X a es'/\(backTo pos (starEach es' X.env)).any (·.1)=false)(h0:es=[]->fs=Qe):
  SE X (.Call (.Name x p) es [] pos) (Qs r.n r.den (r.dfl.drop (r.dfl.length-(r.n-es.length))) fs):=λex hs J F s rr rel e=>by
 obtain⟨f,fd,ps,hF,hn,hmg,hk,hb⟩:=K;obtain⟨dvs,hb,rd⟩:=hb (r.n-es.length) ⋯;refine Qj e λra e1 e=>?_;split at e
 .rename_i h1;obtain⟨⟨d,fr⟩,e2,rfl⟩:=Zn.mp e;have go:∀us s1,(∃G,Qaf X ex J F s s1 ra.ds ra.fr ra.M us G)->X.g.K.In s1.heap/\wpAny X.M X.A (call (.ref f) us) (λv s'=>∃G,Qb7 X ex J F s s' (if(d,fr).2=true then⟨(d,fr).1,true,[]⟩else R.norm ⟨(d,fr).1,false,ra.M⟩) v G) E0 s1:=λus s1 ⟨G,p⟩=>
   ⟨(rel.ext p.ext).sta.kin,hF.call hr (rel.ext p.ext) hb p.rp (rd _ _) (by rw[ZG,hn];exact h1) e2 λv s' t=>t.post p⟩
  refine wpAny_Call_Name_kw (rel.glob hg hmg ?_ hd);cases es with
  | nil=>
   cases h0 rfl;cases e1;exact PySem.W.callWith_K0 rel.sta.kin hk (go [] s ⟨[],.nil⟩).2
  | cons a es=>exact PySem.W.callWith_K (first:=[]) (h₀:=X.g.base) rel.ok.mod.kin hk (thn (ha pos rel e1) go) (he a es rfl).1 (he a es rfl).2
 .cases e
def Rps.parts{h:Heap}:∀{ds:List D}{vs L},Rps g ex h ds vs L->∃Fs:Ft,(∀i a,a∈Fs i->a∈L)/\∀(i:Nat) d,ds[i]? =some d->∃v,vs[i]? =some v/\Rp g ex h d v (Fs i)
 | [],_,_,r=>⟨λ_=>[],nofun,nofun⟩
 | d::ds,_,_,r=>by
  obtain⟨v,vs,G,F',rfl,rfl,p,q⟩:=r.inv;obtain⟨Fs,h1,h2⟩:=q.parts;refine⟨λ | 0=>G | i+1=>Fs i,λi a m=>?_,λi d' e=>?_⟩
  .cases i with
   | zero=>exact Zh _ m
   | succ i=>exact Zc _ (h1 i a m)
  .cases i with
   | zero=>cases e;exact⟨v,rfl,p⟩
   | succ i=>exact h2 i d' e
noncomputable def cxd(g:Gb)(N:List Str)(qual:Str)(scope:Scope)(f:Addr)(cd:Value)(A:Around)(s:Shared)(G:LA):Cx where
 g:=g
 A:=A.deeper (envOfC qual scope s.heap.objs.size f cd)
 N:=N
 h0:=s.heap
 A0:=(· ∈G)
 env:=envOfC qual scope s.heap.objs.size f cd
 fn:=λ_=>true
 calm:=decide (A.handled=none)
def enter{N:List Str}{qual:Str}{scope:Scope}{f:Addr}{cd:Value}{A:Around}(S:L2.Qfg N ps scope)(e0:Sta g ex s)(hl:ds.length=ps.length)(r:Rps g ex s.heap ds us G)
  (x:InCallC s s.heap.objs.size (bindL (envOfC qual scope s.heap.objs.size f cd).kindOf (ps.zip us) λ_=>none) (cellsFrom (s.heap.objs.size+1) scope.names []) (bindC (envOfC qual scope s.heap.objs.size f cd).kindOf (ps.zip us) λ_=>none) s1):
  ∃F w,Rel (cxd g N qual scope f cd A s G) (w++ex) [] (Qau N.length ds) F s1:=by
 obtain⟨h1,tk,rfl,hk⟩:=x.done;obtain⟨Fs,f1,f2⟩:=r.parts;have hpl:ps.length<=N.length:=by have:=congrArg List.length S.pre;rw[ZP]at this;lia
 have ndP:ps.Nodup:=by rw[← S.pre];exact S.nd.sublist (ZbS _ _)
 have big:∀{c:Nat},s.heap.objs.size<=c->s.heap.get? c=none:=λh=>ZK h;have cb:∀y c,(cellsFrom (s.heap.objs.size+1) scope.names []).lookup y=some c->s.heap.get? c=none:=λy c h=>big (ZaB (x.above y c (ZaE h)));have nW:∀b∈s.heap.objs.size::scope.names.filterMap λy=>(cellsFrom (s.heap.objs.size+1) scope.names []).lookup y.1,s.heap.get? b=none:=fa1 QaD λb m=>let ⟨y,_,e⟩:=ZaN.mp m;cb y.1 b e;have inN:∀y c,(cellsFrom (s.heap.objs.size+1) scope.names []).lookup y=some c->∃k,(y,k)∈scope.names:=λy c h=>by
  rcases L2.Qfi scope.names _ [] y c h with z | ⟨_,z⟩
  .cases z
  .exact⟨_,z⟩
 exact⟨Fs,_,
  {ok:=
   {mod:=e0.mod
    nd:=S.nd
    kind:=S.kind
    glob:=rfl
    blt:=rfl
    inj:=λy z c h1 h2=>name_of_addr x.apart (ZaE h1) (ZaE h2)
    has:=λy hy=>hy.elim L2.QnV λhy=>absurd rfl (S.nofree _ (ZaE hy))
    hd:=of_decide_eq_true
    b0:=λa h=>by
     show g.base.get? a=none;cases e:g.base.get? a with
     | none=>rfl
     | some o=>have:=e0.bk a o e;rw[show s.heap.get? a=none from h]at this;cases this
    new:=⟨QaD,λy c _ h=>cb y c h⟩}
   bk:=λa o e=>hk a o (e0.bk a o e)
   br:=e0.br
   nw:=λa e=>by
    show s.heap.get? a=none;cases q:s.heap.get? a with
    | none=>rfl
    | some o=>rw[hk a o q]at e;cases e
   ns:=⟨_,x.toInCall.ns,λi d b e=>by
    obtain⟨e1,_⟩:=QiY e;obtain⟨v,e2,p⟩:=f2 i d e1;have hi:i<ps.length:=hl▸(Zi.mp e1).1;have hp:ps[i]? =some ps[i]:=Zg hi;refine⟨ps[i],v,?_,?_,(p.grow nW).keep λa o _ _=>hk a o⟩
    .show N[i]? =_;rw[← hp];conv=>rhs;rw[← S.pre]
     rw[Zbm hi]
    .rcases S.par _ (Zbp hi)with k | k
     .exact .inl ⟨k,L2.Qmi ndP hp e2 k⟩
     .obtain⟨c,e⟩:=L2.QnV (n:=s.heap.objs.size+1) k;refine .inr ⟨.inl k,c,e,?_⟩;have q:=x.cell _ c e;rw[L2.Qmg ndP hp e2 (by show scope.names.lookup _≠_;rw[k];decide)]at q;exact q⟩
   cell:=λy c e=>⟨Zh _ (.tail _ (let ⟨k,m⟩:=inN y c e;ZaN.mpr ⟨(y,k),m,e⟩)),_,x.cell y c e⟩
   loc:= .head _
   exl:=λb m=>(Zf.mp m).elim (fa1 (P:=λb=>∃o,h1.get? b=some o) (let ⟨o,_,_,q,_⟩:=x.toInCall.ns;⟨o,q⟩) (λb m=>let ⟨y,_,e⟩:=ZaN.mp m;let ⟨o,q,_⟩:=x.cell y.1 b e;⟨o,q⟩) b) λm=>let ⟨o,q⟩:=e0.exl b m;⟨o,hk b o q⟩
   len:=by show(Qau N.length ds).length=N.length;unfold Qau;simp;lia
   ow:=⟨λi d e=>by
    obtain⟨e1,e2⟩:=QiY e;obtain⟨v,_,p⟩:=f2 i d e1;rw[p.QbX (fl1 e2.symm)];exact⟨.nil,nm⟩,λi d b e a m=> .inr (f1 i a m)⟩
   held:=nm}⟩
def Qwr{x qual:Str}{st:Stmt}{gs:DS}(Fu:L2.Fun g.K x qual st f fd)(S:L2.Qfg (namesOf (L2.QB st)) ps (L2.QB st))(hb:∀cdv A s G,L2.Qc0 k (A.deeper (envOfC qual (L2.QB st) s.heap.objs.size f cdv))->SS (cxd g (namesOf (L2.QB st)) qual (L2.QB st) f cdv A s G) (L2.Qck st) gs):
  Fn g (k+1) f fd ps (Qm (namesOf (L2.QB st)).length gs):=λA s ex args us ds G d fr hr e0 hbi r hl hd=>by
 obtain⟨oc,od,kV,doc,pm,an,cdv,ct,osl,rfl,lk,hcd⟩:=Fu.ex;refine Qj hd λo ho hd=>?_;have hkind:∀y∈ps.zip us,(L2.QB st).names.lookup y.1=some .local ∨((L2.QB st).names.lookup y.1=some .cell/\((cellsFrom (s.heap.objs.size+1) (L2.QB st).names []).lookup y.1).isSome=true):=λZ hy=>by
  obtain⟨n,v⟩:=Z;exact(S.par n (ZcL hy).1).imp id λq=>⟨q,ZcF _ _ _ (.inl q)⟩
 refine codeAny_call_function hr.depth (e0.kin _ _ lk) rfl S.co S.gen rfl (PySem.W.codeRec_of e0.kin hcd) (hbi _ _ _ _ (wpAny_newFunctionEnv_cells S.kind hkind λenv he s1 x=>?_));subst he;refine⟨(e0.mod.nolimit.keeps e0.bk).keeps x.toInCall.keep,codeAny_func ?_⟩;obtain⟨F,w,rel⟩:=enter (A:=A) (qual:=qual) (f:=f) (cd:=cdv) S e0 hl r x;obtain⟨h1,tk,rfl,hk⟩:=x.done;refine any (thn (hb cdv A s G (hr.deeper _) rel ho) λfl s' ⟨y,q⟩=>?_);have ex':Ex s s':=⟨λa o e=>y.hp a o (hk a o e) λn=>(by rw[show s.heap.get? a=none from n]at e;cases e),y.os,y.br⟩;cases o with
 | nx J=>cases hd;obtain⟨rfl,_⟩:=q;exact⟨_,rfl,ex',[],.non,nm,λ_=>⟨.nil,nm⟩⟩
 | bk J=>cases hd
 | ct J=>cases hd
 | rt d' fr'=>cases hd;obtain⟨v,G',rfl,q⟩:=q;exact⟨v,rfl,ex',G',q.rp.less λ_=>Zc _,q.src,q.frs⟩
def Fn.mono{j:Nat}(h:Fn g j f fd ps den)(hk:j<=k):Fn g k f fd ps den:=λA s ex args us ds G d fr hr=>h (hr.mono hk)
def Kn.mono{j:Nat}{r:FnR}(h:Kn g j x r)(hk:j<=k):Kn g k x r:=let ⟨f,fd,ps,q,m⟩:=h;⟨f,fd,ps,q.mono hk,m⟩
def Tab(g:Gb)(k:Nat)(Γ:List (Str×FnR)):Prop:=∀x r,look x Γ=some r->Kn g k x r
def Tab.nil:Tab g k []:=λ_ _ h=>nomatch h
def Tab.cons{r:FnR}{Γ:List (Str×FnR)}(t:Tab g k Γ)(h:Kn g (k+1) x r):Tab g (k+1) ((x,r)::Γ):=λy q e=>by
 unfold look at e;split at e
 .rename_i z;cases e;subst z;exact h
 .exact(t y q e).mono (Zba _)
end
section
variable {X:Cx}{ex:LA}{hs:Hs}{J:En}{F:Ft}{s s':Shared}{a b c tg:Expr}{fa fb fc:DE}{pos p pos':Pos}{es:List Expr}{fs:DA}{x:Str}
def QzZ{P:Program}{w:World}{A:Around}(hh:A.handled=none)(z TI TO i1 i2 i3 l1 l2 l3:Addr)(D:L2.Six z TI TO i1 i2 i3)(O1:L2.Off z TO i1 i2 i3 l1)(O2:L2.Off z TO i1 i2 i3 l2)(O3:L2.Off z TO i1 i2 i3 l3)(xs ys zs:Array Value)(h1:ys.size=xs.size)(h2:zs.size=xs.size):
  WalksT P w A z [z,TI,TO,i1,i2,i3,l1,l2,l3] [z,TO,i1,i2,i3] xs.size (λi vals=>∃x y u,xs[i]? =some x/\ys[i]? =some y/\zs[i]? =some u/\vals= #[x,y,u])
   (λi h=>IsZip h z TI TO .none/\L2.Qax h TI (.ref i1) (.ref i2) (.ref i3)/\(∃a b c,L2.Qax h TO a b c)/\h.IsListIter i1 l1 i/\h.IsListIter i2 l2 i/\h.IsListIter i3 l3 i/\h.IsList l1 xs/\h.IsList l2 ys/\h.IsList l3 zs)
   (λi T h=>(IsZip h z TI TO (rawInt T)/\L2.Qax h TI (.ref i1) (.ref i2) (.ref i3)/\(∃a b c,L2.Qax h TO a b c)/\h.IsListIter i1 l1 (i+1)/\h.IsListIter i2 l2 (i+1)/\h.IsListIter i3 l3 (i+1)/\h.IsList l1 xs/\h.IsList l2 ys/\h.IsList l3 zs)/\T∉[z,TO,i1,i2,i3]) where
 sub:= ⋯
 frame:=λi h h' ⟨a1,a2,⟨p,q,r,a3⟩,a4,a5,a6,a7,a8,a9⟩ k=>by
  simp only[List.forall_mem_cons]at k;obtain⟨k1,k2,k3,k4,k5,k6,k7,k8,k9,_⟩:=k;exact⟨k1 _ a1,k2 _ a2,⟨p,q,r,k3 _ a3⟩,a4.at k4,a5.at k5,a6.at k6,a7.at k7,a8.at k8,a9.at k9⟩
 item:=λi s Q E hi ⟨a1,a2,⟨p,q,r,a3⟩,a4,a5,a6,a7,a8,a9⟩ hQ=>by
  have lt:∀{c o},s.heap.get? c=some o->s.heap.objs.size≠c:=λe=>Zbu (ZW e);have li:∀{c l i},s.heap.IsListIter c l i->s.heap.objs.size≠c:=λ⟨_,e,_⟩=>lt e;refine L2.QpQ D O1 O2 O3 a1 a2 a3 a4 a5 a6 a7 a8 a9 (Zr hi) (Zr (h1▸hi)) (Zr (h2▸hi)) λh' b1 b2 b3 b4 b5 b6 b7 k=>?_;have kl:∀{l its},L2.Off z TO i1 i2 i3 l->s.heap.IsList l its->h'.IsList l its:=λO y=>y.at λo e=>k _ o O.1 O.2.1 O.2.2.1 O.2.2.2.1 O.2.2.2.2 e;refine hQ _ _ h' s.toks ⟨_,_,_,Zr hi,Zr (h1▸hi),Zr (h2▸hi),rfl⟩ (Zt _) ⟨_,b6,rfl,_,rfl⟩ ⟨⟨b1,k _ _ D.TIz D.TITO D.TIi1 D.TIi2 D.TIi3 a2,⟨_,_,_,b2⟩,b3,b4,b5,kl O1 a7,kl O2 a8,kl O3 a9⟩,?_⟩ λc o hc e=>?_
  .simp only[Zq,Zbq,or_false,not_or];exact⟨lt a1,lt a3,li a4,li a5,li a6⟩
  .simp only[Zq,Zbq,or_false,not_or]at hc;exact k c o hc.1 hc.2.1 hc.2.2.1 hc.2.2.2.1 hc.2.2.2.2 e
 go:=λelts k pos i T s Q E ⟨⟨a1,a2,⟨p,q,r,a3⟩,a4,a5,a6,a7,a8,a9⟩,_⟩ hQ=>by
  refine wpAny_letOwnedTupleGo_zip a1 λh' hz hs'=>hQ h' ⟨hz,hs'.extBut _ _ D.TIz a2,⟨p,q,r,hs'.extBut _ _ D.TOz a3⟩,a4.extBut hs'.extBut D.i1z,a5.extBut hs'.extBut D.i2z,a6.extBut hs'.extBut D.i3z,a7.extBut hs'.extBut O1.1,a8.extBut hs'.extBut O2.1,a9.extBut hs'.extBut O3.1⟩ λc o hc e=>hs'.extBut _ _ (λx=>hc (x▸ .head _)) e
 apart:=λi T h hm=>hm.2
 done:=λs Q E ⟨a1,a2,_,a4,_,_,a7,_⟩ hQ=>L2.Qks hh D O1.1 a1 a2 a4 a7 (Array.getElem?_eq_none (Zt _)) λh' k=>hQ h' s.toks λc o hc e=>k c o (λx=>hc (x▸ .head _)) (λx=>hc (x▸ .tail _ (.tail _ (.head _)))) e
 self:=λi s Q E st hQ=>wpAny_pyIter_zip st.1 hQ
def QxX(hc:X.calm=true)(cb:Cb X x (.type "zip") a [b,c] pos)(hb':One X b [c])(hc':One X c [])(ha:SE X a fa)(hb:SE X b fb)(hc3:SE X c fc):SI X (.Tuple es kk pos') (.Call (.Name x p) [a,b,c] [] pos) (Qim fa fb fc):=λex hs J F s ir rel e=>by
 refine Qj e λr e1 e=>Qj e λr' e2 e=>Qj e λr'' e3 e=>?_;refine cb.call rel (thn (Qad ha (Qad hb (Qad hc3 Qbd hc') hb') cb.e pos rel (dc e1 (dc e2 (dc e3 rfl)))) λvs s1 ⟨G,p⟩=>?_);obtain⟨v,vs,G1,G2,rfl,rfl,q,qs⟩:=p.rp.inv;obtain⟨v',vs,G2,G3,rfl,rfl,q',qs⟩:=qs.inv;obtain⟨v'',rfl,q''⟩:=qs.one;split at e
 .rename_i xs ys zs h h' h'';rw[h]at q;rw[h']at q';rw[h'']at q'';split at e
  .rename_i hn;cases e;obtain⟨l,its,n,L1,rfl,rfl,_,z,k,r1⟩:=q.lst_inv;obtain⟨l',its',n',L4,rfl,rfl,_,z',k',r2⟩:=q'.lst_inv;obtain⟨l'',its'',n'',L3,rfl,rfl,_,z'',k'',r3⟩:=q''.lst_inv;have lt:=ZW k;have lt':=ZW k';have lt'':=ZW k'';have n1:=r1.len;have n2:=r2.len;have n3:=r3.len;have off:∀l,l<s1.heap.objs.size->L2.Off (s1.heap.objs.size+5) (s1.heap.objs.size+4) s1.heap.objs.size (s1.heap.objs.size+1) (s1.heap.objs.size+2) l:=λl h=>by refine⟨?_,?_,?_,?_,?_⟩<;>lia
   have kl:∀{h':Heap}{l n} {its:List Value},s1.heap.get? l=some (QbF its n)->(∀c o,s1.heap.get? c=some o->h'.get? c=some o)->h'.IsList l its.toArray:=λk hk=>(isL k).at λo e=>hk _ o e
   refine L2.Qst (isL k) (isL k') (isL k'') λh' hz h1 h2 i1 i2 i3 hk=>wpAny_pyIter_zip hz (Itr.tup (T:=[l,l',l'']) (ts:=[(.lst xs,.ref l,l::L1),(.lst ys,.ref l',l'::L4),(.lst zs,.ref l'',l''::L3)]) (s:=s1)
    (QzZ (rel.ok.hd hc) _ _ _ _ _ _ l l' l'' (by constructor<;>lia) (off l lt) (off l' lt') (off l'' lt'') its.toArray its'.toArray its''.toArray (by rw[Zm,Zm];lia) (by rw[Zm,Zm];lia))
    (λi h ⟨a,b,⟨_,_,_,c⟩,d,d',d'',e,e',e''⟩=>fa1 (Qh1 a rfl ⋯ ∅) (fa1 (Qh1 b rfl ⋯ ∅) (fa1 (Qh1 c rfl ⋯ ∅) (fa1 (QgA d) (fa1 (QgA d') (fa1 (QgA d'') (fa1 (Ql0 e (.head _)) (fa1 (Ql0 e' (.tail _ (.head _))) (fa1 (Ql0 e'' (.tail _ (.tail _ (.head _)))) nm)))))))))
    ⟨hz,h1,⟨_,_,_,h2⟩,i1,i2,i3,kl k hk,kl k' hk,kl k'' hk⟩ (.of (t':=s1.toks) hk) (fa1 (ZK ⋯) (fa1 (ZK ⋯) (fa1 QaD (fa1 (ZK ⋯) (fa1 (ZK ⋯) nm)))))
    (by rw[Qmh hn.1 hn.2,Zm,n1]) (by rw[Qmh hn.1 hn.2];exact z) (fa1 ⟨_,.head _,.head _⟩ (fa1 ⟨_,.tail _ (.head _),.head _⟩ (fa1 ⟨_,.tail _ (.tail _ (.head _)),.head _⟩ nm))) (fa1 ⟨q,λa m=>?_⟩ (fa1 ⟨q',λa m=>?_⟩ (fa1 ⟨q'',λa m=>?_⟩ nm))) p.ext (by have:=p.own;simpa using this) λ_ i vals h' d ⟨y,y',y'',e1,e1',e1'',e2⟩ ⟨_,_,_,_,_,_,kl,kl',kl''⟩ hh e=>?_)
   .have:=p.src a (Zh _ m);simpa using this
   .have:=p.src a (Zc _ (Zh _ m));simpa using this
   .have:=p.src a (Zc _ (Zc _ m));simpa using this
   .obtain⟨d1,d2,d3,g1,g2,g3,rfl⟩:=QtB e;obtain⟨M1,q1,m1⟩:=(hh _ (.head _)).at kl g1 e1;obtain⟨M2,q2,m2⟩:=(hh _ (.tail _ (.head _))).at kl' g2 e1';obtain⟨M3,q3,m3⟩:=(hh _ (.tail _ (.tail _ (.head _)))).at kl'' g3 e1'';subst e2;exact⟨_,_,rfl,ZbY rfl,q1.app (q2.app q3),λa h=>(Zf.mp h).elim (λh=>⟨_,.head _,m1 a h⟩) λh=>(Zf.mp h).elim (λh=>⟨_,.tail _ (.head _),m2 a h⟩) λh=>⟨_,.tail _ (.tail _ (.head _)),m3 a h⟩⟩
  .cases e
 .cases e
def Qg7{g:Gb}{h:Heap}:∀{vs:List Value}{ns:List Int},IntsAre vs ns->Rps g ex h (ns.map .int) vs []
 | _,_,.nil=> .nil
 | _,_,.cons n t r=> .atm ⟨t,rfl⟩ (Qg7 r)
def QgV{g:Gb}{h:Heap}:∀{ns:List Int}{vs:List Value}{L},Rps g ex h (ns.map .int) vs L->IntsAre vs ns
 | [],_,_,r=>by cases r;exact .nil
 | n::ns,_,_,r=>by
  obtain⟨v,vs,G,F',rfl,rfl,p,q⟩:=r.inv;obtain⟨t,rfl⟩:=p.int_inv;exact .cons n t (QgV q)
def QA1(hu:X.A.units+64<cLine):Op X (compareOp .Lt) gLt:=QzL
noncomputable def vInt:Value->Int
 | .int i _=>i
 | _=>0
noncomputable def Qoq(h:Heap):Value->List Int
 | .ref a=>match h.get? a with
  | some o=>(match o.data with
   | .seq its _=>its.toList.map vInt
   | _=>[])
  | none=>[]
 | _=>[]
def QtI:∀{vs:List Value}{ns:List Int},IntsAre vs ns->vs.map vInt=ns
 | _,_,.nil=>rfl
 | _,_,.cons n t r=>congrArg (n:: ·) (QtI r)
def Qk6{g:Gb}{h:Heap}:∀{rs:List (List Int)}{vs:List Value}{L},Rps g ex h (Qe8 rs) vs L->vs.map (Qoq h)=rs/\∀v∈vs,∃l items,v= .ref l/\h.IsList l items/\IntsAre items.toList (Qoq h v)
 | [],_,_,r=>by cases r;exact⟨rfl,nm⟩
 | x::rs,_,_,r=>by
  obtain⟨v,vs,G,F',rfl,rfl,p,q⟩:=r.inv;obtain⟨h1,h2⟩:=Qk6 (rs:=rs) q;obtain⟨l,its,n,G',rfl,_,_,_,k,r'⟩:=p.lst_inv;have ia:=QgV r';have e:Qoq h (.ref l)=x:=by simp only[Qoq,k];simpa using QtI ia
  exact⟨by rw[Zy,e,h1],fa1 ⟨l,_,rfl,isL k,by rw[e];simpa using ia⟩ h2⟩
def Rps.perm{g:Gb}{h:Heap}{vs ws:List Value}(p:vs.Perm ws):∀{ds L},Rps g ex h ds vs L->∃ds' L',Rps g ex h ds' ws L'/\ds'.Perm ds/\L'.Perm L:=by
 induction p with
 | nil=>intro ds L r;exact⟨ds,L,r,.refl _,.refl _⟩
 | cons x _ ih=>
  intro ds L r;cases ds with
  | nil=>cases r
  | cons d ds=>
   obtain⟨v,vs,G,F',e,rfl,p,q⟩:=r.inv;cases e;obtain⟨ds',L',r',p1,p2⟩:=ih q;exact⟨d::ds',G++L',p.app r',p1.cons d,p2.append_left G⟩
 | swap x y l=>
  intro ds L r;cases ds with
  | nil=>cases r
  | cons d ds=>
   obtain⟨v,vs,G,F',e,rfl,p,q⟩:=r.inv;cases e;cases ds with
   | nil=>cases q
   | cons d' ds=>
    obtain⟨v,vs,G',F',e,rfl,p',q⟩:=q.inv;cases e;exact⟨d'::d::ds,G'++(G++F'),p'.app (p.app q),.swap ..,by rw[← ZI,← ZI];exact List.perm_append_comm.append_right F'⟩
 | trans _ _ i1 i2=>
  intro ds L r;obtain⟨ds1,L1,r1,p1,p2⟩:=i1 r;obtain⟨ds2,L2,r2,p3,p4⟩:=i2 r1;exact⟨ds2,L2,r2,p3.trans p1,p4.trans p2⟩
def Qyp(hu:X.A.units+64<cLine)(c:Cb X x (.builtin "sorted") a es pos)(ha:SA X (a::es) fs):SE X (.Call (.Name x p) (a::es) [] pos) (Qd6 fs):=λex hs J F s r rel e=>by
 unfold Qd6 at e;have one:QfE fs J=some r->wpAny X.M X.A (eval (.Call (.Name x p) (a::es) [] pos) X.env) (λv s'=>∃G,Qb7 X ex J F s s' r v G) E0 s:=λe=>by
  refine Qj e λra e1 e=>c.call rel (thn (ha pos rel e1) λvs s1 ⟨G,p⟩=>?_);have q:=p.rp;split at e
  .rename_i xs hds;refine Qj e λns h1 e=>?_;split at e
   .rename_i hl;cases e;rw[hds,QeM h1]at q;obtain⟨v,rfl,q⟩:=q.one;obtain⟨l,its,n,G',rfl,_,_,z,k,r'⟩:=q.lst_inv;have hI:=QgV r';refine sorted_ints (isL k) hI (by rw[← r'.len,Zd];exact hl) λout ns' a1 a2 a3=>?_;have e:ns'=QeU ns:=Qhn a3 (QdB ns) (a2.trans (Qdc ns).symm);subst e;obtain⟨ep,hat⟩:=sortedAll_at s1.heap its out;exact⟨_,.QnS (its:=out.toList) p.ext (.of (t':=s1.toks) λb o=>sortedAll_old) (ZK (Zba _)) ((rel.ext p.ext).nex (ZK (Zba _))) (by simpa using hat) (by rw[Zd,(Qdc ns).length_eq];simpa using z) (Qg7 a1)⟩
   .cases e
  .cases e
 cases h1:QfE fs J with
 | some r'=>rw[h1]at e;cases e;exact one h1
 | none=>
  rw[h1]at e;clear h1 one;refine Qj e λra e1 e=>c.call rel (thn (ha pos rel e1) λvs s1 ⟨G,p⟩=>?_);have q:=p.rp;split at e
  .rename_i xs hds;refine Qj e λrs h1 e=>?_;cases e;rw[hds,QmE h1]at q;obtain⟨v,rfl,q⟩:=q.one;obtain⟨l,its,n,L,rfl,rfl,_,z,k,r'⟩:=q.lst_inv;refine QrP (f:=Qoq s1.heap) (isL k) (r'.len▸z) (Qk6 r').2 ⋯ λout a1 a2=>?_;obtain⟨ep,hat⟩:=sortedAll_at s1.heap its out;obtain⟨ds',L',r2,d1,d2⟩:=r'.perm a1.symm;obtain⟨qs,rfl,pq⟩:=QrN d1;have so:SrR qs:=by rw[← (Qk6 r2).1];exact ZX.mpr a2
   obtain rfl:qs=QfP rs:=QiA so (QfJ rs) (pq.trans (QeR rs).symm);have x1:Ex s1 {s1 with heap:=sortedAll s1.heap its out}:= .of (t':=s1.toks) λb o=>sortedAll_old;have no:s1.heap.get? (s1.heap.objs.size+1)=none:=ZK (Zba _);refine⟨_,p.sub (G':=(s1.heap.objs.size+1)::L') x1 (.Qd9 (its:=out.toList) ((rel.ext p.ext).nex no) (by rw[d1.length_eq];exact z) (by simpa using hat) (r2.ext x1)) (λa m=>(Zq.mp m).elim (λm=> .inr (m▸no)) λm=> .inl (.tail _ (d2.mem_iff.mp m))) λf=>⟨f,λnd=>Zaf.mpr ⟨λm=>?_,d2.nodup_iff.mpr (Zaf.mp nd).2⟩⟩⟩;obtain⟨_,o,q⟩:=r'.mem _ (d2.mem_iff.mp m);rw[no]at q;cases q
  .cases e
def QxG{y:Str}{p':Pos}(hc:X.calm=true)(c:Cb X x (.builtin "sorted") (.Call (.Name y p') [a] [] pos') [] pos)(c':Cb X y (.type "set") a [] pos')(ha:SE X a fa):SE X (.Call (.Name x p) [.Call (.Name y p') [a] [] pos'] [] pos) (QkA fa):=λex hs J F s r rel e=>by
 refine Qj e λra e1 e=>?_;refine c.call rel ?_;rw[c.e];refine Zaz (c'.call rel (thn (Qad ha Qbd c'.e pos' rel (dc e1 rfl)) λvs s1 ⟨G,p⟩=>?_));obtain⟨v,rfl,q⟩:=p.rp.one;split at e
 .rename_i xs hd;refine Qj e λns h1 e=>?_;split at e
  .rename_i hl;cases e;rw[hd,QeM h1]at q;obtain⟨l,its,n,L,rfl,_,_,z,k,r'⟩:=q.lst_inv;have hI:=QgV r';have il:its.toArray.size=ns.length:=by rw[Zm];exact hI.length
   refine QvZ (rel.ok.hd hc) (isL k) (ns:=ns) hI ⋯ λh1 t1 si kp=>ZaI ?_;have ed:firstMet (λi=>ns.getD i 0) its.toArray.size=QjN ns:=by rw[il];exact QsD ns
   have nd:(QjN ns).Nodup:=by rw[← ed];exact Qi7 _ _
   have le:=firstMet_length_le (λi=>ns.getD i 0) its.toArray.size;unfold InI at si;rw[ed]at si le;have sz:s1.heap.objs.size<h1.objs.size:=by obtain⟨_,_,_,_,g,_⟩:=si;exact ZW g
   refine Qx3 (rel.ok.hd hc) nd si λh2 t2 b out e k2 z2 g2 io=>?_;have no:s1.heap.get? b=none:=ZK ⋯;exact⟨_,.QnS (its:=out.toList) p.ext (.of λc o z=>k2 c o (kp c o (ZW z) z)) no ((rel.ext p.ext).nex no) (by simpa using g2) (by rw[Zd,(Qdc _).length_eq,Qfu];lia) (Qg7 io)⟩
  .cases e
 .cases e
def Qhb.put{g:Gb}{h':Heap}{d b:Addr}{xs:List (List Int×Addr×Value)}(z:(d == sysModules)=false)(n:∀x∈xs,x.2.1∉ex)(dd:Heap.DictOfH (tupleKind (intKind g.P g.w)) h' d (storedH xs k b v))(hb:b∉ex)(hl:xs.length<sizeLine):Qhb g ex h' d (if(xs.map (·.1)).contains k then xs.map (·.1)else xs.map (·.1)++[k]):=by
 rw[← QnH];unfold storedH at dd;split
 .rename_i hc;rw[if_pos hc]at dd;exact⟨z,by rw[Zd];exact ZaB hl,_,by rw[ZN];exact Zp λx _=>by unfold putAt;simp only[Function.comp];split<;>rfl,λx m=>(by
   obtain⟨y,hy,rfl⟩:=Zs.mp m;unfold putAt;split<;>exact n y hy),dd⟩
 .rename_i hc;rw[if_neg hc]at dd;exact⟨z,by rw[ZG,Zd];exact hl,_,by rw[ZO];rfl,λx m=>(Zf.mp m).elim (n x) λm=>by rw[Zj.mp m];exact hb,dd⟩
def Rel.big(r:Rel X ex hs J F s):(s.heap.objs.size == sysModules)=false:=by
 have h:mainGlobals<s.heap.objs.size:=(r.ok.mod.glob.keeps r.bk).lt;have:sysModules<s.heap.objs.size:=ZbT ∅ h;simpa using Zbu this
def QAM{y:Str}{cpos q:Pos}{j:Nat}(hu:X.A.units+64<cLine)(c:Cb X y (.type "tuple") a es cpos)(ha:SA X (a::es) fs):SE X (.Dict [some (.Call (.Name y p) (a::es) [] cpos)] [.Constant (.bool true) j q] pos) (dD1 fs):=λex hs J F s r rel e=>by
 refine Qj e λra e1 e=>wpAny_Dict_any rfl rfl ⋯ ⋯ (pairTrees_cons_walk (c.call (rel.ext .push) (thn (ha cpos (rel.ext .push) e1) λvs s1 ⟨G,p⟩=>?_)));have t:=p.rp;split at e
 .rename_i ds hds;obtain⟨k,ek,rfl⟩:=Zn.mp e;rw[hds]at t;obtain⟨v,rfl,t⟩:=t.one;obtain⟨l,its,n,L,rfl,_,_,z,kl,r'⟩:=t.lst_inv;refine QnB (r'.len▸z) kl λh' b kp no it=>Constant_bool (pairTrees_nil_walk ?_);have x1:Ex s1 {s1 with heap:=h'}:= .of (t':=s1.toks) kp;have x2:=(Ex.push (o:={cls:= .type "dict",data:= .dict #[]}) (t':=s.toks)).trans (p.ext.trans x1);have nb:b∉ex:=((rel.ext .push).ext p.ext).nex no;have d0:Heap.DictOfH (tupleKind (intKind X.g.P X.g.w)) h' s.heap.objs.size []:=⟨_,_,_,(p.ext.trans x1).hp _ _ (ZF _ rfl),⟨rfl,rfl,rfl⟩,rfl,rfl,nm,.nil⟩;unfold storeAll;simp only[Zcd,ZcP];refine wpAny_bind (wpAny_bind (wpAny_dictSet_heap (by show X.A.units<_;lia) (QoC it (r'.ext x1) ek) d0 (λh2 dd sb=>wpAny_pure (wpAny_pure ⟨[s.heap.objs.size],⟨λa o e=>(sb.2 a (Zad (ZW e))).trans (x2.hp a o e),x2.os,x2.br⟩,.dk rel.push (Qhb.put rel.big nm dd nb ∅) .nil,λa m=> .inl (Zj.mp m▸QaD),λ_ _=>⟨⋯,λa m=> .inl (Zj.mp m▸QaD)⟩,nm⟩)) (ZS _)))
 .cases e
def QxQ{y z:Str}{cpos q po:Pos}{j:Nat}{x:Nat}(hu:X.A.units+64<cLine)(hN:X.N[x]? =some z)(h1:(z == ("__debug__" :Str))=false)(h2:(z == ("__classdict__" :Str))=false)(c:Cb X y (.type "tuple") a es cpos)(ha:SA X (a::es) fs):S1 X (.Assign [.Subscript (.Name z po) (.Call (.Name y p) (a::es) [] cpos) pos'] (.Constant (.bool true) j q) pos) (QiC x fs):=λex hs J F s o rel e=>by
 unfold QiC at e;split at e
 .rename_i ks hx;refine Qj e λra e1 e=>wpAny_Assign_Subscript (Constant_bool (wpAny_Name (rel.Qnf hx hN h2 λvd val pd=>c.call rel (thn (ha cpos rel e1) λvs s1 ⟨G,p⟩=>?_)) h1)) rfl;have t:=p.rp;split at e
  .rename_i ds hds;refine Qj e λk ek e=>?_;split at e
   .rename_i hl;cases e;rw[hds]at t;obtain⟨v,rfl,t⟩:=t.one;obtain⟨l,its,n,L,rfl,_,_,zl,kl,r'⟩:=t.lst_inv;refine QnB (r'.len▸zl) kl λh' b kp no it=>?_;have x1:Ex s1 {s1 with heap:=h'}:= .of (t':=s1.toks) kp;have x2:=p.ext.trans x1;have r2:=rel.ext x2;have nb:b∉ex:=(rel.ext p.ext).nex no;obtain⟨d,rfl,eF,na,dk⟩:=(pd.ext x2).QtT;obtain⟨z0,_,xs,rfl,n0,D⟩:=id dk;rw[Zd]at hl;have hd:d∈F x:=eF▸ .head _;obtain⟨fn,fo⟩:=rel.ow.own x _ hx;obtain⟨o,es',ep,go,gx,gd,_⟩:=id D;refine wpAny_setItem_heap (tupleKind_room_in1 ⋯) (QoC it (r'.ext x1) ek) D (λh2 dd sb=>?_) (ZaB hl);have D2:=Qhb.put z0 n0 dd nb hl;obtain⟨_,_,_,_,_,o2,_,_,g2,_⟩:=id D2;exact⟨(Fx.of x2).trans (.one sb (fo d hd).1 go (λi=>i.1 _ _ gd) (fo d hd).2.2),rfl,_,r2.chg (G:=[d]) .refl hx hd sb ⟨_,g2⟩ (λo' h=>by rw[go]at h;cases h;rw[gx.1];decide) (val.ext x2) (.dk na D2 .nil) (rel.ow.set (λa m=> .inl (fo a (eF▸m)).1) (λj d' h e a m m'=>(fo a (eF▸m')).2.1 j d' true h e m) λ_=>⟨eF▸fn,λa m=>fo a (eF▸m)⟩)⟩
   .cases e
  .cases e
 .cases e
end
structure Cxt (X:Cx) (Y:Th):Prop where
 N:X.N=Y.N
 lc:∀x,look x Y.sc=some .local ->X.env.scope.names.lookup x=some .local
 ce:∀x,look x Y.sc=some .cell->X.env.scope.names.lookup x=some .cell/\X.fn x=true
 gl:∀x,look x Y.sc=some .globalImplicit->X.env.scope.names.lookup x=some .globalImplicit
 fe:∀x,look x Y.sc=some .free->X.env.scope.names.lookup x=some .cell∨X.env.scope.names.lookup x=some .free
 calm:X.calm=true
 units:X.A.units+64<cLine
 mg:∀x∈Qgp,X.g.mg x=none
 cs:∀x i,look x Y.cs=some i->∃t,X.g.mg x=some (cnV i t)
 fns:∀x r,look x Y.Γ=some r->∃k,Kn X.g k x r/\L2.Qc0 k X.A
noncomputable def pl:Expr->Bool
 | .Name .. =>true | .Constant .. =>true | .BinOp .. =>true | .UnaryOp .. =>true | .BoolOp .. =>true | .Compare .. =>true | .IfExp .. =>true | .Tuple .. =>true | .List .. =>true | .Subscript .. =>true | .Call .. =>true | .ListComp .. =>true | .Attribute .. =>true | .Dict .. =>true | .JoinedStr .. =>true | .FormattedValue .. =>true
 | _=>false
section
variable {X:Cx}{Y:Th}{x:Str}{i n:Nat}{e a b c tg:Expr}{es:List Expr}{pos p:Pos}{fa fb:DE}{fs:DA}{f:Value}{t:Tg}
def Qam(h:pl e=true):One X e es:=by cases e<;>first | rfl | cases h
def Qwk(h:pl e=true):L2.Ql8 e:=by cases e<;>first | (intro o i;rfl) | cases h
def Qlf(h:pl e=true)(env:Env):∀x,foldedSetIterable e env x=pure x:=by cases e<;>first | (intro x;rfl) | cases h
def QqN(h:pl e=true)(op:CmpOp):behindInMarks op e=false:=by cases e<;>first | rfl | cases h
def Qk1{q:NameKind->Bool}(h:((look x Y.sc).map q).getD false=true):∃k,look x Y.sc=some k/\q k=true:=by
 cases e:look x Y.sc with
 | none=>rw[e]at h;cases h
 | some k=>rw[e]at h;exact⟨k,rfl,h⟩
def QgH(k:Cxt X Y)(h:Y.slot x=some i):X.N[i]? =some x/\(x == ("__debug__" :Str))=false/\(x == ("__classdict__" :Str))=false:=by
 unfold Th.slot at h;split at h
 .rename_i hc;simp only[Zl,Zak]at hc;obtain⟨h1,h2,_⟩:=QlL hc.2;exact⟨k.N▸QfW h,h1,h2⟩
 .cases h
def Qew(k:Cxt X Y)(h:Y.QiK x=some i):Sl X x i/\(x == ("__classdict__" :Str))=false:=by
 unfold Th.QiK at h;split at h
 .rename_i hc;simp only[Zl,Zak]at hc;obtain⟨q,e,hq⟩:=Qk1 hc.1;refine⟨⟨k.N▸QfW h,?_⟩,(QlL hc.2).2.1⟩;cases q with
  | «local» =>exact⟨.inl (k.lc x e),.inr (k.lc x e)⟩
  | cell=>exact⟨.inr (k.ce x e).1,.inl (k.ce x e).2⟩
  | _=>cases hq
 .cases h
def Qnn(k:Cxt X Y)(h:Y.gl x=true):Gl X x/\(x == ("__debug__" :Str))=false/\x≠ "__name__" :=by
 unfold Th.gl at h;simp only[Zl,Zak]at h;obtain⟨q,e,hq⟩:=Qk1 h.1;obtain⟨h1,_,h3⟩:=QlL h.2;cases q with
 | globalImplicit=>exact⟨k.gl x e,h1,h3⟩
 | _=>cases hq
def Qsd(k:Cxt X Y)(h:QoV Y tg=some t):SG X tg t:=by
 unfold QoV at h;split at h
 .obtain⟨i,hi,rfl⟩:=Zn.mp h;exact Qx5 (Qew k hi).1
 .obtain⟨is,hi,rfl⟩:=Zn.mp h;refine Qzm k.calm ?_;rename_i es _ _;refine Qj hi λxs h1 h2=>?_;clear hi h
  induction es generalizing xs is with
  | nil=>cases h1;cases h2;exact .nil
  | cons e es ih=>
   rw[List.mapM_cons]at h1;refine Qj h1 λx hx h1=>Qj h1 λys hy h1=>?_;cases h1;rw[List.mapM_cons]at h2;refine Qj h2 λi hi h2=>Qj h2 λjs hj h2=>?_;cases h2;cases e with
   | Name y p=>cases hx;exact .cons (Qew k hi).1 (ih _ _ hy hj)
   | _=>cases hx
 .cases h
def Qng{env:Env}{k:NameKind}(hk:k≠ .free):∀{names:List (Str×NameKind)},names.lookup x=some k→
  (names.map λ(n,k)=>if(k == NameKind.free && env.scope.kind == .function && env.kindOf n == some .cell)then(n,NameKind.cell)else(n,k)).lookup x=some k
 | (n,k')::r,h=>by
  have ih:= @Qng env k hk r;rw[Zy];rw[ZL]at h;dsimp only;cases hx:x == n with
  | true=>
   rw[hx]at h;cases h;rw[if_neg (by simp[hk]),ZL,hx]
  | false=>
   rw[hx]at h;split<;>(rw[ZL,hx];exact ih h)
def QvL{scope:Scope}(k:Cxt X Y)(h:Qog Y scope t=true):CSc X (inner Y scope).N scope/\Qj0 X (inner Y scope).N scope (QkL Y scope)/\∀cs C h,Cxt (cxb X (inner Y scope).N scope cs C h) (inner Y scope):=by
 unfold Qog at h;simp only[Zl,decide_eq_true_eq]at h;obtain⟨⟨⟨h1,h2⟩,h3⟩,_⟩:=h;have h3:=Zae.mp h3;have fr:∀y∈scope.names,y.2= .free->X.env.kindOf y.1=some .cell∨X.env.kindOf y.1=some .free:=λy hy e=>by
  have:=h3 y hy;rw[e]at this;dsimp only at this;split at this
  .rename_i q;exact .inl (k.ce _ q).1
  .rename_i q;exact k.fe _ q
  .cases this
 refine⟨⟨h2,by simpa using h1,λy hy e=>?_,λy hy e=>?_,fr⟩,⟨by unfold QkL;simp,λj i e=>?_⟩,λcs C h=>{k with
  N:=rfl
  lc:=λx e=>Qng ∅ (QbH▸e)
  ce:=λx e=>have e:=QbH▸e;⟨Qng ∅ e,decide_eq_true e⟩
  gl:=λx e=>Qng ∅ (QbH▸e)
  fe:=λx e=>L2.Qc2 (QbH▸e)}⟩
 .have:=h3 y hy;rw[e]at this;exact QbH▸of_decide_eq_true this
 .have:=h3 y hy;rw[e]at this;exact QbH▸of_decide_eq_true this
 .unfold QkL at e;rw[Zk]at e;obtain⟨x,q,e⟩:=Zn.mp e;split at e
  .rename_i hf;obtain⟨kd,hl,hq⟩:=Qk1 (Y:=inner Y scope) hf;cases kd with
   | free=>
    have hl:scope.names.lookup x=some .free:=QbH▸hl;exact⟨x,q,hl,k.N▸QfW e,fr (x,.free) (ZaE hl) rfl⟩
   | _=>cases hq
  .cases e
def cb(k:Cxt X Y)(hg:Y.gl x=true)(hm:x∈Qgp)(hv:bootBuiltins x=some f)(hk:∃i,f= .builtin i∨f= .type i)(ha:pl a=true)(hl:(backTo pos (starEach es X.env)).any (·.1)=false):Cb X x f a es pos:=
 let ⟨h1,h2,h3⟩:=Qnn k hg;⟨h1,k.mg x hm,hv,hk,h3,h2,Qam ha,hl⟩
def QAu(i:Cn)(t:Tok):At (cnD i) (cnV i t):=⟨t,rfl⟩
def Qc1:(backTo pos (starEach [] X.env)).any (·.1)=false:=rfl
def Qhd(hb:pl b=true)(h:(backTo pos (starEach es X.env)).any (·.1)=false):(backTo pos (starEach (b::es) X.env)).any (·.1)=false:=by rw[show starEach (b::es) X.env=_ from Qam hb];exact h
end
noncomputable abbrev TE(Y:Th)(e:Expr):={f:DE // pl e=true/\∀X,Cxt X Y->SE X e f}
noncomputable abbrev TT(Y:Th)(e:Expr):={f:DT // ∀X,Cxt X Y->ST X e f}
noncomputable abbrev TTs(Y:Th)(e:List Expr):={f:DT // ∀X,Cxt X Y->STs X e f}
noncomputable abbrev TA(Y:Th)(es:List Expr):={f:DA // (∀X,Cxt X Y->SA X es f)/\(es=[]->f=Qe)/\∀a es',es=a::es'->pl a=true/\∀(X:Cx) pos,(backTo pos (starEach es' X.env)).any (·.1)=false}
noncomputable abbrev TO(Y:Th)(e:Option Expr):={f:DO // ∀X,Cxt X Y->SO X e f}
noncomputable abbrev TI(Y:Th)(tg e:Expr):={f:DI // pl e=true/\∀X,Cxt X Y->SI X tg e f}
noncomputable abbrev TC(Y:Th)(elt tg iter:Expr)(ifs:List Expr)(scope:Scope):={f:DE // ∀X,Cxt X Y->∀pos,SE X (.ListComp elt [⟨tg,iter,ifs,0⟩] scope pos) f/\∀{x i p spos},Sl X x i->S1 X (.Assign [.Name x p] (.ListComp elt [⟨tg,iter,ifs,0⟩] scope pos) spos) (Qv i f)}
noncomputable def Qy7:(op:CmpOp)->Option {g:D->D->Option D // ∀X:Cx,X.A.units+64<cLine->Op X (compareOp op) g}
 | .Eq=>some ⟨gEq,λ_ k=>QAS k⟩
 | .NotEq=>some ⟨gNe,λ_ k=>QAr k⟩
 | .Lt=>some ⟨gLt,λ_ k=>QA1 k⟩
 | .LtE=>some ⟨gLe,λ_ _=>QA2⟩
 | .Gt=>some ⟨gGt,λ_ _=>QAI⟩
 | .GtE=>some ⟨gGe,λ_ _=>QAW⟩
 | .Is=>some ⟨Qig false,λ_ _=>QA3⟩
 | .IsNot=>some ⟨Qig true,λ_ _=>QuC⟩
 | .In=>some ⟨gIn false,λ_ k=>Qwy false k⟩
 | .NotIn=>some ⟨gIn true,λ_ k=>Qwy true k⟩
noncomputable def tBf(n:Nat)(x:Str):Option {q:Value×(List D->Option D) // (x∈Qgp/\bootBuiltins x=some q.1/\∃i,q.1= .builtin i∨q.1= .type i)/\∀X:Cx,X.calm=true->Bf X q.1 q.2}:=
 if n=1 then
  if h:x= "len" then some ⟨(.builtin "len",Qan),⟨h▸by decide+kernel,h▸PySem.boot_len,_,.inl rfl⟩,λ_ _=>QAg⟩else
  if h:x= "abs" then some ⟨(.builtin "abs",QrF),⟨h▸by decide+kernel,h▸boot_abs,_,.inl rfl⟩,λ_ _=>QzQ⟩else
  if h:x= "min" then some ⟨(.builtin "min",QeF),⟨h▸by decide+kernel,h▸boot_min,_,.inl rfl⟩,λ_ k=>QwP k⟩else
  if h:x= "max" then some ⟨(.builtin "max",QdH),⟨h▸by decide+kernel,h▸boot_max,_,.inl rfl⟩,λ_ k=>QxL k⟩else
  if h:x= "sum" then some ⟨(.builtin "sum",QeG),⟨h▸by decide+kernel,h▸boot_sum,_,.inl rfl⟩,λ_ k=>Qxc k⟩else
  if h:x= "all" then some ⟨(.builtin "all",QiH),⟨h▸by decide+kernel,h▸boot_all,_,.inl rfl⟩,λ_ k=>QAh k⟩else
  if h:x= "any" then some ⟨(.builtin "any",Qiz),⟨h▸by decide+kernel,h▸boot_any,_,.inl rfl⟩,λ_ k=>QyL k⟩else
  none
 else
  if h:x= "min" then some ⟨(.builtin "min",QfS),⟨h▸by decide+kernel,h▸boot_min,_,.inl rfl⟩,λ_ k=>Qw8 k⟩else
  none
noncomputable def ptr:Expr->Bool
 | .UnaryOp .Not .. =>false | .BoolOp .. =>false | .IfExp .. =>false | .Compare .. =>false
 | _=>true
def Qy3{e:Expr}(h:ptr e=true)(env:Env)(whole:Sem Value):isTrue e env whole=(do let v ← whole;standAt e.pos;holding [v] (truthy v)):=by
 cases e with
 | UnaryOp op a p=>cases op<;>first | rfl | cases h
 | _=>first | rfl | cases h
def QwL{y:Str}{T:String}(h:Qv7 y=some T):bootBuiltins y=some (.type T)/\y∈Qgp:=by
 unfold Qv7 at h
 iterate 5
  split at h
  .rename_i e;cases h;subst e;exact⟨by first | exact boot_int | exact boot_bool | exact boot_list | exact boot_tuple | exact boot_str,by decide+kernel⟩
 cases h
def Qt8{Y:Th}{x:Str}{a b:Expr}(h:Qjx Y x a=some b):∃p pos,x= "list" /\a= .Call (.Name "range" p) [b] [] pos/\Y.gl "range" =true:=by
 unfold Qjx at h;split at h
 .split at h
  .rename_i hc;obtain⟨rfl,rfl,hg,_⟩:=hc;cases h;exact⟨_,_,rfl,rfl,hg⟩
  .cases h
 .cases h
def QuA{Y:Th}{x:Str}{a b:Expr}(h:setArg Y x a=some b):∃p pos,x= "sorted" /\a= .Call (.Name "set" p) [b] [] pos/\Y.gl "set" =true:=by
 unfold setArg at h;split at h
 .split at h
  .rename_i hc;obtain⟨rfl,rfl,hg,_⟩:=hc;cases h;exact⟨_,_,rfl,rfl,hg⟩
  .cases h
 .cases h
def QA9{Y:Th}{es:List Expr}(h:∀a es',es=a::es'->pl a=true/\∀(X:Cx) pos,(backTo pos (starEach es' X.env)).any (·.1)=false)(X:Cx)(pos:Pos):(backTo pos (starEach es X.env)).any (·.1)=false:=by
 cases es with
 | nil=>rfl
 | cons a es=>exact Qhd (h a es rfl).1 ((h a es rfl).2 X pos)
mutual
noncomputable def tE(n:Nat)(Y:Th)(e:Expr):Option (TE Y e):=match n with
 | 0=>none
 | n+1=>match e with
  | .Name x _=>match h:Y.slot x with
   | some i=>some ⟨Qn i,rfl,λX k=>let ⟨a,b,c⟩:=QgH k h;Qzr a b c⟩
   | none=>if hg:Y.gl x=true then match hc:look x Y.cs with
    | some i=>some ⟨dC (cnD i),rfl,λX k=>let ⟨t,hm⟩:=k.cs x i hc;let ⟨a,b,_⟩:=Qnn k hg;Qym a hm (QAu i t) b⟩
    | none=>none else none
  | .Constant (.int i) _ _=>some ⟨dC (.int i),rfl,λ_ _=>Qzn⟩
  | .Constant (.bool b) _ _=>some ⟨dC (.bl b),rfl,λ_ _=>QAA⟩
  | .Constant .none _ _=>some ⟨dC .non,rfl,λ_ _=>QzK⟩
  | .Constant (.str x) _ _=>some ⟨dC (.str x),rfl,λ_ _=>Qy6⟩
  | .BinOp a op b _=>(tE n Y a).bind λu=>(tE n Y b).bind λv=>match op with
   | .Add=>some ⟨QJ u.1 v.1,rfl,λX k=>QzX (u.2.2 X k) (v.2.2 X k)⟩
   | .Mult=>some ⟨Qai u.1 v.1,rfl,λX k=>QzI (u.2.2 X k) (v.2.2 X k)⟩
   | .Sub=>some ⟨dOp Qbo u.1 v.1,rfl,λX k=>Qkw QAi (u.2.2 X k) (v.2.2 X k)⟩
   | .FloorDiv=>some ⟨dOp QdM u.1 v.1,rfl,λX k=>Qkw Qy2 (u.2.2 X k) (v.2.2 X k)⟩
   | .Mod=>some ⟨dOp QbE u.1 v.1,rfl,λX k=>Qkw QAc (u.2.2 X k) (v.2.2 X k)⟩
   | .Pow=>some ⟨dOp Qlz u.1 v.1,rfl,λX k=>Qkw Qzx (u.2.2 X k) (v.2.2 X k)⟩
   | .RShift=>some ⟨dOp Qot u.1 v.1,rfl,λX k=>Qkw Qy5 (u.2.2 X k) (v.2.2 X k)⟩
   | _=>none
  | .UnaryOp .USub a _=>(tE n Y a).map λu=>⟨Qhk u.1,rfl,λX k=>Qz5 (u.2.2 X k)⟩
  | .UnaryOp .Not a _=>(tE n Y a).map λu=>⟨Qu0 u.1,rfl,λX k=>Qz1 (u.2.2 X k)⟩
  | .BoolOp .And [a] _=>(tE n Y a).map λu=>⟨u.1,rfl,λX k=>Qsv (u.2.2 X k)⟩
  | .BoolOp .And (a::b::r) p=>(tE n Y a).bind λu=>(tE n Y (.BoolOp .And (b::r) p)).map λv=>⟨Qhf u.1 v.1,rfl,λX k=>Qy4 (u.2.2 X k) (v.2.2 X k)⟩
  | .BoolOp .Or [a] _=>(tE n Y a).map λu=>⟨u.1,rfl,λX k=>Qsv (u.2.2 X k)⟩
  | .BoolOp .Or (a::b::r) p=>(tE n Y a).bind λu=>(tE n Y (.BoolOp .Or (b::r) p)).map λv=>⟨dOr u.1 v.1,rfl,λX k=>QAL (u.2.2 X k) (v.2.2 X k)⟩
  | .Compare a [op] [b] _=>(tE n Y a).bind λu=>(tE n Y b).bind λv=>(Qy7 op).map λg=>⟨dOp g.1 u.1 v.1,rfl,λX k=>Qzo (g.2 X k.units) (u.2.2 X k) (v.2.2 X k) (QqN v.2.1 op)⟩
  | .IfExp c a b _=>(tT n Y c).bind λg=>(tE n Y a).bind λu=>(tE n Y b).map λv=>⟨dIf g.1 u.1 v.1,rfl,λX k=>QAv (g.2 X k) (u.2.2 X k) (v.2.2 X k)⟩
  | .Tuple es _ _=>(tA n Y es).map λu=>⟨QaQ u.1,rfl,λX k=>QyY (u.2.1 X k)⟩
  | .List es _=>(tA n Y es).map λu=>⟨Q0 u.1,rfl,λX k=>QzW (u.2.1 X k)⟩
  | .Dict ks vs _=>match h:Qsq Y ks vs with
   | some (some a)=>(tE n Y a).map λu=>⟨dD1 (Qa u.1 Qe),rfl,λX k=>by
     obtain⟨_,_,h⟩ | ⟨p,a,cp,j,pp,rfl,rfl,hg,h⟩:=QsJ h
     .cases h
     .cases h;exact QAM k.units (cb k hg (by decide+kernel) boot_tuple ⟨_,.inr rfl⟩ u.2.1 Qc1) (Qad (u.2.2 X k) Qbd (Qam u.2.1))⟩
   | _=>none
  | .Subscript a (.Slice lo hi none _) _=>(tE n Y a).bind λu=>(tO n Y lo).bind λl=>(tO n Y hi).map λv=>⟨Qep u.1 l.1 v.1,rfl,λX k=>QzU (u.2.2 X k) (l.2 X k) (v.2 X k)⟩
  | .Subscript a b _=>(tE n Y a).bind λu=>(tE n Y b).map λv=>⟨Qk u.1 v.1,rfl,λX k=>Qzk (u.2.2 X k) (v.2.2 X k) (Qwk v.2.1)⟩
  | .Call (.Name x p) args [] q=>if hg:Y.gl x=true then(match h:look x Y.Γ with
    | some r=>if hn:r.n<=args.length+r.dfl.length/\args.length<=r.n then(tA n Y args).map λu=>⟨Qs r.n r.den (r.dfl.drop (r.dfl.length-(r.n-args.length))) u.1,rfl,λX k=>let ⟨_,K,hr⟩:=k.fns x r h;let ⟨g1,g2,_⟩:=Qnn k hg;Qw1 K hr g1 g2 hn (u.2.1 X k) (λa es e=>let ⟨h1,h2⟩:=u.2.2.2 a es e;⟨Qam h1,h2 X q⟩) u.2.2.1⟩else none
    | none=>tB n Y x p args q hg)else none
  | .Call (.Attribute (.Name x p) m apos) [] [] cpos=>if h:m= "bit_length" /\(apos.endLine == cpos.line)=true then(tE n Y (.Name x p)).map λu=>⟨QrK u.1,rfl,λX k=>h.1▸QwR (u.2.2 X k) rfl h.2⟩else none
  | .ListComp elt [⟨tg,iter,ifs,0⟩] scope _=>(tC n Y elt tg iter ifs scope).map λu=>⟨u.1,rfl,λX k=>(u.2 X k _).1⟩
  | _=>none
noncomputable def tC(n:Nat)(Y:Th)(elt tg iter:Expr)(ifs:List Expr)(scope:Scope):Option (TC Y elt tg iter ifs scope):=match n with
 | 0=>none
 | n+1=>match ht:QoV (inner Y scope) tg with
  | some t=>if hc:(Qog Y scope t && QAB ifs)=true then(tI n Y tg iter).bind λi=>(tTs n (inner Y scope) ifs).bind λc=>(tE n (inner Y scope) elt).map λu=>⟨QO i.1 t (QkL Y scope) c.1 u.1,λX k pos=>by
    obtain⟨S,K,q⟩:=QvL k (Bool.and_eq_true_iff.mp hc).1;have hin:=λcs C h=>(⟨Qsd (q cs C h) ht,c.2 _ (q cs C h),u.2.2 _ (q cs C h)⟩:SG _ tg t/\STs _ ifs c.1/\SE _ elt u.1);exact⟨Qrn S K (i.2.2 X k) hin (Qlf i.2.1 X.env),λsl=>QxS sl S K (i.2.2 X k) hin (Qlf i.2.1 X.env)⟩⟩else none
  | none=>none
noncomputable def tB(n:Nat)(Y:Th)(x:Str)(p:Pos)(args:List Expr)(q:Pos)(hg:Y.gl x=true):Option (TE Y (.Call (.Name x p) args [] q)):=match n with
  | 0=>none
  | n+1=>match args with
    | [a]=>match hr:Qjx Y x a with
     | some b=>(tE n Y b).map λu=>⟨QiR u.1,rfl,λX k=>by
        obtain⟨p',q',rfl,rfl,h⟩:=Qt8 hr;exact QxU k.calm (cb k hg (by decide+kernel) boot_list ⟨_,.inr rfl⟩ rfl Qc1) (cb k h (by decide+kernel) boot_range ⟨_,.inr rfl⟩ u.2.1 Qc1) (u.2.2 X k)⟩
     | none=>
      match hr:setArg Y x a with
      | some b=>(tE n Y b).map λu=>⟨QkA u.1,rfl,λX k=>by
        obtain⟨p',q',rfl,rfl,h⟩:=QuA hr;exact QxG k.calm (cb k hg (by decide+kernel) boot_sorted ⟨_,.inl rfl⟩ rfl Qc1) (cb k h (by decide+kernel) PyProof.Rows.boot_set ⟨_,.inr rfl⟩ u.2.1 Qc1) (u.2.2 X k)⟩
      | none=>
      (tE n Y a).bind λu=>
       if h:x= "list" then some ⟨dList (Qa u.1 Qe),rfl,λX k=>h▸QwK (cb k (h▸hg) (by decide+kernel) boot_list ⟨_,.inr rfl⟩ u.2.1 Qc1) (Qad (u.2.2 X k) Qbd (Qam u.2.1))⟩else
       if h:x= "sorted" then some ⟨Qd6 (Qa u.1 Qe),rfl,λX k=>h▸Qyp k.units (cb k (h▸hg) (by decide+kernel) boot_sorted ⟨_,.inl rfl⟩ u.2.1 Qc1) (Qad (u.2.2 X k) Qbd (Qam u.2.1))⟩else
       if h:x= "tuple" then some ⟨QiO (Qa u.1 Qe),rfl,λX k=>h▸QwF (cb k (h▸hg) (by decide+kernel) boot_tuple ⟨_,.inr rfl⟩ u.2.1 Qc1) (Qad (u.2.2 X k) Qbd (Qam u.2.1))⟩else
       (tBf 1 x).map λg=>⟨dBf g.1.2 (Qa u.1 Qe),rfl,λX k=>let ⟨⟨h1,h2,h3⟩,h4⟩:=g.2;Qwv (cb k hg h1 h2 h3 u.2.1 Qc1) (h4 X k.calm) (Qad (u.2.2 X k) Qbd (Qam u.2.1))⟩
    | [a,b]=>if h:x= "isinstance" then(tE n Y a).bind λu=>match b with
        | .Name y _=>if hy:Y.gl y=true then match hT:Qv7 y with
          | some T=>some ⟨Qll T u.1,rfl,λX k=>let ⟨g1,g2,g3⟩:=Qnn k hy;let ⟨t1,t2⟩:=QwL hT;h▸QyN (cb k (h▸hg) (by decide+kernel) boot_isinstance ⟨_,.inl rfl⟩ u.2.1 rfl) t1 g1 (k.mg y t2) g3 g2 (u.2.2 X k)⟩
          | none=>none else none
        | _=>none
      else(tE n Y a).bind λu=>(tE n Y b).bind λv=>
       if h:x= "divmod" then some ⟨dDm (Qa u.1 (Qa v.1 Qe)),rfl,λX k=>h▸QAZ (cb k (h▸hg) (by decide+kernel) boot_divmod ⟨_,.inl rfl⟩ u.2.1 (Qhd v.2.1 Qc1)) (Qad (u.2.2 X k) (Qad (v.2.2 X k) Qbd (Qam v.2.1)) (Qam u.2.1))⟩else
       (tBf 2 x).map λg=>⟨dBf g.1.2 (Qa u.1 (Qa v.1 Qe)),rfl,λX k=>let ⟨⟨h1,h2,h3⟩,h4⟩:=g.2;Qwv (cb k hg h1 h2 h3 u.2.1 (Qhd v.2.1 Qc1)) (h4 X k.calm) (Qad (u.2.2 X k) (Qad (v.2.2 X k) Qbd (Qam v.2.1)) (Qam u.2.1))⟩
    | _=>none
noncomputable def tT(n:Nat)(Y:Th)(e:Expr):Option (TT Y e):=match n with
 | 0=>none
 | n+1=>match e with
  | .UnaryOp .Not a _=>(tT n Y a).map λu=>⟨QdJ u.1,λX k=>QyX (u.2 X k)⟩
  | .BoolOp .And [a] _=>(tT n Y a).map λu=>⟨u.1,λX k=>Qw3 (u.2 X k)⟩
  | .BoolOp .And (a::b::r) p=>(tT n Y a).bind λu=>(tT n Y (.BoolOp .And (b::r) p)).map λv=>⟨Qh7 u.1 v.1,λX k=>QyH (u.2 X k) (v.2 X k)⟩
  | .BoolOp .Or [a] _=>(tT n Y a).map λu=>⟨u.1,λX k=>QAk (u.2 X k)⟩
  | .BoolOp .Or (a::b::r) p=>(tT n Y a).bind λu=>(tT n Y (.BoolOp .Or (b::r) p)).map λv=>⟨bOr u.1 v.1,λX k=>QAP (u.2 X k) (v.2 X k)⟩
  | .Compare a [op] [b] _=>(tE n Y a).bind λu=>(tE n Y b).bind λv=>(Qy7 op).map λg=>⟨QA (dOp g.1 u.1 v.1),λX k=>Qzc (g.2 X k.units) (u.2.2 X k) (v.2.2 X k) (QqN v.2.1 op)⟩
  | e=>if h:ptr e=true then(tE n Y e).map λu=>⟨QA u.1,λX k=>QyI (u.2.2 X k) (Qy3 h X.env)⟩else none
noncomputable def tTs(n:Nat)(Y:Th)(es:List Expr):Option (TTs Y es):=match n with
 | 0=>none
 | n+1=>match es with
  | []=>some ⟨Qac,λ_ _=>Qxm⟩
  | [c]=>(tT n Y c).map λu=>⟨u.1,λX k=>Qxq (u.2 X k)⟩
  | _=>none
noncomputable def tA(n:Nat)(Y:Th)(es:List Expr):Option (TA Y es):=match n with
 | 0=>none
 | n+1=>match es with
  | []=>some ⟨Qe,λ_ _=>Qbd,λ_=>rfl,nofun⟩
  | e::es=>(tE n Y e).bind λu=>(tA n Y es).map λv=>⟨Qa u.1 v.1,λX k=>Qad (u.2.2 X k) (v.2.1 X k) (Qam u.2.1),nofun,λa es' h=>by cases h;exact⟨u.2.1,QA9 (Y:=Y) v.2.2.2⟩⟩
noncomputable def tO(n:Nat)(Y:Th)(e:Option Expr):Option (TO Y e):=match n with
 | 0=>none
 | n+1=>match e with
  | none=>some ⟨Qfa,λ_ _=>QwY⟩
  | some e=>(tE n Y e).map λu=>⟨Qcb u.1,λX k=>QyA (u.2.2 X k)⟩
noncomputable def tI(n:Nat)(Y:Th)(tg e:Expr):Option (TI Y tg e):=match n with
 | 0=>none
 | n+1=>match e with
  | .Call (.Name x p) args [] q=>if hg:(Y.gl x && (look x Y.Γ).isNone)=true then(match args with
    | [a]=>if h:x= "range" then(tE n Y a).map λu=>⟨Qa1 u.1,rfl,λX k=>h▸Qtp k.calm (cb k (h▸(Bool.and_eq_true_iff.mp hg).1) (by decide+kernel) boot_range ⟨_,.inr rfl⟩ u.2.1 Qc1) (u.2.2 X k)⟩else
     if h:x= "enumerate" then(match tg with
      | .Tuple .. =>(tE n Y a).map λu=>⟨Qcj u.1,rfl,λX k=>h▸Qx0 k.calm (cb k (h▸(Bool.and_eq_true_iff.mp hg).1) (by decide+kernel) boot_enumerate ⟨_,.inr rfl⟩ u.2.1 Qc1) (u.2.2 X k)⟩
      | _=>none)else
     (tE n Y (.Call (.Name x p) [a] [] q)).map λu=>⟨Q7 u.1,rfl,λX k=>QgC k.calm (u.2.2 X k)⟩
    | [a,b,c]=>
     if h:x= "range" then(tE n Y a).bind λu=>(tE n Y b).bind λv=>(tE n Y c).map λw=>⟨QgE u.1 v.1 w.1,rfl,λX k=>h▸QsZ k.calm (cb k (h▸(Bool.and_eq_true_iff.mp hg).1) (by decide+kernel) boot_range ⟨_,.inr rfl⟩ u.2.1 (Qhd v.2.1 (Qhd w.2.1 Qc1))) (Qam v.2.1) (Qam w.2.1) (u.2.2 X k) (v.2.2 X k) (w.2.2 X k)⟩else
     if h:x= "zip" then(match tg with
      | .Tuple .. =>(tE n Y a).bind λu=>(tE n Y b).bind λv=>(tE n Y c).map λw=>⟨Qim u.1 v.1 w.1,rfl,λX k=>h▸QxX k.calm (cb k (h▸(Bool.and_eq_true_iff.mp hg).1) (by decide+kernel) boot_zip ⟨_,.inr rfl⟩ u.2.1 (Qhd v.2.1 (Qhd w.2.1 Qc1))) (Qam v.2.1) (Qam w.2.1) (u.2.2 X k) (v.2.2 X k) (w.2.2 X k)⟩
      | _=>none)else
     (tE n Y (.Call (.Name x p) [a,b,c] [] q)).map λu=>⟨Q7 u.1,rfl,λX k=>QgC k.calm (u.2.2 X k)⟩
    | [a,b]=>
     if h:x= "range" then(tE n Y a).bind λu=>(tE n Y b).map λv=>⟨QcR u.1 v.1,rfl,λX k=>h▸QtR k.calm (cb k (h▸(Bool.and_eq_true_iff.mp hg).1) (by decide+kernel) boot_range ⟨_,.inr rfl⟩ u.2.1 (Qhd v.2.1 Qc1)) (Qam v.2.1) (u.2.2 X k) (v.2.2 X k)⟩else
     if h:x= "zip" then(match tg with
      | .Tuple .. =>(tE n Y a).bind λu=>(tE n Y b).map λv=>⟨QaW u.1 v.1,rfl,λX k=>h▸QzS k.calm (cb k (h▸(Bool.and_eq_true_iff.mp hg).1) (by decide+kernel) boot_zip ⟨_,.inr rfl⟩ u.2.1 (Qhd v.2.1 Qc1)) (Qam v.2.1) (u.2.2 X k) (v.2.2 X k)⟩
      | _=>none)else
     (tE n Y (.Call (.Name x p) [a,b] [] q)).map λu=>⟨Q7 u.1,rfl,λX k=>QgC k.calm (u.2.2 X k)⟩
    | args=>(tE n Y (.Call (.Name x p) args [] q)).map λu=>⟨Q7 u.1,rfl,λX k=>QgC k.calm (u.2.2 X k)⟩)
   else(tE n Y (.Call (.Name x p) args [] q)).map λu=>⟨Q7 u.1,rfl,λX k=>QgC k.calm (u.2.2 X k)⟩
  | e=>(tE n Y e).map λu=>⟨Q7 u.1,u.2.1,λX k=>QgC k.calm (u.2.2 X k)⟩
end
end HN
namespace HN
open PySem PySem.Spec PyProof.Rows HS
noncomputable abbrev T1(Y:Th)(st:Stmt):={f:DS // ∀X,Cxt X Y->S1 X st f}
noncomputable abbrev Ts(Y:Th)(st:List Stmt):={f:DS // ∀X,Cxt X Y->SS X st f}
noncomputable abbrev TP(Y:Th)(e:Expr):={q:Nat×DP // (∀X,Cxt X Y->SPa X e q.1 q.2)/\∀m env w,attributeBase e m env w=w}
def Qpm{e:Expr}(h:pl e=true):QwH e=false:=by cases e<;>first | rfl | cases h
section
variable {X:Cx}{Y:Th}{o a b:Expr}{m:Str}{apos cpos:Pos}{args:List Expr}{i':String}
def mc(ho:∀m env w,attributeBase o m env w=w)(hs:Slot "list" m i')(ht:typeOf (.builtin i')=pure (.type "method_descriptor"))(hl:(apos.endLine == cpos.line)=true)(ha:∀a∈args,pl a=true)(hn:decide (args.length+([]:List Keyword).length+(if([]:List Keyword).isEmpty then 0 else 1)<30)=true):Mc X o m apos args cpos i':=by
 have st:(backTo cpos (starEach args X.env)).all (λx=> !x.1)=true/\(backTo cpos (starEach args X.env)).any (·.1)=false:=by
  clear hn
  induction args with
  | nil=>exact⟨rfl,rfl⟩
  | cons a es ih=>
   rw[show starEach (a::es) X.env=_ from Qam (ha a (.head _))];exact ih λb m=>ha b (.tail _ m)
 exact⟨hs,ht,ho ..,by rw[st.1];exact hn,hl,st.2,λa es e=>Qam (ha a (e▸ .head _))⟩
end
noncomputable def tP(n:Nat)(Y:Th)(e:Expr):Option (TP Y e):=match n with
 | 0=>none
 | n+1=>match e with
  | .Name x _=>match h:Y.slot x with
   | some i=>some ⟨(i,Q8),λX k=>let ⟨a,b,c⟩:=QgH k h;Qjr a b c,λ_ _ _=>rfl⟩
   | none=>none
  | .Subscript a b _=>(tP n Y a).bind λq=>(tE n Y b).map λv=>⟨(q.1.1,Qe4 q.1.2 v.1),λX k=>Qxw (q.2.1 X k) (v.2.2 X k) (Qwk v.2.1),λ_ _ _=>rfl⟩
  | _=>none
def in1{a:Expr}(h:pl a=true):∀b∈[a],pl b=true:=fa1 h nm
noncomputable def tM(n:Nat)(Y:Th)(o:Expr)(m:Str)(apos:Pos)(args:List Expr)(cpos pos:Pos)(hl:(apos.endLine == cpos.line)=true):Option (T1 Y (.Expr (.Call (.Attribute o m apos) args [] cpos) pos)):=match args with
  | []=>(tP n Y o).bind λq=>
    if h:m= "clear" then some ⟨Qlh q.1.1 q.1.2,λX k=>h▸Qy1 (mc q.2.2 PySem.F.slot_list_clear PySem.F.type_list_clear hl nm rfl) (q.2.1 X k)⟩else
    none
  | [e]=>if h:m= "append" then
     match o,e with
      | .Name x _,.Call (.Attribute (.Name y _) pm apos') [i] [] cpos'=>if hp:pm= "pop" /\(apos'.endLine == cpos'.line)=true then(match hx:Y.slot x with
          | some sx=>match hy:Y.slot y with
            | some sy=>(tE n Y i).map λu=>⟨Qfk sx sy u.1,λX k=>by
                obtain⟨rfl,hl'⟩:=hp;subst h;obtain⟨a1,a2,a3⟩:=QgH k hx;obtain⟨b1,b2,b3⟩:=QgH k hy;exact QsS (mc (λ_ _ _=>rfl) ZbM Zcu hl (in1 rfl) rfl) (mc (λ_ _ _=>rfl) PySem.F.slot_list_pop PySem.F.type_list_pop hl' (in1 u.2.1) rfl) (Qjr a1 a2 a3) (Qjr b1 b2 b3) (u.2.2 X k) (Qam rfl) (Qam u.2.1)⟩
            | none=>none
          | none=>none)else none
      | o,e=>
      (tP n Y o).bind λq=>(tE n Y e).map λu=>⟨Qb1 q.1.1 q.1.2 u.1,λX k=>h▸QAd (mc q.2.2 ZbM Zcu hl (in1 u.2.1) rfl) (q.2.1 X k) (u.2.2 X k) (Qam u.2.1)⟩
    else
    none
  | [i,e]=>if h:m= "insert" then(tP n Y o).bind λq=>(tE n Y i).bind λv=>(tE n Y e).map λu=>⟨Qjw q.1.1 q.1.2 v.1 u.1,λX k=>h▸QyZ (mc q.2.2 PySem.F.slot_list_insert PySem.F.type_list_insert hl (fa1 v.2.1 (in1 u.2.1)) rfl) (q.2.1 X k) (v.2.2 X k) (u.2.2 X k) (Qam v.2.1) (Qam u.2.1)⟩else none
  | _=>none
noncomputable def QzG:(op:Operator)->Option {g:D->D->Option D // (∀X:Cx,Op X (inplaceOp op) g)/\∀a b d,g a b=some d->d.flat=true}
 | .Add=>some ⟨gI λi j=>some (.int (i+j)),λ_=>Qx8,λa b d h=>by obtain⟨i,j,_,_,e⟩:=QpI h;cases e;rfl⟩
 | .Sub=>some ⟨Qbo,λ_=>Qw7,λa b d h=>by obtain⟨i,j,_,_,e⟩:=QpI h;cases e;rfl⟩
 | _=>none
def QyT{X:Cx}{x:Str}:S1 X (.Expr (.Constant (.str x) j p) pos) Ql:=λex hs J F s o rel e=>by
 cases e;exact wpAny_Expr (Calls.Constant_str (show Fl X ex hs s (.nx J) .next {s with toks:=s.toks+1}from⟨.of .tok,rfl,F,rel.ext .tok⟩)) rel.quiet
def Qvy{e:Expr}(h:QqP e=true):Qit e=true:=by cases e<;>first | rfl | cases h
mutual
noncomputable def tS(n:Nat)(Y:Th)(st:Stmt):Option (T1 Y st):=match n with
  | 0=>none
  | n+1=>match st with
    | .Pass _=>some ⟨Ql,λ_ _=>QxV⟩
    | .Break _=>some ⟨Qzh,λ_ _=>Qy0⟩
    | .Continue _=>some ⟨QzC,λ_ _=>QzE⟩
    | .Raise _ _ _=>some ⟨Qco,λ_ _=>Qvu⟩
    | .Return none _=>some ⟨Qwm,λ_ _=>Qxg⟩
    | .Return (some e) _=>(tE n Y e).map λu=>⟨QM u.1,λX k=>Qz4 (u.2.2 X k)⟩
    | .Expr (.Constant (.str _) _ _) _=>some ⟨Ql,λ_ _=>QyT⟩
    | .Expr (.Call (.Attribute o m apos) args [] cpos) pos=>if h:(apos.endLine == cpos.line)=true then tM n Y o m apos args cpos pos h else none
    | .Expr (.Call (.Name x p) args [] cpos) _=>(tE n Y (.Call (.Name x p) args [] cpos)).map λu=>⟨Qc4 u.1,λX k=>QxD (u.2.2 X k) rfl⟩
    | .Assign [.Name x _] e _=>match hx:Y.QiK x with
      | some i=>if ha:QqP e=true then(tE n Y e).map λu=>⟨Qv i (Qbi u.1),λX k=>Qn8 (Qv3 (u.2.2 X k)) (Qew k hx).1 (Qil (Qvy ha))⟩
        else if hc:Qit e=true then(tE n Y e).map λu=>⟨Qv i u.1,λX k=>Qn8 (u.2.2 X k) (Qew k hx).1 (Qil hc)⟩
        else match e with
          | .ListComp elt [⟨tg,iter,ifs,0⟩] scope _=>(tC n Y elt tg iter ifs scope).map λu=>⟨Qv i u.1,λX k=>(u.2 X k _).2 (Qew k hx).1⟩
          | _=>none
      | none=>none
    | .Assign [.Tuple es k p] e pos=>if hc:Qit e=true/\Qza e=false then match ht:QoV Y (.Tuple es k p)with
        | some t=>(tE n Y e).map λu=>⟨Qd0 t u.1,λX k'=>Qyy (u.2.2 X k') (Qsd k' ht) (show swapsWith e (some (.Tuple es k p)) pos.line X.env=pure false from Qil hc.1) (by cases e<;>first | rfl | cases hc.2) rfl⟩
        | none=>none else none
    | .Assign [.Subscript a i _] e _=>
     match hq:QnO Y a i e with
     | some q=>(match hx:Y.slot q.1 with
       | some x=>(tE n Y q.2).map λu=>⟨QiC x (Qa u.1 Qe),λX k=>by
          obtain⟨p1,p2,cp,j,r,rfl,rfl,rfl,hg⟩:=Qrx hq;obtain⟨a1,a2,a3⟩:=QgH k hx;exact QxQ k.units a1 a2 a3 (cb k hg (by decide+kernel) boot_tuple ⟨_,.inr rfl⟩ u.2.1 Qc1) (Qad (u.2.2 X k) Qbd (Qam u.2.1))⟩
       | none=>none)
     | none=>
      (tP n Y a).bind λq=>(tE n Y i).bind λv=>(tE n Y e).map λu=>⟨QdN q.1.1 q.1.2 v.1 u.1,λX k=>QAf (u.2.2 X k) (q.2.1 X k) (v.2.2 X k) Qub (by cases e<;>rfl) (λ_=>by have:=Qpm v.2.1;cases i<;>first | rfl | cases this) rfl⟩
    | .AugAssign (.Name x _) op e _=>match hx:Y.QiK x with
      | some i=>(QzG op).bind λg=>(tE n Y e).map λu=>⟨QlX g.1 i u.1,λX k=>let ⟨sl,h2⟩:=Qew k hx;Qzg (g.2.1 X) (u.2.2 X k) sl h2 g.2.2⟩
      | none=>none
    | .AugAssign (.Subscript a i _) op e _=>(tP n Y a).bind λq=>(tE n Y i).bind λv=>(QzG op).bind λg=>(tE n Y e).map λu=>⟨QeD g.1 q.1.1 q.1.2 v.1 u.1,λX k=>Qyd (g.2.1 X) (u.2.2 X k) (q.2.1 X k) (v.2.2 X k) (λ_ _ _=>by have:=Qpm v.2.1;cases i<;>first | rfl | cases this)⟩
    | .If c a b _=>(tT n Y c).bind λg=>(tSs n Y a).bind λu=>(tSs n Y b).map λv=>⟨sIf g.1 u.1 v.1,λX k=>QAN (g.2 X k) (u.2 X k) (v.2 X k)⟩
    | .For tg iter body [] _=>match ht:QoV Y tg with
      | some t=>(tI n Y tg iter).bind λi=>(tSs n Y body).map λu=>⟨QaU i.1 t u.1,λX k=>Qzd (i.2.2 X k) (Qsd k ht) (u.2 X k) (Qlf i.2.1 X.env)⟩
      | none=>none
    | .While c body [] _=>(tT n Y c).bind λg=>(tSs n Y body).map λu=>⟨Qc6 g.1 u.1,λX k=>Qu7 (g.2 X k) (u.2 X k)⟩
    | _=>none
noncomputable def tSs(n:Nat)(Y:Th)(sts:List Stmt):Option (Ts Y sts):=match n with
 | 0=>none
 | n+1=>match sts with
  | []=>some ⟨Ql,λ_ _=>QAj⟩
  | st::r=>(tS n Y st).bind λu=>(tSs n Y r).map λv=>⟨Qc u.1 v.1,λX k=>QwS (u.2 X k) (v.2 X k)⟩
end
end HN
namespace HN
open PySem PySem.Spec PyProof.Rows HS
section
variable {g:Gb}{k n:Nat}{x:Str}{st:Stmt}{ps:List Str}{Γ:List (Str×FnR)}{cs:List (Str×Cn)}{h:Heap}
def QtZ{qual:Str}{f:Addr}{cdv:Value}{A:Around}{s:Shared}{G:LA}(M:QkJ g.mg cs)(S:L2.Qfg (namesOf (L2.QB st)) ps (L2.QB st))(tab:Tab g k Γ)(hr:L2.Qc0 k (A.deeper (envOfC qual (L2.QB st) s.heap.objs.size f cdv))):Cxt (cxd g (namesOf (L2.QB st)) qual (L2.QB st) f cdv A s G) (QnT st Γ cs) where
 N:=rfl
 lc:=λx h=>QbH▸h
 ce:=λx h=>⟨QbH▸h,rfl⟩
 gl:=λx h=>QbH▸h
 fe:=λx h=>absurd rfl (S.nofree _ (ZaE (QbH▸h)))
 calm:=decide_eq_true hr.hd
 units:=hr.units
 mg:=M.bn
 cs:=M.cs
 fns:=λx r h=>⟨k,tab x r h,hr⟩
def QS(X:g.K.In h)(G:h.Ns mainGlobals g.mg)(F:Fact g.K x st)(S:L2.Qfg (namesOf (L2.QB st)) ps (L2.QB st))(B:Qw x st ps)(M:QkJ g.mg cs)(tab:Tab g k Γ)(u:Ts (QnT st Γ cs) (L2.Qck st)):Kn g (k+1) x ⟨ps.length,[],Qm (namesOf (L2.QB st)).length u.1⟩:=by
 obtain⟨f,fd,Fn,a⟩:=F.ex;exact⟨f,fd,ps,Qwr Fn S λcdv A s G hr=>u.2 _ (QtZ M S tab hr),rfl,ZcS X G a,Fn.kp,λm hm=>⟨[],Fn.binds (B ·),λex h=>by simpa using .nil⟩⟩
def QuK{mb:Str->Option Value}{fa a:Addr}{fd:FuncData}{s:Shared}{vs:List Value}{ns:List Int}{den:Den}{fr:Bool}(hg:g.base=s.heap)(KX:g.K.In s.heap)(hns:s.heap.Ns mainGlobals g.mg)(hb:s.heap.Ns builtinsNs mb)(hbb:∀x:Str,x≠ "__name__" ->mb x=bootBuiltins x)(hlim:s.heap.NoLimit)(hs:s.gens= #[])
  (ha:s.heap.get? a=some {cls:= .type "list",data:= .seq vs.toArray}) (hi:IntsAre vs ns) (hl:ns.length<=63) (hr:L2.Qc0 k callerA) (F:Fn g k fa fd [x] den) (hbi:∀(s:Shared) (u:Value),BindsTo s fd ⟨[u],[]⟩ [(x,u)]) (hd:den [.lst (ns.map .int)]=some (.bl true,fr)):
  codeAny (model g.P g.w) callerA (.call (.ref fa) ⟨[.ref a],[]⟩) (λr s'=>r= .ok (.ret (.bool true))/\OldK s.heap s'.heap/\s'.os=s.os/\AllBare s'.gens) s:=by
 have br:AllBare s.gens:=by rw[hs];exact AllBare.empty
 refine codeAny_mono (F (us:=[.ref a]) (ex:=[]) hr ⟨⟨hg▸KX,hg▸hns,⟨mb,hg▸hb,hbb⟩,hg▸hlim⟩,λb o e=>hg▸e,br,nm⟩ (hbi s _) (.Qd9 nofun (by rw[Zd];exact ZJ hl ∅) ha (Qg7 hi)) rfl hd) λr s' ⟨v,e,x,G,p,_⟩=>?_;subst e;rw[p.QeN];exact⟨rfl,.of_keep x.hp,x.os,x.br br⟩
def Qti{l:PySem.W.OpenLaw}{q:Program}{loose:List Str}{XP:(Str->Option Value)->Heap->Prop}{YP:World->Heap->Prop}{d:DefRec}{K:Params->PySem.W.Frag}{den:Den}
  (hn:l.most=some 63) (hdf:d.params.defaults=[]) (hr:L2.Qc0 k callerA) (hY:∀(w:World) (h:Heap),YP w h->(K w.params).In h)
  (hden:∀ns:List Int,ns.length<=63->(∀k:Nat,Builtin.Int.intBits (ns.getD k 0)<=2^20)->∃fr,den [.lst (ns.map .int)]=some (.bl true,fr))
  (F:∀(w:World) (mg:Str->Option Value) (fa:Addr) (h:Heap),(K w.params).In h->h.Ns mainGlobals mg->mg d.name=some (.ref fa)->∃fd:FuncData,(∀(s:Shared) (u:Value),BindsTo s fd ⟨[u],[]⟩ [(x,u)])/\∀base:Heap,Fn ⟨l.prog,w,K w.params,mg,base⟩ k fa fd [x] den):
  PySem.W.WalkO q loose XP YP l.row.toRowW d [] (λf vs=>PySem.call f vs):=by
 refine Qpi hn hdf λw s₀ s₁ mg mb fa o pm cd doc a vs ns G Y ho hd hcd hmg hobj hints hlen hlay hg=>?_;have KX:=hY w _ Y;obtain⟨fd,hb,hF⟩:=F w mg fa _ KX G.T.g hmg;obtain⟨fr,hfr⟩:=hden ns hlen (Qtc hlay);exact QuK (g:=⟨l.prog,w,K w.params,mg,s₁.heap⟩) rfl KX G.T.g G.T.b G.T.builtins G.T.nolimit hg hobj hints hlen hr (hF _) hb hfr
def QAt{P:Program}{w:World}{K:Fgg}{mg:Str->Option Value}{y:Str}{fa:Addr}(X:K.In h)(G:h.Ns mainGlobals mg)(hmg:mg x=some (.ref fa))(F:Fact K x st)(S:L2.Qfg (namesOf (L2.QB st)) [y] (L2.QB st))(B:Qw x st [y])(M:QkJ mg cs)(tab:∀base:Heap,Tab ⟨P,w,K,mg,base⟩ k Γ)(u:Ts (QnT st Γ cs) (L2.Qck st)):
  ∃fd:FuncData,(∀(s:Shared) (u:Value),BindsTo s fd ⟨[u],[]⟩ [(y,u)])/\∀base:Heap,Fn ⟨P,w,K,mg,base⟩ (k+1) fa fd [y] (Qm (namesOf (L2.QB st)).length u.1):=by
 obtain⟨f,fd,Fn,a⟩:=F.ex;cases hmg.symm.trans (ZcS X G a);refine⟨fd,λs u=>?_,λbase=>Qwr (g:=⟨P,w,K,mg,base⟩) Fn S λcdv A s G hr=>u.2 _ (QtZ (g:=⟨P,w,K,mg,base⟩) M S (tab base) hr)⟩;obtain⟨oc,od,kV,doc,pm,an,cdv,ct,osl,rfl,lk,hcd⟩:=Fn.ex;exact .of_eq (B kV doc pm an cdv ct [u] rfl)
end
end HN
namespace HS
open PySem L2
noncomputable def pairD(p:Int×Int):D:= .tup [.int p.1,.int p.2]
noncomputable def Qh(ns:List Int):D:= .lst (ns.map .int)
noncomputable def Qr(ps:Lpp):D:= .lst (ps.map pairD)
noncomputable def Qo(m:Int)(R L:Lpp):D:= .tup [.int m,Qr R,Qr L]
def Qbf{α:Type}{f:α->D}(h:∀a,(f a).flat=true):∀l:List α,Q3 (l.map f)=true
 | []=>rfl
 | a::l=>by simp[Q3,h a,Qbf h l]
@[simp] theorem QBs(i:Int):(D.int i).flat=true:=rfl
@[simp] theorem QBz(i:Bool):(D.bl i).flat=true:=rfl
@[simp] theorem QBo:D.non.flat=true:=rfl
@[simp] theorem QBc(x:Str):(D.str x).flat=true:=rfl
@[simp] theorem QBe(xs:List D):(D.tup xs).flat=Q3 xs:=rfl
@[simp] theorem QA5:Q3 []=true:=rfl
@[simp] theorem QAx(d:D)(ds:List D):Q3 (d::ds)=(d.flat && Q3 ds):=rfl
@[simp] theorem QA7(p:Int×Int):(pairD p).flat=true:=rfl
@[simp] theorem QA4(ns:List Int):(Qh ns).flat=false:=rfl
@[simp] theorem QAE(ns:Lpp):(Qr ns).flat=false:=rfl
@[simp] theorem QAo(ps:Lpp):Q3 (ps.map pairD)=true:=Qbf (λ_=>rfl) _
@[simp] theorem QkZ(ns:List Int):Q3 (ns.map .int)=true:=Qbf (λ_=>rfl) _
@[simp] theorem Qsx(xs ys:List D):Q3 (xs++ys)=(Q3 xs && Q3 ys):=Qd5 xs ys
def Run(f:DS)(J:En)(Q:Out->Prop):Prop:=∃o,f J=some o/\Q o
def Nx(Q:En->Prop):Out->Prop
 | .nx J=>Q J
 | _=>False
def Rt(Q:D->Bool->Prop):Out->Prop
 | .rt d fr=>Q d fr
 | _=>False
def Run.mono(h:Run f J Q)(m:∀o,Q o->Q' o):Run f J Q':=let ⟨o,h1,h2⟩:=h;⟨o,h1,m o h2⟩
def Qp(h:Q (.nx J)):Run Ql J Q:=⟨_,rfl,h⟩
def run_seq(h:Run f J (Nx λJ'=>Run g J' Q)):Run (Qc f g) J Q:=by
 obtain⟨o,h1,h2⟩:=h;cases o with
 | nx J'=>
  obtain⟨o',h3,h4⟩:=h2;exact⟨o',by simp[Qc,h1,h3],h4⟩
 | _=>exact False.elim h2
def Q6(h:Run f J λo=>match o with | .nx J'=>Run g J' Q | o=>Q o):Run (Qc f g) J Q:=by
 obtain⟨o,h1,h2⟩:=h;cases o with
 | nx J'=>
  obtain⟨o',h3,h4⟩:=h2;exact⟨o',by simp[Qc,h1,h3],h4⟩
 | bk J'=>exact⟨_,by simp[Qc,h1],h2⟩
 | ct J'=>exact⟨_,by simp[Qc,h1],h2⟩
 | rt d fr=>exact⟨_,by simp[Qc,h1],h2⟩
def QK(h:fa J=some r)(q:Q (.nx (asg i r J))):Run (Qv i fa) J Q:=⟨_,by simp[Qv,h],q⟩
def Qra(h:fa J=some r)(q:Q (.rt r.d (r.norm.fr && decide r.norm.M.Nodup))):Run (QM fa) J Q:=⟨_,by simp[QM,h],q⟩
def Q5(h:g J=some b)(q1:b=true->Run f1 J Q)(q2:b=false->Run f2 J Q):Run (sIf g f1 f2) J Q:=by
 cases b with
 | true=>obtain⟨o,h1,h2⟩:=q1 rfl;exact⟨o,by simp[sIf,h,h1],h2⟩
 | false=>obtain⟨o,h1,h2⟩:=q2 rfl;exact⟨o,by simp[sIf,h,h1],h2⟩
def QY(h:Run f (Qau k ds) (Rt λd' fr'=>d'=d/\fr'=fr)):Qm k f ds=some (d,fr):=by
 obtain⟨o,h1,h2⟩:=h;unfold Qm;cases o with
 | rt d' fr'=>obtain⟨rfl,rfl⟩:=h2;rw[h1];rfl
 | _=>exact False.elim h2
def Qpr{α:Type}{t:Tg}{fb:DS}{toD:α->D}{Q:Out->Prop}(I:Nat->En->Prop):∀(xs ys:List α) (J:En),I ys.length J→
  (∀i x J,(ys++xs)[i]? =some x->ys.length<=i->I i J->∃J1,Qca t (toD x) J=some J1/\Run fb J1 λo=>match o with | .nx J2=>I (i+1) J2 | .ct J2=>I (i+1) J2 | .bk J2=>Q (.nx J2) | .rt d fr=>Q (.rt d fr))→
  (∀J,I (ys++xs).length J->Q (.nx J))->Run (Qdp t fb (xs.map toD)) J Q
 | [],ys,J,h0,_,fin=>⟨_,rfl,fin J (by simpa using h0)⟩
 | x::xs,ys,J,h0,turn,fin=>by
  obtain⟨J1,h1,o,h2,h3⟩:=turn ys.length x J ⋯ (Zt _) h0;have next:∀J2,I (ys.length+1) J2->Run (Qdp t fb (xs.map toD)) J2 Q:=λJ2 hi=>
   Qpr I xs (ys++[x]) J2 (by simpa using hi) (λi y J' e hl=>turn i y J' (by simpa using e) (by simp at hl;lia)) (λJ' h=>fin J' (by simpa using h))
  cases o with
  | nx J2=>obtain⟨o',e1,e2⟩:=next J2 h3;exact⟨o',by simp[Qdp,h1,h2,e1],e2⟩
  | ct J2=>obtain⟨o',e1,e2⟩:=next J2 h3;exact⟨o',by simp[Qdp,h1,h2,e1],e2⟩
  | bk J2=>exact⟨_,by simp[Qdp,h1,h2],h3⟩
  | rt d fr=>exact⟨_,by simp[Qdp,h1,h2],h3⟩
def Qaa{α:Type}{fi:DI}{t:Tg}{fb:DS}{toD:α->D}{J:En}{ir:IR}{Q:Out->Prop}(xs:List α)(I:Nat->En->Prop)(h:fi J=some ir)(hx:ir.items=xs.map toD)(h0:I 0 (QaT ir.M J))
  (turn:∀i x J,xs[i]? =some x->I i J->∃J1,Qca t (toD x) J=some J1/\Run fb J1 λo=>match o with | .nx J2=>I (i+1) J2 | .ct J2=>I (i+1) J2 | .bk J2=>Q (.nx J2) | .rt d fr=>Q (.rt d fr))
  (fin:∀J,I xs.length J->Q (.nx J)):Run (QaU fi t fb) J Q:=by
 obtain⟨o,h1,h2⟩:=Qpr (t:=t) (fb:=fb) (toD:=toD) (Q:=Q) I xs [] (QaT ir.M J) h0 (λi x J e _=>turn i x J (by simpa using e)) (λJ h=>fin J (by simpa using h));exact⟨o,by simp[QaU,h,hx,h1],h2⟩
def Qmz{α:Type}{t:Tg}{ft:DT}{fe:DE}{Jc:En}{toD:α->D}{keep:α->Bool}{out:α->D}:∀(xs:List α) (acc:List D),
  (∀x∈xs,∃J1,Qca t (toD x) Jc=some J1/\ft J1=some (keep x)/\(keep x=true->∃r,fe J1=some r/\r.d=out x/\r.norm.fr=true))→
  (xs.map toD).foldlM (QdG t ft fe Jc) (acc,true)=some (acc++(xs.filter keep).map out,true)
 | [],acc,_=>by simp
 | x::xs,acc,h=>by
  obtain⟨J1,h1,h2,h3⟩:=h x Zv;have ih:=λacc=>Qmz xs acc (λy hy=>h y (ZE _ hy));cases hk:keep x with
  | false=>
   have e:QdG t ft fe Jc (acc,true) (toD x)=some (acc,true):=by simp[QdG,h1,h2,hk]
   simp[ZbH,e,ih,hk]
  | true=>
   obtain⟨r,h4,h5,h6⟩:=h3 hk;have e:QdG t ft fe Jc (acc,true) (toD x)=some (acc++[out x],true):=by simp[QdG,h1,h2,hk,h4,h5,h6]
   simp[ZbH,e,ih,hk]
def QdS{α:Type}{fi:DI}{t:Tg}{cap:List (Option Nat)}{ft:DT}{fe:DE}{J:En}{ir:IR}{toD:α->D}{keep:α->Bool}{out:α->D}(xs:List α)(h:fi J=some ir)(hx:ir.items=xs.map toD)
  (turn:∀x∈xs,∃J1,Qca t (toD x) (QdF cap J)=some J1/\ft J1=some (keep x)/\(keep x=true->∃r,fe J1=some r/\r.d=out x/\r.norm.fr=true)):
  QO fi t cap ft fe J=some ⟨.lst ((xs.filter keep).map out),true,[]⟩:=by
 unfold QO;rw[h,Za,hx,Qmz xs [] turn];simp
def QR{α:Type}{fi:DI}{t:Tg}{cap:List (Option Nat)}{fe:DE}{J:En}{ir:IR}{toD:α->D}{out:α->D}(xs:List α)(h:fi J=some ir)(hx:ir.items=xs.map toD)
  (turn:∀x∈xs,∃J1,Qca t (toD x) (QdF cap J)=some J1/\∃r,fe J1=some r/\r.d=out x/\r.norm.fr=true):
  QO fi t cap Qac fe J=some ⟨.lst (xs.map out),true,[]⟩:=by
 have:=QdS (keep:=λ_=>true) (ft:=Qac) xs h hx (cap:=cap) (t:=t) (fe:=fe) (out:=out) λx hx=>by
  obtain⟨J1,h1,h2⟩:=turn x hx;exact⟨J1,h1,rfl,λ_=>h2⟩
 rw[this,Zci.mpr λ_ _=>rfl]
@[simp] theorem QBt(d:D):R.norm ⟨d,true,[]⟩=⟨d,true,[]⟩:=by unfold R.norm;split<;>rfl
@[simp] theorem QaK(i:Nat)(d:D)(J:En):asg i ⟨d,true,[]⟩ J=J.set i (some (d,true)):=by unfold asg;simp[kill]
def rsa{i:Nat}{fa:DE}{g:DS}{J:En}{d:D}{Q:Out->Prop}(h:fa J=some ⟨d,true,[]⟩)(q:Run g (J.set i (some (d,true))) Q):Run (Qc (Qv i fa) g) J Q:=run_seq (QK h (by rw[QaK];exact q))
def QcC{n k k1:Nat}(h:(List.range n)[k]? =some k1):k<n/\k=k1:=by
 obtain⟨h1,h2⟩:=Zi.mp h;simp at h1 h2;exact⟨h1,h2⟩
def Qda{i:Nat}{d:D}{fr:Bool}{M:List Nat}{J:En}(h:d.flat=true):asg i ⟨d,fr,M⟩ J=J.set i (some (d,true)):=by
 unfold asg R.norm;simp[h,kill]
def Qid{i:Nat}{d:D}{M:List Nat}{J:En}(h:d.flat=false):asg i ⟨d,false,M⟩ J=(QaT M J).set i (some (d,false)):=by
 unfold asg R.norm;simp[h]
def Qcg{i:Nat}{J:En}{d:D}{b:Bool}(h:J[i]? =some (some (d,b))):Qn i J=some (if d.flat then⟨d,true,[]⟩else if b then⟨d,true,[i]⟩else⟨d,false,[]⟩):=by
 unfold Qn;rw[h];dsimp only;split
 .simp_all
 .split<;>simp_all
@[simp] theorem Qus(d:D)(J:En):dC d J=some ⟨d,true,[]⟩:=rfl
def Q4{g:D->D->Option D}{fa fb:DE}{J:En}{ra rb:R}{d:D}(ha:fa J=some ra)(hb:fb J=some rb)(h:g ra.d rb.d=some d):dOp g fa fb J=some ⟨d,true,[]⟩:=by simp[dOp,ha,hb,h]
def Qt{fa:DE}{fs:DA}{J:En}{r:R}{rs:RA}(ha:fa J=some r)(hs:fs J=some rs):Qa fa fs J=some ⟨r.d::rs.ds,r.fr && rs.fr,r.M++rs.M⟩:=by simp[Qa,ha,hs]
@[simp] theorem QP(J:En):Qe J=some ⟨[],true,[]⟩:=rfl
@[simp] theorem Qo1(i j:Int)(h:0<=j):QdI i j=i % j:=by unfold QdI;rw[if_pos h]
@[simp] theorem Qg0(i j:Int)(h:0<=j):Qd8 i j=i / j:=by unfold Qd8;rw[if_pos h]
def Qex{i j:Int}(h:i.natAbs<2^64):QeI i j=true:=by unfold QeI;simp[h]
def Qfh{i j:Int}(h:j.natAbs<2^64):QeI i j=true:=by unfold QeI;simp[h]
def QiP{i j:Int}(h1:Builtin.Int.intBits i<=2^20)(h2:Builtin.Int.intBits j<=2^20):QeI i j=true:=by
 unfold QeI;rw[decide_eq_true h1,decide_eq_true h2,Bool.and_self,Bool.or_true]
def QbD:(sizeLine:Nat)=16777216:=sizeLine_eq
noncomputable def Qd(m:Nat)(f:Mt1):D:= .lst ((List.range m).map λi=> .int (f i))
noncomputable def Qz(m n:Nat)(f:Mt2):D:= .lst ((List.range m).map λi=>Qd n (f i))
@[simp] theorem QBq(m:Nat)(f:Mt1):(Qd m f).flat=false:=rfl
@[simp] theorem QBd(m n:Nat)(f:Mt2):(Qz m n f).flat=false:=rfl
@[simp] theorem QA6(m:Nat)(f:Mt1):Q3 ((List.range m).map λi=>D.int (f i))=true:=Qbf (f:=λi=>D.int (f i)) (λ_=>rfl) _
noncomputable def up(f:Mt1)(i:Nat)(v:Int):Nat->Int:=λj=>if j=i then v else f j
noncomputable def up2(f:Mt2)(i j:Nat)(v:Int):Nat->Nat->Int:=λk=>if k=i then up (f k) j v else f k
def QdY{n:Nat}{i:Int}(h0:0<=i)(h:i<n):ixN n i=some i.toNat:=by
 unfold ixN;rw[if_pos ⋯,if_pos ⋯]
def QdQ{α:Type}{xs:List α}{i:Int}(h0:0<=i)(h:i<xs.length):atI xs i=xs[i.toNat]? :=by
 unfold atI;rw[QdY h0 h];rfl
def QeW{α:Type}{m:Nat}{f:Nat->α}{i:Nat}{v:α}:((List.range m).map f).set i v=(List.range m).map λj=>if j=i then v else f j:=by
 apply Zaq;intro k;rw[Zco];simp only[Zd,ZD,Zk];by_cases hk:k<m
 .rw[ZQ hk];by_cases e:i=k
  .subst e;simp[hk]
  .simp[e,Ne.symm e]
 .rw[Zz (by simp;lia)];by_cases e:i=k
  .subst e;simp[hk]
  .simp[e]
def QlN{m:Nat}{f:Mt1}{i:Nat}{v:Int}:((List.range m).map λj=>D.int (f j)).set i (.int v)=(List.range m).map λj=>D.int (up f i v j):=by
 rw[QeW];congr 1;funext j;unfold up;split<;>rfl
def Qqu{m:Nat}{f:Mt1}{i:Int}(h0:0<=i)(h:i<m):atI ((List.range m).map λj=>D.int (f j)) i=some (.int (f i.toNat)):=by
 rw[QdQ h0 (by simpa using h),Zk,ZQ ⋯];rfl
def Qrf{m n:Nat}{f:Mt2}{i:Int}(h0:0<=i)(h:i<m):atI ((List.range m).map λj=>Qd n (f j)) i=some (Qd n (f i.toNat)):=by
 rw[QdQ h0 (by simpa using h),Zk,ZQ ⋯];rfl
def Qow{x m:Nat}{f:Mt1}{fi fa:DE}{J:En}{i:Int}{v:Int}{ri ra:R}{Q:Out->Prop}(hx:J[x]? =some (slT (Qd m f)))(hi:fi J=some ri)(ei:ri.d= .int i)(ha:fa J=some ra)(ea:ra.d= .int v)(h0:0<=i)(h:i<m)
  (q:Q (.nx (J.set x (slT (Qd m (up f i.toNat v)))))):Run (QdN x Q8 fi fa) J Q:=by
 refine⟨_,?_,q⟩;have hn:ra.norm=(reI v):=by unfold R.norm;rw[ea];rfl
 unfold QdN;rw[ha,Za,hx];simp only[Q8,Za,hi,ei,Qak,Qd,Zd,ZD,QdY h0 h,hn,ea,Qa2,QlN];simp[kill]
def Quz{g:D->D->Option D}{x m:Nat}{f:Mt1}{fi fa:DE}{J:En}{i w:Int}{ri ra:R}{Q:Out->Prop}(hx:J[x]? =some (slT (Qd m f)))(hi:fi J=some ri)(ei:ri.d= .int i)(ha:fa J=some ra)(h0:0<=i)(h:i<m)
  (hg:g (.int (f i.toNat)) ra.d=some (.int w)) (q:Q (.nx (J.set x (slT (Qd m (up f i.toNat w)))))):Run (QeD g x Q8 fi fa) J Q:=by
 refine⟨_,?_,q⟩;have hj:((List.range m).map λj=>D.int (f j))[i.toNat]? =some (.int (f i.toNat)):=by rw[Zk,ZQ ⋯];rfl
 unfold QeD;rw[hx];simp only[Q8,Za,hi,ei,Qak,Qd,Zd,ZD,QdY h0 h,hj,ha,hg,Qa2,QlN,Zag]
def QpJ{g:D->D->Option D}{x m n:Nat}{f:Mt2}{fp fi fa:DE}{J:En}{i j w:Int}{rp ri ra:R}{Q:Out->Prop}(hx:J[x]? =some (slT (Qz m n f)))(hp:fp J=some rp)(ep:rp.d= .int i)(hi:fi J=some ri)(ei:ri.d= .int j)(ha:fa J=some ra)
  (h0:0<=i) (h:i<m) (k0:0<=j) (k:j<n) (hg:g (.int (f i.toNat j.toNat)) ra.d=some (.int w)) (q:Q (.nx (J.set x (slT (Qz m n (up2 f i.toNat j.toNat w)))))):Run (QeD g x (Qe4 Q8 fp) fi fa) J Q:=by
 refine⟨_,?_,q⟩;have hj:((List.range n).map λk=>D.int (f i.toNat k))[j.toNat]? =some (.int (f i.toNat j.toNat)):=by rw[Zk,ZQ ⋯];rfl
 have hd:Qak (Qz m n f) [i]=some (Qd n (f i.toNat)):=by
  simp only[Qak,Qz,D.items,Za,Qrf h0 h]
 have hu:Qa2 [i] (Qz m n f) (.lst (((List.range n).map λk=>D.int (f i.toNat k)).set j.toNat (.int w)))=Qz m n (up2 f i.toNat j.toNat w):=by
  simp only[Qa2,Qz,Zd,ZD,QdY h0 h,QlN];rw[QeW];congr 2;funext k;unfold up2;split
  .rename_i e;subst e;rfl
  .rfl
 unfold QeD;rw[hx];simp only[Qe4,Q8,Za,hp,ep,ZcM,hi,ei,hd,Qd,Zd,ZD,QdY k0 k,hj,ha,hg,Zag];rw[hu]
def Qbn{n:Nat}(h:fa J=some r)(e:r.d= .int n)(hn:n<=16777216):Qa1 fa J=some ⟨(List.range n).map λ(k:Nat)=> .int (k:Int),[]⟩:=by
 unfold Qa1;rw[h,Za,e];dsimp only;rw[if_pos ⟨⋯,⋯⟩];simp[QjG]
def QlV{α:Type}(x:α):∀n:Nat,(List.replicate n [x]).flatten=(List.range n).map λ_=>x
 | 0=>rfl
 | n+1=>by
  rw[ZaT,Zbk,QlV x n,ZbU,Zy,ZN];rfl
def Qia{n:Nat}(h:fb J=some r)(e:r.d= .int n)(hn:n<=16777216):Qai (Q0 (Qa (dC (.int z)) Qe)) fb J=some (reT (Qd n (λ_=>z))):=by
 have h1:Q0 (Qa (dC (.int z)) Qe) J=some (reT (.lst [.int z])):=rfl;unfold Qai;rw[h1,Za,h,Za,e];dsimp only;rw[if_pos ⟨by simp[QbD];lia,⋯,⋯,rfl⟩];simp only[ZC,QlV];rfl
noncomputable def QlD:DS:=(Qc (Qv 2 (QO (Q7 vv0) (.tp [1,2]) [none,none,none] Qac (QaQ (Qa vv1 (Qa vv2 Qe))))) (Qc (Qv 3 (QO (Q7 vv0) (.tp [1,2]) [none,none,none] Qac (QaQ (Qa vv2 (Qa vv1 Qe))))) (Qc (QM (QJ (QJ vv2 vv3) (dList (Qa vv1 Qe)))) Ql)))
def QiB(ha:fa J=some ra)(ea:ra.d=Qr A)(hb:fb J=some rb)(eb:rb.d=Qr B)(hl:A.length+B.length<=16777216):QJ fa fb J=some (reT (Qr (A++B))):=by
 unfold QJ;rw[ha,Za,hb,Za,ea,eb];simp only[Qr,Zd,QbD,if_pos hl,Qa7];simp
def QuP(h:fs J=some rs)(e:rs.ds=[Qr A])(_:True=True):dList fs J=some (reT (Qr A)):=by
 unfold dList;rw[h,Za,e];simp[Qr,Qa7]
def Qy(h:fa J=some r)(q:Q r.d (r.norm.fr && decide r.norm.M.Nodup)):Run (Qc (QM fa) g) J (Rt Q):=Q6 (Qra h q)
def Qmx{R L:Lpp}(hl:R.length+R.length+L.length<=16777216):Qm 4 QlD [Qr R,Qr L]=slT (Qr (R++R.map Prod.swap++L)):=by
 refine QY ?_;refine run_seq (QK (QR R rfl rfl λx _=>⟨[none,slI x.1,slI x.2],rfl,⟨pairD x,true,[]⟩,rfl,rfl,rfl⟩) ?_);refine run_seq (QK (QR R rfl rfl λx _=>⟨[none,slI x.1,slI x.2],rfl,⟨pairD x.swap,true,[]⟩,rfl,rfl,rfl⟩) ?_);have e1:(R.map λx=>pairD x.swap)=(R.map Prod.swap).map pairD:=by simp[ZN,Function.comp_def]
 rw[e1];exact Qy (QiB (QiB rfl rfl rfl rfl (by simpa using(by lia:R.length+R.length<=16777216))) rfl (QuP rfl rfl rfl) rfl (by simpa using hl)) ⟨rfl,rfl⟩
def Qu(h:fs J=some r)(hd:den (r.ds++dfl)=some (d,true))(hl:r.ds.length+dfl.length=n):Qs n den dfl fs J=some ⟨d,true,[]⟩:=by
 unfold Qs;rw[h,Za,if_pos hl,hd];simp
def Qae(h:fa J=some r)(e:r.d= .lst xs):Q7 fa J=some ⟨xs,r.M⟩:=by
 unfold Q7;rw[h,Za,e]
noncomputable def stepT(m:Nat)(f:Mt2)(s:Int×Int):Nat->Nat->Int:=
 let f1:=if s.1<m then up2 f s.1.toNat s.1.toNat (f s.1.toNat s.1.toNat-1)else f
 if s.1<m/\s.2<m then up2 f1 s.1.toNat s.2.toNat (f1 s.1.toNat s.2.toNat+1)else f1
noncomputable def Qg(m:Nat)(S:Lpp):Nat->Nat->Int:=S.foldl (stepT m) λ_ _=>0
noncomputable def QfI(Qch:Den):DS:=(Qc (Qv 1 (Qbi (Qk vv0 kk0))) (Qc (Qv 2 (QO (Qa1 vv1) (.nm 1) [none,none,some 1] Qac (Qai (Q0 (Qa kk0 Qe)) vv2))) (Qc (QaU (Q7 (Qs 2 Qch [] (Qa (Qk vv0 kk1) (Qa (Qk vv0 kk2) Qe)))) (.tp [3,4]) (Qc (sIf (QA (dOp gLt vv3 vv1)) (Qc (QeD Qbo 2 (Qe4 Q8 vv3) vv3 kk1) Ql) Ql) (Qc (sIf (Qh7 (QA (dOp gLt vv3 vv1)) (QA (dOp gLt vv4 vv1))) (Qc (QeD (gI λi j=>some (.int (i+j))) 2 (Qe4 Q8 vv3) vv4 kk1) Ql) Ql) Ql))) (Qc (QM vv2) Ql))))
def Qur{Qch:Den}{m:Nat}{R L S:Lpp}(hm:m<=16777216)(hs:Qch [Qr R,Qr L]=slT (Qr S))(hS:∀s∈S,0<=s.1/\0<=s.2):Qm 5 (QfI Qch) [Qo m R L]=slT (Qz m m (Qg m S)):=by
 refine QY ?_;refine run_seq (QK rfl ?_);refine run_seq (QK (QR (List.range m) (Qbn rfl rfl hm) rfl λx _=>⟨[none,slI x,slI m],rfl,_,Qia rfl rfl hm,rfl,rfl⟩) ?_);refine run_seq (Qaa S (λi J=>∃j1 j2,J=[slF (Qo m R L),slI m,slT (Qz m m (Qg m (S.take i))),j1,j2]) (ir:=⟨S.map pairD,[]⟩) ?_ rfl ⟨none,none,rfl⟩ ?_ ?_)
 .exact Qae (Qu (r:=⟨[Qr R,Qr L],false,[]⟩) rfl hs rfl) rfl
 .rintro i s J hi ⟨j1,j2,rfl⟩;refine⟨_,rfl,?_⟩;obtain⟨s1,s2⟩:=hS s (Zu hi);refine run_seq (Run.mono (Q:=Nx λJ=>J=[slF (Qo m R L),slI m,slT (Qz m m (if s.1<m then up2 (Qg m (S.take i)) s.1.toNat s.1.toNat (Qg m (S.take i) s.1.toNat s.1.toNat-1)else Qg m (S.take i))),slI s.1,slI s.2]) ?_ ?_)
  .refine Q5 rfl (λh=>?_) (λh=>?_)
   .have h:=of_decide_eq_true h;rw[if_pos h];exact run_seq (QpJ rfl rfl rfl rfl rfl rfl s1 h s1 h rfl (Qp rfl))
   .have h:=of_decide_eq_false h;rw[if_neg h];exact Qp rfl
  .intro o ho;cases o with
   | nx J=>
    subst ho;have fin:Qg m (S.take (i+1))=stepT m (Qg m (S.take i)) s:=by
     unfold Qg;rw[Zcq,hi,List.foldl_append];rfl
    refine run_seq (Run.mono (Q:=Nx λJ=>J=[slF (Qo m R L),slI m,slT (Qz m m (stepT m (Qg m (S.take i)) s)),slI s.1,slI s.2]) ?_ ?_)
    .refine Q5 (b:=decide (s.1<m/\s.2<m)) ?_ (λh=>?_) (λh=>?_)
     .by_cases h:s.1<(m:Int)
      .simp[Qh7,QA,dOp,Qn,gLt,gI,D.tru,h]
      .simp[Qh7,QA,dOp,Qn,gLt,gI,D.tru,h]
     .have h:=of_decide_eq_true h;refine run_seq (QpJ rfl rfl rfl rfl rfl rfl s1 h.1 s2 h.2 rfl (Qp ?_));unfold stepT;rw[if_pos h];rfl
     .have h:=of_decide_eq_false h;refine Qp ?_;unfold stepT;rw[if_neg h];rfl
    .intro o ho;cases o with
     | nx J=>
      subst ho;exact Qp ⟨_,_,by rw[fin]⟩
     | _=>exact False.elim ho
   | _=>exact False.elim ho
 .rintro J ⟨j1,j2,rfl⟩;rw[Zbc];exact Qy rfl ⟨rfl,rfl⟩
noncomputable def hit(i j:Nat)(s:Int×Int):Int:=(if s.1=i/\s.2=j then 1 else 0)-(if s.1=i/\i=j then 1 else 0)
def Qqs:up2 f a b v i j=if i=a/\j=b then v else f i j:=by
 unfold up2 up;by_cases h1:i=a
 .by_cases h2:j=b
  .simp[h1,h2]
  .simp[h1,h2]
 .simp[h1]
def Qs6(hi:i<m)(hj:j<m)(h1:0<=s.1)(h2:0<=s.2):stepT m f s i j=f i j+hit i j s:=by
 unfold stepT hit;have e1:(s.1=(i:Int))↔(i=s.1.toNat):= ⋯
 have e2:(s.2=(j:Int))↔(j=s.2.toNat):= ⋯
 simp only[e1,e2];by_cases c1:s.1<(m:Int)
 .by_cases c2:s.2<(m:Int)
  .simp only[c1,c2,and_self,if_true,Qqs];generalize s.1.toNat=a;generalize s.2.toNat=b;by_cases d1:i=a
   .subst d1;by_cases d2:j=b
    .subst d2;by_cases d3:i=j
     .subst d3;simp
     .have d4:¬j=i:=λz=>d3 z.symm;simp[d3,d4]
    .by_cases d3:i=j
     .subst d3;simp[d2];lia
     .have d4:¬j=i:=λz=>d3 z.symm;simp[d2,d3,d4]
   .simp[d1]
  .have d2:¬(j=s.2.toNat):= ⋯
   simp only[c1,c2,and_false,if_false,if_true,Qqs,d2];generalize s.1.toNat=a;by_cases d1:i=a
   .subst d1;by_cases d3:i=j
    .subst d3;simp;lia
    .have d4:¬j=i:=λz=>d3 z.symm;simp[d3,d4]
   .simp[d1]
 .have d1:¬(i=s.1.toNat):= ⋯
  simp[c1,d1]
def Qme(hi:i<m)(hj:j<m):∀(S:Lpp) (f:Mt2),(∀s∈S,0<=s.1/\0<=s.2)->S.foldl (stepT m) f i j=f i j+(S.map (hit i j)).sum
 | [],f,_=>by simp
 | s::S,f,h=>by
  obtain⟨h1,h2⟩:=h s Zv;rw[ZbN,Qme hi hj S _ (λt ht=>h t (ZE _ ht)),Qs6 hi hj h1 h2,Zy,Zab];lia
def Qb5(hi:i<m)(hj:j<m)(h:∀s∈S,0<=s.1/\0<=s.2):Qg m S i j=(S.map (hit i j)).sum:=by
 unfold Qg;rw[Qme hi hj S _ h];simp
noncomputable def isI(i:Nat)(a:Int):Int:=if a=i then 1 else 0
noncomputable def QI(R L:Lpp)(i:Nat):Int:=(R.map λr=>isI i r.1+isI i r.2).sum+(L.map λl=>isI i l.1).sum
def sum_neg(S:Lpp)(i:Nat)(h:∀s∈S,s.1≠s.2):(S.map (hit i i)).sum= -(S.map λs=>isI i s.1).sum:=by
 induction S with
 | nil=>rfl
 | cons s S ih=>
  rw[Zy,Zab,ih λt ht=>h t (ZE _ ht),Zy,Zab];have hn:=h s Zv;unfold hit isI;by_cases e:s.1=(i:Int)
  .have:¬(s.2=(i:Int)):=λz=>hn (e.trans z.symm);simp[e,this];lia
  .simp[e]
noncomputable def Qb(R L:Lpp):List (Int×Int):=R++R.map Prod.swap++L
def QmL(R L:Lpp)(i:Nat):((Qb R L).map λs=>isI i s.1).sum=QI R L i:=by
 unfold Qb QI;rw[ZO,ZO,Zbo,Zbo];have:(R.map λr=>isI i r.1+isI i r.2).sum=(R.map λs=>isI i s.1).sum+((R.map Prod.swap).map λs=>isI i s.1).sum:=by
  induction R with
  | nil=>rfl
  | cons r R ih=>simp only[Zy,Zab,ih,Zcv];lia
 lia
def Good(m:Nat)(s:Int×Int):Prop:=0<=s.1/\0<=s.2/\s.1<=m/\s.2<=m/\s.1≠s.2
def QaP{m:Nat}{R L:Lpp}(hR:∀s∈R,Good m s)(hL:∀s∈L,Good m s):∀s∈Qb R L,Good m s:=λs hs=>by
 unfold Qb at hs;rcases Zf.mp hs with hs | hs
 .rcases Zf.mp hs with hs | hs
  .exact hR s hs
  .obtain⟨t,ht,rfl⟩:=Zs.mp hs;obtain⟨h1,h2,h3,h4,h5⟩:=hR t ht;exact⟨h2,h1,h4,h3,λz=>h5 z.symm⟩
 .exact hL s hs
def QeP(d:Den):Prop:=∀(m:Nat) (R L:Lpp),m<=1000->R.length+R.length+L.length<=1000000->(∀s∈R,Good m s)->(∀s∈L,Good m s)->d [Qo m R L]=some (Qz m m (Qg m (Qb R L)),true)
def QxC:QeP (Qm 5 (QfI (Qm 4 QlD))):=λm R L hm hl hR hL=>by
 refine Qur ⋯ (Qmx ⋯) λs hs=>?_;obtain⟨h1,h2,_⟩:=QaP hR hL s hs;exact⟨h1,h2⟩
noncomputable def Qgf(QX:Den):DS:=(Qc (QM (QO (Qcj (Qs 1 QX [] (Qa vv0 Qe))) (.tp [1,2]) [none,none,none] Qac (dOp Qbo kk0 (Qk vv2 vv1)))) Ql)
def QgP{α:Type}(m:Nat)(f:Nat->D):Qdu ((List.range m).map f)=(List.range m).map λi=> .tup [.int i,f i]:=by
 apply Zaq;intro k;unfold Qdu;simp only[Zk,Zcc,ZaW];by_cases hk:k<m
 .rw[ZQ hk];rfl
 .rw[Zz (by simp;lia)];rfl
def Qvo{d:Den}(hd:QeP d){m:Nat}{R L:Lpp}(hm:m<=1000)(hl:R.length+R.length+L.length<=1000000)(hR:∀s∈R,Good m s)(hL:∀s∈L,Good m s):Qm 1 (Qgf d) [Qo m R L]=slT (Qd m (QI R L)):=by
 refine QY ?_;refine Qy (QR (toD:=λ(i:Nat)=> .tup [.int i,Qd m (Qg m (Qb R L) i)]) (out:=λ(i:Nat)=> .int (QI R L i)) (ir:=⟨Qdu ((List.range m).map λi=>Qd m (Qg m (Qb R L) i)),[]⟩) (List.range m) ?_ ?_ λi hi=>?_) ⟨rfl,rfl⟩
 .unfold Qcj;rw[Qu (n:=1) (fs:=Qa (Qn 0) Qe) (J:=Qau 1 [Qo m R L]) (dfl:=[]) (r:=⟨[Qo m R L],false,[]⟩) rfl (hd m R L hm hl hR hL) rfl];rfl
 .exact QgP (α:=Nat) m _
 .have hi:=Zb.mp hi;refine⟨[none,slI i,slF (Qd m (Qg m (Qb R L) i))],rfl,reI (0-Qg m (Qb R L) i i),?_,?_,rfl⟩
  .have e:Qk (Qn 2) (Qn 1) [none,slI (i:Int),slF (Qd m (Qg m (Qb R L) i))]=some (reI (Qg m (Qb R L) i i)):=by
    show((D.items (Qd m (Qg m (Qb R L) i))).bind λxs=>(atI xs (i:Int)).map λd=>(HS.R.norm ⟨d,false,[]⟩))=_;unfold Qd;rw[show D.items (.lst ((List.range m).map λj=>D.int (Qg m (Qb R L) i j)))=some ((List.range m).map λj=>D.int (Qg m (Qb R L) i j))from rfl,Za,Qqu ⋯ ⋯];rfl
   exact Q4 (rfl) e rfl
  .have g:=QaP hR hL;rw[Qb5 hi hi λs hs=>⟨(g s hs).1,(g s hs).2.1⟩,sum_neg _ i λs hs=>(g s hs).2.2.2.2,QmL];show D.int (0- -(QI R L i))=_;rw[show(0:Int)- -(QI R L i)=QI R L i by lia]
def Qev(a b:Int):deq (.int a) (.int b)=decide (a=b):=by
 show PyData.eqv (.int a) (.int b)=_;unfold PyData.eqv;exact Bool.beq_eq_decide_eq a b
def Qgt(ha:fa J=some ra)(ea:ra.d= .int a)(hb:fb J=some rb)(eb:rb.d= .int b):dOp gEq fa fb J=some (reT (.bl (decide (a=b)))):=by
 refine Q4 ha hb ?_;rw[ea,eb];show some (D.bl (deq (.int a) (.int b)))=_;rw[Qev]
def QdC(ha:fa J=some ra)(ea:ra.d= .int a)(hb:fb J=some rb)(eb:rb.d= .int b):dOp gNe fa fb J=some (reT (.bl (!decide (a=b)))):=by
 refine Q4 ha hb ?_;rw[ea,eb];show some (D.bl (!deq (.int a) (.int b)))=_;rw[Qev]
def QzB(ha:fa J=some (reT (.bl a)))(hb:fb J=some (reT (.bl b))):Qhf fa fb J=some (reT (.bl (a && b))):=by
 unfold Qhf;rw[ha];cases a<;>simp[D.tru,hb]
def QC(ha:fa J=some r)(e:r.d= .bl b):QA fa J=some b:=by
 unfold QA;rw[ha,Za,e];rfl
def Qc7(h:g J=some b):QdJ g J=some (!b):=by unfold QdJ;rw[h];rfl
def Qd2(ha:g1 J=some a)(hb:g2 J=some b):bOr g1 g2 J=some (a || b):=by
 unfold bOr;rw[ha];cases a<;>simp[hb]
def Qyu(ha:g1 J=some a)(hb:g2 J=some b):Qh7 g1 g2 J=some (a && b):=by
 unfold Qh7;rw[ha];cases a<;>simp[hb]
def Qbh(ha:fa J=some ra)(ea:ra.d= .int a)(hb:fb J=some rb)(eb:rb.d= .int b)(h:QeI a b=true):Qai fa fb J=some (reI (a*b)):=by
 unfold Qai;rw[ha,Za,hb,Za,ea,eb];simp[h]
def Qao(ha:fa J=some ra)(ea:ra.d= .int a)(hb:fb J=some rb)(eb:rb.d= .int b):QJ fa fb J=some (reI (a+b)):=by
 unfold QJ;rw[ha,Za,hb,Za,ea,eb]
def QbT(ha:fa J=some ra)(ea:ra.d= .int a)(hb:fb J=some rb)(eb:rb.d= .int b)(h:0<b):dOp QbE fa fb J=some (reI (a % b)):=by
 refine Q4 ha hb ?_;rw[ea,eb];show(if b≠0 then some (D.int (QdI a b))else none)=_;rw[if_pos ⋯,Qo1 _ _ ⋯]
def QyS(ha:fa J=some ra)(ea:ra.d= .int a)(hb:fb J=some rb)(eb:rb.d= .int b)(h:0<b)(h2:b<2^64):dOp QdM fa fb J=some (reI (a / b)):=by
 refine Q4 ha hb ?_;rw[ea,eb];have:Qb9 b=true:=by
  unfold Qb9;have h3:b.natAbs<2^8000:=Zbe (by lia:b.natAbs<2^64) (ZY ∅ ∅);simp only[Zl,decide_eq_true_eq];exact⟨⋯,h3⟩
 show(if Qb9 b=true then some (D.int (Qd8 a b))else none)=_;rw[if_pos this,Qg0 _ _ ⋯]
def Qem(h:fa J=some r):Qbi fa J=some ⟨r.d,false,r.M⟩:=by unfold Qbi;rw[h];rfl
def QxT{fa fb:DE}{J:En}{ra rb:R}{m:Nat}{f:Mt1}{i:Int}(ha:fa J=some ra)(ea:ra.d=Qd m f)(hb:fb J=some rb)(eb:rb.d= .int i)(h0:0<=i)(h:i<m):Qk fa fb J=some (reI (f i.toNat)):=by
 unfold Qk;rw[ha,Za,hb,Za,ea,eb];simp only[Qd,D.items,Za,Qqu h0 h,Zag];rfl
def Qdx{fa fb:DE}{J:En}{ra rb:R}{ns:List Int}{i:Int}{v:Int}(ha:fa J=some ra)(ea:ra.d= .lst (ns.map .int))(hb:fb J=some rb)(eb:rb.d= .int i)(h0:0<=i)(h:ns[i.toNat]? =some v):Qk fa fb J=some (reI v):=by
 have hl:i<ns.length:=by have:=(Zi.mp h).1;lia
 unfold Qk;rw[ha,Za,hb,Za,ea,eb];simp only[D.items,Za];rw[QdQ h0 (by simpa using hl),Zk,h];rfl
noncomputable def QhI:DS:=(Qc (QM (Qhf (Qll "int" vv0) (Qu0 (Qll "bool" vv0)))) Ql)
def Qiy(d:Den):Prop:=∀i:Int,d [.int i]=some (.bl true,true)
def QvO:Qiy (Qm 1 QhI):=λi=>rfl
def GoodW(m:Nat)(w:Int×Int×Bool):Prop:=Good m (w.1,w.2.1)/\(w.2.2=true->w.1<m)
def QzT{a x n:Int}(h1:0<x)(h2:x<n):(a+x) % n≠a % n:=λh=>by
 have h3:(a+x-a) % n=0:=Int.emod_eq_emod_iff_emod_sub_eq_zero.mp h;rw[show a+x-a=x by lia,Int.emod_eq_of_lt ⋯ h2]at h3;lia
def QlA(hx:J[x]? =some (slT (.lst xs)))(ha:fa J=some r)(hf:r.d.flat=true)(hl:xs.length<16777216)(q:Q (.nx (J.set x (slT (.lst (xs++[r.d])))))):Run (Qb1 x Q8 fa) J Q:=by
 refine⟨_,?_,q⟩;have hn:r.norm=⟨r.d,true,[]⟩:=by unfold HS.R.norm;rw[if_pos hf]
 unfold Qb1;rw[hx];simp only[Q8,Za,ha,Qak,QgO,hn,Qa2,kill,QbD];simp[hl]
def Run.nx(h:Run f J (Nx Q))(m:∀J,Q J->Q' J):Run f J (Nx Q'):=h.mono λo ho=>by
 cases o with
 | nx J=>exact m J ho
 | _=>exact ho.elim
def Qal(h:Run f J (Nx P))(k:∀J',P J'->Run g J' Q):Run (Qc f g) J Q:=run_seq (h.nx k)
noncomputable def QbU(w:Int×Int×Bool):Int×Int:=(if w.2.1<w.1 then w.2.1 else w.1,if w.2.1>w.1 then w.2.1 else w.1)
noncomputable def QbS(w:Int×Int×Bool):Int×Int:=(w.1,w.2.1)
noncomputable def QeB(W:List (Int×Int×Bool)):List (Int×Int):=(W.filter λw=> !w.2.2).map QbU
noncomputable def Qfs(W:List (Int×Int×Bool)):List (Int×Int):=(W.filter λw=>w.2.2).map QbS
def Qkv{m:Nat}{W:List (Int×Int×Bool)}(h:∀w∈W,GoodW m w):∀s∈QeB W,Good m s/\s.1<s.2:=λs hs=>by
 obtain⟨w,hw,rfl⟩:=Zs.mp hs;obtain⟨⟨h1,h2,h3,h4,h5⟩,_⟩:=h w (Zx.mp hw).1;simp only at h1 h2 h3 h4 h5;unfold QbU Good;simp only;split<;>split<;>lia
def Qkl{m:Nat}{W:List (Int×Int×Bool)}(h:∀w∈W,GoodW m w):∀s∈Qfs W,Good m s/\s.1<m:=λs hs=>by
 obtain⟨w,hw,rfl⟩:=Zs.mp hs;obtain⟨h1,h2⟩:=h w (Zx.mp hw).1;exact⟨h1,h2 (by simpa using(Zx.mp hw).2)⟩
def QsF(W:List (Int×Int×Bool)):(QeB W).length<=W.length:=by unfold QeB;rw[Zd];exact Zby _ _
def Qs5(W:List (Int×Int×Bool)):(Qfs W).length<=W.length:=by unfold Qfs;rw[Zd];exact Zby _ _
def Qdb:up f i v k=if k=i then v else f k:=rfl
def Qdk{fa:DE}{J:En}{r:R}{m:Int}{R L:Lpp}(h:fa J=some r)(e:r.d=Qo m R L):
  Qk fa (dC (.int 0)) J=some (reI m)/\Qk fa (dC (.int 1)) J=some ⟨Qr R,r.fr,r.M⟩/\Qk fa (dC (.int 2)) J=some ⟨Qr L,r.fr,r.M⟩:=by
 unfold Qk;rw[h];simp only[Za,e,Qus];exact⟨rfl,rfl,rfl⟩
def Qbg(h:fa J=some r)(e:r.d= .lst xs):dBf Qan (Qa fa Qe) J=some (reI xs.length):=by
 unfold dBf;rw[Qt h (QP _),Za];simp[e,Qan]
def Qz0(ha:fa J=some ra)(ea:ra.d=d)(hb:fb J=some rb)(eb:rb.d=d)(hs:d.sim 8=true):dOp gNe fa fb J=some (reT (.bl false)):=by
 refine Q4 ha hb ?_;rw[ea,eb];unfold gNe;rw[hs,QoG hs];rfl
def QzJ(ha:fa J=some ra)(hb:fb J=some rb)(h1:ra.d.sim 8=true)(h2:rb.d.sim 8=true):dOp gEq fa fb J=some (reT (.bl (deq ra.d rb.d))):=by
 refine Q4 ha hb ?_;unfold gEq;rw[h1,h2];rfl
def Qku(d:Den):Prop:=∀(m:Nat) (R L:Lpp),m<=1000->R.length+R.length+L.length<=1000000->(∀s∈R,Good m s)->(∀s∈L,Good m s)->d [Qo m R L]=some (Qd m (QI R L),true)
def QwI(h:QeP d):Qku (Qm 1 (Qgf d)):=λm R L h1 h2 h3 h4=>Qvo h h1 h2 h3 h4
def Qmc(h:0<b)(h2:b<2^200):Qb9 b=true:=by
 unfold Qb9;have h3:b.natAbs<2^8000:=Zbe (by lia:b.natAbs<2^200) (ZY ∅ ∅);simp only[Zl,decide_eq_true_eq];exact⟨⋯,h3⟩
def Qh5(ha:fa J=some ra)(ea:ra.d= .int a)(hb:fb J=some rb)(eb:rb.d= .int b)(h:0<b)(h2:b<2^200)
  (q:Q (.nx ((J.set i (slI (a / b))).set j (slI (a % b))))):Run (Qd0 (.tp [i,j]) (dDm (Qa fa (Qa fb Qe)))) J Q:=by
 have e:dDm (Qa fa (Qa fb Qe)) J=some (reT (.tup [.int (a / b),.int (a % b)])):=by
  unfold dDm;rw[Qt ha (Qt hb (QP _)),Za];simp only[ea,eb];rw[if_pos (Qmc h h2),Qg0 _ _ ⋯,Qo1 _ _ ⋯]
 refine⟨_,?_,q⟩;unfold Qd0;rw[e];rfl
def QBu(xs:List D):deq (.lst xs) (.lst [])=xs.isEmpty:=by cases xs<;>rfl
def QBf(n:Nat)(ns:List Int):(Qh ns).sim (n+1)=true:=by
 unfold Qh;simp only[D.sim,ZbI,Zae];intro p _;cases n<;>rfl
def Qon{fa:DE}{J:En}{r:R}{ns:List Int}(ha:fa J=some r)(e:r.d= .lst (ns.map .int)):QA (dOp gNe fa (Q0 Qe)) J=some (!ns.isEmpty):=by
 refine QC (Q4 ha rfl ?_) rfl;rw[e];unfold gNe;have:(D.lst (ns.map .int)).sim 8=true:=QBf 7 ns;rw[this];show some (D.bl (!deq (.lst (ns.map .int)) (.lst [])))=_;rw[QBu];simp
def QsE(ha:fa J=some ra)(ea:ra.d= .int a)(hb:fb J=some rb)(eb:rb.d= .int b)(h:0<=b/\b<=1000/\a.natAbs<2^200):dOp Qlz fa fb J=some (reI (a^b.toNat)):=by
 refine Q4 ha hb ?_;rw[ea,eb];show(if 0<=b/\b<=1000/\a.natAbs<2^200 then some (D.int (a^b.toNat))else none)=_;rw[if_pos h]
def QoW(hx:J[x]? =some (slT (Qh A)))(ha:fa J=some r)(hf:r.d= .int n)(hl:A.length<16777216)(q:Q (.nx (J.set x (slT (Qh (A++[n])))))):Run (Qb1 x Q8 fa) J Q:=by
 refine QlA hx ha (by rw[hf];rfl) (by simpa using hl) ?_;rw[hf];unfold Qh at q;rw[ZO]at q;exact q
noncomputable abbrev B40:Int:=10000000000000000000000000000000000000000
noncomputable def QfD:DS:=(Qc (Qv 2 (dOp Qlz QuR QBv)) (Qc (Qv 3 kk0) (Qc (sIf (QA (dOp gNe vv0 (Q0 Qe))) (Qc (Qv 3 (Qbi (Qk vv0 kk0))) Ql) Ql) (Qc (Qv 4 (Q0 Qe)) (Qc (QaU (Qa1 vv1) (.nm 5) (Qc (Qd0 (.tp [3,6]) (dDm (Qa vv3 (Qa vv2 Qe)))) (Qc (Qb1 4 Q8 vv6) Ql))) (Qc (sIf (QA (dOp gGt vv3 kk0)) (Qc (QM vv4) Ql) Ql) (Qc (Qv 7 (Q0 Qe)) (Qc (QaU (Qa1 vv1) (.nm 5) (Qc (Qv 8 QsL) (Qc (sIf (QA (dOp gNe vv0 (Q0 Qe))) (Qc (Qv 8 (Qbi (Qk vv0 (dOp QbE vv5 (dBf Qan (Qa vv0 Qe)))))) Ql) Ql) (Qc (Qv 8 (dOp QbE (Qai (QJ (QJ (QJ vv8 (Qai (Qai vv5 vv5) QsL)) (Qai vv5 Quk)) QBr) Qyz) Qn4)) (Qc (Qv 8 (dOp QbE (Qai (dOp QbE (Qai vv8 vv8) QoJ) (QJ (Qai kk2 vv5) Qwz)) QpD)) (Qc (Qb1 7 Q8 (dOp QbE (Qai vv8 (dOp Qlz Qed kk2)) vv2)) Ql)))))) (Qc (QM vv7) Ql)))))))))
def CellsOk(d:Den):Prop:=∀(ns:List Int) (n:Nat),ns.length<=63->n<=200->∃cs:List Int,d [.lst (ns.map .int),.int n]=some (Qh cs,true)/\cs.length=n/\∀c∈cs,0<=c/\c<B40
def Qwb:CellsOk (Qm 9 QfD):=λns n hl hn=>by
 have key:Run QfD (Qau 9 [.lst (ns.map .int),.int n]) (Rt λd fr=>∃cs:List Int,d=Qh cs/\fr=true/\cs.length=n/\∀c∈cs,0<=c/\c<B40):=by
  refine run_seq (QK (r:=reI B40) ?_ ?_)
  .exact QsE (a:=10) (b:=40) rfl rfl rfl rfl ∅
  rw[QaK];refine rsa (d:= .int 0) rfl ?_;refine Qal (P:=λJ=>∃z:Int,J=[slF (.lst (ns.map .int)),slI n,slI B40,slI z,none,none,none,none,none]) ?_ ?_
  .refine Q5 (Qon (ns:=ns) (r:=reF (.lst (ns.map .int))) rfl rfl) (λh=>?_) (λ_=>Qp ⟨0,rfl⟩);cases ns with
   | nil=>cases h
   | cons a r=>exact run_seq (QK (Qem (Qdx rfl rfl rfl rfl ∅ rfl)) (Qp ⟨a,by rw[Qda rfl];rfl⟩))
  rintro J ⟨z,rfl⟩;refine rsa rfl ?_;refine Qal (P:=λJ=>∃(z:Int) (cs:List Int) (j5 j6:Option (D×Bool)),cs.length=n/\(∀c∈cs,0<=c/\c<B40)/\J=[slF (.lst (ns.map .int)),slI n,slI B40,slI z,slT (Qh cs),j5,j6,none,none]) ?_ ?_
  .refine Qaa (List.range n) (λi J=>∃(z:Int) (cs:List Int) (j5 j6:Option (D×Bool)),cs.length=i/\(∀c∈cs,0<=c/\c<B40)/\J=[slF (.lst (ns.map .int)),slI n,slI B40,slI z,slT (Qh cs),j5,j6,none,none]) (Qbn rfl rfl ⋯) rfl ⟨z,[],none,none,rfl,⋯,rfl⟩ ?_ ?_
   .rintro i k J hi ⟨z,cs,j5,j6,h1,h2,rfl⟩;have hin:i<n:=by have:=(Zi.mp hi).1;simpa using this
    refine⟨_,rfl,?_⟩;refine run_seq (Qh5 rfl rfl rfl rfl ∅ ∅ ?_);refine run_seq (QoW rfl rfl rfl ⋯ (Qp ⟨z / B40,cs++[z % B40],_,_,by simp[h1],λc hc=>?_,rfl⟩));rcases Zf.mp hc with hc | hc
    .exact h2 c hc
    .rw[Zj.mp hc];exact⟨ZR _ ∅,ZM _ ∅⟩
   .rintro J ⟨z,cs,j5,j6,h1,h2,rfl⟩;exact⟨z,cs,j5,j6,by simpa using h1,h2,rfl⟩
  rintro J ⟨z,cs,j5,j6,h1,h2,rfl⟩;refine Q6 (Q5 (QC rfl rfl) (λ_=>Qy (Q:=λd fr=>∃cs:List Int,d=Qh cs/\fr=true/\cs.length=n/\∀c∈cs,0<=c/\c<B40) rfl ⟨cs,rfl,rfl,h1,h2⟩ |> λh=>h.mono λo ho=>by cases o<;>first | exact ho | exact ho.elim) (λ_=>Qp ?_));refine rsa rfl ?_;refine Qal (P:=λJ=>∃(cs':List Int) (j5 j8:Option (D×Bool)),cs'.length=n/\(∀c∈cs',0<=c/\c<B40)/\J=[slF (.lst (ns.map .int)),slI n,slI B40,slI z,slT (Qh cs),j5,j6,slT (Qh cs'),j8]) ?_ ?_
  .refine Qaa (List.range n) (λi J=>∃(cs':List Int) (j5 j8:Option (D×Bool)),cs'.length=i/\(∀c∈cs',0<=c/\c<B40)/\J=[slF (.lst (ns.map .int)),slI n,slI B40,slI z,slT (Qh cs),j5,j6,slT (Qh cs'),j8]) (Qbn rfl rfl ⋯) rfl ⟨[],_,none,rfl,⋯,rfl⟩ ?_ ?_
   .rintro i k J hi ⟨cs',j5,j8,h3,h4,rfl⟩;have hin:i<n:=by have:=(Zi.mp hi).1;simpa using this
    have hk:k<n:=by have:=Zu hi;simpa using this
    refine⟨_,rfl,?_⟩;refine rsa rfl ?_;refine Qal (P:=λJ=>∃y:Int,J=[slF (.lst (ns.map .int)),slI n,slI B40,slI z,slT (Qh cs),slI k,j6,slT (Qh cs'),slI y]) ?_ ?_
    .refine Q5 (Qon rfl rfl) (λh=>?_) (λ_=>Qp ⟨7919,rfl⟩)
     have hne:0<ns.length:=by cases ns with
      | nil=>cases h
      | cons a r=>simp
     have m1:=ZR (k:Int) (by lia:(ns.length:Int)≠0);have m2:=ZM (k:Int) (by lia:(0:Int)<ns.length);have hg:ns[((k:Int) % ns.length).toNat]? =some (ns[((k:Int) % ns.length).toNat]'⋯):=Zg _;have elen:dBf Qan (Qa (Qn 0) Qe) [slF (.lst (ns.map .int)),slI n,slI B40,slI z,slT (Qh cs),slI k,j6,slT (Qh cs'),slI 7919]=some (reI ns.length):=by
      rw[Qbg rfl rfl,Zd]
     exact run_seq (QK (Qem (Qdx rfl rfl (QbT rfl rfl elen rfl ⋯) rfl m1 hg)) (Qp ⟨_,by rw[Qda rfl];rfl⟩))
    rintro J ⟨y,rfl⟩;refine rsa (QbT (Qbh (Qao (Qao (Qao rfl rfl (Qbh (Qbh rfl rfl rfl rfl (Qex ⋯)) rfl rfl rfl (Qfh ∅)) rfl) rfl (Qbh rfl rfl rfl rfl (Qfh ∅)) rfl) rfl rfl rfl) rfl rfl rfl (Qfh ∅)) rfl rfl rfl ∅) ?_;generalize ew:(y+(k:Int)*k*7919+(k:Int)*104729+31)*48271 % 2147483647=w;have w1:0<=w:=by rw[← ew];exact ZR _ ∅
    have w2:w<2147483647:=by rw[← ew];exact ZM _ ∅
    refine rsa (QbT (Qbh (QbT (Qbh rfl rfl rfl rfl (Qex ⋯)) rfl rfl rfl ∅) rfl (Qao (Qbh rfl rfl rfl rfl (Qex ∅)) rfl rfl rfl) rfl (Qfh ⋯)) rfl rfl rfl ∅) ?_;generalize eu:w*w % 2147483629*(2*(k:Int)+69621) % 2147483587=u;have u1:0<=u:=by rw[← eu];exact ZR _ ∅
    have u2:u<2147483587:=by rw[← eu];exact ZM _ ∅
    have epow:dOp Qlz (dC (.int 618970019642690137449562111)) (dC (.int 2)) [slF (.lst (ns.map .int)),slI n,slI B40,slI z,slT (Qh cs),slI k,j6,slT (Qh cs'),slI u]=some (reI (618970019642690137449562111^2)):=QsE (b:=2) rfl rfl rfl rfl ∅;refine run_seq (QoW rfl (QbT (Qbh rfl rfl epow rfl (Qex ⋯)) rfl rfl rfl ∅) rfl ⋯ (Qp ⟨_,_,_,?_,λc hc=>?_,rfl⟩))
    .simp[h3]
    .rcases Zf.mp hc with hc | hc
     .exact h4 c hc
     .rw[Zj.mp hc];exact⟨ZR _ ∅,ZM _ ∅⟩
   .rintro J ⟨cs',j5,j8,h3,h4,rfl⟩;exact⟨cs',j5,j8,by simpa using h3,h4,rfl⟩
  rintro J ⟨cs',j5,j8,h3,h4,rfl⟩;exact Qy rfl ⟨cs',rfl,rfl,h3,h4⟩
 obtain⟨o,h1,h2⟩:=key;cases o with
 | rt d fr=>
  obtain⟨cs,rfl,rfl,h3,h4⟩:=h2;exact⟨cs,by unfold Qm;rw[h1];rfl,h3,h4⟩
 | _=>exact h2.elim
def Qqv{α β:Type}(f:α->β)(xs:List α)(k:Nat)(y:α):(QbB xs k y).map f=QbB (xs.map f) k (f y):=by
 unfold QbB;simp[Zcw,ZcT]
def Qgv{α:Type}{xs:List α}{k:Nat}{y z:α}:z∈QbB xs k y↔z=y∨z∈xs:=by
 unfold QbB;rw[Zf,Zq];constructor
 .rintro(h | h | h)
  .exact .inr (ZbA h)
  .exact .inl h
  .exact .inr (ZbB h)
 .rintro(h | h)
  .exact .inr (.inl h)
  .rw[← Zai k xs,Zf]at h;rcases h with h | h
   .exact .inl h
   .exact .inr (.inr h)
def Qrj{α:Type}(xs:List α)(k:Nat)(y:α):(QbB xs k y).length=xs.length+1:=by
 unfold QbB;rw[ZG,Zw,ZP,ZZ];lia
def QmG{α β:Type}(f:α->β):∀(l:List α) (k:Nat),(l.map f).eraseIdx k=(l.eraseIdx k).map f
 | [],_=>rfl
 | _::_,0=>rfl
 | a::l,k+1=>by simp only[Zy,ZcB,QmG f l k]
def Qj9{α:Type}:∀(l:List α) (k:Nat) (b:α),l[k]? =some b->(b::l.eraseIdx k).Perm l
 | [],_,_,h=>by simp at h
 | a::l,0,b,h=>by simp at h;subst h;exact .refl _
 | a::l,k+1,b,h=>by
  have:=Qj9 l k b (by simpa using h);simp only[ZcB];exact(List.Perm.swap a b _).trans (this.cons a)
def QrV{x y:Nat}{fi:DE}{J:En}{ri:R}{A B:List Int}{i b:Int}{Q:Out->Prop}(hx:J[x]? =some (slT (Qh A)))(hy:J[y]? =some (slT (Qh B)))(hi:fi J=some ri)(ei:ri.d= .int i)(hxy:x≠y)(h0:0<=i)(h1:i<2^62)(hb:B[i.toNat]? =some b)(hl:A.length<16777216)
  (q:Q (.nx ((J.set y (slT (Qh (B.eraseIdx i.toNat)))).set x (slT (Qh (A++[b])))))):Run (Qfk x y fi) J Q:=by
 refine⟨_,?_,q⟩;unfold Qfk;rw[hx,hy];simp only[Qh,Za,hi,ei,Zd,QbD];rw[if_pos ⟨hxy,QkZ B,h0,h1,hl⟩,Zk,hb];simp only[Zag,ZO];rw[QmG];rfl
def Esc(m:Nat)(W:List (Int×Int×Bool)):Prop:=∀A:Nat->Prop,(∃p,p<m/\A p)->∃w∈W,w.1<m/\A w.1.toNat/\(w.2.1=m∨¬A w.2.1.toNat)
def Esc.mono{m:Nat}{W W':List (Int×Int×Bool)}(h:Esc m W)(s:∀w∈W,w∈W'):Esc m W':=λA hA=>let ⟨w,hw,r⟩:=h A hA;⟨w,s w hw,r⟩
def Qie(m:Nat)(O:List Int)(w:Int×Int×Bool)(j:Nat):Prop:=O[j]? =some w.1/\(w.2.1=m∨∃i,i<j/\O[i]? =some w.2.1)
def Qie.app{m:Nat}{O O':List Int}{w:Int×Int×Bool}{j:Nat}(h:Qie m O w j):Qie m (O++O') w j:=by
 obtain⟨h1,h2⟩:=h;have hj:j<O.length:=(Zi.mp h1).1;refine⟨by rw[Zay hj];exact h1,?_⟩;rcases h2 with h2 | ⟨i,hi,h2⟩
 .exact .inl h2
 .exact .inr ⟨i,hi,by rw[Zay ⋯];exact h2⟩
def QzH{m:Nat}{O:List Int}{W:List (Int×Int×Bool)}(hp:O.Perm ((List.range m).map λ(k:Nat)=>(k:Int)))(hW:∀j,j<m->∃w∈W,Qie m O w j):Esc m W:=λA Z=>by
 obtain⟨p,hp1,hp2⟩:=Z;have hl:O.length=m:=by rw[hp.length_eq];simp
 have nd:O.Nodup:=hp.nodup_iff.mpr (by
  rw[ZbD,ZX];exact List.Pairwise.imp (λh z=>h ⋯) Zat)
 have mem:∀x∈O,0<=x/\x<m:=λx hx=>by
  obtain⟨k,hk,rfl⟩:=Zs.mp (hp.mem_iff.mp hx);have:=Zb.mp hk;lia
 have ex:∃(j:Nat) (x:Int),O[j]? =some x/\A x.toNat:=by
  have:(p:Int)∈O:=hp.mem_iff.mpr (Zs.mpr ⟨p,Zb.mpr hp1,rfl⟩);obtain⟨j,hj⟩:=ZaP this;exact⟨j,_,hj,by simpa using hp2⟩
 have least:∃(j:Nat),(∃x:Int,O[j]? =some x/\A x.toNat)/\∀i:Nat,i<j->¬ ∃x:Int,O[i]? =some x/\A x.toNat:=by
  obtain⟨j,hj⟩:=ex
  induction j using Nat.strongRecOn with
  | _ j ih=>
   by_cases h:∃i:Nat,i<j/\∃x:Int,O[i]? =some x/\A x.toNat
   .obtain⟨i,hi,h⟩:=h;exact ih i hi h
   .exact⟨j,hj,λi hi hx=>h ⟨i,hi,hx⟩⟩
 obtain⟨j,⟨x,hx,hA⟩,hmin⟩:=least;have hj:j<m:=by rw[← hl];exact(Zi.mp hx).1
 obtain⟨w,hw,h1,h2⟩:=hW j hj;rw[hx]at h1;cases h1;refine⟨w,hw,(mem _ (Zu hx)).2,hA,?_⟩;rcases h2 with h2 | ⟨i,hi,h2⟩
 .exact .inl h2
 .exact .inr λhA'=>hmin i hi ⟨_,h2,hA'⟩
def Qtz{m:Nat}{O:List Int}{w:Int×Int×Bool}{j:Nat}(nd:O.Nodup)(mem:∀x∈O,0<=x/\x<m)(h:Qie m O w j):GoodW m w:=by
 obtain⟨h1,h2⟩:=h;have a:=mem _ (Zu h1);refine⟨⟨a.1,?_,by dsimp only;lia,?_,?_⟩,λ_=>a.2⟩
 .rcases h2 with h2 | ⟨i,hi,h2⟩
  .dsimp only;lia
  .exact(mem _ (Zu h2)).1
 .rcases h2 with h2 | ⟨i,hi,h2⟩
  .dsimp only;lia
  .have:=mem _ (Zu h2);dsimp only;lia
 .rcases h2 with h2 | ⟨i,hi,h2⟩
  .dsimp only;lia
  .dsimp only;intro z;rw[z,← h2]at h1;have hil:i<O.length:=(Zi.mp h2).1;have hjl:j<O.length:=by
    by_cases q:j<O.length
    .exact q
    .rw[Zz ⋯,h2]at h1;cases h1
   have:=(List.getElem?_inj hjl nd).mp h1;lia
def QvM{m:Nat}{a s:Int}{ln:Bool}(h0:0<=a)(h1:a<=m)(hs:0<=s)(hs2:s<m)(hl:ln=true->a<m):GoodW m (a,(a+1+s) % (m+1),ln):=by
 have h5:=ZR (a+1+s) (by lia:(m:Int)+1≠0);have h6:=ZM (a+1+s) (by lia:(0:Int)<m+1);have h7:=QzT (a:=a) (x:=1+s) (n:=(m:Int)+1) ⋯ ⋯;rw[← Int.add_assoc,show a % ((m:Int)+1)=a from Int.emod_eq_of_lt h0 ⋯]at h7;exact⟨⟨h0,h5,h1,by dsimp only;lia,λz=>h7 z.symm⟩,hl⟩
noncomputable def Qx(m:Nat)(g:Mt1):Int:=((List.range m).map g).sum
def Qav(m:Nat)(g:Mt1):Qx (m+1) g=Qx m g+g m:=by
 unfold Qx;rw[ZaJ,ZO,Zbo];simp
def QF(h:∀i,i<m->f i=g i):Qx m f=Qx m g:=by
 unfold Qx;rw[Zp λi hi=>h i (Zb.mp hi)]
def QaF(m:Nat)(f g:Mt1):Qx m (λi=>f i+g i)=Qx m f+Qx m g:=by
 induction m with
 | zero=>rfl
 | succ m ih=>rw[Qav,Qav,Qav,ih];lia
def QcE(m:Nat)(f:Mt1):Qx m (λi=> -f i)= -Qx m f:=by
 induction m with
 | zero=>rfl
 | succ m ih=>rw[Qav,Qav,ih];lia
def Qaj(m:Nat):Qx m (λ_=>0)=0:=by
 induction m with
 | zero=>rfl
 | succ m ih=>rw[Qav,ih];rfl
def Qdi(m:Nat)(c:Int)(f:Mt1):Qx m (λi=>c*f i)=c*Qx m f:=by
 induction m with
 | zero=>simp[Qx]
 | succ m ih=>rw[Qav,Qav,ih,Zbt]
def Qtu(m n:Nat)(f:Mt2):Qx m (λi=>Qx n λj=>f i j)=Qx n λj=>Qx m λi=>f i j:=by
 induction m with
 | zero=>show 0=Qx n λj=>0;rw[Qaj]
 | succ m ih=>
  rw[Qav,ih,← QaF];exact QF λj _=>by rw[Qav]
def Qa8(hp:p<m)(v:Int)(f:Mt1):Qx m (λi=>(if i=p then v else 0)*f i)=v*f p:=by
 induction m with
 | zero=>lia
 | succ m ih=>
  rw[Qav];by_cases h:p=m
  .subst h;rw[if_pos rfl,QF (g:=λ_=>0) λi hi=>by rw[if_neg ⋯];simp,Qaj];simp
  .rw[ih ⋯,if_neg (λz=>h z.symm)];simp
noncomputable def Qi(m:Nat)(T:Mt2)(f c:Mt1):Nat->Int:=λj=>f j+Qx m λi=>c i*T i j
def Qeh(h:∀i,i<m->f i=g i):Qd m f=Qd m g:=by
 unfold Qd;congr 1;refine Zp λi hi=>?_;rw[h i (Zb.mp hi)]
noncomputable def Qgg:DS:=(Qc (QaU (Q7 vv1) (.nm 2) (Qc (sIf (QA (dOp gNe (dBf Qan (Qa vv2 Qe)) (Qk vv0 kk0))) (Qc Qco Ql) Ql) Ql)) Ql)
def QhO(d:Den):Prop:=∀(m:Nat) (R L:Lpp) (fs:List (Nat->Int)),d [Qo m R L,.lst (fs.map λf=>Qd m f)]=some (.non,true)
def QwG:QhO (Qm 3 Qgg):=λm R L fs=>by
 have key:Run Qgg (Qau 3 [Qo m R L,.lst (fs.map λf=>Qd m f)]) (Nx λ_=>True):=by
  refine run_seq (Qaa fs (λ_ J=>∃j2,J=[slF (Qo m R L),slF (.lst (fs.map λf=>Qd m f)),j2]) rfl rfl ⟨none,rfl⟩ ?_ ?_)
  .rintro i f J _ ⟨j2,rfl⟩;refine⟨_,rfl,?_⟩;refine run_seq (Q5 (b:=false) (QC (QdC (Qbg rfl rfl) rfl (Qdk rfl rfl).1 rfl) ⋯) (λh=>by cases h) (λ_=>Qp (Qp ⟨_,rfl⟩)))
  .rintro J ⟨j2,rfl⟩;exact Qp trivial
 obtain⟨o,h1,h2⟩:=key;unfold Qm;rw[h1];cases o with
 | nx J=>rfl
 | _=>exact h2.elim
noncomputable def QqJ(QaG:Den)(QX:Den):DS:=(Qc (Qc4 (Qs 2 QaG [] (Qa vv0 (Qa (Q0 (Qa vv1 (Qa vv2 Qe))) Qe)))) (Qc (Qv 3 (dList (Qa vv1 Qe))) (Qc (QaU (QaW (Qs 1 QX [] (Qa vv0 Qe)) vv2) (.tp [4,5]) (Qc (Qv 3 (QO (QaW vv3 vv4) (.tp [1,2]) [none,none,none,some 5] Qac (QJ vv1 (Qai vv3 vv2)))) Ql)) (Qc (QM vv3) Ql))))
def Qb3(h:fa J=some r)(q:Q (.nx J)):Run (Qc4 fa) J Q:=⟨_,by simp[Qc4,h],q⟩
def Qsf(f g:Nat->D):Qgn ((List.range m).map f) ((List.range m).map g)=(List.range m).map λi=> .tup [f i,g i]:=by
 generalize List.range m=l
 induction l with
 | nil=>rfl
 | cons n ns ih=>unfold Qgn at ih ⊢;simp only[Zy,List.zip_cons_cons,ih]
def QjQ(h:fs J=some rs)(e:rs.ds=[Qd m f]):dList fs J=some (reT (Qd m f)):=by
 unfold dList;rw[h,Za,e];simp[Qd,Qa7]
def Qcq(ha:fa J=some ra)(ea:ra.d= .lst ((List.range m).map f))(hb:fb J=some rb)(eb:rb.d= .lst ((List.range m).map g)):QaW fa fb J=some ⟨(List.range m).map λi=> .tup [f i,g i],ra.M++rb.M⟩:=by
 unfold QaW;rw[ha,Za,hb,Za,ea,eb];simp only[Qsf]
def Qxz(i j:Nat)(s:Int×Int):(hit i j s).natAbs<=1:=by unfold hit;split<;>split<;>decide
def QeJ(i j:Nat):∀S:List (Int×Int),((S.map (hit i j)).sum).natAbs<=S.length
 | []=>by simp
 | s::S=>by
  have:=QeJ i j S;have:=Qxz i j s;rw[Zy,Zab,Zw];lia
def Qk5(d:Den):Prop:=∀(m:Nat) (R L:Lpp) (f c:Mt1),m<=1000->R.length+R.length+L.length<=1000000->(∀s∈R,Good m s)->(∀s∈L,Good m s)->d [Qo m R L,Qd m f,Qd m c]=some (Qd m (Qi m (Qg m (Qb R L)) f c),true)
def Qvp(hn:QhO dn)(ht:QeP dt):Qk5 (Qm 6 (QqJ dn dt)):=λm R L f c hm hl hR hL=>by
 have gS:=QaP hR hL;have tb:∀i j,i<m->j<m->(Qg m (Qb R L) i j).natAbs<2^64:=λi j hi hj=>by
  rw[Qb5 hi hj λs hs=>⟨(gS s hs).1,(gS s hs).2.1⟩];have:=QeJ i j (Qb R L);have:(Qb R L).length<=1000000:=by unfold Qb;simp;lia
  lia
 refine QY ?_;refine run_seq (Qb3 (Qu rfl (hn m R L [f,c]) rfl) ?_);refine rsa (QjQ rfl rfl) ?_;refine Qal (P:=λJ=>∃j4 j5,J=[slF (Qo m R L),slF (Qd m f),slF (Qd m c),slT (Qd m (Qi m (Qg m (Qb R L)) f c)),j4,j5]) ?_ ?_
 .refine Qaa (List.range m) (λk J=>∃j4 j5,J=[slF (Qo m R L),slF (Qd m f),slF (Qd m c),slT (Qd m (λj=>f j+Qx k λi=>c i*Qg m (Qb R L) i j)),j4,j5]) (Qcq (Qu rfl (ht m R L hm hl hR hL) rfl) rfl rfl rfl) rfl ⟨none,none,?_⟩ ?_ ?_
  .show [slF (Qo m R L),slF (Qd m f),slF (Qd m c),slT (Qd m f),none,none]=_;have:Qd m f=Qd m λj=>f j+Qx 0 λi=>c i*Qg m (Qb R L) i j:=Qeh λi _=>by show f i=f i+0;lia
   rw[← this]
  .rintro k k' J hk ⟨j4,j5,rfl⟩;obtain⟨hkm,rfl⟩:=QcC hk;refine⟨_,rfl,?_⟩;refine run_seq (QK ?_ (Qp ⟨_,_,by rw[QaK];rfl⟩))
   have e:=QR (fi:=QaW (Qn 3) (Qn 4)) (t:= .tp [1,2]) (cap:=[none,none,none,some 5]) (fe:=QJ (Qn 1) (Qai (Qn 3) (Qn 2))) (J:=[slF (Qo m R L),slF (Qd m f),slF (Qd m c),slT (Qd m (λj=>f j+Qx k λi=>c i*Qg m (Qb R L) i j)),slF (Qd m (Qg m (Qb R L) k)),slI (c k)])
    (List.range m) (Qcq rfl rfl rfl rfl) rfl λj hj=>by
     have hj:=Zb.mp hj;exact⟨[none,slI (f j+Qx k λi=>c i*Qg m (Qb R L) i j),slI (Qg m (Qb R L) k j),slI (c k)],rfl,_,Qao rfl rfl (Qbh rfl rfl rfl rfl (Qfh (tb k j hkm hj))) rfl,rfl,rfl⟩
   refine e.trans ?_;congr 2;show D.lst _=D.lst _;congr 1;refine Zp λj _=>?_;show _=D.int (f j+Qx (k+1) λi=>c i*Qg m (Qb R L) i j);rw[Qav,Int.add_assoc]
  .rintro J ⟨j4,j5,rfl⟩;rw[ZD];exact⟨j4,j5,rfl⟩
 rintro J ⟨j4,j5,rfl⟩;exact Qy rfl ⟨rfl,rfl⟩
def Qrb{a b:Nat}(ha:fa J=some ra)(ea:ra.d=Qh cs)(hl:fl J=some rl)(el:rl.d= .int a)(hh:fh J=some rh)(eh:rh.d= .int b):Qep fa (Qcb fl) (Qcb fh) J=some (reT (Qh ((cs.drop (min a cs.length)).take (min b cs.length-min a cs.length)))):=by
 unfold Qep Qcb;simp only[ha,hl,hh,Za,ea,el,eh,Qh,cutD,Zd,HT.Ql5,← ZcT,← Zcw,Qa7,QkZ,if_true]
def Qqy{cs:List Int}{a b:Nat}{c:Int}(h:c∈(cs.drop a).take b):c∈cs:=ZbB (ZbA h)
structure Qaw (m:Nat) (R L:Lpp):Prop where
 ex:∃W,Esc m W/\(∀w∈W,GoodW m w)/\W.length<=200/\R=QeB W/\L=Qfs W
def Qaw.good{m:Nat}{R L:Lpp}(h:Qaw m R L):(∀s∈R,Good m s)/\(∀s∈L,Good m s)/\R.length<=200/\L.length<=200/\(∀s∈R,s.1<s.2)/\∀s∈L,s.1<m:=by
 obtain⟨W,_,h2,h3,rfl,rfl⟩:=h.ex;exact⟨λs hs=>(Qkv h2 s hs).1,λs hs=>(Qkl h2 s hs).1,ZJ (QsF W) h3,ZJ (Qs5 W) h3,λs hs=>(Qkv h2 s hs).2,λs hs=>(Qkl h2 s hs).2⟩
def Qmy{α:Type}(m:Nat)(g:Nat->α->Int):∀S:List α,Qx m (λj=>(S.map (g j)).sum)=(S.map λs=>Qx m λj=>g j s).sum
 | []=>by simp[Qaj]
 | s::S=>by
  simp only[Zy,Zab];rw[QaF,Qmy m g S]
def Qrp{α:Type}(c:Int)(f:α->Int):∀S:List α,c*(S.map f).sum=(S.map λs=>c*f s).sum
 | []=>by simp
 | s::S=>by simp only[Zy,Zab,Zbt,Qrp c f S]
def Qum:Qd m (Qi m T f λ_=>0)=Qd m f:=Qeh λj _=>by
 unfold Qi;rw[QF (g:=λ_=>0) λi _=>⋯,Qaj];lia
def Qyh(ha:fa J=some ra)(ea:ra.d=d)(hb:fb J=some rb)(eb:rb.d=d)(hs:d.sim 8=true):dOp gEq fa fb J=some (reT (.bl true)):=by
 refine Q4 ha hb ?_;rw[ea,eb];unfold gEq;rw[hs,QoG hs];rfl
structure TP (m:Nat) (T:Mt2):Prop where
 neg:∀p,p<m->T p p<0
 pos:∀i j,i<m->j<m->i≠j->0<=T i j
 bnd:∀i j,i<m->j<m->(T i j).natAbs<2^64
 wt:∃w:Nat->Int,(∀j,0<=w j)/\∀i,i<m->Qx m (λj=>T i j*w j)<= -1
inductive Leg (m:Nat) (T:Mt2) (f:Mt1):(Nat->Int)->Prop where
 | nil:Leg m T f λ_=>0
 | step {c:Mt1}{p:Nat}{t:Int}:Leg m T f c->p<m->0<=t->t*(0-T p p)<=Qi m T f c p->Leg m T f (up c p (c p+t))
def Stb(m:Nat)(T:Mt2)(g:Mt1):Prop:=∀p,p<m->g p<0-T p p
def QlQ(hp:p<m)(j:Nat):Qi m T f (up c p (c p+v)) j=Qi m T f c j+v*T p j:=by
 unfold Qi;have e2:(λi=>up c p (c p+v) i*T i j)=λi=>c i*T i j+(if i=p then v else 0)*T i j:=by
  funext i;unfold up;by_cases h:i=p
  .subst h;simp only[if_true];rw[Zah]
  .simp[h]
 rw[e2,QaF,Qa8 hp];lia
def Leg.nonneg(h:Leg m T f c):∀i,0<=c i:=by
 induction h with
 | nil=>intro i;exact Zao _
 | step _ _ ht _ ih=>
  intro i;unfold up;split
  .have:=ih ‹Nat›;rename_i p _ _ _ _ _;have:=ih p;lia
  .exact ih i
def QbL(h:∀i,i<m->f i<=g i):Qx m f<=Qx m g:=by
 induction m with
 | zero=>exact Zao _
 | succ m ih=>
  rw[Qav,Qav];have:=ih λi hi=>h i ⋯;have:=h m ⋯;lia
def Leg.least(tp:TP m T)(h:Leg m T f c)(h0:∀i,i<m->0<=c' i)(hs:Stb m T (Qi m T f c')):∀i,i<m->c i<=c' i:=by
 induction h with
 | nil=>exact h0
 | @step c p t _ hp ht hle ih=>
  intro i hi;unfold up;split
  .rename_i e;subst e;have key:Qi m T f c i+(c' i-c i)*T i i<=Qi m T f c' i:=by
    unfold Qi;have e1:Qx m (λk=>c k*T k i)+(c' i-c i)*T i i=Qx m (λk=>c k*T k i+(if k=i then c' i-c i else 0)*T k i):=by rw[QaF,Qa8 hi]
    have e2:Qx m (λk=>c k*T k i+(if k=i then c' i-c i else 0)*T k i)<=Qx m (λk=>c' k*T k i):=by
     refine QbL λk hk=>?_;by_cases hki:k=i
     .subst hki;rw[if_pos rfl,← Zah];rw[show c k+(c' k-c k)=c' k by lia];exact Zao _
     .rw[if_neg hki,ZT,ZaF];exact Zaw (ih k hk) (tp.pos k i hk hi hki)
    lia
   have h1:=hs i hi;have h2:=tp.neg i hi;by_cases hlt:c i+t<=c' i
   .exact hlt
   .exfalso;have h3:(c' i-c i+1)<=t:= ⋯
    have h4:(c' i-c i+1)*(0-T i i)<=t*(0-T i i):=Zaw h3 ⋯;have h5:(c' i-c i+1)*(0-T i i)=(0-T i i)-(c' i-c i)*T i i:=by rw[Zah,ZaH,Int.mul_sub,Zap];lia
    lia
  .exact ih i hi
def QqO{m:Nat}{T:Mt2}{f c b:Mt1}(j:Nat):Qi m T (λi=>2*f i+b i) (λi=>2*c i) j=2*Qi m T f c j+b j:=by
 unfold Qi;have e:(λi=>2*c i*T i j)=λi=>2*(c i*T i j):=by funext i;rw[ZaA]
 rw[e,Qdi];show 2*f j+b j+2*_=2*(f j+_)+b j;lia
def QaJ(j:Nat)(h1:f j=g j)(h2:∀i,i<m->c i=d i):Qi m T f c j=Qi m T g d j:=by
 unfold Qi;rw[h1,QF λi hi=>by rw[h2 i hi]]
def Leg.Qy8(h:Leg m T f c)(b:Mt1)(hb:∀i,0<=b i):∃d,Leg m T (λi=>2*f i+b i) d/\∀i,d i=2*c i:=by
 induction h with
 | nil=>exact⟨_,.nil,λi=>⋯⟩
 | @step c p t _ hp ht hle ih=>
  obtain⟨d,hd,e⟩:=ih;have ed:d=λi=>2*c i:=funext e;subst ed;refine⟨_,.step (t:=2*t) hd hp ⋯ ?_,λi=>?_⟩
  .rw[QqO];have:=hb p;have e2:2*t*(0-T p p)=2*(t*(0-T p p)):=by rw[ZaA]
   lia
  .show up (λi=>2*c i) p (2*c p+2*t) i=2*up c p (c p+t) i;unfold up;split
   .lia
   .rfl
def Leg.cast(h:Leg m T f c)(e:∀i,c i=d i):Leg m T f d:=by
 have:c=d:=funext e;rw[← this];exact h
def Leg.Qnk(h:Leg m T f c)(e:∀i,i<m->f i=g i):Leg m T g c:=by
 induction h with
 | nil=>exact .nil
 | @step c p t _ hp ht hle ih=>exact .step ih hp ht (by rw[← QaJ p (e p hp) (λ_ _=>rfl)];exact hle)
noncomputable def wtF(m:Nat)(w g:Mt1):Int:=Qx m λj=>g j*w j
def QAO(hw:∀i,i<m->Qx m (λj=>T i j*w j)<= -1)(hp:p<m)(ht:0<=t):wtF m w (Qi m T f (up c p (c p+t)))<=wtF m w (Qi m T f c)-t:=by
 unfold wtF;have e:(λj=>Qi m T f (up c p (c p+t)) j*w j)=λj=>Qi m T f c j*w j+t*(T p j*w j):=by
  funext j;rw[QlQ hp,Zah,ZaA]
 rw[e,QaF,Qdi];have h1:t*Qx m (λj=>T p j*w j)<=t*(-1):=Zac (hw p hp) ht;lia
def QtC(hw:∀j,0<=w j)(hg:∀j,j<m->0<=g j):0<=wtF m w g:=by
 have:=QbL λi hi=>Zav (hg i hi) (hw i);rw[Qaj]at this;exact this
def QhD(I:Nat->En->Prop)(step:∀n J,I n J->∃b,g J=some b/\(b=false->Q (.nx J))/\(b=true->Run fb J λo=>match o with | .nx J2=>∃n',n'<n/\I n' J2 | .ct J2=>∃n',n'<n/\I n' J2 | .bk J2=>Q (.nx J2) | .rt d fr=>Q (.rt d fr))):
  ∀(n:Nat) (J:En),I n J->Run (Qc6 g fb) J Q:=by
 intro n
 induction n using Nat.strongRecOn with
 | _ n ih=>
  intro J h;obtain⟨b,hb,hf,ht⟩:=step n J h;unfold Run;rw[Qs7,hb,Za];cases b with
  | false=>exact⟨_,⋯,hf rfl⟩
  | true=>
   obtain⟨o,ho,hq⟩:=ht rfl;rw[if_pos rfl,ho,Za];cases o with
   | nx J2=>obtain⟨n',hn,hI⟩:=hq;exact ih n' hn J2 hI
   | ct J2=>obtain⟨n',hn,hI⟩:=hq;exact ih n' hn J2 hI
   | bk J2=>exact⟨_,rfl,hq⟩
   | rt d fr=>exact⟨_,rfl,hq⟩
def Qyj(ha:fa J=some ra)(ea:ra.d= .int a)(hb:fb J=some rb)(eb:rb.d= .int b)(h:0<b)(h2:b<2^200):dOp QdM fa fb J=some (reI (a / b)):=by
 refine Q4 ha hb ?_;rw[ea,eb];show(if Qb9 b=true then some (D.int (Qd8 a b))else none)=_;rw[if_pos (Qmc h h2),Qg0 _ _ ⋯]
def QaI{i:Nat}(ha:fa J=some ra)(ea:ra.d=Qd m f)(hb:fb J=some rb)(eb:rb.d= .int i)(h:i<m):Qk fa fb J=some (reI (f i)):=by
 have:=QxT ha ea hb eb ⋯ ⋯;rw[ZC]at this;exact this
noncomputable def QhK:DS:=(Qc (Qv 3 (dList (Qa vv1 Qe))) (Qc (Qv 4 (dList (Qa vv2 Qe))) (Qc (Qv 5 (dC (.bl true))) (Qc (Qc6 (QA vv5) (Qc (Qv 5 (dC (.bl false))) (Qc (QaU (Qcj vv0) (.tp [6,7]) (Qc (Qv 8 (dOp QdM (Qk vv3 vv6) (dOp Qbo kk0 (Qk vv7 vv6)))) (Qc (sIf (QA (dOp gGt vv8 kk0)) (Qc (Qv 5 (dC (.bl true))) (Qc (QeD (gI λi j=>some (.int (i+j))) 4 Q8 vv6 vv8) (Qc (Qv 3 (QO (QaW vv3 vv7) (.tp [1,2]) [none,none,none,some 8] Qac (QJ vv1 (Qai vv3 vv2)))) Ql))) Ql) Ql))) Ql))) (Qc (QM (QaQ (Qa vv3 (Qa vv4 Qe)))) Ql)))))
def QhE(d:Den):Prop:=∀(m:Nat) (T:Mt2) (f k:Mt1),m<=1000->TP m T->Leg m T f k->(∀j,j<m->0<=Qi m T f k j)->∃k',d [Qz m m T,Qd m (Qi m T f k),Qd m k]=some (.tup [Qd m (Qi m T f k'),Qd m k'],true)/\Leg m T f k'/\(∀j,j<m->0<=Qi m T f k' j)/\Stb m T (Qi m T f k')
def Qsm{h s:Int}(hs:0<s)(ht:¬0<h / s)(h0:0<=h):h<s:=by
 have:=Zbx h0 (by lia:0<=s);have e:h / s=0:= ⋯
 have:=ZM h hs;have:=Zbz h s;rw[e]at this;lia
def Qr9{h s:Int}(hs:0<s):h / s*s<=h:=Int.ediv_mul_le h ⋯
def QrJ:QhE (Qm 9 QhK):=λm T f k hm tp hk hpos=>by
 obtain⟨w,hw0,hw⟩:=tp.wt;have key:Run QhK (Qau 9 [Qz m m T,Qd m (Qi m T f k),Qd m k]) (Rt λd fr=>∃k',d= .tup [Qd m (Qi m T f k'),Qd m k']/\fr=true/\Leg m T f k'/\(∀j,j<m->0<=Qi m T f k' j)/\Stb m T (Qi m T f k')):=by
  refine rsa (QjQ rfl rfl) ?_;refine rsa (QjQ rfl rfl) ?_;refine rsa rfl ?_;refine run_seq (Run.mono (Q:=Nx λJ=>∃k' j5 j6 j7 j8,Leg m T f k'/\(∀j,j<m->0<=Qi m T f k' j)/\Stb m T (Qi m T f k')/\J=[slF (Qz m m T),slF (Qd m (Qi m T f k)),slF (Qd m k),slT (Qd m (Qi m T f k')),slT (Qd m k'),j5,j6,j7,j8]) ?_ ?_)
  .refine QhD (λn J=>∃k' bz j6 j7 j8,Leg m T f k'/\(∀j,j<m->0<=Qi m T f k' j)/\(bz=false->Stb m T (Qi m T f k'))/\n=(wtF m w (Qi m T f k')).toNat+(if bz=true then 1 else 0)/\J=[slF (Qz m m T),slF (Qd m (Qi m T f k)),slF (Qd m k),slT (Qd m (Qi m T f k')),slT (Qd m k'),slT (.bl bz),j6,j7,j8]) ?_ _ _ ⟨k,true,none,none,none,hk,hpos,λh=>by(cases h),rfl,rfl⟩;rintro n J ⟨k',bz,j6,j7,j8,hL,hP,hS,rfl,rfl⟩;refine⟨bz,QC rfl rfl,λh=>⟨k',_,_,_,_,hL,hP,hS h,rfl⟩,λhb=>?_⟩;subst hb;refine rsa rfl ?_;refine Q6 (Run.mono (Q:=Nx λJ=>∃k2 b2 j6 j7 j8,Leg m T f k2/\(∀j,j<m->0<=Qi m T f k2 j)/\(b2=false->Stb m T (Qi m T f k2))/\(wtF m w (Qi m T f k2)+(if b2=true then 1 else 0)<=wtF m w (Qi m T f k'))/\J=[slF (Qz m m T),slF (Qd m (Qi m T f k)),slF (Qd m k),slT (Qd m (Qi m T f k2)),slT (Qd m k2),slT (.bl b2),j6,j7,j8]) ?_ ?_)
   .refine Qaa (List.range m) (λi J=>∃k2 b2 j6 j7 j8,Leg m T f k2/\(∀j,j<m->0<=Qi m T f k2 j)/\(b2=false->∀p,p<i->Qi m T f k2 p<0-T p p)/\(wtF m w (Qi m T f k2)+(if b2=true then 1 else 0)<=wtF m w (Qi m T f k'))/\J=[slF (Qz m m T),slF (Qd m (Qi m T f k)),slF (Qd m k),slT (Qd m (Qi m T f k2)),slT (Qd m k2),slT (.bl b2),j6,j7,j8]) rfl (QgP (α:=Nat) m _) ⟨k',false,_,_,_,hL,hP,λ_ p hp=>absurd hp ⋯,⋯,rfl⟩ ?_ ?_
    .rintro i p J hi ⟨k2,b2,j6,j7,j8,hL2,hP2,hS2,hW2,rfl⟩;have hp':i<m/\i=p:=by
      obtain⟨h1,h2⟩:=Zi.mp hi;simp at h1 h2;exact⟨h1,h2⟩
     obtain⟨him,rfl⟩:=hp';have hneg:=tp.neg i him;have hb:=tp.bnd i i him him;have h0:=hP2 i him;refine⟨_,rfl,?_⟩;refine rsa (Qyj (QaI rfl rfl rfl rfl him) rfl (Q4 rfl (QaI rfl rfl rfl rfl him) rfl) rfl ⋯ ⋯) ?_;generalize et:Qi m T f k2 i / (0-T i i)=t;have t0:0<=t:=by rw[← et];exact Zbx h0 ⋯
     refine Q6 (Q5 (QC rfl rfl) (λh=>?_) (λh=>?_))
     .have h:=of_decide_eq_true h;have hle:t*(0-T i i)<=Qi m T f k2 i:=by rw[← et];exact Qr9 ⋯
      refine rsa rfl ?_;refine run_seq (Quz rfl rfl rfl rfl ⋯ ⋯ rfl ?_);rw[ZC];refine run_seq (QK (r:=reT (Qd m (Qi m T f (up k2 i (k2 i+t))))) ?_ (Qp (Qp ?_)))
      .have e:=QR (fi:=QaW (Qn 3) (Qn 7)) (t:= .tp [1,2]) (cap:=[none,none,none,some 8]) (fe:=QJ (Qn 1) (Qai (Qn 3) (Qn 2))) (J:=[slF (Qz m m T),slF (Qd m (Qi m T f k)),slF (Qd m k),slT (Qd m (Qi m T f k2)),slT (Qd m (up k2 i (k2 i+t))),slT (.bl true),slI i,slF (Qd m (T i)),slI t])
        (List.range m) (Qcq rfl rfl rfl rfl) rfl λj hj=>by
         have hj:=Zb.mp hj;exact⟨[none,slI (Qi m T f k2 j),slI (T i j),slI t],rfl,_,Qao rfl rfl (Qbh rfl rfl rfl rfl (Qfh (tp.bnd i j him hj))) rfl,rfl,rfl⟩
       refine e.trans ?_;congr 2;show D.lst _=D.lst _;congr 1;refine Zp λj _=>?_;rw[QlQ him]
      .rw[QaK];have hup:=QAO hw (f:=f) (c:=k2) him t0;refine⟨up k2 i (k2 i+t),true,_,_,_,.step hL2 him t0 hle,λj hj=>?_,λz=>(by cases z),?_,rfl⟩
       .rw[QlQ him];by_cases hji:j=i
        .subst hji;have:t*T j j= -(t*(0-T j j)):=by rw[Zbl,ZaK,Int.neg_neg]
         lia
        .have:=hP2 j hj;have:=Zav t0 (tp.pos i j him hj (λz=>hji z.symm));lia
       .rw[if_pos rfl];have:(0:Int)<=if b2=true then 1 else 0:=by split<;>lia
        lia
     .have h:=of_decide_eq_false h;refine Qp (Qp ⟨k2,b2,_,_,_,hL2,hP2,λhb2 p hp=>?_,hW2,rfl⟩);by_cases hpi:p=i
      .subst hpi;exact Qsm ⋯ (by rw[et];exact h) h0
      .exact hS2 hb2 p ⋯
    .rintro J ⟨k2,b2,j6,j7,j8,hL2,hP2,hS2,hW2,rfl⟩;rw[ZD]at hS2;exact⟨k2,b2,_,_,_,hL2,hP2,hS2,hW2,rfl⟩
   .intro o ho;cases o with
    | nx J=>
     obtain⟨k2,b2,j6,j7,j8,hL2,hP2,hS2,hW2,rfl⟩:=ho;refine Qp ⟨_,?_,k2,b2,_,_,_,hL2,hP2,hS2,rfl,rfl⟩;have n1:=QtC hw0 hP2;rw[if_pos rfl];cases b2<;>simp at hW2 ⊢ <;>lia
    | _=>exact ho.elim
  .intro o ho;cases o with
   | nx J=>
    obtain⟨k',j5,j6,j7,j8,hL,hP,hS,rfl⟩:=ho;exact Qy rfl ⟨k',rfl,rfl,hL,hP,hS⟩
   | _=>exact ho.elim
 obtain⟨o,h1,h2⟩:=key;cases o with
 | rt d fr=>
  obtain⟨k',rfl,rfl,h3,h4,h5⟩:=h2;exact⟨k',by unfold Qm;rw[h1];rfl,h3,h4,h5⟩
 | _=>exact h2.elim
def QnI(m:Nat)(S:Lpp):Prop:=∀A:Nat->Prop,(∃p,p<m/\A p)->∃s∈S,s.1<m/\A s.1.toNat/\(s.2=m∨¬A s.2.toNat)
def Qmp(h:Esc m W):QnI m (Qb (QeB W) (Qfs W)):=λA hA=>by
 obtain⟨w,hw,h1,h2,h3⟩:=h A hA;refine⟨(w.1,w.2.1),?_,h1,h2,h3⟩;unfold Qb;cases e:w.2.2 with
 | true=>exact Zc _ (Zs.mpr ⟨w,Zx.mpr ⟨hw,e⟩,rfl⟩)
 | false=>
  have hr:QbU w∈QeB W:=Zs.mpr ⟨w,Zx.mpr ⟨hw,by simp[e]⟩,rfl⟩;by_cases hlt:w.2.1<w.1
  .refine Zh _ (Zc _ (Zs.mpr ⟨QbU w,hr,?_⟩));unfold QbU;rw[if_pos hlt,if_neg ⋯];rfl
  .refine Zh _ (Zh _ ?_);have:QbU w=(w.1,w.2.1):=by
    unfold QbU;rw[if_neg hlt];by_cases hgt:w.2.1>w.1
    .rw[if_pos hgt]
    .rw[if_neg hgt];rw[show w.2.1=w.1 by lia]
   rw[← this];exact hr
inductive Rk (m:Nat) (S:Lpp):Nat->Nat->Prop where
 | pit {s:Int×Int}{n:Nat}:s∈S->s.2=m->Rk m S (n+1) s.1.toNat
 | step {s:Int×Int}{k n:Nat}:s∈S->s.2≠m->Rk m S k s.2.toNat->k<n->Rk m S n s.1.toNat
def QoU{P:Nat->Prop}(h:∃n,P n):∃n,P n/\∀k,k<n->¬P k:=by
 obtain⟨n,hn⟩:=h
 induction n using Nat.strongRecOn with
 | _ n ih=>
  by_cases h:∃k,k<n/\P k
  .obtain⟨k,hk,h⟩:=h;exact ih k hk h
  .exact⟨n,hn,λk hk hx=>h ⟨k,hk,hx⟩⟩
def QAT(he:QnI m S):∀p,p<m->∃n,Rk m S n p:=λp hp=>by
 by_cases h:∃n,Rk m S n p
 .exact h
 .exfalso;obtain⟨s,hs,h1,h2,h3⟩:=he (λp=>¬ ∃n,Rk m S n p) ⟨p,hp,h⟩;by_cases e:s.2=m
  .exact h2 ⟨1,.pit hs e⟩
  .rcases h3 with h3 | h3
   .exact e h3
   .have:∃n,Rk m S n s.2.toNat:=ZH λz=>h3 z;obtain⟨k,hk⟩:=this;exact h2 ⟨k+1,.step hs e hk ⋯⟩
def Qx6{m:Nat}{S:Lpp}(hg:∀s∈S,Good m s)(he:QnI m S):∃r:Nat->Nat,r m=0/\∀p,p<m->∃s∈S,s.1=p/\r s.2.toNat<r p:=by
 have h:∀p,∃n,(p<m->Rk m S n p/\∀k,k<n->¬Rk m S k p)/\(p=m->n=0):=λp=>by
  by_cases hp:p<m
  .obtain⟨n,hn⟩:=QoU (QAT he p hp);exact⟨n,λ_=>hn,λz=> ⋯⟩
  .exact⟨0,λz=>absurd z hp,λ_=>rfl⟩
 obtain⟨r,hr⟩:=ZcC h;refine⟨r,(hr m).2 rfl,λp hp=>?_⟩;have h1:=((hr p).1 hp).1;generalize r p=n at h1;cases h1 with
 | @pit s n hs e=>
  obtain⟨g1,g2,g3,g4,g5⟩:=hg s hs;exact⟨s,hs,⋯,by rw[e,ZC,(hr m).2 rfl];lia⟩
 | @step s k n hs e hk hkn=>
  obtain⟨g1,g2,g3,g4,g5⟩:=hg s hs;refine⟨s,hs,⋯,?_⟩;have hl:s.2.toNat<m:= ⋯
  have:=((hr s.2.toNat).1 hl).2 k;have:¬k<r s.2.toNat:=λz=>this z hk;lia
def Qnv(r:Nat->Nat):∀m:Nat,∃N,∀p,p<=m->r p<=N
 | 0=>⟨r 0,λp hp=>by rw[show p=0 by lia];exact Zt _⟩
 | m+1=>by
  obtain⟨N,hN⟩:=Qnv r m;refine⟨N+r (m+1),λp hp=>?_⟩;by_cases e:p=m+1
  .subst e;lia
  .have:=hN p ⋯;lia
def Qtg(hi:i<m)(g:Good m s)(w:Mt1)(hw:w m=0):Qx m (λj=>hit i j s*w j)=if s.1=i then w s.2.toNat-w i else 0:=by
 obtain⟨g1,g2,g3,g4,g5⟩:=g;by_cases h:s.1=i
 .rw[if_pos h];have e:Qx m (λj=>hit i j s*w j)=Qx m (λj=>(if j=s.2.toNat then 1 else 0)*w j+(if j=i then-1 else 0)*w j):=QF λj _=>by
   have:hit i j s=(if j=s.2.toNat then 1 else 0)+(if j=i then-1 else 0):=by
    unfold hit;by_cases a:s.2=j
    .by_cases b:i=j
     .rw[if_pos ⟨h,a⟩,if_pos ⟨h,b⟩,if_pos ⋯,if_pos b.symm];lia
     .rw[if_pos ⟨h,a⟩,if_neg (λz=>b z.2),if_pos ⋯,if_neg (λz=>b z.symm)];lia
    .by_cases b:i=j
     .rw[if_neg (λz=>a z.2),if_pos ⟨h,b⟩,if_neg ⋯,if_pos b.symm];lia
     .rw[if_neg (λz=>a z.2),if_neg (λz=>b z.2),if_neg ⋯,if_neg (λz=>b z.symm)];lia
   rw[this,Zah]
  rw[e,QaF,Qa8 hi];by_cases hm:s.2.toNat<m
  .rw[Qa8 hm];lia
  .have e2:Qx m (λj=>(if j=s.2.toNat then 1 else 0)*w j)=0:=by
    rw[QF λj hj=>by rw[if_neg ⋯,ZT],Qaj]
   rw[e2,show s.2.toNat=m by lia,hw];lia
 .rw[if_neg h];rw[QF (g:=λ_=>0) λj hj=>by
   unfold hit;rw[if_neg (λz=>h z.1),if_neg (λz=>h z.1)];rw[Int.sub_self,ZT],Qaj]
def Qe3{α:Type}{g:α->Int}{X:Int}:∀S:List α,(∀s∈S,g s<=X)->(S.map g).sum<=S.length*X
 | [],_=>by simp
 | a::S,h=>by
  have h1:=h a ⋯;have h2:=Qe3 S λs hs=>h s (by simp[hs]);simp only[Zy,Zab,Zw,ZbO,Zah];rw[show((1:Nat):Int)*X=X by simp];lia
def QkU{α:Type}{g:α->Int}{X Y:Int}:∀(S:List α),(∀s∈S,g s<=X)->(∃s∈S,g s<=Y)->(S.map g).sum<=S.length*X-X+Y
 | [],_,h=>by obtain⟨s,hs,_⟩:=h;exact absurd hs ⋯
 | a::S,h,h2=>by
  obtain⟨s,hs,hy⟩:=h2;have hb:∀s∈S,g s<=X:=λs hs=>h s (by simp[hs]);simp only[Zy,Zab,Zw,ZbO,Zah];rw[show((1:Nat):Int)*X=X by simp];rcases Zq.mp hs with e | hs
  .subst e;have:=Qe3 S hb;lia
  .have:=QkU S hb ⟨s,hs,hy⟩;have:=h a ⋯;lia
def Qd4{α:Type}{g:α->Int}:∀S:List α,(∀s∈S,0<=g s)->0<=(S.map g).sum
 | [],_=>by simp
 | a::S,h=>by
  have h1:=h a ⋯;have h2:=Qd4 S λs hs=>h s (by simp[hs]);simp only[Zy,Zab];lia
def Quj{m:Nat}{S:Lpp}(hg:∀s∈S,Good m s)(he:QnI m S)(hl:S.length<2^60):TP m (Qg m S):=by
 have hn:∀s∈S,0<=s.1/\0<=s.2:=λs hs=>⟨(hg s hs).1,(hg s hs).2.1⟩;have pos:∀i j,i<m->j<m->i≠j->0<=Qg m S i j:=λi j hi hj hij=>by
  rw[Qb5 hi hj hn];refine Qd4 S λs _=>?_;unfold hit;rw[if_neg (λz=>hij z.2) (c:=s.1=i/\i=j)];split<;>lia
 obtain⟨r,r0,hr⟩:=Qx6 hg he;obtain⟨N,hN⟩:=Qnv r m;have M1:1<=S.length+1:= ⋯
 have wt:∃w:Nat->Int,(∀j,0<=w j)/\∀i,i<m->Qx m (λj=>Qg m S i j*w j)<= -1:=by
  refine⟨λv=>(((S.length+1)^N:Nat):Int)-(((S.length+1)^(N-r v):Nat):Int),λj=>?_,λi hi=>?_⟩
  .have:=ZY M1 (Nat.sub_le N (r j));show(0:Int)<=(((S.length+1)^N:Nat):Int)-(((S.length+1)^(N-r j):Nat):Int);lia
  .generalize hw:(λv=>(((S.length+1)^N:Nat):Int)-(((S.length+1)^(N-r v):Nat):Int))=w;have hw':∀v,w v=(((S.length+1)^N:Nat):Int)-(((S.length+1)^(N-r v):Nat):Int):=λv=>by rw[← hw]
   have wm:w m=0:=by rw[hw',r0,Nat.sub_zero];lia
   have e:Qx m (λj=>Qg m S i j*w j)=(S.map λs=>if s.1=(i:Int)then w s.2.toNat-w i else 0).sum:=by
    rw[QF (g:=λj=>(S.map λs=>hit i j s*w j).sum) λj hj=>by
     rw[Qb5 hi hj hn,ZaC,Qrp];congr 1;exact Zp λs _=>ZaC _ _]
    rw[Qmy m (λj s=>hit i j s*w j) S];congr 1;exact Zp λs hs=>Qtg hi (hg s hs) w wm
   rw[e];obtain⟨s0,hs0,e0,hlt⟩:=hr i hi;generalize hX:(((S.length+1)^(N-r i):Nat):Int)=X;have X1:1<=X:=by
    have:0<(S.length+1)^(N-r i):=Nat.pow_pos ⋯;lia
   have key:=QkU (Y:=X-(S.length+1)*X) S (λs _=>by
    show(if s.1=i then w s.2.toNat-w i else 0)<=X;split
    .rw[hw',hw' i,hX];have:0<=(((S.length+1)^(N-r s.2.toNat):Nat):Int):=Int.natCast_nonneg _;lia
    .lia) ⟨s0,hs0,by
    show(if s0.1=i then w s0.2.toNat-w i else 0)<=_;rw[if_pos e0,hw',hw' i,hX];have hb:=hN i ⋯;have h1:(S.length+1)^(N-r i+1)<=(S.length+1)^(N-r s0.2.toNat):=ZY M1 ⋯;rw[Nat.pow_succ]at h1;have h2:((((S.length+1)^(N-r i)*(S.length+1):Nat)):Int)<=(((S.length+1)^(N-r s0.2.toNat):Nat):Int):=by exact_mod_cast h1
    rw[Int.natCast_mul,hX,ZaC,show((S.length+1:Nat):Int)=(S.length:Int)+1 by lia]at h2;lia⟩
   have:((S.length:Int)+1)*X=S.length*X+X:=by rw[Zah,ZaH]
   lia
 refine⟨λp hp=>?_,pos,λi j hi hj=>?_,wt⟩
 .obtain⟨w,w0,hw⟩:=wt;have h1:=hw p hp;by_cases hneg:Qg m S p p<0
  .exact hneg
  .exfalso;have:0<=Qx m (λj=>Qg m S p j*w j):=by
    have:=QbL (f:=λ_=>0) (g:=λj=>Qg m S p j*w j) λj hj=>by
     by_cases e:p=j
     .subst e;exact Zav ⋯ (w0 _)
     .exact Zav (pos p j hp hj e) (w0 _)
    rw[Qaj]at this;exact this
   lia
 .rw[Qb5 hi hj hn];have:=QeJ i j S;lia
def Qaw.tp{m:Nat}{R L:Lpp}(h:Qaw m R L):TP m (Qg m (Qb R L)):=by
 have hg:=h.good;refine Quj (QaP hg.1 hg.2.1) ?_ ?_
 .obtain⟨W,h1,_,_,rfl,rfl⟩:=h.ex;exact Qmp h1
 .unfold Qb;simp only[ZG,Zd];lia
def Qaw.neg{m:Nat}{R L:Lpp}(h:Qaw m R L){i:Nat}(hi:i<m):0-Qg m (Qb R L) i i=QI R L i:=by
 have hg:=h.good;have hs:=QaP hg.1 hg.2.1;rw[Qb5 hi hi (λs z=>⟨(hs s z).1,(hs s z).2.1⟩),sum_neg _ _ (λs z=>(hs s z).2.2.2.2),QmL];lia
def QfV(m:Nat)(f:Mt1):Qd m f= .lst (((List.range m).map f).map D.int):=by
 unfold Qd;rw[ZN];rfl
def Qrl:∀{ns:List Int},ns≠[]->∃m,QhL ns=some m
 | [],h=>absurd rfl h
 | [n],_=>⟨n,rfl⟩
 | n::k::r,_=>by
  obtain⟨m,hm⟩:=Qrl (ns:=k::r) ⋯;exact⟨if m<n then m else n,by simp only[QhL,hm,Zag]⟩
def QqS:∀{ns:List Int},ns≠[]->∃m,Qin ns=some m
 | [],h=>absurd rfl h
 | [n],_=>⟨n,rfl⟩
 | n::k::r,_=>by
  obtain⟨m,hm⟩:=QqS (ns:=k::r) ⋯;exact⟨if n<m then m else n,by simp only[Qin,hm,Zag]⟩
def QtH(h:0<m)(f:Mt1):(List.range m).map f≠[]:=by
 intro z;have:=congrArg List.length z;simp at this;lia
def QxI(m0:0<m)(f:Mt1):∃v,(∃i,i<m/\v=f i)/\(∀i,i<m->v<=f i)/\∀{fa:DE}{J:En}{r:R},fa J=some r->r.d=Qd m f->dBf QeF (Qa fa Qe) J=some (reI v):=by
 obtain⟨v,hv⟩:=Qrl (QtH m0 f);obtain⟨h1,h2⟩:=QlC hv;refine⟨v,?_,λi hi=>h2 _ (Zs.mpr ⟨i,Zb.mpr hi,rfl⟩),λ{fa J r} h e=>?_⟩
 .obtain⟨i,hi,e⟩:=Zs.mp h1;exact⟨i,Zb.mp hi,e.symm⟩
 .unfold dBf;rw[Qt h (QP _),Za];simp only[e,QfV,QeF,Qdg,Za,hv,Zag]
def Qlo(m0:0<m)(f:Mt1):∃v,(∃i,i<m/\v=f i)/\(∀i,i<m->f i<=v)/\∀{fa:DE}{J:En}{r:R},fa J=some r->r.d=Qd m f->dBf QdH (Qa fa Qe) J=some (reI v):=by
 obtain⟨v,hv⟩:=QqS (QtH m0 f);obtain⟨h1,h2⟩:=Qld hv;refine⟨v,?_,λi hi=>h2 _ (Zs.mpr ⟨i,Zb.mpr hi,rfl⟩),λ{fa J r} h e=>?_⟩
 .obtain⟨i,hi,e⟩:=Zs.mp h1;exact⟨i,Zb.mp hi,e.symm⟩
 .unfold dBf;rw[Qt h (QP _),Za];simp only[e,QfV,QdH,Qdg,Za,hv,Zag]
noncomputable def QfL(QaG:Den):DS:=(Qc (Qc4 (Qs 2 QaG [] (Qa vv0 (Qa vv1 Qe)))) (Qc (QaU (Q7 vv1) (.nm 2) (Qc (sIf (QA (dOp gLt (dBf QeF (Qa vv2 Qe)) kk0)) (Qc Qco Ql) Ql) Ql)) Ql))
def QgJ(d:Den):Prop:=∀(m:Nat) (R L:Lpp) (fs:List (Nat->Int)),0<m->(∀f∈fs,∀j,j<m->0<=f j)->d [Qo m R L,.lst (fs.map λf=>Qd m f)]=some (.non,true)
def Qvd(hn:QhO dn):QgJ (Qm 3 (QfL dn)):=λm R L fs m0 hf=>by
 have key:Run (QfL dn) (Qau 3 [Qo m R L,.lst (fs.map λf=>Qd m f)]) (Nx λ_=>True):=by
  refine run_seq (Qb3 (Qu rfl (hn m R L fs) rfl) ?_);refine run_seq (Qaa fs (λ_ J=>∃j2,J=[slF (Qo m R L),slF (.lst (fs.map λf=>Qd m f)),j2]) rfl rfl ⟨none,rfl⟩ ?_ ?_)
  .rintro i f J hi ⟨j2,rfl⟩;refine⟨_,rfl,?_⟩;obtain⟨v,⟨q,hq,e⟩,_,hv⟩:=QxI m0 f;have h0:=hf f (Zu hi) q hq;refine run_seq (Q5 (b:=false) (QC (Q4 (hv rfl rfl) rfl rfl) ?_) (λh=>by cases h) (λ_=>Qp (Qp ⟨_,rfl⟩)));show D.bl _=_;rw[decide_eq_false ⋯]
  .rintro J ⟨j2,rfl⟩;exact Qp trivial
 obtain⟨o,h1,h2⟩:=key;unfold Qm;rw[h1];cases o with
 | nx J=>rfl
 | _=>exact h2.elim
noncomputable def Qli(Qas:Den)(QX:Den)(QdW:Den):DS:=(Qc (Qc4 (Qs 2 Qas [] (Qa vv0 (Qa (Q0 (Qa vv1 Qe)) Qe)))) (Qc (Qv 2 (Qs 1 QX [] (Qa vv0 Qe))) (Qc (Qv 3 (Qai (Q0 (Qa kk0 Qe)) (Qk vv0 kk0))) (Qc (Qv 4 (Qai (Q0 (Qa kk0 Qe)) (Qk vv0 kk0))) (Qc (Qv 5 (QaQ (Qa vv3 (Qa vv4 Qe)))) (Qc (Qv 6 (dBf QdH (Qa vv1 Qe))) (Qc (QaU (QgE (dOp Qbo (QrK vv6) kk1) (Qhk kk1) (Qhk kk1)) (.nm 7) (Qc (Qv 3 (QO (QaW (Qk vv5 kk0) vv1) (.tp [1,2]) [none,none,none,some 7] Qac (QJ (Qai kk2 vv1) (dOp QbE (dOp Qot vv2 vv3) kk2)))) (Qc (Qv 4 (QO (Q7 (Qk vv5 kk1)) (.nm 1) [none,none] Qac (Qai kk2 vv1))) (Qc (Qv 5 (Qs 3 QdW [] (Qa vv2 (Qa vv3 (Qa vv4 Qe))))) Ql)))) (Qc (QM vv5) Ql))))))))
noncomputable def QeH(m:Nat)(T:Mt2)(f c:Mt1):D:= .tup [Qd m (Qi m T f c),Qd m c]
structure Told (m:Nat) (T:Mt2) (f c:Mt1):Prop where
 leg:Leg m T f c
 pos:∀j,j<m->0<=Qi m T f c j
 stb:Stb m T (Qi m T f c)
def QiI(d:Den):Prop:=∀(m:Nat) (R L:Lpp) (f:Mt1),0<m->m<=1000->Qaw m R L->(∀j,j<m->0<=f j/\f j<2^200)->∃c,d [Qo m R L,Qd m f]=some (QeH m (Qg m (Qb R L)) f c,true)/\Told m (Qg m (Qb R L)) f c
def QsV(ha:fa J=some ra)(ea:ra.d= .int ((n:Int)-1))(hb:fb J=some rb)(eb:rb.d= .int (-1))(hc:fc J=some rc)(ec:rc.d= .int (-1))(hn:n<=16777216):QgE fa fb fc J=some ⟨(List.range n).map λ(k:Nat)=> .int ((n:Int)-1-k),[]⟩:=by
 unfold QgE;rw[ha,Za,hb,Za,hc,Za,ea,eb,ec];show(if(n:Int)-1- -1<=16777216/\_ then _ else _)=_;rw[if_pos ⟨⋯,⋯,⋯,⋯,⋯⟩,show((n:Int)-1- -1).toNat=n by lia];rfl
def QzR{fa fb:DE}{J:En}{ra rb:R}{a:Int}{k:Nat}(ha:fa J=some ra)(ea:ra.d= .int a)(hb:fb J=some rb)(eb:rb.d= .int k):dOp Qot fa fb J=some (reI (a / 2^k)):=by
 refine Q4 ha hb ?_;rw[ea,eb];show(if(0:Int)<=k then some (D.int (a / 2^(k:Int).toNat))else none)=_;rw[if_pos ⋯,ZC]
def QvP(x:Int)(s:Nat):x / 2^s=2*(x / 2^(s+1))+x / 2^s % 2:=by
 have e:x / 2^(s+1)=x / 2^s / 2:=by rw[Int.pow_succ,Int.ediv_ediv_of_nonneg (Int.pow_nonneg ∅)]
 rw[e];lia
def Qkp(e:∀j,j<m->f j=g j)(h:Told m T f c):Told m T g c where
 leg:=h.leg.Qnk e
 pos:=λj hj=>by rw[← QaJ j (e j hj) (λ_ _=>rfl)];exact h.pos j hj
 stb:=λj hj=>by rw[← QaJ j (e j hj) (λ_ _=>rfl)];exact h.stb j hj
def Qi9(e:∀j,j<m->f j=g j):QeH m T f c=QeH m T g c:=by
 unfold QeH;rw[Qeh λj hj=>QaJ j (e j hj) λ_ _=>rfl]
def QvV(hn:QgJ dn)(ht:QeP dt)(hs:QhE ds):QiI (Qm 8 (Qli dn dt ds)):=λm R L f m0 hm hw hf=>by
 have hg:=hw.good;have tp:=hw.tp;have htoll:=ht m R L hm ⋯ hg.1 hg.2.1;generalize hT:Qg m (Qb R L)=T at tp htoll ⊢;obtain⟨top,⟨q,hq,etop⟩,hmax,evmax⟩:=Qlo m0 f;have htop0:0<=top:=by rw[etop];exact(hf q hq).1
 have hB:Builtin.Int.intBits top<=200:=by
  rw[intBits_le_iff];have:top<2^200:=by rw[etop];exact(hf q hq).2
  have e2:((2^200:Nat):Int)=(2:Int)^200:=by rw[Int.natCast_pow];rfl
  generalize (2:Int)^200=z at this e2;generalize (2:Nat)^200=z' at e2 ⊢;lia
 have hlt:∀j,j<m->f j / 2^Builtin.Int.intBits top=0:=λj hj=>by
  have h1:=(intBits_le_iff (m:=Builtin.Int.intBits top)).mp (Zt _);refine Int.ediv_eq_zero_of_lt (hf j hj).1 ?_;have h2:=hmax j hj;have e2:((2^Builtin.Int.intBits top:Nat):Int)=(2:Int)^Builtin.Int.intBits top:=by rw[Int.natCast_pow];rfl
  rw[← e2];lia
 generalize hBe:Builtin.Int.intBits top=B at hB hlt;have key:Run (Qli dn dt ds) (Qau 8 [Qo m R L,Qd m f]) (Rt λd fr=>∃c,d=QeH m T f c/\fr=true/\Told m T f c):=by
  have hneed:=hn m R L [f] m0 (λg hg' j hj=>by rw[Zj.mp hg'];exact(hf j hj).1);refine run_seq (Qb3 (Qu rfl hneed rfl) ?_);refine rsa (Qu rfl htoll rfl) ?_;refine rsa (Qia rfl rfl ⋯) ?_;refine rsa (Qia rfl rfl ⋯) ?_;refine run_seq (QK rfl ?_);refine rsa (evmax rfl rfl) ?_;refine Qal (P:=λJ=>∃c j3 j4 j7,Told m T f c/\J=[slF (Qo m R L),slF (Qd m f),slT (Qz m m T),j3,j4,some (QeH m T f c,true),slI top,j7]) ?_ ?_
  .refine Qaa (List.range B) (λi J=>∃c j3 j4 j7,Told m T (λj=>f j / 2^(B-i)) c/\J=[slF (Qo m R L),slF (Qd m f),slT (Qz m m T),j3,j4,some (QeH m T (λj=>f j / 2^(B-i)) c,true),slI top,j7])
    (QsV (Q4 (ra:=reI B) (by rw[← hBe];rfl) rfl rfl) rfl rfl rfl rfl rfl ⋯) rfl ⟨λ_=>0,none,none,none,?_,?_⟩ ?_ ?_
   .refine Qkp (λj hj=>(hlt j hj).symm) ⟨.nil,λj hj=>?_,λj hj=>?_⟩
    .unfold Qi;rw[QF λi _=>by rw[ZT],Qaj];exact Zao _
    .unfold Qi;rw[QF λi _=>by rw[ZT],Qaj];have:=tp.neg j hj;show(0:Int)+0<_;lia
   .show _=[slF (Qo m R L),slF (Qd m f),slT (Qz m m T),none,none,some (QeH m T (λj=>f j / 2^B) λ_=>0,true),slI top,none];rw[← Qi9 λj hj=>(hlt j hj).symm];unfold QeH;rw[Qum];rfl
   .rintro i i' J hi ⟨c,j3,j4,j7,hc,rfl⟩;obtain⟨hiB,rfl⟩:=QcC hi;obtain⟨s,hsB⟩:∃s:Nat,B-i=s+1:=⟨B-i-1,⋯⟩;have es:(B:Int)-1-i=(s:Int):= ⋯
    have es2:B-(i+1)=s:= ⋯
    rw[hsB]at hc;rw[hsB,es2,es];generalize hF:(λj=>f j / 2^(s+1))=F at hc;have hF':∀j,F j=f j / 2^(s+1):=λj=>by rw[← hF]
    refine⟨_,rfl,?_⟩;have e2:∀j,2*F j+f j / 2^s % 2=f j / 2^s:=λj=>by rw[hF',← QvP]
    have erow:∀j,2*Qi m T F c j+f j / 2^s % 2=Qi m T (λj=>f j / 2^s) (λi=>2*c i) j:=λj=>by
     have:=QqO (m:=m) (T:=T) (f:=F) (c:=c) (b:=λj=>f j / 2^s % 2) j;rw[← this];exact(QaJ j (e2 j).symm λ_ _=>rfl).symm
    refine run_seq (QK (r:=reT (Qd m (Qi m T (λj=>f j / 2^s) (λi=>2*c i)))) ?_ ?_)
    .have e:=QR (fi:=QaW (Qk (Qn 5) (dC (.int 0))) (Qn 1)) (t:= .tp [1,2]) (cap:=[none,none,none,some 7]) (fe:=QJ (Qai (dC (.int 2)) (Qn 1)) (dOp QbE (dOp Qot (Qn 2) (Qn 3)) (dC (.int 2)))) (J:=[slF (Qo m R L),slF (Qd m f),slT (Qz m m T),j3,j4,some (QeH m T F c,true),slI top,slI s])
      (List.range m) (Qcq rfl rfl rfl rfl) rfl λj hj=>
       ⟨[none,slI (Qi m T F c j),slI (f j),slI s],rfl,_,Qao (Qbh rfl rfl rfl rfl (Qex ∅)) rfl (QbT (QzR rfl rfl rfl rfl) rfl rfl rfl ∅) rfl,rfl,rfl⟩
     refine e.trans ?_;congr 2;show D.lst _=D.lst _;congr 1;refine Zp λj _=>?_;rw[erow]
    .rw[QaK];refine run_seq (QK (r:=reT (Qd m (λi=>2*c i))) ?_ ?_)
     .exact QR (List.range m) (Qae rfl rfl) rfl λj hj=>⟨[none,slI (c j)],rfl,_,Qbh rfl rfl rfl rfl (Qex ∅),rfl,rfl⟩
     .rw[QaK];obtain⟨d2,hd2,ed2⟩:=hc.leg.Qy8 (λj=>f j / 2^s % 2) (λj=>ZR _ ∅);have hleg:Leg m T (λj=>f j / 2^s) (λi=>2*c i):=(hd2.cast ed2).Qnk λj _=>e2 j;have hpos:∀j,j<m->0<=Qi m T (λj=>f j / 2^s) (λi=>2*c i) j:=λj hj=>by
       rw[← erow];have:=hc.pos j hj;have:=ZR (f j / 2^s) (by decide:(2:Int)≠0);lia
      obtain⟨k',h1,h2,h3,h4⟩:=hs m T _ _ hm tp hleg hpos;refine run_seq (QK (Qu rfl h1 rfl) (Qp ?_));rw[QaK];exact⟨k',_,_,_,⟨h2,h3,h4⟩,rfl⟩
   .rintro J ⟨c,j3,j4,j7,hc,rfl⟩;rw[ZD,Nat.sub_self]at *;have e:∀j,j<m->f j / 2^0=f j:=λj _=>by rw[Int.pow_zero,Int.ediv_one]
    exact⟨c,_,_,_,Qkp e hc,by rw[Qi9 e]⟩
  .rintro J ⟨c,j3,j4,j7,hc,rfl⟩;exact Qy rfl ⟨c,rfl,rfl,hc⟩
 obtain⟨o,h1,h2⟩:=key;cases o with
 | rt d fr=>
  obtain⟨c,rfl,rfl,h3⟩:=h2;exact⟨c,by unfold Qm;rw[h1];rfl,h3⟩
 | _=>exact h2.elim
noncomputable def QgZ(m:Nat)(f:Mt1):Nat->Int:=λi=>if i<m then f i else 0
def QhU(ha:fa J=some ra)(ea:ra.d=Qd m f)(hm:m<=1000):QJ fa (Q0 (Qa (dC (.int 0)) Qe)) J=some (reT (Qd (m+1) (QgZ m f))):=by
 have e:Qd (m+1) (QgZ m f)= .lst (((List.range m).map λi=>D.int (f i))++[.int 0]):=by
  unfold Qd;rw[ZaJ,ZO];congr 2
  .refine Zp λi hi=>?_;unfold QgZ;rw[if_pos (Zb.mp hi)]
  .show [D.int (QgZ m f m)]=_;unfold QgZ;rw[if_neg ⋯]
 rw[e];unfold QJ;rw[ha,Za];show(Option.bind (some (reT (.lst [.int 0]):HS.R)) _)=_;rw[Za,ea];simp only[Qd,Zd,ZD,QbD];rw[if_pos (by simp;lia)];simp[Qa7]
def Qfo(i:Nat)(a:Int):0<=isI i a/\isI i a<=1:=by unfold isI;split<;>lia
def Qjq(R L:Lpp)(k:Nat):0<=QI R L k/\QI R L k<=2*R.length+L.length:=by
 unfold QI;have h1:=Qd4 (g:=λr:Int×Int=>isI k r.1+isI k r.2) R λs _=>by
  have:=Qfo k s.1;have:=Qfo k s.2;show 0<=isI k s.1+isI k s.2;lia
 have h2:=Qd4 (g:=λr:Int×Int=>isI k r.1) L λs _=>(Qfo k s.1).1;have h3:=Qe3 (g:=λr:Int×Int=>isI k r.1+isI k r.2) (X:=2) R λs _=>by
  have:=Qfo k s.1;have:=Qfo k s.2;show isI k s.1+isI k s.2<=2;lia
 have h4:=Qe3 (g:=λr:Int×Int=>isI k r.1) (X:=1) L λs _=>(Qfo k s.1).2;lia
def QuB:((List.range i).map λk=>D.int (g k))++[.int v]=(List.range (i+1)).map λk=>D.int (up g i v k):=by
 rw[ZaJ,ZO];congr 1
 .refine Zp λk hk=>?_;have:=Zb.mp hk;unfold up;rw[if_neg ⋯]
 .show _=[D.int (up g i v i)];unfold up;rw[if_pos rfl]
def Qv5(hx:J[x]? =some (slT (Qd i g)))(ha:fa J=some r)(e:r.d= .int v)(hl:i<16777216)(q:Q (.nx (J.set x (slT (Qd (i+1) (up g i v)))))):Run (Qb1 x Q8 fa) J Q:=by
 refine QlA (xs:=(List.range i).map λk=>D.int (g k)) hx ha (by rw[e];rfl) (by simpa using hl) ?_;rw[e,QuB];exact q
def Qw4{m:Nat}(h:fa J=some r)(e:r.d=Qd m f):dBf Qan (Qa fa Qe) J=some (reI m):=by
 rw[Qbg h e];simp
def Qps(h:fs J=some rs)(hl:rs.ds.length<=64):Q0 fs J=some ⟨.lst rs.ds,rs.fr,rs.M⟩:=by
 unfold Q0;rw[h,Za,if_pos hl]
def Qqx(n m:Nat)(f:Mt1):(Qd m f).sim (n+1)=true:=by
 unfold Qd;simp only[D.sim,ZbI,Zae];intro p _;cases n<;>rfl
noncomputable def Qf(l:List Nat):D:= .lst (l.map λ(p:Nat)=> .int (p:Int))
def QgK:∀{l:List Nat},l.Nodup->(∀o∈l,o<m)->(l.map g).sum=Qx m λo=>if o∈l then g o else 0
 | [],_,_=>by
  rw[QF (g:=λ_=>0) λi _=>by rw[if_neg ⋯],Qaj];rfl
 | a::l,nd,h=>by
  have nd':=Zaf.mp nd;rw[Zy,Zab,QgK nd'.2 λo ho=>h o (by simp[ho])];have e:=Qa8 (m:=m) (p:=a) (h a ⋯) 1 g;rw[show g a=1*g a by rw[ZaH],← e,← QaF];refine QF λo _=>?_;by_cases ho:o=a
  .subst ho;rw[if_pos rfl,if_neg nd'.1,if_pos ⋯];lia
  .rw[if_neg ho];by_cases hl:o∈l
   .rw[if_pos hl,if_pos (by simp[hl])];lia
   .rw[if_neg hl,if_neg (by simp[ho,hl])];lia
def Qxs{m:Nat}{g:Mt1}{l k:List Nat}(hl:l.Nodup)(hk:k.Nodup)(sub:∀o∈l,o∈k)(hm:∀o∈k,o<m)(pos:∀o∈k,0<=g o):(l.map g).sum<=(k.map g).sum:=by
 rw[QgK hl λo ho=>hm o (sub o ho),QgK hk hm];refine QbL λo _=>?_;by_cases h:o∈l
 .rw[if_pos h,if_pos (sub o h)];exact Zao _
 .rw[if_neg h];by_cases h2:o∈k
  .rw[if_pos h2];exact pos o h2
  .rw[if_neg h2];exact Zao _
def Qul{m:Nat}{R:Lpp}(hR:∀s∈R,Good m s){i j:Nat}(hi:i<m)(hj:j<m)(hij:i≠j):Qg m (Qb R []) i j=Qg m (Qb R []) j i:=by
 have gS:=QaP (L:=[]) hR (λs hs=>absurd hs ⋯);have hn:∀s∈Qb R [],0<=s.1/\0<=s.2:=λs hs=>⟨(gS s hs).1,(gS s hs).2.1⟩;rw[Qb5 hi hj hn,Qb5 hj hi hn];unfold Qb;rw[ZV,ZO,ZO,Zcg,Zcg,ZN,ZN];have e:∀i j:Nat,i≠j->∀s:Int×Int,(hit i j ∘ Prod.swap) s=hit j i s:=λi j h s=>by
  unfold hit;simp only[Function.comp,Zcv,ZcU];rw[if_neg (λz=>h z.2) (c:=s.2=i/\i=j),if_neg (λz=>h z.2.symm) (c:=s.1=j/\j=i)];congr 1;by_cases a:s.2=i
  .by_cases b:s.1=j
   .rw[if_pos ⟨a,b⟩,if_pos ⟨b,a⟩]
   .rw[if_neg (λz=>b z.2),if_neg (λz=>b z.1)]
  .rw[if_neg (λz=>a z.1),if_neg (λz=>a z.2)]
 rw[Zp λs _=>e i j hij s,Zp λs _=>e j i (λz=>hij z.symm) s];lia
noncomputable def Qaz(T:Mt2)(p:Nat)(l:List Nat):Int:=((l.filter λo=>decide (o≠p)).map (T p)).sum
noncomputable def Qap(T:Mt2)(a:Mt1)(l:List Nat):List Nat:=l.filter λp=>decide (Qaz T p l<=a p)
noncomputable def QcD(T:Mt2)(a:Mt1)(l:List Nat):List Nat:=l.filter λp=> !(Qap T a l).contains p
def Qv9(tp:TP m T)(sym:∀i j,i<m->j<m->i≠j->T i j=T j i)(h:Told m T f c)(nd:l.Nodup)(ne:l≠[])(hl:∀p∈l,p<m/\0<c p):Qap T (Qi m T f c) l≠[]:=λz=>by
 have hno:∀p∈l,Qi m T f c p<Qaz T p l:=λp hp=>by
  have:¬p∈Qap T (Qi m T f c) l:=by rw[z];simp
  unfold Qap at this;rw[Zx]at this;by_cases h2:Qaz T p l<=Qi m T f c p
  .exact absurd ⟨hp,by rw[decide_eq_true h2]⟩ this
  .lia
 have key:=h.leg.least tp (c':=λi=>c i-(if i∈l then 1 else 0)) (λi hi=>by
  have:=h.leg.nonneg i;show 0<=c i-(if i∈l then 1 else 0);split
  .have:=(hl i ‹_›).2;lia
  .lia) (λj hj=>by
  have e:Qi m T f (λi=>c i-(if i∈l then 1 else 0)) j=Qi m T f c j-Qx m λi=>if i∈l then T i j else 0:=by
   unfold Qi;have e1:(λi=>(c i-(if i∈l then 1 else 0))*T i j)=λi=>c i*T i j+ -(if i∈l then T i j else 0):=by
    funext i;rw[Int.sub_mul];split<;>lia
   rw[e1,QaF,QcE];lia
  rw[e];have hs:=h.stb j hj;by_cases hjl:j∈l
  .have hn:=hno j hjl;have e2:(Qx m λi=>if i∈l then T i j else 0)=Qaz T j l+T j j:=by
    unfold Qaz;rw[QgK (m:=m) (nd.filter _) λo ho=>(hl o (Zx.mp ho).1).1];have e3:=Qa8 (m:=m) (p:=j) hj 1 (λi=>T j i);rw[show T j j=1*T j j by rw[ZaH],← e3,← QaF];refine QF λi hi=>?_;by_cases hij:i=j
    .subst hij;rw[if_pos hjl,if_pos rfl,if_neg ⋯];lia
    .rw[if_neg hij];by_cases hil:i∈l
     .rw[if_pos hil,if_pos (Zx.mpr ⟨hil,by simpa using hij⟩),sym i j hi hj hij];lia
     .rw[if_neg hil,if_neg (λz=>hil (Zx.mp z).1)];lia
   rw[e2];lia
  .have:0<=Qx m λi=>if i∈l then T i j else 0:=by
    have:=QbL (m:=m) (f:=λ_=>0) (g:=λi=>if i∈l then T i j else 0) λi hi=>by
     show(0:Int)<=if i∈l then T i j else 0;split
     .refine tp.pos i j hi hj λe=>?_;subst e;exact hjl ‹_›
     .exact Zao _
    rw[Qaj]at this;exact this
   lia)
 cases l with
 | nil=>exact ne rfl
 | cons p l=>
  have:=key p (hl p ⋯).1;have:c p<=c p-(if p∈p::l then 1 else 0):=this;rw[if_pos ⋯]at this;lia
def Ql6{fa fb:DE}{J:En}{ra rb:R}{m n:Nat}{f:Mt2}{i:Int}(ha:fa J=some ra)(ea:ra.d=Qz m n f)(hb:fb J=some rb)(eb:rb.d= .int i)(h0:0<=i)(h:i<m):Qk fa fb J=some ⟨Qd n (f i.toNat),ra.fr,ra.M⟩:=by
 unfold Qk;rw[ha,Za,hb,Za,ea,eb];simp only[Qz,D.items,Za,Qrf h0 h,Zag];rfl
noncomputable def Qkf:DS:=(Qc (QM (dOp gEq (dBf Qan (Qa (Qk vv0 kk2) Qe)) kk0)) Ql)
def QlE(d:Den):Prop:=∀(m:Int) (R L:Lpp),d [Qo m R L]=some (.bl (decide ((L.length:Int)=0)),true)
def QuM:QlE (Qm 1 Qkf):=λm R L=>by
 refine QY ?_;refine Qy (Qgt (Qbg (Qdk (r:=reF (Qo m R L)) rfl rfl).2.2 rfl) rfl rfl rfl) ⟨?_,rfl⟩;simp
def QvN(ha:fa J=some ra)(ea:ra.d= .lst xs)(hb:fb J=some rb)(eb:rb.d= .lst xs):QA (dOp gNe (dBf Qan (Qa fa Qe)) (dBf Qan (Qa fb Qe))) J=some false:=by
 refine QC (QdC (Qbg ha ea) rfl (Qbg hb eb) rfl) ?_;simp
def QjY(l:List Nat):Q3 (l.map λ(p:Nat)=>D.int (p:Int))=true:=Qbf (λ_=>rfl) l
def Qms(l:List Nat):Qf l= .lst ((l.map λ(p:Nat)=>(p:Int)).map D.int):=by unfold Qf;rw[ZN];rfl
def Qyx{fa:DE}{J:En}{r:R}{ns:List Int}(h:fa J=some r)(e:r.d= .lst (ns.map D.int)):dBf QeG (Qa fa Qe) J=some (reI ns.sum):=by
 unfold dBf;rw[Qt h (QP _),Za];simp only[e,QeG,Qdg,Zag]
noncomputable def Qhr:DS:=(Qc (QM (dBf QeG (Qa (QO (Q7 vv2) (.nm 1) [none,none,some 1,some 0] (QA (dOp gNe vv1 vv2)) (Qk vv3 vv1)) Qe))) Ql)
def QlT(d:Den):Prop:=∀(m:Nat) (t:Mt1) (p:Nat) (l:List Nat),(∀o∈l,o<m)->d [Qd m t,.int p,Qf l]=some (.int (((l.filter λo=>decide (o≠p)).map t).sum),true)
def Qv4:QlT (Qm 3 Qhr):=λm t p l hl=>by
 refine QY ?_
 have e:=QdS (fi:=Q7 (Qn 2)) (t:= .nm 1) (cap:=[none,none,some 1,some 0]) (ft:=QA (dOp gNe (Qn 1) (Qn 2))) (fe:=Qk (Qn 3) (Qn 1)) (J:=[slF (Qd m t),slI p,slF (Qf l)])
  (toD:=λ(o:Nat)=> .int (o:Int)) (keep:=λo=>decide (o≠p)) (out:=λ(o:Nat)=> .int (t o)) l (Qae (r:=reF (Qf l)) rfl rfl) rfl λo ho=>by
   refine⟨[none,slI o,slI p,slF (Qd m t)],rfl,?_,λ_=>⟨_,QaI (m:=m) (f:=t) (i:=o) (ra:=reF (Qd m t)) rfl rfl rfl rfl (hl o ho),rfl,rfl⟩⟩;refine(QC (QdC (a:=o) (b:=p) rfl rfl rfl rfl) rfl).trans ?_;congr 1;by_cases h:o=p
   .subst h;simp
   .simp[h];lia
 refine Qy (Qyx (ns:=(l.filter λo=>decide (o≠p)).map t) e ?_) ⟨rfl,rfl⟩;show D.lst _=D.lst _;rw[ZN];rfl
noncomputable def QfR(Qdy:Den):DS:=(Qc (sIf (QdJ (QA (Qs 1 Qdy [] (Qa vv0 Qe)))) (Qc Qco Ql) Ql) Ql)
def Qgq(d:Den):Prop:=∀(m:Nat) (R:Lpp),d [Qo m R []]=some (.non,true)
def QvE(hp:QlE dp):Qgq (Qm 1 (QfR dp)):=λm R=>by
 have key:Run (QfR dp) (Qau 1 [Qo m R []]) (Nx λ_=>True):=by
  refine run_seq (Q5 (b:=false) (Qc7 (b:=true) (QC (b:=true) (Qu (r:=⟨[Qo m R []],false,[]⟩) rfl (hp m R []) rfl) rfl)) (λh=>by cases h) (λ_=>Qp (Qp trivial)))
 obtain⟨o,h1,h2⟩:=key;unfold Qm;rw[h1];cases o with
 | nx J=>rfl
 | _=>exact h2.elim
def Qxj{o:Nat}{l:List Nat}:(l.map λ(p:Nat)=>D.int (p:Int)).any (λy=>deq y (.int o))=l.contains o:=by
 induction l with
 | nil=>rfl
 | cons a l ih=>
  rw[Zy,ZcV,ih,Qev,List.contains_cons];congr 1;by_cases h:a=o
  .subst h;simp
  .rw[decide_eq_false ⋯];exact(beq_eq_false_iff_ne.mpr (λz=>h z.symm)).symm
def Qju(n:Nat)(l:List Nat):(Qf l).sim (n+1)=true:=by
 unfold Qf;simp only[D.sim,ZbI,Zae];intro p _;cases n<;>rfl
def Qt6{o:Nat}(ha:fa J=some ra)(ea:ra.d= .int o)(hb:fb J=some rb)(eb:rb.d=Qf l):dOp (gIn neg) fa fb J=some (reT (.bl (if neg then !l.contains o else l.contains o))):=by
 refine Q4 ha hb ?_;rw[ea,eb];have:(D.int (o:Int)).sim 8=true:=rfl;show(if(D.int (o:Int)).sim 8 && (Qf l).sim 8 then some (D.bl (if neg then !((l.map λ(p:Nat)=>D.int (p:Int)).any λy=>deq y (.int o))else(l.map λ(p:Nat)=>D.int (p:Int)).any λy=>deq y (.int o)))else none)=_;rw[this,Qju 7 l,Qxj];rfl
noncomputable def Qcu:Option Int->D
 | none=> .non
 | some i=> .int i
@[simp] theorem Qpp(o:Option Int):(Qcu o).flat=true:=by cases o<;>rfl
noncomputable def Q9(m:Nat)(F:Nat->Option Int):D:= .lst ((List.range m).map λi=>Qcu (F i))
@[simp] theorem QBn(m:Nat)(F:Nat->Option Int):(Q9 m F).flat=false:=rfl
@[simp] theorem QsU(m:Nat)(F:Nat->Option Int):Q3 ((List.range m).map λi=>Qcu (F i))=true:=Qbf (f:=λi=>Qcu (F i)) (λ_=>Qpp _) _
noncomputable def upO(F:Nat->Option Int)(i:Nat)(v:Option Int):Nat->Option Int:=λj=>if j=i then v else F j
def Qyb{m:Nat}{F:Nat->Option Int}{i:Int}(h0:0<=i)(h:i<m):atI ((List.range m).map λj=>Qcu (F j)) i=some (Qcu (F i.toNat)):=by
 rw[QdQ h0 (by simpa using h),Zk,ZQ ⋯];rfl
def QtG(h:d.flat=true):HS.R.norm ⟨d,fr,M⟩=⟨d,true,[]⟩:=by unfold HS.R.norm;rw[if_pos h]
def Qq2{fa fb:DE}{J:En}{ra rb:R}{m:Nat}{F:Nat->Option Int}{i:Int}(ha:fa J=some ra)(ea:ra.d=Q9 m F)(hb:fb J=some rb)(eb:rb.d= .int i)(h0:0<=i)(h:i<m):Qk fa fb J=some ⟨Qcu (F i.toNat),true,[]⟩:=by
 unfold Qk;rw[ha,Za,hb,Za,ea,eb];simp only[Q9,D.items,Za,Qyb h0 h,Zag,QtG (Qpp _)]
def Qod{x m:Nat}{F:Nat->Option Int}{fi fa:DE}{J:En}{i v:Int}{ri ra:R}{Q:Out->Prop}(hx:J[x]? =some (slT (Q9 m F)))(hi:fi J=some ri)(ei:ri.d= .int i)(ha:fa J=some ra)(ea:ra.d= .int v)(h0:0<=i)(h:i<m)
  (q:Q (.nx (J.set x (slT (Q9 m (upO F i.toNat (some v))))))):Run (QdN x Q8 fi fa) J Q:=by
 refine⟨_,?_,q⟩;have hn:ra.norm=(reI v):=by unfold HS.R.norm;rw[ea];rfl
 have hs:((List.range m).map λj=>Qcu (F j)).set i.toNat (.int v)=(List.range m).map λj=>Qcu (upO F i.toNat (some v) j):=by
  rw[QeW];congr 1;funext j;unfold upO;split<;>rfl
 unfold QdN;rw[ha,Za,hx];simp only[Q8,Za,hi,ei,Qak,Q9,Zd,ZD,QdY h0 h,hn,ea,Qa2,hs];simp[kill]
def Qtk{m n:Nat}{F:Nat->Option Int}(h:n<=m):cutD ((List.range m).map λi=>Qcu (F i)) none (some (n:Int))=(List.range n).map λi=>Qcu (F i):=by
 unfold cutD;simp only[Zd,ZD,HT.Qnq,HT.Ql5,List.drop_zero,Nat.sub_zero,ZcO h];rw[← Zcw,List.take_range,ZcO h]
def Qx7{fa fb:DE}{J:En}{ra rb:R}{m n:Nat}{F:Nat->Option Int}(ha:fa J=some ra)(ea:ra.d=Q9 m F)(hb:fb J=some rb)(eb:rb.d= .int n)(h:n<=m):Qep fa Qfa (Qcb fb) J=some (reT (Q9 n F)):=by
 unfold Qep Qfa Qcb;rw[ha,Za,hb,ea];simp only[Za,eb,Q9,Qtk h,Qa7,QsU,if_true]
def Qqw{n:Nat}(h:fb J=some r)(e:r.d= .int n)(hn:n<=16777216):Qai (Q0 (Qa (dC .non) Qe)) fb J=some (reT (Q9 n (λ_=>none))):=by
 have h1:Q0 (Qa (dC .non) Qe) J=some (reT (.lst [.non])):=rfl;unfold Qai;rw[h1,Za,h,Za,e];dsimp only;rw[if_pos ⟨by simp[QbD];lia,⋯,⋯,rfl⟩];simp only[ZC,QlV];rfl
def Qxn(o:Option Int)(t:Int):deq (Qcu o) (.int t)=decide (o=some t):=by
 cases o with
 | none=>rfl
 | some a=>
  show deq (.int a) (.int t)=_;rw[Qev];by_cases h:a=t<;>simp[h]
def QxM(n:Nat)(o:Option Int):(Qcu o).sim n=true:=by cases o<;>cases n<;>rfl
noncomputable def QbZ(t:Int)(F:Nat->Option Int)(s:Int×Int):Nat->Option Int:=if F s.1.toNat=none/\F s.2.toNat=some t then upO F s.1.toNat (some (t+1))else F
noncomputable def Qah(S:Lpp)(F:Nat->Option Int):Nat->Nat->Option Int
 | 0=>F
 | t+1=>S.foldl (QbZ t) (Qah S F t)
noncomputable def QqR(Qch:Den):DS:=(Qc (Qv 3 (QJ (Qai (Q0 (Qa (dC .non) Qe)) vv0) (Q0 (Qa kk0 Qe)))) (Qc (Qv 4 (Qs 2 Qch [] (Qa vv1 (Qa vv2 Qe)))) (Qc (QaU (Qa1 vv0) (.nm 5) (Qc (QaU (Q7 vv4) (.tp [6,7]) (Qc (sIf (Qh7 (QA (dOp (Qig false) (Qk vv3 vv6) (dC .non))) (QA (dOp gEq (Qk vv3 vv7) vv5))) (Qc (QdN 3 Q8 vv6 (QJ vv5 kk1)) Ql) Ql) Ql)) Ql)) (Qc (QM (Qep vv3 Qfa (Qcb vv0))) Ql))))
noncomputable def Qar(m:Nat):Nat->Option Int:=λi=>if i=m then some 0 else none
def QwD:D.lst (((List.range m).map λ_=>D.non)++[.int 0])=Q9 (m+1) (Qar m):=by
 unfold Q9;rw[ZaJ,ZO];congr 2
 .refine Zp λi hi=>?_;have:=Zb.mp hi;unfold Qar;rw[if_neg ⋯];rfl
 .simp[Qar,Qcu]
def QlI(d:Den):Prop:=∀(m:Nat) (R L:Lpp),0<m->m<=1000->R.length+R.length+L.length<=1000000->(∀s∈R,Good m s)->(∀s∈L,Good m s)->d [.int m,Qr R,Qr L]=some (Q9 m (Qah (Qb R L) (Qar m) m),true)
def Qvc{ds:Den}(hs:∀R L:List (Int×Int),R.length+R.length+L.length<=1000000->ds [Qr R,Qr L]=slT (Qr (Qb R L))):QlI (Qm 8 (QqR ds)):=λm R L m0 hm hl hR hL=>by
 have gS:=QaP hR hL;refine QY ?_;refine run_seq (QK (r:=reT (Q9 (m+1) (Qar m))) ?_ ?_)
 .unfold QJ;rw[Qqw (n:=m) (r:=reI m) rfl rfl ⋯];show(if((List.range m).map λi=>D.non).length+[D.int 0].length<=sizeLine then some (Qa7 (((List.range m).map λi=>D.non)++[D.int 0]) [])else none)=_;rw[if_pos (by simp[QbD];lia)];unfold Qa7;rw[if_pos (by rw[Qsx];simp[Qbf (f:=λ_:Nat=>D.non) (λ_=>rfl)]),QwD]
 rw[QaK];refine rsa (Qu (r:=⟨[Qr R,Qr L],false,[]⟩) rfl (hs R L hl) rfl) ?_;refine Qal (P:=λJ=>∃j5 j6 j7 b,J=[slI m,slF (Qr R),slF (Qr L),slT (Q9 (m+1) (Qah (Qb R L) (Qar m) m)),some (Qr (Qb R L),b),j5,j6,j7]) ?_ ?_
 .refine Qaa (List.range m) (λi J=>∃j5 j6 j7 b,J=[slI m,slF (Qr R),slF (Qr L),slT (Q9 (m+1) (Qah (Qb R L) (Qar m) i)),some (Qr (Qb R L),b),j5,j6,j7]) (Qbn (n:=m) (r:=reI m) rfl rfl ⋯) rfl ⟨none,none,none,true,rfl⟩ ?_ ?_
  .rintro i k J hi ⟨j5,j6,j7,b,rfl⟩;have hk:i<m/\i=k:=by
    obtain⟨h1,h2⟩:=Zi.mp hi;simp at h1 h2;exact⟨h1,h2⟩
   obtain⟨hk,rfl⟩:=hk;refine⟨_,rfl,?_⟩;refine run_seq (g:=Ql) (Run.mono (Q:=Nx λJ=>∃j6 j7,J=[slI m,slF (Qr R),slF (Qr L),slT (Q9 (m+1) (Qah (Qb R L) (Qar m) (i+1))),slF (Qr (Qb R L)),slI i,j6,j7]) ?_ ?_)
   .refine Qaa (toD:=pairD) (Qb R L) (λj J=>∃j6 j7,J=[slI m,slF (Qr R),slF (Qr L),slT (Q9 (m+1) (((Qb R L).take j).foldl (QbZ i) (Qah (Qb R L) (Qar m) i))),slF (Qr (Qb R L)),slI i,j6,j7]) (ir:=⟨(Qb R L).map pairD,if b=true then [4]else []⟩) ?_ rfl ⟨j6,j7,?_⟩ ?_ ?_
    .have:=Qae (Qcg (i:=4) (d:=Qr (Qb R L)) (b:=b) (J:=[slI m,slF (Qr R),slF (Qr L),slT (Q9 (m+1) (Qah (Qb R L) (Qar m) i)),some (Qr (Qb R L),b),slI i,j6,j7]) rfl) (xs:=(Qb R L).map pairD) (by cases b<;>rfl);cases b<;>exact this
    .cases b<;>rfl
    .rintro j s J hj ⟨j6,j7,rfl⟩;obtain⟨s1,s2,s3,s4,s5⟩:=gS s (Zu hj);have c1:s.1<((m+1:Nat):Int):= ⋯
     have c2:s.2<((m+1:Nat):Int):= ⋯
     refine⟨_,rfl,?_⟩;generalize eF:((Qb R L).take j).foldl (QbZ i) (Qah (Qb R L) (Qar m) i)=F;have step:((Qb R L).take (j+1)).foldl (QbZ i) (Qah (Qb R L) (Qar m) i)=QbZ i F s:=by
      rw[Zcq,hj,List.foldl_append,eF];rfl
     have e6:=Qq2 (fa:=Qn 3) (fb:=Qn 6) (F:=F) (m:=m+1) (i:=s.1) (ra:=⟨Q9 (m+1) F,true,[3]⟩) (J:=[slI m,slF (Qr R),slF (Qr L),slT (Q9 (m+1) F),slF (Qr (Qb R L)),slI i,slI s.1,slI s.2]) rfl rfl rfl rfl s1 c1;have e7:=Qq2 (fa:=Qn 3) (fb:=Qn 7) (F:=F) (m:=m+1) (i:=s.2) (ra:=⟨Q9 (m+1) F,true,[3]⟩) (J:=[slI m,slF (Qr R),slF (Qr L),slT (Q9 (m+1) F),slF (Qr (Qb R L)),slI i,slI s.1,slI s.2]) rfl rfl rfl rfl s2 c2;have t1:QA (dOp (Qig false) (Qk (Qn 3) (Qn 6)) (dC .non)) [slI m,slF (Qr R),slF (Qr L),slT (Q9 (m+1) F),slF (Qr (Qb R L)),slI i,slI s.1,slI s.2]=some (decide (F s.1.toNat=none)):=by
      refine QC (Q4 e6 (rb:=⟨.non,true,[]⟩) rfl (d:= .bl (decide (F s.1.toNat=none))) ?_) rfl;cases F s.1.toNat<;>rfl
     have t2:QA (dOp gEq (Qk (Qn 3) (Qn 7)) (Qn 5)) [slI m,slF (Qr R),slF (Qr L),slT (Q9 (m+1) F),slF (Qr (Qb R L)),slI i,slI s.1,slI s.2]=some (decide (F s.2.toNat=some (i:Int))):=by
      have:=QzJ e7 (fb:=Qn 5) (rb:=reI i) rfl (QxM 8 _) rfl;refine QC this ?_;show D.bl (deq (Qcu (F s.2.toNat)) (.int i))=_;rw[Qxn]
     refine run_seq (Q5 (b:=decide (F s.1.toNat=none/\F s.2.toNat=some (i:Int))) ?_ (λh=>?_) (λh=>?_))
     .exact(Qyu t1 t2).trans (by rw[Bool.decide_and])
     .have h:=of_decide_eq_true h;refine run_seq (Qod (i:=s.1) (v:=i+1) (F:=F) (m:=m+1) rfl rfl rfl (Qao (a:=(i:Int)) (b:=1) rfl rfl rfl rfl) rfl s1 c1 (Qp (Qp ⟨slI s.1,slI s.2,?_⟩)));rw[step];unfold QbZ;rw[if_pos h];rfl
     .have h:=of_decide_eq_false h;refine Qp (Qp ⟨slI s.1,slI s.2,?_⟩);rw[step];unfold QbZ;rw[if_neg h];rfl
    .rintro J ⟨j6,j7,rfl⟩;rw[Zbc];exact⟨j6,j7,rfl⟩
   .intro o ho;cases o with
    | nx J=>
     obtain⟨j6,j7,rfl⟩:=ho;exact Qp ⟨_,_,_,false,rfl⟩
    | _=>exact ho.elim
  .rintro J ⟨j5,j6,j7,b,rfl⟩;rw[ZD];exact⟨j5,j6,j7,b,rfl⟩
 rintro J ⟨j5,j6,j7,b,rfl⟩;exact Qy (Qx7 (m:=m+1) (n:=m) (Qcg (d:=Q9 (m+1) (Qah (Qb R L) (Qar m) m)) (b:=true) rfl) rfl rfl rfl ⋯) ⟨rfl,rfl⟩
noncomputable def QN(T:Mt2)(h:Mt1)(m:Nat):Nat->List Nat
 | 0=>List.range m
 | k+1=>QcD T h (QN T h m k)
noncomputable def QZ(T:Mt2)(h:Mt1)(m:Nat):Nat->Nat->Option Int
 | 0,_=>none
 | k+1,p=>if p∈Qap T h (QN T h m k)then some ((k:Int)+1)else QZ T h m k p
def QcB:∀k,(QN T h m k).Nodup
 | 0=>Zat
 | k+1=>(QcB k).filter _
def QcA:p∈QcD T h l↔p∈l/\p∉Qap T h l:=by
 unfold QcD;rw[Zx];simp
def Qbv:p∈Qap T h l↔p∈l/\Qaz T p l<=h p:=by
 unfold Qap;rw[Zx];simp
def Qde(hkj:k<=j)(hp:p∈QN T h m j):p∈QN T h m k:=by
 induction j with
 | zero=>rw[show k=0 by lia];exact hp
 | succ j ih=>
  by_cases e:k=j+1
  .rw[e];exact hp
  .exact ih ⋯ (QcA.mp hp).1
def Qcf(hp:p∈QN T h m k):p<m:=Zb.mp (Qde (ZS k) hp)
def QdX:∀k p,p<m->(QZ T h m k p=none↔p∈QN T h m k)
 | 0,p,hp=>⟨λ_=>Zb.mpr hp,λ_=>rfl⟩
 | k+1,p,hp=>by
  show(if p∈Qap T h (QN T h m k)then some ((k:Int)+1)else QZ T h m k p)=none↔p∈QcD T h (QN T h m k);rw[QcA];by_cases hr:p∈Qap T h (QN T h m k)
  .rw[if_pos hr];exact⟨λz=>(by cases z),λz=>absurd hr z.2⟩
  .rw[if_neg hr,QdX k p hp];exact⟨λz=>⟨z,hr⟩,λz=>z.1⟩
def Qc9:∀k p t,QZ T h m k p=some t->∃j:Nat,j<k/\t=(j:Int)+1/\p∈QN T h m j/\p∉QN T h m (j+1)/\Qaz T p (QN T h m j)<=h p
 | 0,_,_,e=>by cases e
 | k+1,p,t,e=>by
  unfold QZ at e;by_cases hr:p∈Qap T h (QN T h m k)
  .rw[if_pos hr]at e;cases e;exact⟨k,⋯,rfl,(Qbv.mp hr).1,λz=>(QcA.mp z).2 hr,(Qbv.mp hr).2⟩
  .rw[if_neg hr]at e;obtain⟨j,h1,h2⟩:=Qc9 k p t e;exact⟨j,⋯,h2⟩
def QkQ(pos:∀i j,i<m->j<m->i≠j->0<=T i j)(hp:p<m)(hl:l.Nodup)(hk:k.Nodup)(hm:∀o∈k,o<m)(sub:∀o∈l,o∈k):Qaz T p l<=Qaz T p k:=by
 unfold Qaz;refine Qxs (m:=m) (hl.filter _) (hk.filter _) (λo ho=>?_) (λo ho=>hm o (Zx.mp ho).1) (λo ho=>pos p o hp (hm o (Zx.mp ho).1) λe=>?_)
 .obtain⟨h1,h2⟩:=Zx.mp ho;exact Zx.mpr ⟨sub o h1,h2⟩
 .have:=(Zx.mp ho).2;simp at this;exact this e.symm
def QhV(pos:∀i j,i<m->j<m->i≠j->0<=T i j)(hg:∀j,j<m->h j<=g j):∀k p,p∈QN T g m k->p∈QN T h m k
 | 0,p,hp=>hp
 | k+1,p,hp=>by
  obtain⟨h1,h2⟩:=QcA.mp hp;have h3:=QhV pos hg k p h1;refine QcA.mpr ⟨h3,λz=>h2 (Qbv.mpr ⟨h1,?_⟩)⟩;have h4:=(Qbv.mp z).2;have h5:=hg p (Qcf h1);have h6:=QkQ pos (Qcf h1) (QcB (T:=T) (h:=g) (m:=m) k) (QcB (T:=T) (h:=h) (m:=m) k) (λo ho=>Qcf ho) (λo ho=>QhV pos hg k o ho);lia
def QtP(pos:∀i j,i<m->j<m->i≠j->0<=T i j)(hg:∀j,j<m->h j<=g j)(hp:p<m)(e:QZ T h m m p=some t):∃t',QZ T g m m p=some t'/\t'<=t:=by
 obtain⟨j,h1,h2,_,h4,_⟩:=Qc9 m p t e;have h5:p∉QN T g m (j+1):=λz=>h4 (QhV pos hg _ _ z);cases e2:QZ T g m m p with
 | none=>exact absurd (Qde ⋯ ((QdX m p hp).mp e2)) h5
 | some t'=>
  obtain⟨j',g1,g2,g3,_⟩:=Qc9 m p t' e2;refine⟨t',rfl,?_⟩;by_cases hj:j+1<=j'
  .exact absurd (Qde hj g3) h5
  .lia
noncomputable def Qtx(Qat:Den)(Qas:Den)(QX:Den)(QbQ:Den):DS:=(Qc (Qc4 (Qs 1 Qat [] (Qa vv0 Qe))) (Qc (Qc4 (Qs 2 Qas [] (Qa vv0 (Qa (Q0 (Qa vv1 Qe)) Qe)))) (Qc (Qv 2 (Qs 1 QX [] (Qa vv0 Qe))) (Qc (Qv 3 (Qai (Q0 (Qa (dC .non) Qe)) (Qk vv0 kk0))) (Qc (Qv 4 (QiR (Qk vv0 kk0))) (Qc (QaU (QcR kk1 (QJ (Qk vv0 kk0) kk1)) (.nm 5) (Qc (Qv 7 (QO (Q7 vv4) (.nm 1) [none,none,some 4,some 1,some 2] (QA (dOp gGe (Qk vv3 vv1) (Qs 3 QbQ [] (Qa (Qk vv4 vv1) (Qa vv1 (Qa vv2 Qe)))))) vv1)) (Qc (QaU (Q7 vv7) (.nm 6) (Qc (QdN 3 Q8 vv6 vv5) Ql)) (Qc (Qv 4 (QO (Q7 vv4) (.nm 1) [none,none,some 7] (QA (dOp (gIn true) vv1 vv2)) vv1)) Ql)))) (Qc (QM vv3) Ql)))))))
def QfX{fa fb:DE}{J:En}{ra rb:R}{i j:Int}{n:Nat}(ha:fa J=some ra)(ea:ra.d= .int i)(hb:fb J=some rb)(eb:rb.d= .int j)(hn:(n:Int)=j-i)(hl:n<=16777216)(h1: -(2^62)<=i)(h2:i<2^61):QcR fa fb J=some ⟨(List.range n).map λ(k:Nat)=> .int (i+k),[]⟩:=by
 unfold QcR;rw[ha,Za,hb,Za,ea,eb];show(if j-i<=16777216/\_ then _ else _)=_;rw[if_pos ⟨⋯,⋯,⋯,⋯,⋯⟩,show(j-i).toNat=n by lia];rfl
def Qkr(d:Den):Prop:=∀(m:Nat) (R:Lpp) (h:Mt1),0<m->m<=1000->R.length<=1000->(∀s∈R,Good m s)->(∀j,j<m->0<=h j)->d [Qo m R [],Qd m h]=some (Q9 m (QZ (Qg m (Qb R [])) h m m),true)
def Qxy{n:Nat}(h:fa J=some r)(e:r.d= .int n)(hn:n<=1000000):QiR fa J=some (reT (Qf (List.range n))):=by
 unfold QiR;rw[h,Za,e];show(if 0<=(n:Int)/\(n:Int)<=1000000 then some (HS.R.mk (.lst ((List.range (n:Int).toNat).map λ(k:Nat)=> .int (k:Int))) true [])else none)=_;rw[if_pos ⟨⋯,⋯⟩,ZC];rfl
def QxF(h:∀i,i<m->F i=G i):Q9 m F=Q9 m G:=by
 unfold Q9;congr 1;exact Zp λi hi=>by rw[h i (Zb.mp hi)]
def QxY(hp:Qgq dp)(hh:QgJ dh)(ht:QeP dt)(ha:QlT da):Qkr (Qm 8 (Qtx dp dh dt da)):=λm R h m0 hm hRl hR hpos=>by
 have htoll:=ht m R [] hm (by simp;lia) hR (λs hs=>absurd hs ⋯);have hneed:=hh m R [] [h] m0 (λg hg' j hj=>by rw[Zj.mp hg'];exact hpos j hj);generalize Qg m (Qb R [])=T at *;refine QY ?_;refine run_seq (Qb3 (Qu (r:=⟨[Qo m R []],false,[]⟩) rfl (hp m R) rfl) ?_);refine run_seq (Qb3 (Qu (r:=⟨[Qo m R [],.lst [Qd m h]],false,[]⟩) rfl hneed rfl) ?_);refine rsa (Qu (r:=⟨[Qo m R []],false,[]⟩) rfl htoll rfl) ?_;refine rsa (Qqw (n:=m) (r:=reI m) rfl rfl ⋯) ?_;refine rsa (Qxy (n:=m) (r:=reI m) rfl rfl ⋯) ?_;refine Qal (P:=λJ=>∃j4 j5 j6 j7,J=[slF (Qo m R []),slF (Qd m h),slT (Qz m m T),slT (Q9 m (QZ T h m m)),j4,j5,j6,j7]) ?_ ?_
 .refine Qaa (toD:=λ(k:Nat)=> .int (1+(k:Int))) (List.range m) (λk J=>∃j5 j6 j7,J=[slF (Qo m R []),slF (Qd m h),slT (Qz m m T),slT (Q9 m (QZ T h m k)),slT (Qf (QN T h m k)),j5,j6,j7]) (QfX (n:=m) (i:=1) (j:=(m:Int)+1) rfl rfl (Qao (a:=m) (b:=1) rfl rfl rfl rfl) rfl ⋯ ⋯ ∅ ∅) rfl ⟨none,none,none,rfl⟩ ?_ ?_
  .rintro k k' J hk ⟨j5,j6,j7,rfl⟩;obtain⟨hkm,rfl⟩:=QcC hk;refine⟨_,rfl,?_⟩;generalize el:QN T h m k=l;have hl:∀p∈l,p<m:=λp hp=>by rw[← el]at hp;exact Qcf hp
   have enext:QN T h m (k+1)=QcD T h l:=by rw[← el];rfl
   have efire:∀p,QZ T h m (k+1) p=if p∈Qap T h l then some ((k:Int)+1)else QZ T h m k p:=λp=>by rw[← el];rfl
   rw[enext];refine run_seq (QK (r:=reT (Qf (Qap T h l))) ?_ ?_)
   .refine QdS (fi:=Q7 (Qn 4)) (t:= .nm 1) (cap:=[none,none,some 4,some 1,some 2]) (ft:=QA (dOp gGe (Qk (Qn 3) (Qn 1)) (Qs 3 da [] (Qa (Qk (Qn 4) (Qn 1)) (Qa (Qn 1) (Qa (Qn 2) Qe)))))) (fe:=Qn 1) (J:=[slF (Qo m R []),slF (Qd m h),slT (Qz m m T),slT (Q9 m (QZ T h m k)),slT (Qf l),slI (1+(k:Int)),j6,j7])
     (toD:=λ(p:Nat)=> .int (p:Int)) (keep:=λp=>decide (Qaz T p l<=h p)) (out:=λ(p:Nat)=> .int (p:Int)) l (Qae (r:=⟨Qf l,true,[4]⟩) rfl rfl) rfl λp hp=>⟨[none,slI p,slF (Qf l),slF (Qd m h),slF (Qz m m T)],rfl,?_,λ_=>⟨_,rfl,rfl,rfl⟩⟩
    have hpm:=hl p hp;refine QC (Q4 (d:= .bl (decide (Qaz T p l<=h p))) (QaI (m:=m) (f:=h) (i:=p) (ra:=reF (Qd m h)) rfl rfl rfl rfl hpm) (Qu (Qt (Ql6 (m:=m) (n:=m) (f:=T) (i:=p) (ra:=reF (Qz m m T)) rfl rfl rfl rfl ⋯ ⋯) (rs:=⟨[.int p,Qf l],false,[]⟩) rfl) (ha m (T (p:Int).toNat) p l λo ho=>hl o ho) rfl) ?_) rfl;show some (D.bl (decide (((l.filter λo=>decide (o≠p)).map (T (p:Int).toNat)).sum<=h p)))=_;rw[ZC];rfl
   rw[QaK];refine Qal (P:=λJ=>∃j6 b7,J=[slF (Qo m R []),slF (Qd m h),slT (Qz m m T),slT (Q9 m (QZ T h m (k+1))),slT (Qf l),slI (1+(k:Int)),j6,some (Qf (Qap T h l),b7)]) ?_ ?_
   .refine Qaa (toD:=λ(p:Nat)=> .int (p:Int)) (Qap T h l) (λi J=>∃F j6,(∀p,F p=if p∈(Qap T h l).take i then some ((k:Int)+1)else QZ T h m k p)/\J=[slF (Qo m R []),slF (Qd m h),slT (Qz m m T),slT (Q9 m F),slT (Qf l),slI (1+(k:Int)),j6,slF (Qf (Qap T h l))]) (Qae (r:=⟨Qf (Qap T h l),true,[7]⟩) rfl rfl) rfl ⟨QZ T h m k,j6,λp=>⋯,rfl⟩ ?_ ?_
    .rintro i p J hi ⟨F,j6,hF,rfl⟩;have hpm:=hl p (Qbv.mp (Zu hi)).1;refine⟨_,rfl,run_seq (Qod (m:=m) (F:=F) (i:=p) (v:=1+(k:Int)) rfl rfl rfl rfl rfl ⋯ ⋯ (Qp ⟨_,_,λq=>?_,rfl⟩))⟩;have etake:(Qap T h l).take (i+1)=(Qap T h l).take i++[p]:=by
      rw[ZcQ,hi];rfl
     rw[etake];unfold upO;rw[ZC];by_cases hq:q=p
     .subst hq;rw[if_pos rfl,if_pos ⋯];congr 1;lia
     .rw[if_neg hq,hF q];by_cases h2:q∈(Qap T h l).take i
      .rw[if_pos h2,if_pos (Zh _ h2)]
      .rw[if_neg h2,if_neg (λz=>by
        rcases Zf.mp z with z | z
        .exact h2 z
        .exact hq (Zj.mp z))]
    .rintro J ⟨F,j6,hF,rfl⟩;rw[Zbc]at hF;refine⟨j6,false,?_⟩;rw[QxF (F:=F) (G:=QZ T h m (k+1)) λp _=>by rw[hF p,efire p]]
   rintro J ⟨j6,b7,rfl⟩;refine run_seq (QK (r:=reT (Qf (QcD T h l))) ?_ (Qp ?_))
   .refine QdS (fi:=Q7 (Qn 4)) (t:= .nm 1) (cap:=[none,none,some 7]) (ft:=QA (dOp (gIn true) (Qn 1) (Qn 2))) (fe:=Qn 1)
     (toD:=λ(p:Nat)=> .int (p:Int)) (keep:=λp=> !(Qap T h l).contains p) (out:=λ(p:Nat)=> .int (p:Int)) l (Qae (r:=⟨Qf l,true,[4]⟩) rfl rfl) rfl λp hp=>⟨[none,slI p,slF (Qf (Qap T h l))],by cases b7<;>rfl,QC (Qt6 (neg:=true) (o:=p) (l:=Qap T h l) rfl rfl (rb:=reF (Qf (Qap T h l))) rfl rfl) rfl,λ_=>⟨_,rfl,rfl,rfl⟩⟩
   rw[QaK];exact⟨_,_,_,rfl⟩
  .rintro J ⟨j5,j6,j7,rfl⟩;rw[ZD];exact⟨_,_,_,_,rfl⟩
 rintro J ⟨j4,j5,j6,j7,rfl⟩;exact Qy (r:=⟨Q9 m (QZ T h m m),true,[3]⟩) rfl ⟨rfl,rfl⟩
def QqE[Decidable A](hx:0<=x):∀{l:List Nat},l.Nodup->(l.map λ(o:Nat)=>if A/\x=(o:Int)then(1:Int)else 0).sum=if A/\x.toNat∈l then 1 else 0
 | [],_=>by simp
 | a::l,nd=>by
  have nd':=Zaf.mp nd;rw[Zy,Zab,QqE hx nd'.2];by_cases hA:A
  .by_cases h:x=a
   .have:x.toNat=a:= ⋯
    rw[if_pos ⟨hA,h⟩,if_neg (λz=>nd'.1 (this▸z.2)),if_pos ⟨hA,by simp[this]⟩];rfl
   .have:¬x.toNat=a:= ⋯
    rw[if_neg (λz=>h z.2)];by_cases h2:x.toNat∈l
    .rw[if_pos ⟨hA,h2⟩,if_pos ⟨hA,by simp[h2]⟩];rfl
    .rw[if_neg (λz=>h2 z.2),if_neg (λz=>by rcases Zq.mp z.2 with e | e;exact this e;exact h2 e)];rfl
  .rw[if_neg (λz=>hA z.1),if_neg (λz=>hA z.1),if_neg (λz=>hA z.1)];rfl
def Qmv{β:Type}:∀S:List β,(S.map λ_=>(0:Int)).sum=0
 | []=>rfl
 | _::S=>by rw[Zy,Zab,Qmv S];rfl
def Qik{α β:Type}(g:α->β->Int):∀(l:List α) (S:List β),(l.map λo=>(S.map (g o)).sum).sum=(S.map λs=>(l.map λo=>g o s).sum).sum
 | [],S=>(Qmv S).symm
 | a::l,S=>by
  rw[Zy,Zab,Qik g l S];clear Qik
  induction S with
  | nil=>rfl
  | cons s S ih=>simp only[Zy,Zab]at ih ⊢;lia
noncomputable def QW(p:Nat)(l:List Nat)(s:Int×Int):Int:=if(s.1=p/\s.2.toNat∈l)∨(s.2=p/\s.1.toNat∈l)then 1 else 0
def QmC{m:Nat}{R:Lpp}(hR:∀s∈R,Good m s){p:Nat}(hp:p<m){l:List Nat}(nd:l.Nodup)(hl:∀o∈l,o<m)(hpl:p∉l):(l.map (Qg m (Qb R []) p)).sum=(R.map (QW p l)).sum:=by
 have gS:=QaP (L:=[]) hR (λs hs=>absurd hs ⋯);have hn:∀s∈Qb R [],0<=s.1/\0<=s.2:=λs hs=>⟨(gS s hs).1,(gS s hs).2.1⟩;have e1:l.map (Qg m (Qb R []) p)=l.map λo=>((Qb R []).map (hit p o)).sum:=Zp λo ho=>Qb5 hp (hl o ho) hn;rw[e1,Qik (λo s=>hit p o s) l (Qb R [])];have e2:(Qb R []).map (λs=>(l.map λo=>hit p o s).sum)=(Qb R []).map λs=>if s.1=(p:Int)/\s.2.toNat∈l then(1:Int)else 0:=Zp λs hs=>by
  rw[← QqE (hn s hs).2 nd];congr 1;refine Zp λo ho=>?_;unfold hit;rw[if_neg (λz=>hpl (z.2▸ho)) (c:=s.1=p/\p=o)];lia
 rw[e2];unfold Qb;rw[ZV,ZO,Zcg,ZN];clear e1 e2 hn gS
 induction R with
 | nil=>rfl
 | cons s R ih=>
  have hs:=hR s ⋯;obtain⟨h1,h2,h3,h4,h5⟩:=hs;have ih:=ih λs hs=>hR s (by simp[hs]);simp only[Zy,Zab,Function.comp,Zcv,ZcU]at ih ⊢;have:(if s.1=p/\s.2.toNat∈l then(1:Int)else 0)+(if s.2=p/\s.1.toNat∈l then 1 else 0)=QW p l s:=by
   unfold QW;by_cases a:s.1=p/\s.2.toNat∈l
   .rw[if_pos a,if_neg (λz=>h5 (a.1.trans z.1.symm)) (c:=s.2=p/\s.1.toNat∈l),if_pos (Or.inl a)];rfl
   .by_cases b:s.2=p/\s.1.toNat∈l
    .rw[if_neg a,if_pos b,if_pos (Or.inr b)];rfl
    .rw[if_neg a,if_neg b,if_neg (λz=>z.elim a b)];rfl
  lia
def QvR{l:List Nat}{n:Nat}:cutD (l.map λ(p:Nat)=>D.int (p:Int)) (some (n:Int)) none=(l.drop n).map λ(p:Nat)=>D.int (p:Int):=by
 unfold cutD;simp only[Zd,HT.Qnq,HT.Ql5,Nat.sub_zero];rw[← ZcT,← Zcw];congr 1;by_cases h:n<=l.length
 .rw[ZcO h,ZaX ⋯]
 .rw[Nat.min_eq_right ⋯,ZcI ⋯,ZcI ⋯];simp
def Qyn{fa fb:DE}{J:En}{ra rb:R}{l:List Nat}{n:Nat}(ha:fa J=some ra)(ea:ra.d=Qf l)(hb:fb J=some rb)(eb:rb.d= .int n):Qep fa (Qcb fb) Qfa J=some (reT (Qf (l.drop n))):=by
 unfold Qep Qfa Qcb;simp only[ha,hb,Za,ea,eb,Qf,QvR,Qa7,QjY,if_true]
def QAm(ha:fa J=some ra)(ea:ra.d= .int x)(hb:fb J=some rb)(eb:rb.d=pairD s):dOp (gIn false) fa fb J=some (reT (.bl (decide (s.1=x) || decide (s.2=x)))):=by
 refine Q4 ha hb ?_;rw[ea,eb];show some (D.bl ([D.int s.1,D.int s.2].any λy=>deq y (.int x)))=_;rw[ZcV,ZcV,List.any_nil,Qev,Qev,Bool.or_false]
def Qtt{m:Nat}{R:Lpp}(hR:∀s∈R,Good m s)(p:Nat):((R.filter λs=>decide (s.1=(p:Int)) || decide (s.2=(p:Int))).length:Int)=QI R [] p:=by
 unfold QI;rw[show(([]:Lpp).map λl=>isI p l.1).sum=0 from rfl,ZaF]
 induction R with
 | nil=>rfl
 | cons s R ih=>
  obtain⟨h1,h2,h3,h4,h5⟩:=hR s ⋯;have ih:=ih λs hs=>hR s (by simp[hs]);rw[Zy,Zab,← ih];unfold isI;by_cases a:s.1=p
  .have b:¬s.2=p:=λz=>h5 (a.trans z.symm);rw[ZcD (by simp[a]),Zw,if_pos a,if_neg b];lia
  .by_cases b:s.2=p
   .rw[ZcD (by simp[b]),Zw,if_neg a,if_pos b];lia
   .rw[List.filter_cons_of_neg (by simp[a,b]),if_neg a,if_neg b];lia
noncomputable def Qo9(w:Int×Int×Bool):Int×Int×Bool:=(w.1,w.2.1,false)
def Qmk(he:Esc m W)(hg:∀w∈W,GoodW m w)(hl:W.length<=200):Qaw m (W.map QbU) []:=by
 refine⟨W.map Qo9,λA hA=>?_,λw hw=>?_,by rw[Zd];exact hl,?_,?_⟩
 .obtain⟨w,h1,h2⟩:=he A hA;exact⟨Qo9 w,Zs.mpr ⟨w,h1,rfl⟩,h2⟩
 .obtain⟨w',h1,rfl⟩:=Zs.mp hw;exact⟨(hg w' h1).1,λz=>by cases z⟩
 .unfold QeB;rw[Zci.mpr λw hw=>by obtain⟨w',_,rfl⟩:=Zs.mp hw;rfl,ZN];rfl
 .unfold Qfs;rw[ZcJ.mpr λw hw=>by obtain⟨w',_,rfl⟩:=Zs.mp hw;simp[Qo9]];rfl
def QwT(ha:fa J=some ra)(ea:ra.d= .int a)(hb:fb J=some rb)(eb:rb.d= .int b):dBf QfS (Qa fa (Qa fb Qe)) J=some (reI (if b<a then b else a)):=by
 unfold dBf;rw[Qt ha (Qt hb (QP _)),Za];simp only[ea,eb,QfS,Zag]
noncomputable def prs(W:List (Int×Int×Bool)):List (Int×Int):=W.map QbS
def QuQ{fa:DE}{J:En}{r:R}{s:Int×Int}(h:fa J=some r)(e:r.d=pairD s):dBf QeF (Qa fa Qe) J=some (reI (if s.2<s.1 then s.2 else s.1)):=by
 unfold dBf;rw[Qt h (QP _),Za];simp only[e,pairD,QeF];rfl
def Qvt{fa:DE}{J:En}{r:R}{s:Int×Int}(h:fa J=some r)(e:r.d=pairD s):dBf QdH (Qa fa Qe) J=some (reI (if s.1<s.2 then s.2 else s.1)):=by
 unfold dBf;rw[Qt h (QP _),Za];simp only[e,pairD,QdH];rfl
def Qp7(p:Nat)(l:List Nat)(s:Int×Int):0<=QW p l s/\QW p l s<=1:=by unfold QW;split<;>lia
def QuO{T:Mt2}{h:Mt1}{m:Nat}{k p:Nat}(hp:p<m){j:Nat}(hj:j<=k):p∈QN T h m j↔(QZ T h m k p=none∨∃t,QZ T h m k p=some t/\(j:Int)+1<=t):=by
 cases e:QZ T h m k p with
 | none=>exact⟨λ_=> .inl rfl,λ_=>Qde hj ((QdX k p hp).mp e)⟩
 | some t=>
  obtain⟨i,h1,h2,h3,h4,_⟩:=Qc9 k p t e;constructor
  .intro z;refine .inr ⟨t,rfl,?_⟩;by_cases hh:j<=i
   .lia
   .exact absurd (Qde (show i+1<=j by lia) z) h4
  .rintro(z | ⟨t',z,hz⟩)
   .cases z
   .cases z;exact Qde (show j<=i by lia) h3
def QoK{T:Mt2}{h:Mt1}{l:List Nat}:QcD T h l=l∨(QcD T h l).length<l.length:=by
 by_cases e:(QcD T h l).length<l.length
 .exact .inr e
 .left;unfold QcD at e ⊢;have h1:=Zby (λp=> !(Qap T h l).contains p) l;rw[Zci];intro a ha;have h2:=List.length_filter_eq_length_iff.mp (Zcf (Zby _ l) (Nat.le_of_not_lt e));exact h2 a ha
def Qns{T:Mt2}{h:Mt1}{m:Nat}:∀k,QN T h m (k+1)=QN T h m k∨(QN T h m (k+1)).length+(k+1)<=m
 | 0=>by
  rcases QoK (T:=T) (h:=h) (l:=QN T h m 0)with e | e
  .exact .inl e
  .right;have:(QN T h m 0).length=m:=ZD;show(QcD T h (QN T h m 0)).length+1<=m;lia
 | k+1=>by
  rcases Qns (T:=T) (h:=h) (m:=m) k with e | e
  .left;show QcD T h (QN T h m (k+1))=QN T h m (k+1);rw[e];exact e
  .rcases QoK (T:=T) (h:=h) (l:=QN T h m (k+1))with e2 | e2
   .exact .inl e2
   .right;show(QcD T h (QN T h m (k+1))).length+(k+1+1)<=m;lia
def Qux{T:Mt2}{h:Mt1}{m p:Nat}(hp:p∈QN T h m m):h p<Qaz T p (QN T h m m):=by
 have hm:0<m:=Zbf (ZS _) (Qcf hp);have key:QN T h m (m+1)=QN T h m m:=by
  rcases Qns (T:=T) (h:=h) (m:=m) m with e | e
  .exact e
  .lia
 have h1:p∈QcD T h (QN T h m m):=by
  show p∈QN T h m (m+1);rw[key];exact hp
 have h2:=(QcA.mp h1).2;by_cases h3:Qaz T p (QN T h m m)<=h p
 .exact absurd (Qbv.mpr ⟨hp,h3⟩) h2
 .lia
def QrD{m:Nat}{s:Int×Int}(g:Good m s){p:Nat}{l:List Nat}:QW p (l.filter λo=>decide (o≠p)) s=QW p l s:=by
 obtain⟨g1,g2,g3,g4,g5⟩:=g;unfold QW;have e1:(s.1=p/\s.2.toNat∈l.filter λo=>decide (o≠p))↔(s.1=p/\s.2.toNat∈l):=by
  rw[Zx];constructor
  .rintro⟨a,b,_⟩;exact⟨a,b⟩
  .rintro⟨a,b⟩;exact⟨a,b,decide_eq_true ⋯⟩
 have e2:(s.2=p/\s.1.toNat∈l.filter λo=>decide (o≠p))↔(s.2=p/\s.1.toNat∈l):=by
  rw[Zx];constructor
  .rintro⟨a,b,_⟩;exact⟨a,b⟩
  .rintro⟨a,b⟩;exact⟨a,b,decide_eq_true ⋯⟩
 simp only[e1,e2]
def QeC{m:Nat}{R:Lpp}(hR:∀s∈R,Good m s){p:Nat}(hp:p<m){l:List Nat}(nd:l.Nodup)(hl:∀o∈l,o<m):Qaz (Qg m (Qb R [])) p l=(R.map (QW p l)).sum:=by
 unfold Qaz;rw[QmC hR hp (nd.filter _) (λo ho=>hl o (Zx.mp ho).1) (λz=>by have:=(Zx.mp z).2;simp at this),Zp λs hs=>QrD (hR s hs)]
def QkV{m:Nat}{R:Lpp}(hR:∀s∈R,Good m s)(p:Nat):(R.map (QW p (List.range (m+1)))).sum=QI R [] p:=by
 unfold QI;rw[Zcj,List.sum_nil,ZaF];congr 1;refine Zp λs hs=>?_;obtain⟨g1,g2,g3,g4,g5⟩:=hR s hs;unfold QW isI;have e1:s.2.toNat∈List.range (m+1):=Zb.mpr ⋯;have e2:s.1.toNat∈List.range (m+1):=Zb.mpr ⋯;by_cases a:s.1=p
 .have b:¬s.2=p:= ⋯
  simp[a,b,e1,e2]
 .by_cases b:s.2=p
  .simp[a,b,e1,e2]
  .simp[a,b,e1,e2]
def Ql4:∀bs:List Bool,QjW (bs.map D.bl)=some bs
 | []=>rfl
 | b::bs=>by
  show Option.bind (some b) (λi=>(QjW (bs.map D.bl)).map λr=>i::r)=_;rw[Ql4 bs];rfl
def QwW{fa:DE}{J:En}{r:R}{m:Nat}{g:Nat->Bool}(h:fa J=some r)(e:r.d= .lst ((List.range m).map λi=> .bl (g i))):dBf QiH (Qa fa Qe) J=some (reT (.bl ((List.range m).all g))):=by
 unfold dBf;rw[Qt h (QP _),Za];have:((List.range m).map λi=>D.bl (g i))=(((List.range m).map g).map D.bl):=by rw[ZN];rfl
 simp only[e,QiH,this,Ql4,Zag];rw[ZbI];rfl
def QwB(n m:Nat)(F:Nat->Option Int):(Q9 m F).sim (n+1)=true:=by
 unfold Q9;simp only[D.sim,ZbI,Zae];intro p _;show(Qcu (F p)).sim n=true;cases F p<;>cases n<;>rfl
def Qx9{m:Nat}{F:Nat->Option Int}:((List.range m).map λi=>Qcu (F i)).any (λy=>deq y .non)=(List.range m).any λi=>(F i).isNone:=by
 rw[List.any_map];congr 1;funext i;show deq (Qcu (F i)) .non=(F i).isNone;cases F i<;>rfl
def QmF{neg:Bool}{fb:DE}{J:En}{rb:R}{m:Nat}{F:Nat->Option Int}(hb:fb J=some rb)(eb:rb.d=Q9 m F):dOp (gIn neg) (dC .non) fb J=some (reT (.bl (if neg then !((List.range m).any λi=>(F i).isNone)else(List.range m).any λi=>(F i).isNone))):=by
 refine Q4 (ra:=⟨.non,true,[]⟩) rfl hb ?_;rw[eb];show(if D.non.sim 8 && (Q9 m F).sim 8 then some (D.bl (if neg then !(((List.range m).map λi=>Qcu (F i)).any λy=>deq y .non)else((List.range m).map λi=>Qcu (F i)).any λy=>deq y .non))else none)=_;rw[QwB 7 m F,Qx9];rfl
noncomputable def Qhv(Qeb:Den)(Qba:Den):DS:=(Qc (Qv 2 (Qs 2 Qeb [] (Qa vv0 (Qa vv1 Qe)))) (Qc (Qv 3 (dBf QiH (Qa (QO (QaW vv1 (Qs 1 Qba [] (Qa vv0 Qe))) (.tp [1,2]) [none,none,none] Qac (dOp gLt vv1 vv2)) Qe))) (Qc (QM (Qhf vv3 (dOp (gIn true) (dC .non) vv2))) Ql)))
noncomputable def QcG(R:Lpp)(m:Nat)(h:Mt1)(F:Nat->Option Int):Bool:=(List.range m).all (λj=>decide (h j<QI R [] j)) && !((List.range m).any λi=>(F i).isNone)
def Qk7(d:Den):Prop:=∀(m:Nat) (R:Lpp) (h:Mt1),0<m->m<=1000->R.length<=1000->(∀s∈R,Good m s)->(∀j,j<m->0<=h j)->d [Qo m R [],Qd m h]=some (.bl (QcG R m h (QZ (Qg m (Qb R [])) h m m)),true)
def Qut{df ds:Den}(hf:Qkr df)(hs:Qku ds):Qk7 (Qm 4 (Qhv df ds)):=λm R h m0 hm hRl hR hpos=>by
 have ef:=hf m R h m0 hm hRl hR hpos;have es:=hs m R [] hm (by simp;lia) hR (λs hs=>absurd hs ⋯);generalize QZ (Qg m (Qb R [])) h m m=F at *;refine QY ?_;refine rsa (Qu (r:=⟨[Qo m R [],Qd m h],false,[]⟩) rfl ef rfl) ?_
 have ec:=QR (fi:=QaW (Qn 1) (Qs 1 ds [] (Qa (Qn 0) Qe))) (t:= .tp [1,2]) (cap:=[none,none,none]) (fe:=dOp gLt (Qn 1) (Qn 2)) (J:=[slF (Qo m R []),slF (Qd m h),slT (Q9 m F),none])
  (toD:=λ(i:Nat)=> .tup [.int (h i),.int (QI R [] i)]) (out:=λ(i:Nat)=> .bl (decide (h i<QI R [] i))) (List.range m) (Qcq (ra:=reF (Qd m h)) rfl rfl (Qu (r:=⟨[Qo m R []],false,[]⟩) rfl es rfl) rfl) rfl λi _=>⟨[none,slI (h i),slI (QI R [] i)],rfl,reT (.bl (decide (h i<QI R [] i))),rfl,rfl,rfl⟩
 refine rsa (QwW (m:=m) (g:=λi=>decide (h i<QI R [] i)) ec rfl) ?_;exact Qy (QzB (a:=(List.range m).all λj=>decide (h j<QI R [] j)) (b:= !((List.range m).any λi=>(F i).isNone)) rfl (QmF (neg:=true) (m:=m) (F:=F) (rb:=⟨Q9 m F,true,[2]⟩) rfl rfl)) ⟨rfl,rfl⟩
def QiL{fa fb:DE}{J:En}{ra rb:R}{l:List Nat}{i:Int}{v:Nat}(ha:fa J=some ra)(ea:ra.d=Qf l)(hb:fb J=some rb)(eb:rb.d= .int i)(h0:0<=i)(h:l[i.toNat]? =some v):Qk fa fb J=some (reI v):=by
 refine Qdx (ns:=l.map λ(p:Nat)=>(p:Int)) ha (by rw[ea,Qms]) hb eb h0 ?_;rw[Zk,h];rfl
def Qlw{fa:DE}{J:En}{r:R}{l:List Nat}(h:fa J=some r)(e:r.d=Qf l):dBf Qan (Qa fa Qe) J=some (reI l.length):=by
 rw[Qbg h e,Zd]
def QvT{x:Nat}{fa:DE}{J:En}{r:R}{l:List Nat}{v:Nat}{Q:Out->Prop}(hx:J[x]? =some (slT (Qf l)))(ha:fa J=some r)(e:r.d= .int v)(hl:l.length<16777216)(q:Q (.nx (J.set x (slT (Qf (l++[v])))))):Run (Qb1 x Q8 fa) J Q:=by
 refine QlA (xs:=l.map λ(p:Nat)=>D.int (p:Int)) hx ha (by rw[e];rfl) (by simpa using hl) ?_;have:D.lst ((l.map λ(p:Nat)=>D.int (p:Int))++[r.d])=Qf (l++[v]):=by unfold Qf;rw[e,ZO];rfl
 rw[this];exact q
def QwX{fa fb:DE}{J:En}{ra rb:R}{l k:List Nat}(ha:fa J=some ra)(ea:ra.d=Qf l)(hb:fb J=some rb)(eb:rb.d=Qf k)(hl:l.length+k.length<=1000):QJ fa fb J=some (reT (Qf (l++k))):=by
 unfold QJ;rw[ha,Za,hb,Za,ea,eb];simp only[Qf,Zd,QbD];rw[if_pos ⋯];unfold Qa7;rw[← ZO,if_pos (QjY _)]
def Qj1{α:Type}{g:α->Int}:∀{S:List α},(∀s∈S,0<=g s)->(∃s∈S,0<g s)->0<(S.map g).sum
 | [],_,⟨_,h,_⟩=>absurd h ⋯
 | a::S,h0,⟨s,hs,hp⟩=>by
  rw[Zy,Zab];have h1:=h0 a ⋯;have h2:=Qd4 S λs hs=>h0 s (by simp[hs]);rcases Zq.mp hs with rfl | hs
  .lia
  .have:=Qj1 (λs hs=>h0 s (by simp[hs])) ⟨s,hs,hp⟩;lia
def Qtf{m:Nat}{R:Lpp}(hw:Qaw m R []):QnI m (Qb R []):=by
 obtain⟨W,h1,h2,h3,h4,h5⟩:=hw.ex;have:=Qmp h1;rw[← h4,← h5]at this;exact this
def Qw5{m:Nat}{R:Lpp}(hw:Qaw m R [])(A:Nat->Prop)(hA:∃p,p<m/\A p):∃p,p<m/\A p/\∃s∈R,(s.1=p/\(s.2=m∨¬A s.2.toNat))∨(s.2=p/\(s.1=m∨¬A s.1.toNat)):=by
 obtain⟨s,h1,h2,h3,h4⟩:=Qtf hw A hA;unfold Qb at h1;rw[ZV]at h1;have hg:=hw.good.1;rcases Zf.mp h1 with h | h
 .obtain⟨g1,_⟩:=hg s h;exact⟨s.1.toNat,⋯,h3,s,h,.inl ⟨⋯,h4⟩⟩
 .obtain⟨r,hr,rfl⟩:=Zs.mp h;obtain⟨g1,g2,_⟩:=hg r hr;simp only[Zcv,ZcU]at h2 h3 h4;exact⟨r.2.toNat,⋯,h3,r,hr,.inr ⟨⋯,h4⟩⟩
def Qj5{R:Lpp}{m:Nat}{h:Mt1}{F:Nat->Option Int}(h1:∀i,i<m->F i≠none/\h i<QI R [] i):QcG R m h F=true:=by
 unfold QcG;rw[Zl,Zae,Zak,ZaR];refine⟨λi hi=>decide_eq_true (h1 i (Zb.mp hi)).2,λi hi=>?_⟩;have:=(h1 i (Zb.mp hi)).1;cases e:F i with
 | none=>exact absurd e this
 | some t=>simp
def Qho{α:Type}{f h:α->Int}:∀{S:List α},(∀s∈S,f s<=h s)->(S.map f).sum<=(S.map h).sum
 | [],_=>by simp
 | a::S,H=>by
  have h1:=H a ⋯;have h2:=Qho (S:=S) λs hs=>H s (by simp[hs]);simp only[Zy,Zab];lia
def QsR{p:Nat}{l k:List Nat}{s:Int×Int}(hd:∀x∈l,x∈k):QW p l s<=QW p k s:=by
 unfold QW;by_cases c:(s.1=p/\s.2.toNat∈l)∨(s.2=p/\s.1.toNat∈l)
 .rw[if_pos c,if_pos (c.elim (λz=> .inl ⟨z.1,hd _ z.2⟩) λz=> .inr ⟨z.1,hd _ z.2⟩)];exact Zao _
 .rw[if_neg c];split<;>lia
def Leg.mono(h:Leg m T f c)(e:∀i,i<m->f i<=g i):Leg m T g c:=by
 induction h with
 | nil=>exact .nil
 | @step c p t _ hp ht hle ih=>
  refine .step ih hp ht ?_;have:=e p hp;unfold Qi at hle ⊢;lia
def Qpe(j:Nat):Qi m T (Qi m T f c) d j=Qi m T f (λi=>c i+d i) j:=by
 unfold Qi;have e:(λi=>(c i+d i)*T i j)=λi=>c i*T i j+d i*T i j:=by funext i;rw[Zah]
 rw[e,QaF];show f j+Qx m (λi=>c i*T i j)+_=_;lia
def Leg.trans(h:Leg m T f c)(h2:Leg m T (Qi m T f c) d):Leg m T f (λi=>c i+d i):=by
 induction h2 with
 | nil=>exact h.cast λi=>by simp
 | @step d p t _ hp ht hle ih=>
  rw[Qpe]at hle;refine(Leg.step ih hp ht hle).cast λi=>?_;unfold up;split
  .rename_i e;subst e;show c i+d i+t=c i+(d i+t);lia
  .rfl
def Told.lay(hC:Told m T F C)(hF:∀j,j<m->F j<=F' j)(hh:∀j,j<m->h j=Qi m T F C j+(F' j-F j))(hc:Told m T h c):Told m T F' (λi=>C i+c i)/\∀j,j<m->Qi m T h c j=Qi m T F' (λi=>C i+c i) j:=by
 have e1:∀j,j<m->h j=Qi m T F' C j:=λj hj=>by
  rw[hh j hj];unfold Qi;lia
 have e2:∀j,j<m->Qi m T h c j=Qi m T F' (λi=>C i+c i) j:=λj hj=>by
  rw[← Qpe];exact QaJ j (e1 j hj) λ_ _=>rfl
 exact⟨⟨(hC.leg.mono hF).trans (hc.leg.Qnk e1),λj hj=>by rw[← e2 j hj];exact hc.pos j hj,λj hj=>by rw[← e2 j hj];exact hc.stb j hj⟩,e2⟩
def QiD{m:Nat}{R:Lpp}(hR:∀s∈R,Good m s):∀i j,i<m->j<m->i≠j->Qg m (Qb R []) i j=Qg m (Qb R []) j i:=λi j hi hj hij=>Qul hR hi hj hij
def Qrq{m:Nat}{T:Mt2}(sym:∀i j,i<m->j<m->i≠j->T i j=T j i){l:List Nat}(nd:l.Nodup)(hl:∀o∈l,o<m){j:Nat}(hj:j<m):(Qx m λi=>(if i∈l then 1 else 0)*T i j)=Qaz T j l+if j∈l then T j j else 0:=by
 unfold Qaz;rw[QgK (m:=m) (nd.filter _) λo ho=>hl o (Zx.mp ho).1];have e3:=Qa8 (m:=m) (p:=j) hj (if j∈l then 1 else 0) (λi=>T j i);have e4:(if j∈l then T j j else 0)=(if j∈l then 1 else 0)*T j j:=by split<;>simp
 rw[e4,← e3,← QaF];refine QF λi hi=>?_;by_cases hij:i=j
 .subst hij;rw[if_pos rfl];have:¬i∈l.filter λo=>decide (o≠i):= ⋯
  rw[if_neg this];lia
 .rw[if_neg hij];by_cases hil:i∈l
  .rw[if_pos hil,if_pos (Zx.mpr ⟨hil,by simpa using hij⟩),sym i j hi hj hij];lia
  .rw[if_neg hil,if_neg (λz=>hil (Zx.mp z).1)];lia
def Qzt{m:Nat}{R:Lpp}(hR:∀s∈R,Good m s){p:Nat}(hp:p<m){l:List Nat}(nd:l.Nodup)(hl:∀o∈l,o<m){s:Int×Int}(hs:s∈R)(ho:(s.1=p/\(s.2=m∨s.2.toNat∉l))∨(s.2=p/\(s.1=m∨s.1.toNat∉l))):Qaz (Qg m (Qb R [])) p l+1<=QI R [] p:=by
 rw[QeC hR hp nd hl,← QkV hR p];obtain⟨g1,g2,g3,g4,g5⟩:=hR s hs;have hm:m∉l:=λz=>by have:=hl m z;lia
 have h1:QW p l s=0/\QW p (List.range (m+1)) s=1:=by
  have e1:s.2.toNat∈List.range (m+1):=Zb.mpr ⋯;have e2:s.1.toNat∈List.range (m+1):=Zb.mpr ⋯;unfold QW;rcases ho with⟨a,h⟩ | ⟨a,h⟩
  .have b:¬s.2=p:= ⋯
   have x:s.2.toNat∉l:=by
    rcases h with h | h
    .rw[h,ZC];exact hm
    .exact h
   simp[a,b,x,e1]
  .have b:¬s.1=p:= ⋯
   have x:s.1.toNat∉l:=by
    rcases h with h | h
    .rw[h,ZC];exact hm
    .exact h
   simp[a,b,x,e2]
 have le:∀r∈R,QW p l r<=QW p (List.range (m+1)) r:=λr _=>QsR λx hx=>Zb.mpr (by have:=hl x hx;lia);clear ho g5 g4 g3 g2 g1 hR
 induction R with
 | nil=>simp at hs
 | cons r R ih=>
  simp only[Zy,Zab];rcases Zq.mp hs with e | e
  .subst e;have:=Qho (S:=R) (f:=QW p l) (h:=QW p (List.range (m+1))) λr hr=>le r (by simp[hr]);lia
  .have h2:=ih e λr hr=>le r (by simp[hr]);have h3:=le r ⋯;lia
def Qsc{m:Nat}{R:Lpp}(hw:Qaw m R []){f c:Mt1}(hf:∀j,j<m->QI R [] j-1<=f j)(hc:Told m (Qg m (Qb R [])) f c):∀i,i<m->QZ (Qg m (Qb R [])) (Qi m (Qg m (Qb R [])) f c) m m i≠none:=by
 have hR:=hw.good.1;have tp:=hw.tp;have c0:=hc.leg.nonneg;intro i hi z;have hcold:=(QdX m i hi).mp z;have nd:=QcB (T:=Qg m (Qb R [])) (h:=Qi m (Qg m (Qb R [])) f c) (m:=m) m;have lt:∀o∈QN (Qg m (Qb R [])) (Qi m (Qg m (Qb R [])) f c) m m,o<m:=λo ho=>Qcf ho;have few:∀p∈QN (Qg m (Qb R [])) (Qi m (Qg m (Qb R [])) f c) m m,Qi m (Qg m (Qb R [])) f c p<Qaz (Qg m (Qb R [])) p (QN (Qg m (Qb R [])) (Qi m (Qg m (Qb R [])) f c) m m):=λp hp=>Qux hp;generalize QN (Qg m (Qb R [])) (Qi m (Qg m (Qb R [])) f c) m m=C at *;by_cases hall:∀p∈C,0<c p
 .have:=Qv9 tp (QiD hR) hc nd (List.ne_nil_of_mem hcold) λp hp=>⟨lt p hp,hall p hp⟩;obtain⟨p,hp⟩:=List.exists_mem_of_ne_nil _ this;obtain⟨p1,p2⟩:=Qbv.mp hp;have:=few p p1;lia
 .obtain⟨q,hq1,hq2⟩:∃q,q∈C/\¬0<c q:=by
   refine ZH λw=>hall λp hp=>?_;exact ZH λw2=>w ⟨p,hp,w2⟩
  obtain⟨p,h1,⟨h2,h2'⟩,s,h3,h4⟩:=Qw5 hw (λx=>x∈C/\¬0<c x) ⟨q,lt q hq1,hq1,hq2⟩;have cp:c p=0:=by have:=c0 p;lia
  have sum0:∀o,o<m->o≠p->0<=c o*Qg m (Qb R []) o p:=λo ho hop=>Zav (c0 o) (tp.pos o p ho h1 hop);have hsum:0<=Qx m λi=>c i*Qg m (Qb R []) i p:=by
   have:=QbL (m:=m) (f:=λ_=>0) (g:=λi=>c i*Qg m (Qb R []) i p) λi hi=>by
    by_cases e:i=p
    .subst e;rw[cp,ZT];exact Zao _
    .exact sum0 i hi e
   rw[Qaj]at this;exact this
  have fp:=hf p h1;have st:=hc.stb p h1;rw[hw.neg h1]at st;have fw:=few p h2;obtain⟨g1,g2,g3,g4,g5⟩:=hR s h3;obtain⟨x,hx,hend⟩:∃x:Nat,x<=m/\((s.1=p/\s.2=x)∨(s.2=p/\s.1=x))/\(x=m∨¬(x∈C/\¬0<c x)):=by
   rcases h4 with⟨a,b⟩ | ⟨a,b⟩
   .exact⟨s.2.toNat,⋯,.inl ⟨a,⋯⟩,b.elim (λz=> .inl ⋯) .inr⟩
   .exact⟨s.1.toNat,⋯,.inr ⟨a,⋯⟩,b.elim (λz=> .inl ⋯) .inr⟩
  by_cases hxC:x∈C
  ·
   have hxm:=lt x hxC;have cx:1<=c x:=by
    rcases hend.2 with e | e
    .lia
    .have:=ZH λw:¬0<c x=>e ⟨hxC,w⟩;lia
   have hxp:x≠p:=by
    rcases hend.1 with⟨a,b⟩ | ⟨a,b⟩<;>lia
   have hT:1<=Qg m (Qb R []) x p:=by
    rw[QiD hR x p hxm h1 hxp];have:=QmC hR h1 (l:=[x]) ⋯ (by simpa using hxm) (by simpa using hxp.symm);simp only[Zy,Zcj,Zab,List.sum_nil,ZaF]at this;rw[this];have:0<(R.map (QW p [x])).sum:=Qj1 (λs _=>(Qp7 p _ s).1) ⟨s,h3,by
     unfold QW;rw[if_pos (by rcases hend.1 with⟨a,b⟩ | ⟨a,b⟩;exact .inl ⟨a,by simp;lia⟩;exact .inr ⟨a,by simp;lia⟩)];decide⟩
    lia
   have one:1<=Qx m λi=>c i*Qg m (Qb R []) i p:=by
    have:=QbL (m:=m) (f:=λi=>(if i=x then 1 else 0)*(1:Int)) (g:=λi=>c i*Qg m (Qb R []) i p) λi hi=>by
     by_cases e:i=x
     .subst e;rw[if_pos rfl];have:=Zcm cx hT ∅ ⋯;lia
     .rw[if_neg e,ZT];by_cases e2:i=p
      .subst e2;rw[cp,ZT];exact Zao _
      .exact sum0 i hi e2
    rw[Qa8 hxm 1 (λ_=>1)]at this;lia
   unfold Qi at st;lia
  .have:=Qzt hR h1 nd lt h3 (by
    rcases hend.1 with⟨a,b⟩ | ⟨a,b⟩
    .exact .inl ⟨a,.inr (by rw[b,ZC];exact hxC)⟩
    .exact .inr ⟨a,.inr (by rw[b,ZC];exact hxC)⟩)
   unfold Qi at fw;lia
def QpG{x:Nat}{fi fa:DE}{J:En}{ri r:R}{A:Lpp}{p:Int×Int}{i:Int}{Q:Out->Prop}(hx:J[x]? =some (slT (Qr A)))(hi:fi J=some ri)(ei:ri.d= .int i)(ha:fa J=some r)(hf:r.d=pairD p)(h0:0<=i)(h1:i<2^62)(hl:A.length<16777216)
  (q:Q (.nx (J.set x (slT (Qr (QbB A (min i.toNat A.length) p)))))):Run (Qjw x Q8 fi fa) J Q:=by
 refine⟨_,?_,q⟩;unfold Qjw;rw[hx];simp only[Q8,Za,hi,ha,Qak,Qr,ei,hf,Zd,QbD];rw[if_pos ⟨rfl,h0,h1,hl⟩];simp only[Qa2,Qqv]
def Qru(W:List (Int×Int×Bool))(k:Nat)(w:Int×Int×Bool):QbB (prs W) (min k (prs W).length) (QbS w)=prs (QbB W (min k W.length) w):=by
 unfold prs;rw[Qqv,Zd]
noncomputable def QeV:DS:=(Qc (Qv 2 (QiR vv1)) (Qc (Qv 3 (Q0 Qe)) (Qc (Qv 4 (Q0 Qe)) (Qc (QaU (Qa1 vv1) (.nm 5) (Qc (Qd0 (.tp [6,7]) (dDm (Qa (Qk vv0 vv5) (Qa (dBf Qan (Qa vv2 Qe)) Qe)))) (Qc (Qd0 (.tp [6,8]) (dDm (Qa vv6 (Qa (QJ vv5 kk1) Qe)))) (Qc (Qv 9 (Qbi vv1)) (Qc (sIf (QA (dOp gLt vv8 vv5)) (Qc (Qv 9 (Qbi (Qk vv3 vv8))) Ql) Ql) (Qc (Qfk 3 2 vv7) (Qc (Qjw 4 Q8 (dOp QbE vv6 (QJ vv5 kk1)) (QaQ (Qa (Qk vv3 vv5) (Qa vv9 Qe)))) Ql))))))) (Qc (QM vv4) Ql)))))
def Qlc(d:Den):Prop:=∀(m:Nat) (cs:List Int),0<m->m<=1000->m<=cs.length->(∀c∈cs,0<=c/\c<B40)->∃W,d [Qh cs,.int m]=some (Qr (prs W),true)/\W.length=m/\(∀w∈W,GoodW m w)/\Esc m W
def QvI:Qlc (Qm 10 QeV):=λm cs m0 hm hcl hcs=>by
 have key:Run QeV (Qau 10 [Qh cs,.int m]) (Rt λd fr=>∃W,d=Qr (prs W)/\fr=true/\W.length=m/\(∀w∈W,GoodW m w)/\Esc m W):=by
  refine run_seq (QK (r:=reT (Qh ((List.range m).map λ(k:Nat)=>(k:Int)))) ?_ ?_)
  .show(if 0<=(m:Int)/\(m:Int)<=1000000 then some (HS.R.mk (.lst ((List.range (m:Int).toNat).map λ(k:Nat)=> .int (k:Int))) true [])else none)=_;rw[if_pos ⟨⋯,⋯⟩];unfold Qh;rw[ZN];rfl
  rw[QaK];refine rsa (d:=Qh []) rfl ?_;refine rsa (d:=Qr (prs [])) rfl ?_
  refine run_seq (Qaa (List.range m) (λk J=>∃(Rs O:List Int) (W:List (Int×Int×Bool)) (j6 j7 j8 j9 j10:Option (D×Bool)),O.length=k/\(O++Rs).Perm ((List.range m).map λ(k:Nat)=>(k:Int))/\W.length=k/\(∀w∈W,∃j,Qie m O w j)/\(∀j,j<k->∃w∈W,Qie m O w j)∧
    J=[slF (Qh cs),slI m,slT (Qh Rs),slT (Qh O),slT (Qr (prs W)),j6,j7,j8,j9,j10]) (Qbn (n:=m) (r:=reI m) rfl rfl ⋯) rfl ⟨_,[],[],none,none,none,none,none,rfl,⋯,rfl,⋯,λj hj=>absurd hj ⋯,rfl⟩ ?_ ?_)
  .rintro k k' J hk ⟨Rs,O,W,j6,j7,j8,j9,j10,hO,hP,hWl,hW1,hW2,rfl⟩;obtain⟨hkm,rfl⟩:=QcC hk;have hRl:Rs.length=m-k:=by have:=hP.length_eq;simp at this;lia
   obtain⟨c,hc⟩:∃c,cs[k]? =some c:=⟨cs[k]'⋯,Zg ⋯⟩;have hc0:=(hcs c (Zu hc));refine⟨_,rfl,?_⟩;have elen:dBf Qan (Qa (Qn 2) Qe) [slF (Qh cs),slI m,slT (Qh Rs),slT (Qh O),slT (Qr (prs W)),slI k,j7,j8,j9,j10]=some (reI Rs.length):=by
    rw[Qbg (r:=⟨Qh Rs,true,[2]⟩) (xs:=Rs.map D.int) rfl rfl,Zd]
   refine run_seq (Qh5 (a:=c) (b:=Rs.length) (Qdx (ns:=cs) (i:=k) rfl rfl rfl rfl ⋯ (by simpa using hc)) rfl elen rfl ⋯ ⋯ ?_);have a1:=ZR c (by lia:(Rs.length:Int)≠0);have a2:=ZM c (by lia:(0:Int)<Rs.length);have a3:0<=c / Rs.length:=Zbx hc0.1 ⋯;generalize c % (Rs.length:Int)=at' at a1 a2;generalize c / (Rs.length:Int)=nb at a3;refine run_seq (Qh5 (a:=nb) (b:=(k:Int)+1) rfl rfl (Qao (a:=(k:Int)) (b:=1) rfl rfl rfl rfl) rfl ⋯ ⋯ ?_);have b1:=ZR nb (by lia:(k:Int)+1≠0);have b2:=ZM nb (by lia:(0:Int)<(k:Int)+1);have b3:0<=nb / ((k:Int)+1):=Zbx a3 ⋯;generalize nb % ((k:Int)+1)=to at b1 b2;generalize nb / ((k:Int)+1)=nc at b3;refine run_seq (QK (r:=reF (.int m)) rfl ?_);rw[Qda rfl];refine Qal (P:=λJ=>∃e:Int,(e=m∨∃i,i<k/\O[i]? =some e)/\J=[slF (Qh cs),slI m,slT (Qh Rs),slT (Qh O),slT (Qr (prs W)),slI k,slI nc,slI at',slI to,slI e]) ?_ ?_
   .refine Q5 (b:=decide (to<k)) (QC (b:=decide (to<k)) rfl rfl) (λh=>?_) (λ_=>Qp ⟨m,.inl rfl,rfl⟩);have h:=of_decide_eq_true h;obtain⟨e,he⟩:∃e,O[to.toNat]? =some e:=⟨O[to.toNat]'⋯,Zg ⋯⟩;exact run_seq (QK (Qem (Qdx (ns:=O) (i:=to) (ra:=⟨Qh O,true,[3]⟩) rfl rfl rfl rfl b1 he)) (Qp ⟨e,.inr ⟨to.toNat,⋯,he⟩,by rw[Qda rfl];rfl⟩))
   rintro J ⟨e,he,rfl⟩;obtain⟨b,hb⟩:∃b,Rs[at'.toNat]? =some b:=⟨Rs[at'.toNat]'⋯,Zg ⋯⟩;refine run_seq (QrV (A:=O) (B:=Rs) (i:=at') (b:=b) rfl rfl rfl rfl ∅ a1 ⋯ hb ⋯ ?_);have c1:=ZR (nc) (by lia:(k:Int)+1≠0);have c2:=ZM (nc) (by lia:(0:Int)<(k:Int)+1);have hOb:(O++[b])[k]? =some b:=by rw[ZbC ⋯];simp[hO]
   have eidx:=Qdx (fa:=Qn 3) (fb:=Qn 5) (ns:=O++[b]) (i:=k) (v:=b) (ra:=⟨Qh (O++[b]),true,[3]⟩) (J:=[slF (Qh cs),slI m,slT (Qh (Rs.eraseIdx at'.toNat)),slT (Qh (O++[b])),slT (Qr (prs W)),slI k,slI nc,slI at',slI to,slI e]) rfl rfl rfl rfl ⋯ (by simpa using hOb);have ew:QaQ (Qa (Qk (Qn 3) (Qn 5)) (Qa (Qn 9) Qe)) [slF (Qh cs),slI m,slT (Qh (Rs.eraseIdx at'.toNat)),slT (Qh (O++[b])),slT (Qr (prs W)),slI k,slI nc,slI at',slI to,slI e]=some ⟨pairD (QbS (b,e,false)),true,[]⟩:=by
    unfold QaQ;rw[Qt eidx (Qt (r:=reI e) rfl (QP _))];rfl
   have fr:Qie m (O++[b]) (b,e,false) k:=by
    refine⟨hOb,?_⟩;rcases he with he | ⟨i,hi,he⟩
    .exact .inl he
    .exact .inr ⟨i,hi,by rw[Zay ⋯];exact he⟩
   refine run_seq (QpG (A:=prs W) (p:=QbS (b,e,false)) rfl (QbT (a:=nc) (b:=(k:Int)+1) rfl rfl (Qao (a:=(k:Int)) (b:=1) rfl rfl rfl rfl) rfl ⋯) rfl ew rfl c1 ⋯ (by unfold prs;rw[Zd];lia) (Qp ⟨Rs.eraseIdx at'.toNat,O++[b],QbB W (min (nc % ((k:Int)+1)).toNat W.length) (b,e,false),slI k,slI nc,slI at',slI to,slI e,by simp[hO],?_,by rw[Qrj,hWl],?_,?_,by rw[Qru];rfl⟩))
   .refine List.Perm.trans ?_ hP;rw[ZI];refine ZaM O ?_;exact Qj9 Rs _ b hb
   .intro w hw;rcases Qgv.mp hw with rfl | hw
    .exact⟨k,fr⟩
    .obtain⟨j,hj⟩:=hW1 w hw;exact⟨j,hj.app⟩
   .intro j hj;by_cases hjk:j=k
    .subst hjk;exact⟨_,Qgv.mpr (.inl rfl),fr⟩
    .obtain⟨w,hw,hf⟩:=hW2 j ⋯;exact⟨w,Qgv.mpr (.inr hw),hf.app⟩
  .rintro J ⟨Rs,O,W,j6,j7,j8,j9,j10,hO,hP,hWl,hW1,hW2,rfl⟩;rw[ZD]at *;have hR0:Rs=[]:=by have:=hP.length_eq;simp at this;exact Zax ⋯
   subst hR0;rw[ZV]at hP;have nd:O.Nodup:=hP.nodup_iff.mpr (by
    rw[ZbD,ZX];exact List.Pairwise.imp (λh z=>h ⋯) Zat)
   have mem:∀x∈O,0<=x/\x<m:=λx hx=>by
    obtain⟨k,hk,rfl⟩:=Zs.mp (hP.mem_iff.mp hx);have:=Zb.mp hk;lia
   exact Qy (r:=⟨Qr (prs W),true,[4]⟩) rfl ⟨W,rfl,rfl,hWl,λw hw=>let ⟨j,hj⟩:=hW1 w hw;Qtz nd mem hj,QzH hP hW2⟩
 obtain⟨o,h1,h2⟩:=key;cases o with
 | rt d fr=>
  obtain⟨W,rfl,rfl,h3,h4,h5⟩:=h2;exact⟨W,by unfold Qm;rw[h1];rfl,h3,h4,h5⟩
 | _=>exact h2.elim
def QmO{t:Int}{v:Nat}:∀(S:Lpp) (F:Nat->Option Int),S.foldl (QbZ t) F v=if F v=none/\∃s∈S,s.1.toNat=v/\F s.2.toNat=some t then some (t+1)else F v
 | [],F=>by simp
 | s::S,F=>by
  rw[ZbN,QmO S];have key:∀w,(QbZ t F s w=some t↔F w=some t):=λw=>by
   unfold QbZ;split
   .rename_i h;unfold upO;split
    .rename_i e;subst e;rw[h.1];simp;lia
    .exact Iff.rfl
   .exact Iff.rfl
  by_cases c:F s.1.toNat=none/\F s.2.toNat=some t
  .by_cases hv:v=s.1.toNat
   .have e1:QbZ t F s v=some (t+1):=by unfold QbZ upO;rw[if_pos c,if_pos hv]
    rw[if_neg (by rw[e1];simp),e1,if_pos ⟨by rw[hv];exact c.1,s,Zv,hv.symm,c.2⟩]
   .have e1:QbZ t F s v=F v:=by unfold QbZ upO;rw[if_pos c,if_neg hv]
    rw[e1];simp only[key];by_cases h:F v=none/\∃s'∈S,s'.1.toNat=v/\F s'.2.toNat=some t
    .obtain⟨h1,s',h2,h3⟩:=h;rw[if_pos ⟨h1,s',h2,h3⟩,if_pos ⟨h1,s',ZE _ h2,h3⟩]
    .rw[if_neg h,if_neg];rintro⟨h1,s',h2,h3,h4⟩;rcases Zq.mp h2 with rfl | h2
     .exact hv h3.symm
     .exact h ⟨h1,s',h2,h3,h4⟩
  .have e1:QbZ t F s=F:=by unfold QbZ;rw[if_neg c]
   rw[e1];by_cases h:F v=none/\∃s'∈S,s'.1.toNat=v/\F s'.2.toNat=some t
   .obtain⟨h1,s',h2,h3⟩:=h;rw[if_pos ⟨h1,s',h2,h3⟩,if_pos ⟨h1,s',ZE _ h2,h3⟩]
   .rw[if_neg h,if_neg];rintro⟨h1,s',h2,h3,h4⟩;rcases Zq.mp h2 with rfl | h2
    .exact c ⟨h3▸h1,h4⟩
    .exact h ⟨h1,s',h2,h3,h4⟩
structure QBw (m:Nat) (S:Lpp) (t:Nat) (F:Nat->Option Int):Prop where
 pit:F m=some 0
 val:∀v d,F v=some d->0<=d/\d<=t/\v<=m/\(v≠m->1<=d)
 pred:∀v d,v≠m->F v=some d->∃s∈S,s.1.toNat=v/\F s.2.toNat=some (d-1)
 low:∀v d,v≠m->F v=some d->∀s∈S,s.1.toNat=v->∀e,F s.2.toNat=some e->d-1<=e
 non:∀v,F v=none->∀s∈S,s.1.toNat=v->∀e,F s.2.toNat=some e->e=t
def Qos{m:Nat}{S:Lpp}(hS:∀s∈S,Good m s):∀t,QBw m S t (Qah S (Qar m) t)
 | 0=>by
  have z:∀v d,Qar m v=some d->v=m/\d=0:=λv d h=>by
   unfold Qar at h;split at h
   .cases h;exact⟨by assumption,rfl⟩
   .cases h
  refine⟨by simp[Qah,Qar],λv d h=>?_,λv d hv h=>?_,λv d hv h=>?_,λv h s hs e1 e h2=>?_⟩
  .obtain⟨rfl,rfl⟩:=z v d h;exact⟨⋯,⋯,⋯,λh=>absurd rfl h⟩
  .exact absurd (z v d h).1 hv
  .exact absurd (z v d h).1 hv
  .obtain⟨_,rfl⟩:=z _ _ h2;rfl
 | t+1=>by
  have I:=Qos hS t;generalize hF:Qah S (Qar m) t=F at I;have nx:∀v,Qah S (Qar m) (t+1) v=if F v=none/\∃s∈S,s.1.toNat=v/\F s.2.toNat=some (t:Int)then some ((t:Int)+1)else F v:=λv=>by
   show S.foldl (QbZ t) (Qah S (Qar m) t) v=_;rw[QmO,hF]
  generalize Qah S (Qar m) (t+1)=F' at nx;have old:∀v d,F v=some d->F' v=some d:=λv d h=>by rw[nx,if_neg (by rw[h];simp)];exact h
  have new:∀v d,F' v=some d->F v=some d∨(F v=none/\d=t+1/\∃s∈S,s.1.toNat=v/\F s.2.toNat=some (t:Int)):=λv d h=>by
   rw[nx]at h;split at h
   .rename_i c;cases h;exact .inr ⟨c.1,rfl,c.2⟩
   .exact .inl h
  refine⟨old _ _ I.pit,λv d h=>?_,λv d hv h=>?_,λv d hv h s hs e1 e h2=>?_,λv h s hs e1 e h2=>?_⟩
  .rcases new v d h with h | ⟨h,rfl,s,hs,e1,_⟩
   .obtain⟨a,b,c,d⟩:=I.val v d h;exact⟨a,⋯,c,d⟩
   .have g:=hS s hs;exact⟨⋯,⋯,by have:=g.2.2.1;have:=g.1;lia,λ_=> ⋯⟩
  .rcases new v d h with h | ⟨h,rfl,s,hs,e1,e2⟩
   .obtain⟨s,hs,e1,e2⟩:=I.pred v d hv h;exact⟨s,hs,e1,old _ _ e2⟩
   .exact⟨s,hs,e1,by rw[old _ _ e2];congr 1;lia⟩
  .rcases new v d h with h | ⟨hq,rfl,_⟩
   .rcases new _ e h2 with h2 | ⟨_,rfl,_⟩
    .exact I.low v d hv h s hs e1 e h2
    .have:=(I.val v d h).2.1;lia
   .rcases new _ e h2 with h2 | ⟨_,rfl,_⟩
    .have:=I.non v hq s hs e1 e h2;lia
    .lia
  .rw[nx]at h;split at h
   .cases h
   .rename_i c;rcases new _ e h2 with h2 | ⟨_,rfl,_⟩
    .exact absurd ⟨h,s,hs,e1,by rw[h2,I.non v h s hs e1 e h2]⟩ c
    .lia
def QjI:∀(m:Nat) (l:List Nat),l.Nodup->(∀x∈l,x<m)->l.length<=m
 | 0,l,_,h=>by cases l with
  | nil=>simp
  | cons x l=>exact absurd (h x Zv) ⋯
 | m+1,l,nd,h=>by
  by_cases hm:m∈l
  .have:=QjI m (l.erase m) (nd.erase m) λx hx=>by
    have h1:=h x (List.mem_of_mem_erase hx);have h2:x≠m:=λz=>by subst z;exact(List.Nodup.not_mem_erase nd) hx
    lia
   rw[Zcx hm]at this;lia
  .have:=QjI m l nd λx hx=>by
    have h1:=h x hx;have h2:x≠m:=λz=>hm (z▸hx);lia
   lia
def QjU{m:Nat}{S:Lpp}(m0:0<m)(hS:∀s∈S,Good m s){v:Nat}(hv:v<m)(hn:Qah S (Qar m) m v=none):∀s∈S,s.1.toNat=v->Qah S (Qar m) m s.2.toNat=none:=λs hs e1=>by
 have I:=Qos hS m;generalize Qah S (Qar m) m=F at I hn;cases h:F s.2.toNat with
 | none=>rfl
 | some e=>
  exfalso;have he:=I.non v hn s hs e1 e h;have chain:∀k:Nat,k<=m->∃w,F w=some ((m:Int)-k):=λk=>by
   induction k with
   | zero=>intro _;exact⟨_,by rw[h,he];simp⟩
   | succ k ih=>
    intro hk;obtain⟨w,hw⟩:=ih ⋯;have hwm:w≠m:=λz=>by rw[z,I.pit]at hw;have:=Option.some.inj hw;lia
    obtain⟨s',_,_,h2⟩:=I.pred w _ hwm hw;exact⟨_,by rw[h2];congr 1;lia⟩
  have pick:∀k:Nat,∃w,k<m->F w=some ((k:Int)+1):=λk=>by
   by_cases hk:k<m
   .obtain⟨w,hw⟩:=chain (m-(k+1)) ⋯;exact⟨w,λ_=>by rw[hw];congr 1;lia⟩
   .exact⟨0,λz=>absurd z hk⟩
  obtain⟨f,this⟩:=ZcC pick;have hl:=QjI m (v::(List.range m).map f) ?_ ?_
  .simp at hl;lia
  .refine Zaf.mpr ⟨λhm=>?_,?_⟩
   .obtain⟨k,hk,ek⟩:=Zs.mp hm;have:=this k (Zb.mp hk);rw[ek,hn]at this;cases this
   .rw[ZbD,ZX];refine Zbn ?_ Zat
    intro a b ha hb hab e;have h1:=this a (Zb.mp ha);have h2:=this b (Zb.mp hb);rw[e,h2]at h1;have:=Option.some.inj h1;lia
  .intro x hx;rcases Zq.mp hx with rfl | hx
   .exact hv
   .obtain⟨k,hk,rfl⟩:=Zs.mp hx;have h1:=this k (Zb.mp hk);have h2:=I.val _ _ h1;have h3:f k≠m:=λz=>by rw[z,I.pit]at h1;have:=Option.some.inj h1;lia
    lia
noncomputable def rd(R:Lpp)(k:Nat):Int×Int:=R.getD k (0,0)
def QnJ{R:Lpp}{k:Nat}(h:k<R.length):R[k]? =some (rd R k):=by
 unfold rd;rw[Zaa,Zg h];rfl
def Qay{R:Lpp}{k:Nat}(h:k<R.length):rd R k∈R:=Zu (QnJ h)
def Qkd{β:Type}(R:Lpp)(f:Int×Int->β):R.map f=(List.range R.length).map λk=>f (rd R k):=by
 refine Zaq λk=>?_;rw[Zk,Zk];by_cases h:k<R.length
 .rw[QnJ h,ZQ h];rfl
 .rw[Zz ⋯,Zz (by simp;lia)];rfl
def Qvx(R:Lpp):Qr R= .lst ((List.range R.length).map λk=>pairD (rd R k)):=by
 unfold Qr;rw[Qkd R pairD]
noncomputable def QaL(p:Nat)(s:Int×Int):Bool:=decide (s.1=(p:Int)) || decide (s.2=(p:Int))
noncomputable def oe(p:Nat)(s:Int×Int):Nat:=(s.1+s.2-p).toNat
def Qa0{m:Nat}{s:Int×Int}(g:Good m s){p:Nat}(hi:QaL p s=true):((s.1+s.2-p:Int)=oe p s)/\oe p s<=m/\oe p s≠p/\((s.1=p/\s.2=oe p s)∨(s.2=p/\s.1=oe p s)):=by
 obtain⟨g1,g2,g3,g4,g5⟩:=g;unfold QaL at hi;unfold oe;simp only[Zbj,decide_eq_true_eq]at hi;rcases hi with h | h
 .refine⟨⋯,⋯,⋯,.inl ⟨h,⋯⟩⟩
 .refine⟨⋯,⋯,⋯,.inr ⟨h,⋯⟩⟩
noncomputable def QaA(R:Lpp)(p:Nat):List Nat:=(List.range R.length).filter λk=>QaL p (rd R k)
def Qcs{R:Lpp}{p k:Nat}:k∈QaA R p↔k<R.length/\QaL p (rd R k)=true:=by
 unfold QaA;rw[Zx,Zb]
noncomputable def QT(R:Lpp)(dep:Mt1)(p:Nat):List Nat:=(QaA R p).filter λk=>decide (dep (oe p (rd R k))=dep p-1)
noncomputable def Qa5(R:Lpp)(dep:Mt1)(p:Nat):List Nat:=(QaA R p).filter λk=>decide (dep (oe p (rd R k))<dep p-1)
noncomputable def QaE(t:List Nat):List Nat->Nat
 | []=>0
 | k::r=>if k∈t then 0 else QaE t r+1
def QoS{t:List Nat}:∀{l:List Nat},(∃k∈l,k∈t)->QaE t l<l.length
 | [],⟨_,h,_⟩=>by simp at h
 | a::r,⟨k,h1,h2⟩=>by
  unfold QaE;by_cases e:a∈t
  .rw[if_pos e];simp
  .rw[if_neg e];have:k∈r:=by
    rcases Zq.mp h1 with z | z
    .rw[z]at h2;exact absurd h2 e
    .exact z
   have:=QoS ⟨k,this,h2⟩;simp;lia
noncomputable def Qag(R:Lpp)(dep:Mt1)(t:List Nat)(p:Nat):Int:=(QaA R p).length-1-(Qa5 R dep p).length-QaE t (QT R dep p)
structure Qcv (R:Lpp) (m:Nat) (t:List Nat) (dep:Mt1):Prop where
 tl:∀k∈t,k<R.length
 pit:dep m=0
 val:∀v,v<m->1<=dep v/\dep v<=m
 pred:∀v,v<m->∃k∈t,QaL v (rd R k)=true/\dep (oe v (rd R k))=dep v-1
 low:∀v,v<m->∀k∈t,QaL v (rd R k)=true->dep v-1<=dep (oe v (rd R k))
def len_sub{α:Type}[DecidableEq α]:∀{l K:List α},l.Nodup->(∀x∈l,x∈K)->l.length<=K.length
 | [],_,_,_=>ZS _
 | a::l,K,nd,h=>by
  have h1:=Zaf.mp nd;have ha:=h a ⋯;have:=len_sub (K:=K.erase a) h1.2 λx hx=>(List.mem_erase_of_ne (λe:x=a=>h1.1 (by rw[← e];exact hx))).mpr (h x (by simp[hx]));rw[Zcx ha]at this;have:0<K.length:=List.length_pos_of_mem ha;simp;lia
def Qov{m:Nat}{R:Lpp}(hR:∀s∈R,Good m s)(p:Nat):((QaA R p).length:Int)=QI R [] p:=by
 rw[← Qtt hR p];congr 1;have:R.filter (λs=>decide (s.1=(p:Int)) || decide (s.2=(p:Int)))=(QaA R p).map (rd R):=by
  have e:=Qkd R id;rw[List.map_id]at e
  conv=>lhs;rw[e]
  rw[List.filter_map];rfl
 rw[this,Zd]
def Qg8{R:Lpp}{m:Nat}{t:List Nat}{dep:Mt1}(D:Qcv R m t dep){p:Nat}(hp:p<m):QaE t (QT R dep p)<(QT R dep p).length:=by
 obtain⟨k,h1,h2,h3⟩:=D.pred p hp;exact QoS ⟨k,Zx.mpr ⟨Qcs.mpr ⟨D.tl k h1,h2⟩,decide_eq_true h3⟩,h1⟩
noncomputable def Qbm(R:Lpp)(dep:Mt1)(p:Nat):List Nat:=(QaA R p).filter λk=>decide (dep p<=dep (oe p (rd R k)))
def Qcy{R:Lpp}{dep:Mt1}{p:Nat}:(QaA R p).length=(QT R dep p).length+(Qa5 R dep p).length+(Qbm R dep p).length:=by
 unfold QT Qa5 Qbm
 induction QaA R p with
 | nil=>rfl
 | cons k r ih=>
  simp only[Zbd,Zw];by_cases a:dep (oe p (rd R k))=dep p-1
  .have b:¬dep (oe p (rd R k))<dep p-1:= ⋯
   have c:¬dep p<=dep (oe p (rd R k)):= ⋯
   simp only[decide_eq_true a,decide_eq_false b,decide_eq_false c,if_true,if_false,Zw,ZaG];lia
  .by_cases b:dep (oe p (rd R k))<dep p-1
   .have c:¬dep p<=dep (oe p (rd R k)):= ⋯
    simp only[decide_eq_false a,decide_eq_true b,decide_eq_false c,if_true,if_false,Zw,ZaG];lia
   .have c:dep p<=dep (oe p (rd R k)):= ⋯
    simp only[decide_eq_false a,decide_eq_false b,decide_eq_true c,if_true,if_false,Zw,ZaG];lia
def QfC{R:Lpp}{m:Nat}{t:List Nat}{dep:Mt1}(hR:∀s∈R,Good m s)(D:Qcv R m t dep){p:Nat}(hp:p<m):((Qbm R dep p).length:Int)<=Qag R dep t p/\Qag R dep t p<QI R [] p:=by
 have h1:=Qg8 D hp;have h2:=Qcy (R:=R) (dep:=dep) (p:=p);have h3:=Qov hR p;unfold Qag;lia
def QtQ{m:Nat}{R:Lpp}(hR:∀s∈R,Good m s){p:Nat}{l:List Nat}{K:List Nat}(hK:∀k,k<R.length->QaL p (rd R k)=true->oe p (rd R k)∈l->k∈K):(R.map (QW p l)).sum<=K.length:=by
 rw[Qkd R (QW p l)];have e:(List.range R.length).map (λk=>QW p l (rd R k))=(List.range R.length).map λk=>if QaL p (rd R k)=true/\oe p (rd R k)∈l then(1:Int)else 0:=Zp λk hk=>by
  have hk:=Zb.mp hk;obtain⟨g1,g2,g3,g4,g5⟩:=hR _ (Qay hk);unfold QW;by_cases hi:QaL p (rd R k)=true
  .obtain⟨o1,o2,o3,o4⟩:=Qa0 (hR _ (Qay hk)) hi;rcases o4 with⟨a,b⟩ | ⟨a,b⟩
   .have c:¬(rd R k).2=p:= ⋯
    have d:(rd R k).2.toNat=oe p (rd R k):= ⋯
    simp only[a,c,d,hi,true_and,false_and,or_false]
   .have c:¬(rd R k).1=p:= ⋯
    have d:(rd R k).1.toNat=oe p (rd R k):= ⋯
    simp only[a,c,d,hi,true_and,false_and,false_or]
  .rw[if_neg (c:=QaL p (rd R k)=true/\oe p (rd R k)∈l) (λz=>hi z.1),if_neg];unfold QaL at hi;simp only[Zbj,decide_eq_true_eq,not_or]at hi;intro z;rcases z with z | z
   .exact hi.1 z.1
   .exact hi.2 z.1
 rw[e];have cnt:∀L:List Nat,L.Nodup->(∀k∈L,k<R.length)->(L.map λk=>if QaL p (rd R k)=true/\oe p (rd R k)∈l then(1:Int)else 0).sum=((L.filter λk=>decide (QaL p (rd R k)=true/\oe p (rd R k)∈l)).length:Int):=by
  intro L
  induction L with
  | nil=>intros;rfl
  | cons k r ih=>
   intro nd hl;rw[Zy,Zab,ih (Zaf.mp nd).2 λk hk=>hl k (by simp[hk]),Zbd];by_cases c:QaL p (rd R k)=true/\oe p (rd R k)∈l
   .rw[if_pos c,if_pos (decide_eq_true c),Zw];lia
   .rw[if_neg c,if_neg (by rw[decide_eq_false c];simp)];lia
 rw[cnt _ Zat λk hk=>Zb.mp hk];have sub:∀k∈(List.range R.length).filter (λk=>decide (QaL p (rd R k)=true/\oe p (rd R k)∈l)),k∈K:=λk hk=>by
  obtain⟨h1,h2⟩:=Zx.mp hk;have h2:=of_decide_eq_true h2;exact hK k (Zb.mp h1) h2.1 h2.2
 have nd:((List.range R.length).filter (λk=>decide (QaL p (rd R k)=true/\oe p (rd R k)∈l))).Nodup:=Zat.filter _;exact Int.ofNat_le.mpr (len_sub nd sub)
def Qsp{m:Nat}{R:Lpp}{t:List Nat}{dep:Mt1}(hR:∀s∈R,Good m s)(D:Qcv R m t dep){h:Mt1}(hh:∀p,p<m->h p=Qag R dep t p):∀(d:Nat) (p:Nat),p<m->dep p=d->p∉QN (Qg m (Qb R [])) h m d:=by
 intro d
 induction d using Nat.strongRecOn with
 | _ d ih=>
  intro p hp hd z;cases d with
  | zero=>have:=(D.val p hp).1;lia
  | succ d=>
   obtain⟨z1,z2⟩:=QcA.mp z;apply z2;refine Qbv.mpr ⟨z1,?_⟩;rw[QeC hR hp (QcB _) (λo ho=>Qcf ho),hh p hp];refine ZbF (QtQ hR (K:=Qbm R dep p) λk hk hi ho=>?_) (QfC hR D hp).1;refine Zx.mpr ⟨Qcs.mpr ⟨hk,hi⟩,decide_eq_true ?_⟩;have hom:=Qcf ho;refine ZH λq=>?_;have hv:=D.val _ hom;obtain⟨e,he⟩:∃e:Nat,dep (oe p (rd R k))=e:=⟨(dep (oe p (rd R k))).toNat,⋯⟩;exact ih e ⋯ _ hom he (Qde ⋯ ho)
def Qr7{m:Nat}{R:Lpp}{t:List Nat}{dep:Mt1}(hR:∀s∈R,Good m s)(D:Qcv R m t dep):QcG R m (Qag R dep t) (QZ (Qg m (Qb R [])) (Qag R dep t) m m)=true:=Qj5 λi hi=>by
 refine⟨λz=>?_,(QfC hR D hi).2⟩;have hv:=D.val i hi;obtain⟨e,he⟩:∃e:Nat,dep i=e:=⟨(dep i).toNat,⋯⟩;exact Qsp hR D (λ_ _=>rfl) e i hi he (Qde ⋯ ((QdX m i hi).mp z))
noncomputable def Qaq(R:Lpp)(t:List Nat):List (Int×Int):=t.map (rd R)
def QtO{m:Nat}{R:Lpp}{t:List Nat}(hR:∀s∈R,Good m s)(ht:∀k∈t,k<R.length)(hF:∀v,v<m->Qah (Qb (Qaq R t) []) (Qar m) m v≠none):∃dep,Qcv R m t dep/\∀v,v<m->Qah (Qb (Qaq R t) []) (Qar m) m v=some (dep v):=by
 have hT:∀s∈Qaq R t,Good m s:=λs hs=>by
  obtain⟨k,hk,rfl⟩:=Zs.mp hs;exact hR _ (Qay (ht k hk))
 have gS:=QaP (L:=[]) hT (λs hs=>absurd hs ⋯);have I:=Qos gS m;generalize Qah (Qb (Qaq R t) []) (Qar m) m=F at *;have sm:∀s,s∈Qb (Qaq R t) []↔s∈Qaq R t∨s.swap∈Qaq R t:=λs=>by
  unfold Qb;rw[ZV,Zf,Zs];constructor
  .rintro(h | ⟨r,h,rfl⟩)
   .exact .inl h
   .exact .inr (by simpa using h)
  .rintro(h | h)
   .exact .inl h
   .exact .inr ⟨s.swap,h,⋯⟩
 have hv:∀v,v<m->F v=some ((F v).getD 0):=λv hv=>by
  cases e:F v with
  | none=>exact absurd e (hF v hv)
  | some d=>rfl
 have hm:F m=some ((F m).getD 0):=by rw[I.pit];rfl
 have hle:∀v,v<=m->F v=some ((F v).getD 0):=λv h=>by
  by_cases e:v=m
  .rw[e];exact hm
  .exact hv v ⋯
 refine⟨λv=>(F v).getD 0,⟨ht,by simp[I.pit],λv h=>?_,λv h=>?_,λv h k hk hi=>?_⟩,hv⟩
 .have:=I.val v _ (hv v h);exact⟨this.2.2.2 ⋯,this.2.1⟩
 .obtain⟨s,h1,h2,h3⟩:=I.pred v _ ⋯ (hv v h);have e1:∃k∈t,QaL v (rd R k)=true/\oe v (rd R k)=s.2.toNat:=by
   have gs:=gS s h1;obtain⟨g1,g2,g3,g4,g5⟩:=gs;rcases(sm s).mp h1 with h | h
   .obtain⟨k,hk,rfl⟩:=Zs.mp h;refine⟨k,hk,?_,?_⟩
    .unfold QaL;simp;lia
    .unfold oe;lia
   .obtain⟨k,hk,e⟩:=Zs.mp h;have e1:(rd R k).1=s.2:=by rw[e];rfl
    have e2:(rd R k).2=s.1:=by rw[e];rfl
    refine⟨k,hk,?_,?_⟩
    .unfold QaL;simp;lia
    .unfold oe;lia
  obtain⟨k,hk,i1,i2⟩:=e1;refine⟨k,hk,i1,?_⟩;rw[i2,h3];rfl
 .have hg:=hR _ (Qay (ht k hk));obtain⟨o1,o2,o3,o4⟩:=Qa0 hg hi;obtain⟨g1,g2,g3,g4,g5⟩:=hg;have mem:rd R k∈Qaq R t:=Zs.mpr ⟨k,hk,rfl⟩;rcases o4 with⟨a,b⟩ | ⟨a,b⟩
  .refine I.low v _ ⋯ (hv v h) (rd R k) ((sm _).mpr (.inl mem)) ⋯ _ ?_;rw[show(rd R k).2.toNat=oe v (rd R k) by lia];exact hle _ o2
  .refine I.low v _ ⋯ (hv v h) (rd R k).swap ((sm _).mpr (.inr (by simpa using mem))) (by simp;lia) _ ?_;rw[show(rd R k).swap.2.toNat=oe v (rd R k) by simp;lia];exact hle _ o2
noncomputable def Qbs(R:Lpp)(g:Mt1)(k:Nat):Nat->Int:=
 let a:=(rd R k).1.toNat
 let b:=(rd R k).2.toNat
 let g1:=up g a (if g b+1<g a then g b+1 else g a)
 up g1 b (if g1 a+1<g1 b then g1 a+1 else g1 b)
def QpA{m:Nat}{R:Lpp}(g:Mt1){k:Nat}(hg:Good m (rd R k))(v:Nat):Qbs R g k v<=g v:=by
 obtain⟨g1,g2,g3,g4,g5⟩:=hg;have n:¬(rd R k).2.toNat=(rd R k).1.toNat:= ⋯
 have n':¬(rd R k).1.toNat=(rd R k).2.toNat:= ⋯
 unfold Qbs;simp only[Qdb];by_cases a:v=(rd R k).2.toNat
 .subst a;simp only[if_true,n,n',if_false]
  repeat' split
  all_goals lia
 .by_cases b:v=(rd R k).1.toNat
  .subst b;simp only[if_true,n,n',if_false];split<;>lia
  .simp only[a,b,if_false];exact Zao _
def QuI{m:Nat}{R:Lpp}{dep g:Mt1}{k:Nat}(hg:Good m (rd R k))(h1:dep (rd R k).1.toNat<=dep (rd R k).2.toNat+1)(h2:dep (rd R k).2.toNat<=dep (rd R k).1.toNat+1)(hb:∀v,v<=m->dep v<=g v)(v:Nat)(hv:v<=m):dep v<=Qbs R g k v:=by
 obtain⟨g1,g2,g3,g4,g5⟩:=hg;have n:¬(rd R k).2.toNat=(rd R k).1.toNat:= ⋯
 have n':¬(rd R k).1.toNat=(rd R k).2.toNat:= ⋯
 have b1:=hb (rd R k).1.toNat ⋯;have b2:=hb (rd R k).2.toNat ⋯;have b3:=hb v hv;unfold Qbs;simp only[Qdb];by_cases a:v=(rd R k).2.toNat
 .subst a;simp only[if_true,n,n',if_false]
  repeat' split
  all_goals lia
 .by_cases b:v=(rd R k).1.toNat
  .subst b;simp only[if_true,n,n',if_false];split<;>lia
  .simp only[a,b,if_false];exact b3
def QsQ{m:Nat}{R:Lpp}(g:Mt1){k:Nat}(hg:Good m (rd R k)){v:Nat}(hi:QaL v (rd R k)=true):Qbs R g k v<=g (oe v (rd R k))+1:=by
 obtain⟨o1,o2,o3,o4⟩:=Qa0 hg hi;obtain⟨g1,g2,g3,g4,g5⟩:=hg;have n:¬(rd R k).2.toNat=(rd R k).1.toNat:= ⋯
 have n':¬(rd R k).1.toNat=(rd R k).2.toNat:= ⋯
 unfold Qbs;simp only[Qdb];rcases o4 with⟨a,b⟩ | ⟨a,b⟩
 .have e1:v=(rd R k).1.toNat:= ⋯
  have e2:oe v (rd R k)=(rd R k).2.toNat:= ⋯
  rw[e2,e1];simp only[if_true,n,n',if_false];split<;>lia
 .have e1:v=(rd R k).2.toNat:= ⋯
  have e2:oe v (rd R k)=(rd R k).1.toNat:= ⋯
  rw[e2,e1];simp only[if_true,n,n',if_false]
  repeat' split
  all_goals lia
noncomputable def roundF(R:Lpp)(t:List Nat)(g:Mt1):Nat->Int:=t.foldl (Qbs R) g
noncomputable def Qb6(R:Lpp)(m:Nat)(t:List Nat):Nat->Nat->Int
 | 0=>λv=>if v<m then(m:Int)+1 else 0
 | k+1=>roundF R t (Qb6 R m t k)
def Qi5{m:Nat}{R:Lpp}{dep:Mt1}(hR:∀s∈R,Good m s)(he:∀k,k<R.length->True):∀(t:List Nat) (g:Mt1),(∀k∈t,k<R.length/\dep (rd R k).1.toNat<=dep (rd R k).2.toNat+1/\dep (rd R k).2.toNat<=dep (rd R k).1.toNat+1)->(∀v,v<=m->dep v<=g v)→
  (∀v,v<=m->dep v<=roundF R t g v)/\(∀v,roundF R t g v<=g v)/\∀k∈t,∀v,QaL v (rd R k)=true->roundF R t g v<=g (oe v (rd R k))+1
 | [],g,_,hb=>⟨hb,λv=>Zao _,λk hk=>absurd hk ⋯⟩
 | k::t,g,ht,hb=>by
  obtain⟨k1,k2,k3⟩:=ht k ⋯;have hg:=hR _ (Qay k1);obtain⟨i1,i2,i3⟩:=Qi5 hR he t (Qbs R g k) (λk hk=>ht k (by simp[hk])) (QuI hg k2 k3 hb);refine⟨i1,λv=>ZbF (i2 v) (QpA g hg v),λk' hk' v hi=>?_⟩;rcases Zq.mp hk' with e | e
  .subst e;exact ZbF (i2 v) (QsQ g hg hi)
  .refine ZbF (i3 k' e v hi) ?_;have:=QpA g hg (oe v (rd R k'));lia
def Qgs{m:Nat}{R:Lpp}{t:List Nat}{dep:Mt1}(hR:∀s∈R,Good m s)(D:Qcv R m t dep):∀v,v<=m->Qb6 R m t m v=dep v:=by
 have near1:∀v,v<=m->∀k∈t,QaL v (rd R k)=true->dep v<=dep (oe v (rd R k))+1:=λv hv k hk hi=>by
  by_cases e:v=m
  .have ho:=(Qa0 (hR _ (Qay (D.tl k hk))) hi);have:=D.val (oe v (rd R k)) ⋯;rw[e,D.pit];rw[e]at this;lia
  .have:=D.low v ⋯ k hk hi;lia
 have cond:∀k∈t,k<R.length/\dep (rd R k).1.toNat<=dep (rd R k).2.toNat+1/\dep (rd R k).2.toNat<=dep (rd R k).1.toNat+1:=λk hk=>by
  have hg:=hR _ (Qay (D.tl k hk));obtain⟨g1,g2,g3,g4,g5⟩:=hg;refine⟨D.tl k hk,?_,?_⟩
  .have:=near1 (rd R k).1.toNat ⋯ k hk (by unfold QaL;simp;lia);rw[show oe (rd R k).1.toNat (rd R k)=(rd R k).2.toNat by unfold oe;lia]at this;exact this
  .have:=near1 (rd R k).2.toNat ⋯ k hk (by unfold QaL;simp;lia);rw[show oe (rd R k).2.toNat (rd R k)=(rd R k).1.toNat by unfold oe;lia]at this;exact this
 have main:∀i:Nat,(∀v,v<=m->dep v<=Qb6 R m t i v)/\∀v,v<=m->dep v<=i->Qb6 R m t i v<=dep v:=by
  intro i
  induction i with
  | zero=>
   refine⟨λv hv=>?_,λv hv h=>?_⟩
   .show dep v<=if v<m then(m:Int)+1 else 0;by_cases e:v<m
    .rw[if_pos e];have:=(D.val v e).2;lia
    .rw[if_neg e,show v=m by lia,D.pit];exact Zao _
   .show(if v<m then(m:Int)+1 else 0)<=dep v;by_cases e:v<m
    .have:=(D.val v e).1;lia
    .rw[if_neg e,show v=m by lia,D.pit];exact Zao _
  | succ i ih=>
   obtain⟨f1,f2,f3⟩:=Qi5 hR (λ_ _=>trivial) t (Qb6 R m t i) cond ih.1;refine⟨f1,λv hv h=>?_⟩;by_cases e:dep v<=i
   .exact ZbF (f2 v) (ih.2 v hv e)
   .have hvm:v<m:=by
     by_cases q:v=m
     .rw[q,D.pit]at e;lia
     .lia
    obtain⟨k,k1,k2,k3⟩:=D.pred v hvm;have ho:=Qa0 (hR _ (Qay (D.tl k k1))) k2;have:=f3 k k1 v k2;have:=ih.2 _ ho.2.1 ⋯;show roundF R t (Qb6 R m t i) v<=dep v;lia
 intro v hv;have h1:=(main m).1 v hv;have h2:dep v<=m:=by
  by_cases e:v=m
  .rw[e,D.pit];lia
  .exact(D.val v ⋯).2
 have:=(main m).2 v hv h2;lia
def Qyv{fa fb:DE}{J:En}{ra rb:R}{A:Lpp}{i:Int}{s:Int×Int}(ha:fa J=some ra)(ea:ra.d=Qr A)(hb:fb J=some rb)(eb:rb.d= .int i)(h0:0<=i)(h:A[i.toNat]? =some s):Qk fa fb J=some ⟨pairD s,true,[]⟩:=by
 have hl:i<A.length:=by have:=(Zi.mp h).1;lia
 unfold Qk;rw[ha,Za,hb,Za,ea,eb];simp only[Qr,D.items,Za];rw[QdQ h0 (by simpa using hl),Zk,h];rfl
def Qnr{fa fb:DE}{J:En}{ra rb:R}{R:Lpp}{k:Nat}(ha:fa J=some ra)(ea:ra.d=Qr R)(hb:fb J=some rb)(eb:rb.d= .int k)(h:k<R.length):Qk fa fb J=some ⟨pairD (rd R k),true,[]⟩:=Qyv ha ea hb eb ⋯ (by rw[ZC];exact QnJ h)
structure Qwi (R:Lpp) (m:Nat) (t:List Nat):Prop where
 len:t.length=m
 inc:t.Pairwise (· < ·)
 lt:∀k∈t,k<R.length
 con:∀v,v<m->Qah (Qb (Qaq R t) []) (Qar m) m v≠none
noncomputable def Qhw(Qfl:Den):DS:=(Qc (QM (Qs 3 Qfl [] (Qa (Qk vv0 kk0) (Qa (QO (Q7 vv1) (.nm 1) [none,none,some 0] Qac (Qk (Qk vv2 kk1) vv1)) (Qa (Q0 Qe) Qe))))) Ql)
def Qkb(d:Den):Prop:=∀(m:Nat) (R:Lpp) (t:List Nat),0<m->m<=8->t.length<=64->(∀s∈R,Good m s)->(∀k∈t,k<R.length)->d [Qo m R [],Qf t]=some (Q9 m (Qah (Qb (Qaq R t) []) (Qar m) m),true)
def QyB{dl:Den}(hl:QlI dl):Qkb (Qm 2 (Qhw dl)):=λm R t m0 m8 ht hR hlt=>by
 have hT:∀s∈Qaq R t,Good m s:=λs hs=>by
  obtain⟨k,hk,rfl⟩:=Zs.mp hs;exact hR _ (Qay (hlt k hk))
 have el:=hl m (Qaq R t) [] m0 ⋯ (by simp[Qaq];lia) hT (λs hs=>absurd hs ⋯)
 have ec:=QR (fi:=Q7 (Qn 1)) (t:= .nm 1) (cap:=[none,none,some 0]) (fe:=Qk (Qk (Qn 2) (dC (.int 1))) (Qn 1)) (J:=[slF (Qo m R []),slF (Qf t)])
  (toD:=λ(k:Nat)=> .int (k:Int)) (out:=λ(k:Nat)=>pairD (rd R k)) t (Qae (r:=reF (Qf t)) rfl rfl) rfl λk hk=>⟨[none,slI k,slF (Qo m R [])],rfl,⟨pairD (rd R k),true,[]⟩,Qnr (R:=R) (k:=k) (Qdk (m:=m) (R:=R) (L:=[]) (Qcg (d:=Qo m R []) (b:=false) rfl) rfl).2.1 rfl (rb:=reI k) rfl rfl (hlt k hk),rfl,rfl⟩
 have e:D.lst (t.map λk=>pairD (rd R k))=Qr (Qaq R t):=by unfold Qr Qaq;rw[ZN];rfl
 rw[e]at ec;refine QY (Qy (Qu (Qt (r:=reI m) rfl (Qt ec (Qt (r:=reT (Qr [])) rfl (QP _)))) el rfl) ⟨rfl,rfl⟩)
noncomputable def Qgm(QaO:Den):DS:=(Qc (sIf (QA (dOp gNe (dBf Qan (Qa vv1 Qe)) (Qk vv0 kk0))) (Qc Qco Ql) Ql) (Qc (sIf (QA (dBf Qiz (Qa (QO (QaW vv1 (Qep vv1 (Qcb kk1) Qfa)) (.tp [1,2]) [none,none,none] Qac (dOp gGe vv1 vv2)) Qe))) (Qc Qco Ql) Ql) (Qc (sIf (bOr (QA (dOp gLt (Qk vv1 kk0) kk0)) (QA (dOp gGe (Qk vv1 (Qhk kk1)) (dBf Qan (Qa (Qk vv0 kk1) Qe))))) (Qc Qco Ql) Ql) (Qc (sIf (QA (dOp (gIn false) (dC .non) (Qs 2 QaO [] (Qa vv0 (Qa vv1 Qe))))) (Qc Qco Ql) Ql) Ql))))
def QqD{t:List Nat}(h:t.Pairwise (· < ·)){i j a b:Nat}(hi:t[i]? =some a)(hj:t[j]? =some b)(hij:i<j):a<b:=by
 obtain⟨i1,i2⟩:=Zi.mp hi;obtain⟨j1,j2⟩:=Zi.mp hj;rw[← i2,← j2];exact Zan.mp h i j i1 j1 hij
def Qxd{fa:DE}{J:En}{r:R}{bs:List Bool}(h:fa J=some r)(e:r.d= .lst (bs.map .bl)):dBf Qiz (Qa fa Qe) J=some (reT (.bl (bs.any id))):=by
 unfold dBf;rw[Qt h (QP _),Za];simp only[e,Qiz,Ql4,Zag]
def Qvn(t:List Nat):Qgn (t.map λ(p:Nat)=>D.int (p:Int)) ((t.drop 1).map λ(p:Nat)=>D.int (p:Int))=(t.zip (t.drop 1)).map λq=> .tup [.int (q.1:Int),.int (q.2:Int)]:=by
 unfold Qgn;rw[List.zip_map,ZN];rfl
def Qoi{α:Type}{xs:List α}(h:0<xs.length):atI xs (-1)=xs[xs.length-1]? :=by
 unfold atI ixN;rw[if_neg ∅,if_pos ⋯];show xs[((-1:Int)+xs.length).toNat]? =_;congr 1;lia
def Qma(d:Den):Prop:=∀(m:Nat) (R:Lpp) (t:List Nat),0<m->m<=8->(∀s∈R,Good m s)->Qwi R m t->d [Qo m R [],Qf t]=some (.non,true)
def Qva{dd:Den}(hd:Qkb dd):Qma (Qm 2 (Qgm dd)):=λm R t m0 m8 hR T=>by
 have ed:=hd m R t m0 m8 (by rw[T.len];lia) hR T.lt;have hne:0<t.length:=by rw[T.len];exact m0
 obtain⟨a0,ha0⟩:∃a,t[0]? =some a:=⟨_,Zg hne⟩;obtain⟨az,haz⟩:∃a,t[t.length-1]? =some a:=⟨_,Zg ⋯⟩;have hz:=T.lt az (Zu haz);have key:Run (Qgm dd) (Qau 2 [Qo m R [],Qf t]) (Nx λ_=>True):=by
  refine run_seq (Q5 (b:=false) (QC (b:=false) (r:=reT (.bl false)) ((QdC (a:=m) (b:=m) ((Qlw (l:=t) (r:=reF (Qf t)) rfl rfl).trans (by rw[T.len])) rfl (rb:=reI m) rfl rfl).trans ⋯) rfl) (λh=>by cases h) (λ_=>Qp ?_))
  have ec:=QR (fi:=QaW (Qn 1) (Qep (Qn 1) (Qcb (dC (.int 1))) Qfa)) (t:= .tp [1,2]) (cap:=[none,none,none]) (fe:=dOp gGe (Qn 1) (Qn 2)) (J:=[slF (Qo m R []),slF (Qf t)])
   (toD:=λ(q:Nat×Nat)=> .tup [.int (q.1:Int),.int (q.2:Int)]) (out:=λ(q:Nat×Nat)=> .bl (decide ((q.2:Int)<=q.1))) (t.zip (t.drop 1)) (ir:=⟨Qgn (t.map λ(p:Nat)=>D.int (p:Int)) ((t.drop 1).map λ(p:Nat)=>D.int (p:Int)),[]⟩) (by
    unfold QaW;rw[Qyn (l:=t) (n:=1) (ra:=reF (Qf t)) (rb:=reI 1) rfl rfl rfl rfl];rfl) (Qvn t) λq _=>⟨[none,slI q.1,slI q.2],rfl,reT (.bl (decide ((q.2:Int)<=q.1))),rfl,rfl,rfl⟩
  have ea:=Qxd (bs:=(t.zip (t.drop 1)).map λq=>decide ((q.2:Int)<=q.1)) ec (by rw[ZN];rfl);have hany:((t.zip (t.drop 1)).map λq=>decide ((q.2:Int)<=q.1)).any id=false:=by
   rw[ZaR];intro b hb;obtain⟨q,hq,rfl⟩:=Zs.mp hb;obtain⟨i,hi⟩:=ZaP hq;rw[ZaD,Zcl]at hi;have:=QqD T.inc hi.1 hi.2 ⋯;simp;lia
  rw[hany]at ea;refine run_seq (Q5 (b:=false) (QC (b:=false) ea rfl) (λh=>by cases h) (λ_=>Qp ?_));refine run_seq (Q5 (b:=false) ((Qd2 (a:=false) (b:=false) (QC (b:=false) (Q4 (d:= .bl false) (rb:=reI 0) (QiL (l:=t) (i:=0) (v:=a0) (ra:=reF (Qf t)) (rb:=reI 0) rfl rfl rfl rfl ∅ ha0) rfl ?_) rfl) (QC (b:=false) (Q4 (d:= .bl false) (ra:=reI az) (rb:=reI R.length) ?_ ?_ ?_) rfl)).trans rfl) (λh=>by cases h) (λ_=>Qp ?_))
  .show some (D.bl (decide ((a0:Int)<0)))=_;rw[decide_eq_false ⋯]
  .unfold Qk;show((D.items (Qf t)).bind λxs=>(atI xs (-1)).map λd=>(HS.R.mk d false []).norm)=_;unfold Qf;simp only[D.items,Za];rw[Qoi (by rw[Zd];exact hne),Zd,Zk,haz];rfl
  .rw[Qbg (xs:=R.map pairD) (Qdk (m:=m) (R:=R) (L:=[]) (Qcg (d:=Qo m R []) (b:=false) rfl) rfl).2.1 rfl,Zd]
  .show some (D.bl (decide ((R.length:Int)<=(az:Int))))=_;rw[decide_eq_false ⋯]
  refine run_seq (Q5 (b:=false) (QC (b:=false) (r:=reT (.bl false)) ((QmF (neg:=false) (m:=m) (F:=Qah (Qb (Qaq R t) []) (Qar m) m) (Qu (r:=⟨[Qo m R [],Qf t],false,[]⟩) rfl ed rfl) rfl).trans ?_) rfl) (λh=>by cases h) (λ_=>Qp (Qp trivial)));have:((List.range m).any λi=>(Qah (Qb (Qaq R t) []) (Qar m) m i).isNone)=false:=by
   rw[ZaR];intro i hi;have:=T.con i (Zb.mp hi);cases e:Qah (Qb (Qaq R t) []) (Qar m) m i with
   | none=>exact absurd e this
   | some d=>simp
  rw[this];rfl
 obtain⟨o,h1,h2⟩:=key;unfold Qm;rw[h1];cases o with
 | nx J=>rfl
 | _=>exact h2.elim
noncomputable def Qjd:DS:=(Qc (QM (QO (Qcj (Qk vv0 kk1)) (.tp [1,2]) [none,none,none,some 1] (QA (dOp (gIn false) vv3 vv2)) (QaQ (Qa vv1 (Qa (dOp Qbo (dBf QeG (Qa vv2 Qe)) vv3) Qe))))) Ql)
noncomputable def Qnl(R:Lpp)(p:Nat):D:= .lst ((QaA R p).map λ(k:Nat)=> .tup [.int (k:Int),.int (oe p (rd R k):Int)])
def QlM(d:Den):Prop:=∀(m:Nat) (R:Lpp) (p:Nat),(∀s∈R,Good m s)->d [Qo m R [],.int p]=some (Qnl R p,true)
def QxB{fa:DE}{J:En}{r:R}{s:Int×Int}(h:fa J=some r)(e:r.d=pairD s):dBf QeG (Qa fa Qe) J=some (reI (s.1+s.2)):=by
 unfold dBf;rw[Qt h (QP _),Za];have:Qa4 [D.int s.1,D.int s.2]=some [s.1,s.2]:=rfl;simp only[e,pairD,QeG,this,Zag];simp
def QvB:QlM (Qm 2 Qjd):=λm R p hR=>by
 have ec:=QdS (fi:=Qcj (Qk (Qn 0) (dC (.int 1)))) (t:= .tp [1,2]) (cap:=[none,none,none,some 1]) (ft:=QA (dOp (gIn false) (Qn 3) (Qn 2))) (fe:=QaQ (Qa (Qn 1) (Qa (dOp Qbo (dBf QeG (Qa (Qn 2) Qe)) (Qn 3)) Qe))) (J:=[slF (Qo m R []),slI p])
  (toD:=λ(k:Nat)=> .tup [.int (k:Int),pairD (rd R k)]) (keep:=λk=>QaL p (rd R k)) (out:=λ(k:Nat)=> .tup [.int (k:Int),.int (oe p (rd R k):Int)]) (List.range R.length) (ir:=⟨Qdu ((List.range R.length).map λk=>pairD (rd R k)),[]⟩) (by
   unfold Qcj;rw[(Qdk (m:=m) (R:=R) (L:=[]) (Qcg (d:=Qo m R []) (b:=false) rfl) rfl).2.1,Za,Qvx R];rfl) (QgP (α:=Nat) _ _) λk hk=>⟨[none,slI k,some (pairD (rd R k),true),slI p],rfl,QC (QAm (x:=p) (s:=rd R k) (ra:=reI p) (rb:=⟨pairD (rd R k),true,[]⟩) rfl rfl rfl rfl) rfl,λhi=>⟨(reT (.tup [.int (k:Int),.int (oe p (rd R k):Int)])),?_,rfl,rfl⟩⟩
 .exact QY (Qy ec ⟨rfl,rfl⟩)
 .have ho:=(Qa0 (hR _ (Qay (Zb.mp hk))) hi).1;unfold QaQ;refine(congrArg (λz=>Option.bind z _) (Qt (r:=reI k) rfl (Qt (Q4 (d:= .int (oe p (rd R k):Int)) (rb:=reI p) (QxB (s:=rd R k) (r:=⟨pairD (rd R k),true,[]⟩) rfl rfl) rfl ?_) (QP _)))).trans ?_
  .show some (D.int ((rd R k).1+(rd R k).2-(p:Int)))=_;rw[ho]
  .rfl
noncomputable def QhB(QcW:Den):DS:=(Qc (Qv 3 (Qs 2 QcW [] (Qa vv0 (Qa vv1 Qe)))) (Qc (Qv 4 (dOp Qbo (Qk vv2 vv1) kk1)) (Qc (Qv 5 (QO (Q7 vv3) (.tp [1,2]) [none,none,none,some 4,some 2] (QA (dOp gEq (Qk vv4 vv2) vv3)) vv1)) (Qc (Qv 6 (QO (Q7 vv3) (.tp [1,2]) [none,none,none,some 4,some 2] (QA (dOp gLt (Qk vv4 vv2) vv3)) vv1)) (Qc (QM (QaQ (Qa vv5 (Qa (dOp Qbo (dOp Qbo (dBf Qan (Qa vv3 Qe)) kk1) (dBf Qan (Qa vv6 Qe))) Qe)))) Ql)))))
def Qnm(d:Den):Prop:=∀(m:Nat) (R:Lpp) (p:Nat) (dep:Mt1),p<m->(∀s∈R,Good m s)->d [Qo m R [],.int p,Qd (m+1) dep]=some (.tup [Qf (QT R dep p),.int ((QaA R p).length-1-(Qa5 R dep p).length)],true)
def Qz3{de:Den}(he:QlM de):Qnm (Qm 7 (QhB de)):=λm R p dep hp hR=>by
 have ee:=he m R p hR;refine QY ?_;refine rsa (Qu (r:=⟨[Qo m R [],.int p],false,[]⟩) rfl ee rfl) ?_;refine rsa (Q4 (d:= .int (dep p-1)) (rb:=reI 1) (QaI (m:=m+1) (f:=dep) (i:=p) (ra:=reF (Qd (m+1) dep)) (rb:=reI p) rfl rfl rfl rfl ⋯) rfl rfl) ?_;have sel:∀(g:D->D->Option D) (C:Int->Int->Bool) (x5:Option (D×Bool)),(∀a b:Int,g (.int a) (.int b)=some (.bl (C a b)))->QO (Q7 (Qn 3)) (.tp [1,2]) [none,none,none,some 4,some 2] (QA (dOp g (Qk (Qn 4) (Qn 2)) (Qn 3))) (Qn 1) [slF (Qo m R []),slI p,slF (Qd (m+1) dep),some (Qnl R p,true),slI (dep p-1),x5,none]=some (reT (Qf ((QaA R p).filter λk=>C (dep (oe p (rd R k))) (dep p-1)))):=λg C x5 hg=>
  QdS (toD:=λ(k:Nat)=> .tup [.int (k:Int),.int (oe p (rd R k):Int)]) (keep:=λk=>C (dep (oe p (rd R k))) (dep p-1)) (out:=λ(k:Nat)=> .int (k:Int)) (QaA R p) (Qae (r:=⟨Qnl R p,true,[3]⟩) rfl rfl) rfl λk hk=>by
   obtain⟨k1,k2⟩:=Qcs.mp hk;have ho:=(Qa0 (hR _ (Qay k1)) k2).2.1;refine⟨[none,slI k,slI (oe p (rd R k):Int),slI (dep p-1),slF (Qd (m+1) dep)],rfl,QC (Q4 (d:= .bl (C (dep (oe p (rd R k))) (dep p-1))) (rb:=reI (dep p-1)) (QaI (m:=m+1) (f:=dep) (i:=oe p (rd R k)) (ra:=reF (Qd (m+1) dep)) (rb:=reI (oe p (rd R k):Int)) rfl rfl rfl rfl ⋯) rfl (hg _ _)) rfl,λ_=>⟨(reI k),rfl,rfl,rfl⟩⟩
 refine run_seq (QK (sel gEq (λa b=>decide (a=b)) none λa b=>by
  show(if(D.int a).sim 8 && (D.int b).sim 8 then some (D.bl (deq (.int a) (.int b)))else none)=_;rw[Qev];rfl) ?_)
 rw[QaK];refine rsa (sel gLt (λa b=>decide (a<b)) _ λa b=>rfl) ?_;refine Qy (r:=⟨.tup [Qf (QT R dep p),.int ((QaA R p).length-1-(Qa5 R dep p).length)],true,[5]⟩) ?_ ⟨rfl,rfl⟩;unfold QaQ;have el:∀J:En,J[3]? =some (some (Qnl R p,true))->dBf Qan (Qa (Qn 3) Qe) J=some (reT (.int (QaA R p).length)):=λJ h=>by
  rw[Qbg (xs:=(QaA R p).map λ(k:Nat)=> .tup [.int (k:Int),.int (oe p (rd R k):Int)]) (Qcg h) rfl,Zd]
 refine(congrArg (λz=>Option.bind z _) (Qt (r:=⟨Qf (QT R dep p),true,[5]⟩) rfl (Qt (Q4 (d:= .int ((QaA R p).length-1-(Qa5 R dep p).length)) (Q4 (d:= .int ((QaA R p).length-1)) (rb:=reI 1) (el _ rfl) rfl rfl) (Qlw (l:=Qa5 R dep p) (r:=⟨Qf (Qa5 R dep p),true,[6]⟩) rfl rfl) rfl) (QP _)))).trans ?_;rfl
noncomputable def Qmf(Qat:Den)(QcM:Den)(QaO:Den)(QaN:Den):DS:=(Qc (Qc4 (Qs 1 Qat [] (Qa vv0 Qe))) (Qc (Qc4 (Qs 2 QcM [] (Qa vv0 (Qa vv1 Qe)))) (Qc (Qv 2 (QJ (Qs 2 QaO [] (Qa vv0 (Qa vv1 Qe))) (Q0 (Qa kk0 Qe)))) (Qc (Qv 3 (Q0 Qe)) (Qc (QaU (Qa1 (Qk vv0 kk0)) (.nm 4) (Qc (Qv 5 (Qs 3 QaN [] (Qa vv0 (Qa vv4 (Qa vv2 Qe))))) (Qc (Qv 6 (QO (Qcj (Qk vv5 kk0)) (.tp [1,2]) [none,none,none,some 1] (QA (dOp (gIn false) vv2 vv3)) vv1)) (Qc (Qb1 3 Q8 (dOp Qbo (Qk vv5 kk1) (Qk vv6 kk0))) Ql)))) (Qc (QM vv3) Ql))))))
def Qkq{t:List Nat}:∀(l:List Nat) (b:Nat),(∃k∈l,k∈t)->∃r,((l.zipIdx b).filter λq=>t.contains q.1).map (·.2)=(b+QaE t l)::r
 | [],_,⟨_,h,_⟩=>by simp at h
 | a::l,b,⟨k,h1,h2⟩=>by
  rw[ZbZ,Zbd];by_cases e:a∈t
  .rw[if_pos (by simpa using e),Zy];unfold QaE;rw[if_pos e];exact⟨_,rfl⟩
  .rw[if_neg (by simpa using e)];have hk:k∈l:=by
    rcases Zq.mp h1 with z | z
    .rw[z]at h2;exact absurd h2 e
    .exact z
   obtain⟨r,hr⟩:=Qkq l (b+1) ⟨k,hk,h2⟩;unfold QaE;rw[if_neg e];exact⟨r,by rw[hr];congr 1;lia⟩
def QjM(d:Den):Prop:=∀(m:Nat) (R:Lpp) (t:List Nat) (dep:Mt1),0<m->m<=8->R.length<=200->(∀s∈R,Good m s)->Qwi R m t->Qcv R m t dep->(∀v,v<m->Qah (Qb (Qaq R t) []) (Qar m) m v=some (dep v))->d [Qo m R [],Qf t]=some (Qd m (Qag R dep t),true)
def QsC{dp dn dd dw:Den}(hp:Qgq dp)(hn:Qma dn)(hd:Qkb dd)(hw:Qnm dw):QjM (Qm 7 (Qmf dp dn dd dw)):=λm R t dep m0 m8 hRl hR T Dp hF=>by
 have ed:=hd m R t m0 m8 (by rw[T.len];lia) hR T.lt;have efar:Q9 m (Qah (Qb (Qaq R t) []) (Qar m) m)=Qd m dep:=by
  unfold Q9 Qd;congr 1;exact Zp λv hv=>by rw[hF v (Zb.mp hv)];rfl
 rw[efar]at ed;refine QY ?_;refine run_seq (Qb3 (Qu (r:=⟨[Qo m R []],false,[]⟩) rfl (hp m R) rfl) ?_);refine run_seq (Qb3 (Qu (r:=⟨[Qo m R [],Qf t],false,[]⟩) rfl (hn m R t m0 m8 hR T) rfl) ?_);refine rsa (QhU (m:=m) (f:=dep) (Qu (r:=⟨[Qo m R [],Qf t],false,[]⟩) rfl ed rfl) rfl ⋯) ?_;have edep:Qd (m+1) (QgZ m dep)=Qd (m+1) dep:=Qeh λj hj=>by
  unfold QgZ;by_cases e:j<m
  .rw[if_pos e]
  .rw[if_neg e,show j=m by lia,Dp.pit]
 rw[edep];refine rsa (d:=Qd 0 (Qag R dep t)) rfl ?_;refine Qal (P:=λJ=>∃j4 j5 j6,J=[slF (Qo m R []),slF (Qf t),slT (Qd (m+1) dep),slT (Qd m (Qag R dep t)),j4,j5,j6]) ?_ ?_
 .refine Qaa (toD:=λ(k:Nat)=> .int (k:Int)) (List.range m) (λi J=>∃j4 j5 j6,J=[slF (Qo m R []),slF (Qf t),slT (Qd (m+1) dep),slT (Qd i (Qag R dep t)),j4,j5,j6]) (Qbn (n:=m) (r:=reI m) rfl rfl ⋯) rfl ⟨none,none,none,rfl⟩ ?_ ?_
  .rintro i i' J hi ⟨j4,j5,j6,rfl⟩;obtain⟨him,rfl⟩:=QcC hi;refine⟨[slF (Qo m R []),slF (Qf t),slT (Qd (m+1) dep),slT (Qd i (Qag R dep t)),slI i,j5,j6],rfl,?_⟩;refine rsa (Qu (r:=⟨[Qo m R [],.int i,Qd (m+1) dep],false,[2]⟩) rfl (hw m R i dep him hR) rfl) ?_;obtain⟨k0,hk1,hk2,hk3⟩:=Dp.pred i him;obtain⟨r,hr⟩:=Qkq (t:=t) (QT R dep i) 0 ⟨k0,Zx.mpr ⟨Qcs.mpr ⟨Dp.tl k0 hk1,hk2⟩,decide_eq_true hk3⟩,hk1⟩
   have ec:=QdS (fi:=Qcj (Qk (Qn 5) (dC (.int 0)))) (t:= .tp [1,2]) (cap:=[none,none,none,some 1]) (ft:=QA (dOp (gIn false) (Qn 2) (Qn 3))) (fe:=Qn 1) (J:=[slF (Qo m R []),slF (Qf t),slT (Qd (m+1) dep),slT (Qd i (Qag R dep t)),slI i,slT (.tup [Qf (QT R dep i),.int ((QaA R i).length-1-(Qa5 R dep i).length)]),j6])
    (toD:=λ(q:Nat×Nat)=> .tup [.int (q.2:Int),.int (q.1:Int)]) (keep:=λq=>t.contains q.1) (out:=λ(q:Nat×Nat)=> .int (q.2:Int)) ((QT R dep i).zipIdx 0) (ir:=⟨Qdu ((QT R dep i).map λ(p:Nat)=>D.int (p:Int)),[5]⟩) rfl (by
     unfold Qdu;rw[List.zipIdx_map,ZN];rfl) λq _=>⟨[none,slI q.2,slI q.1,slF (Qf t)],rfl,QC (Qt6 (neg:=false) (o:=q.1) (l:=t) (ra:=reI q.1) (rb:=reF (Qf t)) rfl rfl rfl rfl) rfl,λ_=>⟨(reI q.2),rfl,rfl,rfl⟩⟩
   have eo:D.lst ((((QT R dep i).zipIdx 0).filter λq=>t.contains q.1).map λq=> .int (q.2:Int))=Qf (QaE t (QT R dep i)::r):=by
    have:(((QT R dep i).zipIdx 0).filter λq=>t.contains q.1).map (λq=>D.int (q.2:Int))=((((QT R dep i).zipIdx 0).filter λq=>t.contains q.1).map (·.2)).map λ(p:Nat)=>D.int (p:Int):=by rw[ZN];rfl
    rw[this,hr,ZaW];rfl
   rw[eo]at ec;refine rsa ec ?_;refine run_seq (Qv5 (i:=i) (g:=Qag R dep t) (v:=Qag R dep t i) rfl (Q4 (d:= .int (Qag R dep t i)) (ra:=reI ((QaA R i).length-1-(Qa5 R dep i).length)) rfl (QiL (l:=QaE t (QT R dep i)::r) (i:=0) (v:=QaE t (QT R dep i)) (ra:=⟨Qf (QaE t (QT R dep i)::r),true,[6]⟩) (rb:=reI 0) rfl rfl rfl rfl ∅ rfl) rfl) rfl ⋯ (Qp ⟨slI i,slT (.tup [Qf (QT R dep i),.int ((QaA R i).length-1-(Qa5 R dep i).length)]),slT (Qf (QaE t (QT R dep i)::r)),?_⟩));have:Qd (i+1) (up (Qag R dep t) i (Qag R dep t i))=Qd (i+1) (Qag R dep t):=Qeh λj _=>by
    rw[Qdb];split
    .rename_i e;rw[e]
    .rfl
   rw[this];rfl
  .rintro J ⟨j4,j5,j6,rfl⟩;rw[ZD];exact⟨_,_,_,rfl⟩
 rintro J ⟨j4,j5,j6,rfl⟩;exact Qy (r:=⟨Qd m (Qag R dep t),true,[3]⟩) rfl ⟨rfl,rfl⟩
noncomputable def QfB(QaZ:Den):DS:=(Qc (sIf (bOr (QdJ (QA (Qll "list" vv0))) (QA (dOp gNe (dBf Qan (Qa vv0 Qe)) vv1))) (Qc (QM (dC (.bl false))) Ql) Ql) (Qc (QaU (Q7 vv0) (.nm 2) (Qc (sIf (QdJ (QA (Qs 1 QaZ [] (Qa vv2 Qe)))) (Qc (QM (dC (.bl false))) Ql) Ql) Ql)) (Qc (QM (dC (.bl true))) Ql)))
def Qkh(d:Den):Prop:=∀(n:Nat) (a:Mt1),d [Qd n a,.int n]=some (.bl true,true)
def QwQ{dw:Den}(hw:Qiy dw):Qkh (Qm 3 (QfB dw)):=λn a=>by
 refine QY ?_;refine Q6 (Q5 (b:=false) (Qd2 (a:=false) (b:=false) (Qc7 (b:=true) (QC (b:=true) rfl rfl)) (QC (b:=false) (r:=reT (.bl false)) ((QdC (a:=n) (b:=n) (Qw4 (m:=n) (f:=a) (r:=reF (Qd n a)) rfl rfl) rfl (rb:=reI n) rfl rfl).trans ⋯) rfl)) (λh=>by cases h) (λ_=>Qp ?_));refine Q6 (Qaa (toD:=λ(i:Nat)=> .int (a i)) (List.range n) (λ_ J=>∃j2,J=[slF (Qd n a),slI n,j2]) (ir:=⟨(List.range n).map λi=> .int (a i),[]⟩) rfl rfl ⟨none,rfl⟩ ?_ ?_)
 .rintro i i' J hi ⟨j2,rfl⟩;refine⟨[slF (Qd n a),slI n,slI (a i')],rfl,?_⟩;exact Q6 (Q5 (b:=false) (Qc7 (b:=true) (QC (b:=true) (Qu (r:=⟨[.int (a i')],true,[]⟩) rfl (hw (a i')) rfl) rfl)) (λh=>by cases h) (λ_=>Qp (Qp ⟨_,rfl⟩)))
 .rintro J ⟨j2,rfl⟩;exact Qy (r:=reT (.bl true)) rfl ⟨rfl,rfl⟩
noncomputable def QhC:DS:=(Qc (Qv 2 (QJ (Qai (Q0 (Qa (QJ (Qk vv0 kk0) kk1) Qe)) (Qk vv0 kk0)) (Q0 (Qa kk0 Qe)))) (Qc (QaU (Qa1 (Qk vv0 kk0)) (.nm 3) (Qc (QaU (Q7 vv1) (.nm 4) (Qc (Qd0 (.tp [5,6]) (Qk (Qk vv0 kk1) vv4)) (Qc (QdN 2 Q8 vv5 (dBf QfS (Qa (Qk vv2 vv5) (Qa (QJ (Qk vv2 vv6) kk1) Qe)))) (Qc (QdN 2 Q8 vv6 (dBf QfS (Qa (Qk vv2 vv6) (Qa (QJ (Qk vv2 vv5) kk1) Qe)))) Ql)))) Ql)) (Qc (QM vv2) Ql)))
def Qom(d:Den):Prop:=∀(m:Nat) (R:Lpp) (t:List Nat),m<=8->(∀s∈R,Good m s)->(∀k∈t,k<R.length)->d [Qo m R [],Qf t]=some (Qd (m+1) (Qb6 R m t m),true)
def QnD{fa fb:DE}{J:En}{ra rb:R}{a b:Int}(ha:fa J=some ra)(ea:ra.d= .int a)(hb:fb J=some rb)(eb:rb.d= .int b):dBf QfS (Qa fa (Qa fb Qe)) J=some (reI (if b<a then b else a)):=QwT ha ea hb eb
def Qxu:Qom (Qm 7 QhC):=λm R t m8 hR ht=>by
 have it:∀{J:En},J[0]? =some (slF (Qo m R []))->Qn 0 J=some (reF (Qo m R [])):=λh=>Qcg h;refine QY ?_;refine run_seq (QK (r:=reT (Qd (m+1) (Qb6 R m t 0))) ?_ ?_)
 .refine(QhU (m:=m) (f:=λ_=>(m:Int)+1) (ra:=reT (Qd m (λ_=>(m:Int)+1))) ?_ rfl ⋯).trans ?_
  .unfold Qai;rw[(Qps (rs:=⟨[.int ((m:Int)+1)],true,[]⟩) (Qt (Qao (a:=m) (b:=1) (Qdk (it rfl) rfl).1 rfl rfl rfl) (QP _)) ⋯),Za,(Qdk (it rfl) rfl).1,Za];show _=_;have hr:=Qia (n:=m) (z:=(m:Int)+1) (fb:=dC (.int m)) (J:=Qau 7 [Qo m R [],Qf t]) (r:=reI m) rfl rfl ⋯;unfold Qai at hr;exact hr
  .congr 2
 rw[QaK];refine Qal (P:=λJ=>∃j3 j4 j5 j6,J=[slF (Qo m R []),slF (Qf t),slT (Qd (m+1) (Qb6 R m t m)),j3,j4,j5,j6]) ?_ ?_
 .refine Qaa (toD:=λ(k:Nat)=> .int (k:Int)) (List.range m) (λi J=>∃j3 j4 j5 j6,J=[slF (Qo m R []),slF (Qf t),slT (Qd (m+1) (Qb6 R m t i)),j3,j4,j5,j6]) (Qbn (n:=m) (r:=reI m) rfl rfl ⋯) rfl ⟨none,none,none,none,rfl⟩ ?_ ?_
  .rintro i i' J hi ⟨j3,j4,j5,j6,rfl⟩;obtain⟨him,rfl⟩:=QcC hi;refine⟨[slF (Qo m R []),slF (Qf t),slT (Qd (m+1) (Qb6 R m t i)),slI i,j4,j5,j6],rfl,?_⟩;refine Qal (P:=λJ=>∃j4 j5 j6,J=[slF (Qo m R []),slF (Qf t),slT (Qd (m+1) (Qb6 R m t (i+1))),slI i,j4,j5,j6]) ?_ ?_
   .refine Qaa (toD:=λ(k:Nat)=> .int (k:Int)) t (λa J=>∃j4 j5 j6,J=[slF (Qo m R []),slF (Qf t),slT (Qd (m+1) ((t.take a).foldl (Qbs R) (Qb6 R m t i))),slI i,j4,j5,j6]) (Qae (r:=reF (Qf t)) rfl rfl) rfl ⟨j4,j5,j6,rfl⟩ ?_ ?_
    .rintro a k J hk ⟨j4,j5,j6,rfl⟩;have hkR:=ht k (Zu hk);obtain⟨g1,g2,g3,g4,g5⟩:=hR _ (Qay hkR);have etake:(t.take (a+1)).foldl (Qbs R) (Qb6 R m t i)=Qbs R ((t.take a).foldl (Qbs R) (Qb6 R m t i)) k:=by
      rw[ZcQ,hk];simp
     generalize (t.take a).foldl (Qbs R) (Qb6 R m t i)=g at *;refine⟨[slF (Qo m R []),slF (Qf t),slT (Qd (m+1) g),slI i,slI k,j5,j6],rfl,?_⟩;refine run_seq (Q:=_) ⟨Out.nx [slF (Qo m R []),slF (Qf t),slT (Qd (m+1) g),slI i,slI k,slT (.int (rd R k).1),slT (.int (rd R k).2)],?_,?_⟩
     .unfold Qd0;rw[Qnr (R:=R) (k:=k) (Qdk (m:=m) (R:=R) (L:=[]) (it rfl) rfl).2.1 rfl (rb:=reI k) rfl rfl hkR];rfl
     obtain⟨a1,ea⟩:∃a1:Nat,(rd R k).1=a1:=⟨(rd R k).1.toNat,⋯⟩;obtain⟨b1,eb⟩:∃b1:Nat,(rd R k).2=b1:=⟨(rd R k).2.toNat,⋯⟩;have e2:Qbs R g k=up (up g a1 (if g b1+1<g a1 then g b1+1 else g a1)) b1 (if up g a1 (if g b1+1<g a1 then g b1+1 else g a1) a1+1<up g a1 (if g b1+1<g a1 then g b1+1 else g a1) b1 then up g a1 (if g b1+1<g a1 then g b1+1 else g a1) a1+1 else up g a1 (if g b1+1<g a1 then g b1+1 else g a1) b1):=by
      unfold Qbs;rw[ea,eb];rfl
     rw[etake,e2,ea,eb];refine run_seq (Qow (m:=m+1) (f:=g) (i:=a1) (v:=if g b1+1<g a1 then g b1+1 else g a1) (ri:=reI a1) rfl rfl rfl (QnD (a:=g a1) (b:=g b1+1) (QaI (m:=m+1) (f:=g) (i:=a1) (ra:=⟨Qd (m+1) g,true,[2]⟩) (rb:=reI a1) rfl rfl rfl rfl ⋯) rfl (Qao (a:=g b1) (b:=1) (QaI (m:=m+1) (f:=g) (i:=b1) (ra:=⟨Qd (m+1) g,true,[2]⟩) (rb:=reI b1) rfl rfl rfl rfl ⋯) rfl rfl rfl) rfl) rfl ⋯ ⋯ ?_);rw[ZC];generalize up g a1 (if g b1+1<g a1 then g b1+1 else g a1)=q;refine run_seq (Qow (m:=m+1) (f:=q) (i:=b1) (v:=if q a1+1<q b1 then q a1+1 else q b1) (ri:=reI b1) rfl rfl rfl (QnD (a:=q b1) (b:=q a1+1) (QaI (m:=m+1) (f:=q) (i:=b1) (ra:=⟨Qd (m+1) q,true,[2]⟩) (rb:=reI b1) rfl rfl rfl rfl ⋯) rfl (Qao (a:=q a1) (b:=1) (QaI (m:=m+1) (f:=q) (i:=a1) (ra:=⟨Qd (m+1) q,true,[2]⟩) (rb:=reI a1) rfl rfl rfl rfl ⋯) rfl rfl rfl) rfl) rfl ⋯ ⋯ (Qp ⟨slI k,slI a1,slI b1,?_⟩));rw[ZC];rfl
    .rintro J ⟨j4,j5,j6,rfl⟩;rw[Zbc];exact⟨_,_,_,rfl⟩
   rintro J ⟨j4,j5,j6,rfl⟩;exact Qp ⟨_,_,_,_,rfl⟩
  .rintro J ⟨j3,j4,j5,j6,rfl⟩;rw[ZD];exact⟨_,_,_,_,rfl⟩
 rintro J ⟨j3,j4,j5,j6,rfl⟩;exact Qy (r:=⟨Qd (m+1) (Qb6 R m t m),true,[2]⟩) rfl ⟨rfl,rfl⟩
def QmM(tr:List Nat):∃t:List Nat,t.Perm tr/\(QeU (tr.map λ(p:Nat)=>(p:Int))).map D.int=t.map (λ(p:Nat)=>D.int (p:Int))/\(tr.Nodup->t.Pairwise (· < ·)):=by
 have hp:=Qdc (tr.map λ(p:Nat)=>(p:Int));have hs:=QdB (tr.map λ(p:Nat)=>(p:Int));generalize QeU (tr.map λ(p:Nat)=>(p:Int))=S at hp hs;have h0:∀x∈S,0<=x:=λx hx=>by
  obtain⟨n,_,rfl⟩:=Zs.mp (hp.mem_iff.mp hx);lia
 have ht:(S.map Int.toNat).Perm tr:=by
  have:=hp.map Int.toNat
  rw[ZN]at this;have e:(Int.toNat ∘ λ(p:Nat)=>(p:Int))=id:=by funext p;simp
  rw[e,List.map_id]at this;exact this
 refine⟨S.map Int.toNat,ht,?_,λnd=>?_⟩
 .rw[ZN];exact Zp λx hx=>by
   have:=h0 x hx;show D.int x=D.int (x.toNat:Int);rw[Int.toNat_of_nonneg this]
 .have nd':(S.map Int.toNat).Nodup:=ht.nodup_iff.mpr nd;have hle:(S.map Int.toNat).Pairwise (· <= ·):=by
   rw[ZX];exact hs.imp λh=> ⋯
  have hne:(S.map Int.toNat).Pairwise (· ≠ ·):=nd';exact(hle.and hne).imp λ⟨a,b⟩=> ⋯
abbrev QAD(i:Int):Prop:=Builtin.Int.intBits i<=2^20
noncomputable def Qo4:DS:=(Qc (QM (QO (Q7 vv0) (.nm 1) [none,none,some 1] Qac (Qk vv1 vv2))) Ql)
def QgX(d:Den):Prop:=∀(n m:Nat) (f:Mt2) (j:Nat),j<m->d [Qz n m f,.int j]=some (Qd n (λi=>f i j),true)
def QtV:QgX (Qm 2 Qo4):=λn m f j hj=>
 QY (Qy (QR (List.range n) (Qae rfl rfl) rfl λi _=>⟨_,rfl,reI (f i j),QaI rfl rfl rfl rfl hj,rfl,rfl⟩) ⟨rfl,rfl⟩)
noncomputable def Qo3(QcF:Den):DS:=(Qc (QM (QO (Qa1 (dBf Qan (Qa vv0 Qe))) (.nm 1) [none,none,some 0] Qac (Qs 2 QcF [] (Qa vv2 (Qa vv1 Qe))))) Ql)
def Qiw{n:Nat}(h:fa J=some r)(e:r.d=Qz n m f):dBf Qan (Qa fa Qe) J=some (reI n):=by
 rw[Qbg h e];simp
def QjR(d:Den):Prop:=∀(n:Nat) (f:Mt2),n<=1000->d [Qz n n f]=some (Qz n n (λj i=>f i j),true)
def Qt9(hc:QgX dc):QjR (Qm 1 (Qo3 dc)):=λn f hn=>
 QY (Qy (QR (List.range n) (Qbn (Qiw rfl rfl) rfl ⋯) rfl λj hj=>⟨[none,slI j,slF (Qz n n f)],rfl,reT (Qd n (λi=>f i j)),Qu rfl (hc n n f j (Zb.mp hj)) rfl,rfl,rfl⟩) ⟨rfl,rfl⟩)
def QuF(hx:J[x]? =some (slT (.lst xs)))(ha:fa J=some ⟨d,true,[]⟩)(hl:xs.length<16777216)(q:Q (.nx (J.set x (slT (.lst (xs++[d])))))):Run (Qb1 x Q8 fa) J Q:=by
 refine⟨_,?_,q⟩;have hn:(HS.R.mk d true []).norm=⟨d,true,[]⟩:=by unfold R.norm;split<;>rfl
 unfold Qb1;rw[hx];simp only[Q8,Za,ha,Qak,QgO,hn,QbD];simp[hl,kill,Qa2]
noncomputable def sm:Nat->(Nat->Int)->Int
 | 0,_=>0
 | n+1,f=>sm n f+f n
def QaB:∀{n:Nat},(∀i,i<n->f i=g i)->sm n f=sm n g
 | 0,_=>rfl
 | n+1,h=>by unfold sm;rw[QaB λi hi=>h i ⋯,h n ⋯]
def Qgz(x y:Int)(f g:Mt1):∀n,sm n (λi=>x*f i+y*g i)=x*sm n f+y*sm n g
 | 0=>by simp[sm]
 | n+1=>by
  unfold sm;rw[Qgz x y f g n,Zbt,Zbt];show _+(x*f n+y*g n)=_;lia
def Qez:∀{n:Nat},(∀i,i<n->f i=0)->sm n f=0
 | 0,_=>rfl
 | n+1,h=>by unfold sm;rw[Qez λi hi=>h i ⋯,h n ⋯];rfl
def Qc5:∀{n:Nat},c<n->(∀i,i<n->i≠c->f i=0)->sm n f=f c
 | 0,hc,_=> ⋯
 | n+1,hc,h=>by
  unfold sm;by_cases e:c=n
  .rw[Qez λi hi=>h i ⋯ ⋯,e];lia
  .rw[Qc5 (c:=c) ⋯ λi hi=>h i ⋯,h n ⋯ (Ne.symm e)];lia
def QkF:∀{n:Nat},c<d->d<n->(∀i,i<n->i≠c->i≠d->f i=0)->sm n f=f c+f d
 | 0,_,hc,_=> ⋯
 | n+1,hcd,hd,h=>by
  unfold sm;by_cases e:d=n
  .rw[Qc5 (c:=c) ⋯ λi hi ne=>h i ⋯ ne ⋯,e]
  .rw[QkF (c:=c) (d:=d) hcd ⋯ λi hi=>h i ⋯,h n ⋯ ⋯ ⋯];lia
def Qrt(x:Int)(f:Mt1):∀n,sm n (λi=>f i*x)=sm n f*x
 | 0=>by simp[sm]
 | n+1=>by unfold sm;rw[Qrt x f n,Zah]
noncomputable def skp(j c:Nat):Nat:=if c<j then c else c+1
noncomputable def sgn(j:Nat):Int:=if j % 2=0 then 1 else-1
def Qjt(j:Nat):sgn (j+1)= -sgn j:=by
 unfold sgn;by_cases h:j % 2=0
 .rw[if_pos h,if_neg ⋯]
 .rw[if_neg h,if_pos ⋯];rfl
noncomputable def det:Nat->(Nat->Nat->Int)->Int
 | 0,_=>1
 | n+1,m=>sm (n+1) λj=>sgn j*m j 0*det n λc r=>m (skp j c) (r+1)
noncomputable def cup(m:Mt2)(c:Nat)(a:Mt1):Nat->Nat->Int:=λj=>if j=c then a else m j
def QU(m:Mt2)(c:Nat)(a:Mt1):cup m c a c=a:=by unfold cup;rw[if_pos rfl]
def QH(m:Mt2)(a:Mt1)(h:j≠c):cup m c a j=m j:=by unfold cup;rw[if_neg h]
def QbA(m:Mt2)(c:Nat):cup m c (m c)=m:=by
 funext j;by_cases h:j=c
 .rw[h,QU]
 .rw[QH _ _ h]
def Qq5(m:Mt2)(c:Nat)(a b:Mt1):cup (cup m c a) c b=cup m c b:=by
 funext j;by_cases h:j=c
 .rw[h,QU,QU]
 .rw[QH _ _ h,QH _ _ h,QH _ _ h]
def Qdd(m:Mt2)(a b:Mt1)(h:c≠d):cup (cup m c a) d b=cup (cup m d b) c a:=by
 funext j;by_cases h1:j=c
 .subst h1;rw[QH _ _ h,QU,QU]
 .by_cases h2:j=d
  .subst h2;rw[QU,QH _ _ h1,QU]
  .rw[QH _ _ h2,QH _ _ h1,QH _ _ h1,QH _ _ h2]
def QbY:∀{n:Nat}{m k:Mt2},(∀j,j<n->∀r,r<n->m j r=k j r)->det n m=det n k
 | 0,_,_,_=>rfl
 | n+1,m,k,h=>by
  unfold det;refine QaB λj hj=>?_;rw[h j hj 0 ⋯,QbY (n:=n) (m:=λc r=>m (skp j c) (r+1)) (k:=λc r=>k (skp j c) (r+1)) λc hc r hr=>h _ (by unfold skp;split<;>lia) _ ⋯]
def QhX(m:Mt2)(c:Nat)(v:Mt1):(λc' r=>cup m c v (skp c c') (r+1))=λc' r=>m (skp c c') (r+1):=by
 funext c' r;rw[QH _ _ (by unfold skp;split<;>lia)]
def Qhg(m:Mt2)(v:Mt1)(h:c≠j):(λc' r=>cup m c v (skp j c') (r+1))=cup (λc' r=>m (skp j c') (r+1)) (if c<j then c else c-1) (λr=>v (r+1)):=by
 funext c' r;by_cases e:c'=if c<j then c else c-1
 .rw[e,QU];have:skp j (if c<j then c else c-1)=c:=by
   unfold skp;by_cases q:c<j
   .rw[if_pos q,if_pos q]
   .rw[if_neg q,if_neg ⋯];lia
  rw[this,QU]
 .rw[QH _ _ e,QH];intro z;refine e ?_;unfold skp at z;by_cases q:c'<j
  .rw[if_pos q]at z;rw[if_pos ⋯];lia
  .rw[if_neg q]at z;rw[if_neg ⋯];lia
def QiE(x y:Int)(a b:Mt1):∀(n:Nat) (m:Mt2) (c:Nat),c<n->∀(a b:Mt1),det n (cup m c λr=>x*a r+y*b r)=x*det n (cup m c a)+y*det n (cup m c b)
 | 0,_,_,h,_,_=> ⋯
 | n+1,m,c,h,a,b=>by
  unfold det;rw[← Qgz];refine QaB λj hj=>?_;by_cases e:j=c
  .subst e;rw[QhX,QhX,QhX,QU,QU,QU];generalize det n _=q;generalize sgn j=s;simp only[Zbt,Zah,ZaA,Zcr]
  .rw[Qhg m _ (Ne.symm e),Qhg m _ (Ne.symm e),Qhg m _ (Ne.symm e),QH _ _ e,QH _ _ e,QH _ _ e,QiE x y a b n _ _ (by split<;>lia)];generalize det n _=q;generalize det n _=q';generalize sgn j*m j 0=s;simp only[Zbt,Zcr]
def Qix(h:c<n)(a b:Mt1):det n (cup m c λr=>a r+b r)=det n (cup m c a)+det n (cup m c b):=by
 have:=QiE 1 1 a b n m c h a b;simpa only[ZaH]using this
def QiU(h:c<n)(x:Int)(a:Mt1):det n (cup m c λr=>x*a r)=x*det n (cup m c a):=by
 have:=QiE x 0 a a n m c h a a;simpa only[ZT,ZaF]using this
def Qir:∀(n:Nat) (m:Mt2) (c:Nat),c+1<n->m c=m (c+1)->det n m=0
 | 0,_,_,h,_=> ⋯
 | n+1,m,c,h,e=>by
  unfold det;rw[QkF (c:=c) (d:=c+1) ⋯ h]
  .have:(λc' r=>m (skp c c') (r+1))=λc' r=>m (skp (c+1) c') (r+1):=by
    funext c' r;unfold skp;by_cases q:c'<c
    .rw[if_pos q,if_pos ⋯]
    .rw[if_neg q];by_cases q2:c'=c
     .rw[if_pos ⋯,q2,e]
     .rw[if_neg ⋯]
   rw[this,Qjt,e];generalize det n _=q;rw[ZaQ,ZaQ];lia
  .intro j hj h1 h2;have:det n (λc' r=>m (skp j c') (r+1))=0:=by
    by_cases q:c<j
    .refine Qir n _ c ⋯ ?_;funext r;show m (skp j c) (r+1)=m (skp j (c+1)) (r+1);unfold skp;rw[if_pos q,if_pos ⋯,e]
    .refine Qir n _ (c-1) ⋯ ?_;funext r;show m (skp j (c-1)) (r+1)=m (skp j (c-1+1)) (r+1);unfold skp;rw[if_neg ⋯,if_neg ⋯,show c-1+1=c by lia,e]
   rw[this,Zap]
def Qi2(hc:c<n)(hd:d<n)(hcd:c≠d)(hz:∀k:Nat->Nat->Int,k c=k d->det n k=0)(a b:Mt1):det n (cup (cup m c a) d b)= -det n (cup (cup m c b) d a):=by
 have z:=hz (cup (cup m c λr=>a r+b r) d λr=>a r+b r) (by rw[QU,QH _ _ hcd,QU]);have za:=hz (cup (cup m c a) d a) (by rw[QU,QH _ _ hcd,QU]);have zb:=hz (cup (cup m c b) d b) (by rw[QU,QH _ _ hcd,QU]);rw[Qix hd,Qdd _ _ _ hcd,Qix hc,Qdd _ _ _ hcd,Qix hc,Qdd _ _ _ (Ne.symm hcd),Qdd _ _ _ (Ne.symm hcd),Qdd _ _ _ (Ne.symm hcd),Qdd _ _ _ (Ne.symm hcd),za,zb]at z;lia
def Qln:∀(g n:Nat) (m:Mt2) (i:Nat),i+g+1<n->m i=m (i+g+1)->det n m=0
 | 0,n,m,i,h,e=>Qir n m i h e
 | g+1,n,m,i,h,e=>by
  have:=Qi2 (m:=m) (c:=i+g+1) ⋯ ⋯ ⋯ (λk hk=>Qir n k _ ⋯ hk) (m (i+g+1)) (m (i+g+1+1));rw[QbA,QbA]at this;rw[this,Qln g n _ i ⋯]
  .rfl
  .rw[QH _ _ ⋯,QH _ _ ⋯,QH _ _ ⋯,QU];exact e
def QgB(hi:i<n)(hj:j<n)(hij:i≠j)(e:m i=m j):det n m=0:=by
 rcases Nat.lt_or_gt_of_ne hij with h | h
 .exact Qln (j-i-1) n m i ⋯ (by rw[show i+(j-i-1)+1=j by lia];exact e)
 .exact Qln (i-j-1) n m j ⋯ (by rw[show j+(i-j-1)+1=i by lia];exact e.symm)
def Qoa(hc:c<n)(hd:d<n)(hcd:c≠d)(a b:Mt1):det n (cup (cup m c a) d b)= -det n (cup (cup m c b) d a):=Qi2 hc hd hcd (λk hk=>QgB hc hd hcd hk) a b
def QgD(h:c<n)(x:Mt1)(E:Mt2):∀k,det n (cup m c λr=>sm k λs=>x s*E s r)=sm k λs=>x s*det n (cup m c (E s))
 | 0=>by
  have:=QiU (m:=m) h 0 λ_=>0;rw[ZT]at this;unfold sm;simpa using this
 | k+1=>by
  unfold sm;rw[Qix h,QgD h x E k,QiU h]
def Qt7:∀{n:Nat}(Z:Nat->Nat),(∀j,j<n+1->Z j<n)->∃i j,i<n+1/\j<n+1/\i≠j/\Z i=Z j
 | 0,Z,h=>absurd (h 0 ⋯) ⋯
 | n+1,Z,h=>by
  by_cases q:∃i,i<n+1/\Z i=Z (n+1)
  .obtain⟨i,hi,e⟩:=q;exact⟨i,n+1,⋯,⋯,⋯,e⟩
  .have ne:∀i,i<n+1->Z i≠Z (n+1):=λi hi e=>q ⟨i,hi,e⟩;have hv:=h (n+1) ⋯;obtain⟨i,j,hi,hj,hij,e⟩:=Qt7 (n:=n) (λj=>if Z (n+1)<Z j then Z j-1 else Z j) λj hj=>by
    have:=h j ⋯;have:=ne j hj;show(if Z (n+1)<Z j then Z j-1 else Z j)<n;by_cases c:Z (n+1)<Z j
    .rw[if_pos c];lia
    .rw[if_neg c];lia
   refine⟨i,j,⋯,⋯,hij,?_⟩;have a:=ne i hi;have b:=ne j hj;have e:(if Z (n+1)<Z i then Z i-1 else Z i)=(if Z (n+1)<Z j then Z j-1 else Z j):=e;by_cases c:Z (n+1)<Z i
   .rw[if_pos c]at e;by_cases d:Z (n+1)<Z j
    .rw[if_pos d]at e;lia
    .rw[if_neg d]at e;lia
   .rw[if_neg c]at e;by_cases d:Z (n+1)<Z j
    .rw[if_pos d]at e;lia
    .rw[if_neg d]at e;lia
def QnX{n:Nat}{E:Mt2}{x:Mt2}:∀(k:Nat) (W:Mt2) (Z:Nat->Nat),k<=n+1->(∀j,j<n+1->Z j<n)->(∀j,j<k->W j=λr=>sm n λs=>x j s*E s r)->(∀j,k<=j->j<n+1->W j=E (Z j))->det (n+1) W=0
 | 0,W,Z,hk,hZ,_,h2=>by
  obtain⟨i,j,hi,hj,hij,e⟩:=Qt7 Z hZ;exact QgB hi hj hij (by rw[h2 i ⋯ hi,h2 j ⋯ hj,e])
 | k+1,W,Z,hk,hZ,h1,h2=>by
  have:=QgD (n:=n+1) (m:=W) (c:=k) ⋯ (x k) E n;rw[← h1 k ⋯,QbA]at this;rw[this];refine Qez λs hs=>?_;rw[QnX k (cup W k (E s)) (λj=>if j=k then s else Z j) ⋯ (λj hj=>by show(if j=k then s else Z j)<n;by_cases e:j=k;(rw[if_pos e];exact hs);(rw[if_neg e];exact hZ j hj)) (λj hj=>by rw[QH _ _ ⋯];exact h1 j ⋯) λj h3 h4=>?_,Zap];show cup W k (E s) j=E (if j=k then s else Z j);by_cases e:j=k
  .rw[e,QU,if_pos rfl]
  .rw[QH _ _ e,if_neg e];exact h2 j ⋯ h4
noncomputable def cyc(m:Mt2)(a:Mt1)(l k:Nat):Nat->Nat->Int:=λc=>if c<k then m c else if c=k then a else if c<=l then m (c-1)else m c
def Quy(m:Mt2)(a:Mt1)(hk:k<l)(hl:l<n):det n (cyc m a l k)= -det n (cyc m a l (k+1)):=by
 have h:=Qoa (n:=n) (m:=cyc m a l k) (c:=k) (d:=k+1) ⋯ ⋯ ⋯ a (m k);have e1:cup (cup (cyc m a l k) k a) (k+1) (m k)=cyc m a l k:=by
  have q1:cyc m a l k k=a:=by unfold cyc;rw[if_neg ⋯,if_pos rfl]
  have q2:cyc m a l k (k+1)=m k:=by unfold cyc;rw[if_neg ⋯,if_neg ⋯,if_pos ⋯,Zbg]
  have:=QbA (cyc m a l k) k;rw[q1]at this;rw[this,← q2,QbA]
 have e2:cup (cup (cyc m a l k) k (m k)) (k+1) a=cyc m a l (k+1):=by
  funext c;by_cases h1:c=k+1
  .subst h1;rw[QU];unfold cyc;rw[if_neg ⋯,if_pos rfl]
  .rw[QH _ _ h1];by_cases h2:c=k
   .subst h2;rw[QU];unfold cyc;rw[if_pos ⋯]
   .rw[QH _ _ h2];unfold cyc;by_cases h3:c<k
    .rw[if_pos h3,if_pos ⋯]
    .rw[if_neg h3,if_neg h2,if_neg (show ¬c<k+1 by lia),if_neg h1]
 rw[e1,e2]at h;exact h
def QqH(m:Mt2)(a:Mt1)(hl:l<n):∀g k,k+g=l->det n (cyc m a l k)=sgn g*det n (cup m l a)
 | 0,k,h=>by
  have:cyc m a l k=cup m l a:=by
   funext c;unfold cyc cup;by_cases h1:c=l
   .rw[if_neg ⋯,if_pos ⋯,if_pos h1]
   .rw[if_neg h1];by_cases h2:c<k
    .rw[if_pos h2]
    .rw[if_neg h2,if_neg ⋯,if_neg ⋯]
  rw[this];unfold sgn;simp
 | g+1,k,h=>by
  rw[Quy m a ⋯ hl,QqH m a hl g (k+1) ⋯,Qjt,ZaQ]
def Qz9(j:Nat):sgn j*sgn j=1:=by unfold sgn;split<;>rfl
noncomputable def bE(r s q:Nat):Int:=if q=0 then(if s=r then 1 else 0)else if s=q-1 then 1 else 0
def Qki(m:Mt2)(a:Mt1)(hr:r<n):det n m*a r=sm n λl=>det n (cup m l a)*m l r:=by
 have v0:∃v:Nat->Nat->Int,v=λj=>if j=0 then a else m (j-1):=⟨_,rfl⟩;obtain⟨v,hv⟩:=v0;have hv0:v 0=a:=by rw[hv];rfl
 have hvs:∀j,v (j+1)=m j:=λj=>by rw[hv];show(if j+1=0 then a else m (j+1-1))=_;rw[if_neg ⋯,Zbg]
 have z:det (n+1) (λj s=>if s=0 then v j r else v j (s-1))=0:=by
  have key:det (n+1) (λj q=>sm n λs=>v j s*bE r s q)=0:=
   QnX (n+1) _ (λ_=>r) ⋯ (λ_ _=>hr) (λj _=>rfl) (λj h1 h2=> ⋯)
  rw[← key];refine QbY λj hj s hs=>?_;by_cases e:s=0
  .subst e;rw[if_pos rfl,Qc5 hr]
   .unfold bE;rw[if_pos rfl,if_pos rfl,ZbP]
   .intro i _ ne;unfold bE;rw[if_pos rfl,if_neg ne,Zap]
  .rw[if_neg e,Qc5 (c:=s-1) ⋯]
   .unfold bE;rw[if_neg e,if_pos rfl,ZbP]
   .intro i _ ne;unfold bE;rw[if_neg e,if_neg ne,Zap]
 unfold det at z;have term:∀j,(sgn j*(if(0:Nat)=0 then v j r else v j (0-1))*det n λc q=>if q+1=0 then v (skp j c) r else v (skp j c) (q+1-1))=sgn j*v j r*det n λc=>v (skp j c):=λj=>by
  rw[if_pos rfl];congr 1
 have first:∀(k:Nat) (f:Mt1),sm (k+1) f=f 0+sm k λi=>f (i+1):=λk f=>by
  induction k with
  | zero=>show 0+f 0=f 0+0;lia
  | succ k ih=>show sm (k+1) f+f (k+1)=_;rw[ih];show _=f 0+(sm k (λi=>f (i+1))+f (k+1));lia
 rw[QaB λj _=>term j,first]at z;have t0:(λc=>v (skp 0 c))=m:=by funext c;unfold skp;rw[if_neg ⋯,hvs]
 have tl:∀l,l<n->sgn (l+1)*v (l+1) r*det n (λc=>v (skp (l+1) c))= -(det n (cup m l a)*m l r):=λl hl=>by
  have:(λc=>v (skp (l+1) c))=cyc m a l 0:=by
   funext c;unfold skp cyc;by_cases h0:c=0
   .subst h0;rw[if_pos (show 0<l+1 by lia),if_neg (show ¬0<0 by lia),if_pos rfl,hv0]
   .obtain⟨c',rfl⟩:∃c',c=c'+1:=⟨c-1,⋯⟩;rw[if_neg (show ¬c'+1<0 by lia),if_neg h0];by_cases h1:c'+1<=l
    .rw[if_pos (show c'+1<l+1 by lia),if_pos h1,hvs,Zbg]
    .rw[if_neg (show ¬c'+1<l+1 by lia),if_neg h1,hvs]
  rw[this,QqH m a hl l 0 ⋯,hvs,Qjt];have q:=Qz9 l;generalize det n (cup m l a)=d at *;generalize m l r=x at *;have: -sgn l*x*(sgn l*d)= -(sgn l*sgn l*(d*x)):=by
   rw[ZaQ,ZaQ,ZaA,Zcr x,← ZaA,ZaC x d]
  rw[this,q,ZaH]
 rw[t0,hv0]at z;have neg:=Qgz (-1) 0 (λl=>det n (cup m l a)*m l r) (λ_=>0) n;rw[QaB (g:=λl=> -1*(det n (cup m l a)*m l r)+0*0) λl hl=>by rw[tl l hl];lia]at z;have s0:sgn 0=1:=rfl;rw[neg,s0,ZaH]at z;rw[ZaC];lia
def Qvq(m:Mt2)(u a:Mt1)(hk:k<n)(hi:i<n)(hki:k≠i):det n m*det n (cup (cup m k u) i a)=det n (cup m k u)*det n (cup m i a)-det n (cup m i u)*det n (cup m k a):=by
 have h1:det n m*det n (cup (cup m k u) i a)=det n (cup (cup m i a) k λr=>det n m*u r):=by
  rw[QiU hk,Qdd _ _ _ hki]
 have h2:det n (cup (cup m i a) k λr=>det n m*u r)=det n (cup (cup m i a) k λr=>sm n λl=>det n (cup m l u)*m l r):=by
  refine QbY λj hj r hr=>?_;by_cases e:j=k
  .subst e;rw[QU,QU];exact Qki m u hr
  .rw[QH _ _ e,QH _ _ e]
 rw[h1,h2,QgD hk (λl=>det n (cup m l u)) m n];have tk:det n (cup (cup m i a) k (m k))=det n (cup m i a):=by rw[Qdd _ _ _ (Ne.symm hki),QbA]
 have ti:det n (cup (cup m i a) k (m i))= -det n (cup m k a):=by
  rw[Qoa hi hk (Ne.symm hki),QbA]
 have tn:∀l,l<n->l≠k->l≠i->det n (cup (cup m i a) k (m l))=0:=λl hl h1 h2=>QgB hk hl (Ne.symm h1) (by rw[QU,QH _ _ h1,QH _ _ h2]);rcases Nat.lt_or_gt_of_ne hki with h | h
 .rw[QkF h hi λl hl a b=>by rw[tn l hl a b,Zap],tk,ti,ZaK];lia
 .rw[QkF h hk λl hl a b=>by rw[tn l hl b a,Zap],tk,ti,ZaK];lia
noncomputable def QbC(j r:Nat):Int:=if j=r then 1 else 0
def QjV:∀n,det n QbC=1
 | 0=>rfl
 | n+1=>by
  unfold det;rw[Qc5 (c:=0) ⋯ λi _ ne=>by unfold QbC;rw[if_neg ne,Zap,ZT]];have:(λc r=>QbC (skp 0 c) (r+1))=QbC:=by
   funext c r;have e:skp 0 c=c+1:=by unfold skp;rw[if_neg ⋯]
   rw[e];unfold QbC;by_cases h:c=r
   .rw[if_pos h,if_pos ⋯]
   .rw[if_neg h,if_neg ⋯]
  rw[this,QjV n];unfold QbC sgn;simp
def QnU(a:Mt1)(hi:i<n):det n (cup QbC i a)=a i:=by
 have:=Qki QbC a hi;rw[QjV,ZaH,Qc5 (c:=i) hi λl _ ne=>by rw[show QbC l i=0 by unfold QbC;rw[if_neg ne],Zap]]at this;rw[this,show QbC i i=1 by unfold QbC;rw[if_pos rfl],ZbP]
structure Clr (n N k:Nat) (A m R:Mt2) (d:Int):Prop where
 le:k<=n
 det:HS.det n m=d
 nz:d≠0
 ent:∀i j,i<n->j<N->R i j=HS.det n (cup m i (A j))
 own:∀j,j<k->m j=A j
def Clr.start(n N:Nat)(A:Mt2):Clr n N 0 A QbC (λi j=>A j i) 1:=⟨⋯,QjV n,∅,λi j hi _=>(QnU (A j) hi).symm,λj hj=> ⋯⟩
def Clr.exact{n N k:Nat}{A m R:Mt2}{d:Int}(h:Clr n N k A m R d)(hk:k<n)(kN:k<N){i j:Nat}(hi:i<n)(hj:j<N)(ne:i≠k):R k k*R i j-R i k*R k j=d*HS.det n (cup (cup m k (A k)) i (A j)):=by
 rw[h.ent k k hk kN,h.ent i j hi hj,h.ent i k hi kN,h.ent k j hk hj,← Qvq m (A k) (A j) hk hi (Ne.symm ne),h.det]
def Clr.step{n N k:Nat}{A m R R':Mt2}{d:Int}(h:Clr n N k A m R d)(hk:k<n)(kN:k<N)(hp:R k k≠0)(h1:∀j,j<N->R' k j=R k j)(h2:∀i j,i<n->i≠k->j<N->∀q,R k k*R i j-R i k*R k j=d*q->R' i j=q):Clr n N (k+1) A (cup m k (A k)) R' (R k k):=by
 refine⟨hk,(h.ent k k hk kN).symm,hp,λi j hi hj=>?_,λj hj=>?_⟩
 .by_cases e:i=k
  .subst e;rw[h1 j hj,h.ent i j hi hj,Qq5]
  .exact h2 i j hi e hj _ (h.exact hk kN hi hj e)
 .by_cases e:j=k
  .subst e;rw[QU]
  .rw[QH _ _ e];exact h.own j ⋯
def Clr.tell{n N k:Nat}{A m R:Mt2}{d:Int}(h:Clr n N k A m R d){j r:Nat}(hj:j<N)(hr:r<n):d*A j r=sm n λl=>R l j*m l r:=by
 have:=Qki m (A j) hr;rw[h.det]at this;rw[this];exact QaB λl hl=>by rw[h.ent l j hl hj]
noncomputable def bnd(B:Nat):Nat->Nat
 | 0=>1
 | n+1=>(n+1)*(B*bnd B n)
def QtU:∀{n:Nat},(∀i,i<n->(f i).natAbs<=C)->(sm n f).natAbs<=n*C
 | 0,_=>by simp[sm]
 | n+1,h=>by
  unfold sm;have h1:=QtU (n:=n) λi hi=>h i ⋯;have h2:=h n ⋯;have:=Int.natAbs_add_le (sm n f) (f n);rw[ZcG];lia
def Qxf(j:Nat):(sgn j).natAbs=1:=by unfold sgn;split<;>rfl
def QiQ:∀{n:Nat}{m:Mt2},(∀j,j<n->∀r,r<n->(m j r).natAbs<=B)->(det n m).natAbs<=bnd B n
 | 0,_,_=>by show(1:Int).natAbs<=1;decide
 | n+1,m,h=>by
  unfold det bnd;refine QtU λj hj=>?_;rw[ZbE,ZbE,Qxf,Nat.one_mul];refine ZcR (h j hj 0 ⋯) (QiQ λc hc r hr=>h _ ?_ _ ⋯);unfold skp;split<;>lia
def Qmt(hn:n<=8):bnd (2^200) n<2^2000:=by
 have h:∀k,k<9->bnd (2^200) k<2^2000:=by decide+kernel
 exact h n ⋯
def Qsa(n:Nat)(m:Mt2):Prop:=∀j,j<n->∀r,r<n->(m j r).natAbs<=2^200
def Qge(n:Nat)(A:Mt2):Prop:=∀k,k<n->∀c:Nat->Int,(∀r,r<=k->sm (k+1) (λl=>c l*A l r)=0)->c k=0
structure QdA (n N k:Nat) (A m R:Mt2) (d:Int):Prop where
 clr:Clr n N k A m R d
 unit:∀l,k<=l->l<n->m l=QbC l
 col:Qsa n m
def Qsa.put(h:Qsa n m)(ha:∀r,r<n->(a r).natAbs<=2^200):Qsa n (cup m i a):=λj hj r hr=>by
 by_cases e:j=i
 .subst e;rw[QU];exact ha r hr
 .rw[QH _ _ e];exact h j hj r hr
def QdA.start(n N:Nat)(A:Mt2):QdA n N 0 A QbC (λi j=>A j i) 1:=⟨Clr.start n N A,λ_ _ _=>rfl,λj _ r _=>by unfold QbC;split<;>decide⟩
def QdA.small{n N k:Nat}{A m R:Mt2}{d:Int}(h:QdA n N k A m R d)(hn:n<=8)(hA:∀j,j<N->∀r,r<n->(A j r).natAbs<=2^200):d.natAbs<2^2000/\∀i j,i<n->j<N->(R i j).natAbs<2^2000:=by
 have b:=Qmt hn;refine⟨?_,λi j hi hj=>?_⟩
 .rw[← h.clr.det];exact Zbf (QiQ h.col) b
 .rw[h.clr.ent i j hi hj];exact Zbf (QiQ (h.col.put (hA j hj))) b
def QgQ:∀{n:Nat},k<=n->(∀i,k<=i->i<n->f i=0)->sm n f=sm k f
 | 0,h,_=>by rw[Nat.le_zero.mp h]
 | n+1,h,z=>by
  by_cases e:k=n+1
  .rw[e]
  .show sm n f+f n=sm k f;rw[QgQ (n:=n) ⋯ λi h1 h2=>z i h1 ⋯,z n ⋯ ⋯,ZaF]
def QdA.Qwp{n N k:Nat}{A m R:Mt2}{d:Int}(h:QdA n N k A m R d)(hk:k<n)(kN:k<N)(hl:Qge n A):R k k≠0:=λz=>by
 refine h.clr.nz ?_;have:=hl k hk (λl=>if l=k then-d else R l k) λr hr=>by
  have t:=h.clr.tell kN (show r<n by lia);rw[QgQ (k:=k) ⋯]at t
  .show(sm k λl=>(if l=k then-d else R l k)*A l r)+(if k=k then-d else R k k)*A k r=0;rw[if_pos rfl,QaB (g:=λl=>R l k*m l r) λl hl=>by rw[if_neg ⋯,h.clr.own l hl],← t,ZaQ];lia
  .intro l h1 h2;by_cases e:l=k
   .rw[e,z,ZT]
   .rw[h.unit l ⋯ h2,show QbC l r=0 by unfold QbC;rw[if_neg ⋯],Zap]
 rw[if_pos rfl]at this;lia
def QdA.step{n N k:Nat}{A m R R':Mt2}{d:Int}(h:QdA n N k A m R d)(hk:k<n)(kN:k<N)(hA:∀j,j<N->∀r,r<n->(A j r).natAbs<=2^200)(hp:R k k≠0)(h1:∀j,j<N->R' k j=R k j)(h2:∀i j,i<n->i≠k->j<N->∀q,R k k*R i j-R i k*R k j=d*q->R' i j=q):QdA n N (k+1) A (cup m k (A k)) R' (R k k):=
 ⟨h.clr.step hk kN hp h1 h2,λl h3 h4=>by rw[QH _ _ ⋯];exact h.unit l ⋯ h4,h.col.put (hA k kN)⟩
def Qc8(h:i.natAbs<2^2000):QAD i:=ZJ (PyProof.Rows.intBits_le h) ∅
def Qr3(hd:d≠0)(h:a=d*q):Qd8 a d=q:=by
 rw[QiV,h,Int.mul_fdiv_cancel_left q hd]
def Qke(ha:fa J=some ra)(ea:ra.d= .int a)(hb:fb J=some rb)(eb:rb.d= .int b):dOp Qbo fa fb J=some (reI (a-b)):=by
 refine Q4 ha hb ?_;rw[ea,eb];rfl
def QlU(ha:fa J=some ra)(ea:ra.d= .int a)(hb:fb J=some rb)(eb:rb.d= .int b)(hz:b≠0)(h2:b.natAbs<2^2000)(h:a=b*q):dOp QdM fa fb J=some (reI q):=by
 refine Q4 ha hb ?_;rw[ea,eb];show(if Qb9 b=true then some (D.int (Qd8 a b))else none)=_;have:Qb9 b=true:=by
  unfold Qb9;simp only[Zl,decide_eq_true_eq];exact⟨hz,Zbe h2 (ZY ∅ ∅)⟩
 rw[if_pos this,Qr3 hz h]
noncomputable def Qi0:DS:=(Qc (QM (QO (QaW vv0 vv1) (.tp [1,2]) [none,none,none,some 2,some 3,some 0,some 1] Qac (dOp QdM (dOp Qbo (Qai (Qk vv6 vv3) vv1) (Qai (Qk vv5 vv3) vv2)) vv4))) Ql)
def QlZ(d:Den):Prop:=∀(N k:Nat) (a p q:Mt1) (b:Int),k<N->b≠0->b.natAbs<2^2000->(∀j,j<N->(a j).natAbs<2^2000/\(p j).natAbs<2^2000)->(∀j,j<N->p k*a j-a k*p j=b*q j)->d [Qd N a,Qd N p,.int k,.int b]=some (Qd N q,true)
def QvS:QlZ (Qm 4 Qi0):=λN k a p q b hk hb hb2 hs hq=>
 QY (Qy (QR (List.range N) (Qcq rfl rfl rfl rfl) rfl λi hi=>⟨[none,slI (a i),slI (p i),slI k,slI b,slF (Qd N a),slF (Qd N p)],rfl,reI (q i),by
  have hi':=Zb.mp hi;refine QlU (Qke (Qbh (QaI rfl rfl rfl rfl hk) rfl rfl rfl (QiP (Qc8 (hs k hk).2) (Qc8 (hs i hi').1))) rfl (Qbh (QaI rfl rfl rfl rfl hk) rfl rfl rfl (QiP (Qc8 (hs k hk).1) (Qc8 (hs i hi').2))) rfl) rfl rfl rfl hb hb2 (hq i hi'),rfl,rfl⟩) ⟨rfl,rfl⟩)
noncomputable def Qh3(Qbc:Den):DS:=(Qc (Qv 2 (QO (QcR vv1 (dBf Qan (Qa vv0 Qe))) (.nm 1) [none,none,some 1,some 0] (QA (dOp gNe (Qk (Qk vv3 vv1) vv2) kk0)) vv1)) (Qc (sIf (bOr (QdJ (QA vv2)) (QA (dOp gEq (Qk vv2 kk0) vv1))) (Qc (QM vv0) Ql) Ql) (Qc (Qv 3 (dList (Qa vv0 Qe))) (Qc (QdN 3 Q8 vv1 (Qk vv0 (Qk vv2 kk0))) (Qc (QdN 3 Q8 (Qk vv2 kk0) (Qs 1 Qbc [] (Qa (Qk vv0 vv1) Qe))) (Qc (QM vv3) Ql))))))
def Ql9(d:Den):Prop:=∀(n N k:Nat) (f:Mt2),k<n->n<=1000->k<N->f k k≠0->d [Qz n N f,.int k]=some (Qz n N f,false)
def QvX:Ql9 (Qm 4 (Qh3 dop)):=λn N k f hk hn kN hp=>by
 have eI:=QdS (fi:=QcR (Qn 1) (dBf Qan (Qa (Qn 0) Qe))) (t:= .nm 1) (cap:=[none,none,some 1,some 0]) (ft:=QA (dOp gNe (Qk (Qk (Qn 3) (Qn 1)) (Qn 2)) (dC (.int 0)))) (fe:=Qn 1) (J:=[slF (Qz n N f),slI k,none,none])
  (toD:=λ(i:Nat)=> .int ((k:Int)+i)) (keep:=λi=> !decide (f (k+i) k=0)) (out:=λ(i:Nat)=> .int ((k:Int)+i)) (List.range (n-k)) (QfX (i:=k) (j:=n) (n:=n-k) (ra:=reI k) rfl rfl (Qiw (n:=n) (m:=N) (f:=f) (r:=reF (Qz n N f)) rfl rfl) rfl ⋯ ⋯ ⋯ ⋯) rfl λi hi=>⟨[none,slI ((k:Int)+i),slI k,slF (Qz n N f)],rfl,by
   have hi':=Zb.mp hi;refine QC (QdC (a:=f (k+i) k) (b:=0) (QaI (m:=N) (f:=f (k+i)) (i:=k) ((Ql6 (m:=n) (n:=N) (f:=f) (i:=(k:Int)+i) (ra:=reF (Qz n N f)) (rb:=reI ((k:Int)+i)) rfl rfl rfl rfl ⋯ ⋯).trans (by rw[show((k:Int)+i).toNat=k+i by lia])) rfl (rb:=reI k) rfl rfl kN) rfl rfl rfl) rfl,λ_=>⟨(reI ((k:Int)+i)),rfl,rfl,rfl⟩⟩
 have hr:List.range (n-k)=0::(List.range (n-k-1)).map (· +1):=by
  rw[show n-k=(n-k-1)+1 by lia,ZbU];rfl
 rw[hr,Zbd,if_pos (by show(!decide (f (k+0) k=0))=true;rw[Nat.add_zero,decide_eq_false hp];rfl),Zy]at eI;generalize ((((List.range (n-k-1)).map (· +1)).filter λi=> !decide (f (k+i) k=0)).map λ(i:Nat)=>D.int ((k:Int)+i))=xs at eI;refine QY ?_;refine rsa eI ?_;refine Q6 (Q5 (b:=true) ((Qd2 (a:=false) (b:=true) (Qc7 (b:=true) (show QA (Qn 2) _=some true from rfl)) (QC (b:=true) (Qgt (a:=k) (b:=k) (ra:=reI k) ?_ rfl (rb:=reI k) rfl rfl) ⋯)).trans rfl) (λ_=>?_) (λh=>by cases h))
 .unfold Qk;show((D.items (.lst (.int ((k:Int)+(0:Nat))::xs))).bind λys=>(atI ys (0:Int)).map λd=>(HS.R.mk d true [2]).norm)=_;simp only[D.items,Za];rw[QdQ (show(0:Int)<=0 by decide) ⋯];show some (HS.R.mk (.int ((k:Int)+(0:Nat))) true [2]).norm=_;rw[show(k:Int)+(0:Nat)=k by lia];rfl
 .exact Q6 (Qra (r:=reF (Qz n N f)) rfl ⟨rfl,rfl⟩)
noncomputable def Qf3(Qcn:Den)(QcZ:Den):DS:=(Qc (Qv 1 (Qbi vv0)) (Qc (Qv 2 kk1) (Qc (QaU (Qa1 (dBf Qan (Qa vv0 Qe))) (.nm 3) (Qc (Qv 1 (Qs 2 Qcn [] (Qa vv1 (Qa vv3 Qe)))) (Qc (Qv 4 (Qbi (Qk vv1 vv3))) (Qc (sIf (QA (dOp gEq (Qk vv4 vv3) kk0)) (Qc (QM (QaQ (Qa vv1 (Qa kk0 Qe)))) Ql) Ql) (Qc (Qv 1 (QO (Q7 vv1) (.nm 1) [none,none,some 3,some 2,some 4] Qac (Qs 4 QcZ [] (Qa vv1 (Qa vv4 (Qa vv2 (Qa vv3 Qe))))))) (Qc (QdN 1 Q8 vv3 vv4) (Qc (Qv 2 (Qbi (Qk vv4 vv3))) Ql))))))) (Qc (QM (QaQ (Qa vv1 (Qa vv2 Qe)))) Ql))))
def Qg5(h:fs J=some r)(e:den (r.ds++dfl)=some (d,false))(hn:r.ds.length+dfl.length=n):Qs n den dfl fs J=some (R.norm ⟨d,false,r.M⟩):=by
 unfold Qs;rw[h,Za,if_pos hn,e];rfl
def QsI{k:Nat}(hx:J[x]? =some (slT (Qz n N g)))(hi:fi J=some (reI k))(ha:fa J=some (reF (Qd N p)))(hk:k<n)
  (q:Q (.nx (J.set x (slF (Qz n N (λi j=>if i=k then p j else g i j)))))):Run (QdN x Q8 fi fa) J Q:=by
 refine⟨_,?_,q⟩;unfold QdN;rw[ha,Za,hx];have hn:(HS.R.mk (Qd N p) false []).norm=(reF (Qd N p)):=by unfold R.norm Qd;rfl
 simp only[Q8,Za,hi,Qz,Qak,Zd,ZD,hn];rw[QdY (show(0:Int)<=k by lia) ⋯];simp only[Za,ZC];have e:((List.range n).map λi=>Qd N (g i)).set k (Qd N p)=(List.range n).map λi=>Qd N (λj=>if i=k then p j else g i j):=by
  refine Zaq λi=>?_;rw[Zco];by_cases h:k=i
  .subst h;rw[if_pos rfl,if_pos (by simpa using hk),Zk,ZQ hk];simp
  .rw[if_neg h,Zk,Zk];by_cases h2:i<n
   .rw[ZQ h2];simp only[Zag,if_neg (Ne.symm h)]
   .rw[Zz (by simpa using h2)];rfl
 rw[e];rfl
def QfZ(d:Den):Prop:=∀(n N:Nat) (A:Mt2),n<=8->n<=N->(∀j,j<N->∀r,r<n->(A j r).natAbs<=2^200)->Qge n A->∃m R b,d [Qz n N (λi j=>A j i)]=some (.tup [Qz n N R,.int b],false)/\QdA n N n A m R b
def QrW(hp:Ql9 dp)(ht:QlZ dt):QfZ (Qm 5 (Qf3 dp dt)):=λn N A n8 hN hA hl=>by
 have key:Run (Qf3 dp dt) [slF (Qz n N (λi j=>A j i)),none,none,none,none] λo=>match o with | .rt d fr=>fr=false/\∃m R b,d= .tup [Qz n N R,.int b]/\QdA n N n A m R b | _=>False:=by
  refine run_seq (QK (Qem (r:=reF (Qz n N (λi j=>A j i))) rfl) ?_);refine rsa (d:= .int 1) rfl ?_;refine Q6 (Qaa (toD:=λ(k:Nat)=> .int (k:Int)) (List.range n) (λk J=>∃m R b j3 j4,QdA n N k A m R b/\J=[slF (Qz n N (λi j=>A j i)),slF (Qz n N R),slI b,j3,j4]) (Qbn (n:=n) (Qiw (n:=n) (m:=N) (f:=λi j=>A j i) (r:=reF (Qz n N (λi j=>A j i))) rfl rfl) rfl ⋯) rfl ⟨_,_,_,none,none,QdA.start n N A,rfl⟩ ?_ ?_)
  .rintro k k' J hk ⟨m,R,b,j3,j4,C,rfl⟩;obtain⟨hkn,rfl⟩:=QcC hk;have kN:k<N:= ⋯
   have pv:=C.Qwp hkn kN hl;obtain⟨sb,sR⟩:=C.small n8 hA;have ep:=hp n N k R hkn ⋯ kN pv;refine⟨[slF (Qz n N (λi j=>A j i)),slF (Qz n N R),slI b,slI k,j4],rfl,?_⟩;refine run_seq (QK (r:=reF (Qz n N R)) ((Qg5 (r:=⟨[Qz n N R,.int k],false,[]⟩) rfl ep rfl).trans rfl) ?_);refine run_seq (QK (r:=reF (Qd N (R k))) ((Qem (Ql6 (m:=n) (n:=N) (f:=R) (i:=k) (ra:=reF (Qz n N R)) (rb:=reI k) rfl rfl rfl rfl ⋯ ⋯)).trans rfl) ?_);refine Q6 (Q5 (b:=false) (QC (Qgt (a:=R k k) (b:=0) (QaI (m:=N) (f:=R k) (i:=k) (ra:=reF (Qd N (R k))) (rb:=reI k) rfl rfl rfl rfl kN) rfl rfl rfl) (by simp[pv])) (λh=>by cases h) (λ_=>Qp ?_));have ex:∀i j,∃q,i<n->i≠k->j<N->R k k*R i j-R i k*R k j=b*q:=λi j=>by
    by_cases h:i<n/\i≠k/\j<N
    .exact⟨_,λh1 h2 h3=>C.clr.exact hkn kN h1 h3 h2⟩
    .exact⟨0,λh1 h2 h3=>absurd ⟨h1,h2,h3⟩ h⟩
   have zz:∀j,R k k*R k j-R k k*R k j=b*0:=λj=>by rw[Int.sub_self,Zap]
   have eT:∀i,i<n->dt [Qd N (R i),Qd N (R k),.int k,.int b]=slT (Qd N (λj=>if i=k then 0 else(ex i j).choose)):=λi hi=>
    ht N k (R i) (R k) _ b kN C.clr.nz sb (λj hj=>⟨sR i j hi hj,sR k j hkn hj⟩) λj hj=>by
     by_cases e:i=k
     .rw[if_pos e,e];exact zz j
     .rw[if_neg e];exact(ex i j).choose_spec hi e hj
   refine rsa (d:=Qz n N (λi j=>if i=k then 0 else(ex i j).choose)) (QR (toD:=λ(i:Nat)=>Qd N (R i)) (out:=λ(i:Nat)=>Qd N (λj=>if i=k then 0 else(ex i j).choose)) (List.range n) (Qae (r:=reF (Qz n N R)) rfl rfl) rfl λi hi=>⟨[none,slF (Qd N (R i)),slI k,slI b,slF (Qd N (R k))],rfl,reT (Qd N (λj=>if i=k then 0 else(ex i j).choose)),Qu (r:=⟨[Qd N (R i),Qd N (R k),.int k,.int b],false,[]⟩) rfl (eT i (Zb.mp hi)) rfl,rfl,rfl⟩) ?_;refine run_seq (QsI (n:=n) (N:=N) (k:=k) (p:=R k) (g:=λi j=>if i=k then 0 else(ex i j).choose) rfl rfl rfl hkn ?_);refine run_seq (QK (r:=reF (.int (R k k))) ((Qem (QaI (m:=N) (f:=R k) (i:=k) (ra:=reF (Qd N (R k))) (rb:=reI k) rfl rfl rfl rfl kN)).trans rfl) (Qp ?_));rw[Qda rfl];refine⟨_,_,_,_,_,C.step (R':=λi j=>if i=k then R k j else(λi j=>if i=k then 0 else(ex i j).choose) i j) hkn kN hA pv (λj _=>by show(if k=k then R k j else _)=_;rw[if_pos rfl]) (λi j hi ne hj q hq=>?_),rfl⟩;show(if i=k then R k j else if i=k then 0 else(ex i j).choose)=q;rw[if_neg ne,if_neg ne];exact ZbJ C.clr.nz (((ex i j).choose_spec hi ne hj).symm.trans hq)
  .rintro J ⟨m,R,b,j3,j4,C,rfl⟩;rw[ZD]at C;exact Qy (r:=reF (.tup [Qz n N R,.int b])) rfl ⟨rfl,m,R,b,rfl,C⟩
 obtain⟨o,h1,h2⟩:=key;cases o with
 | rt d fr=>
  obtain⟨rfl,m,R,b,rfl,C⟩:=h2;exact⟨m,R,b,by show Option.bind (Qf3 dp dt [slF (Qz n N (λi j=>A j i)),none,none,none,none]) outD=_;rw[h1];rfl,C⟩
 | _=>exact h2.elim
def Qdw(f:Mt1):∀n,sm n f=Qx n f
 | 0=>rfl
 | n+1=>by rw[Qav,← Qdw f n];rfl
def QlO(h:∀i,i<m->0<=f i):0<=Qx m f:=by
 have:=QbL h;rw[Qaj]at this;exact this
def Qol{m k:Nat}{T:Mt2}(tp:TP m T){c:Mt1}(h0:∀l,k<l->c l=0)(h:∀r,r<m->r<=k->0<=Qx m (λl=>c l*T l r)):∀l,l<m->c l<=0:=by
 obtain⟨w,w0,hw⟩:=tp.wt;have p0:∀l,0<=(if 0<c l then c l else 0):=λl=>by split<;>lia
 have v0:∀r,r<m->0<=Qx m (λl=>(if 0<c l then c l else 0)*T l r):=λr hr=>by
  by_cases h1:0<c r
  .have hrk:r<=k:=by
    by_cases z:k<r
    .rw[h0 r z]at h1;lia
    .lia
   have e:Qx m (λl=>(if 0<c l then c l else 0)*T l r)=Qx m (λl=>((if 0<c l then c l else 0)-c l)*T l r)+Qx m (λl=>c l*T l r):=by
    rw[← QaF m (λl=>((if 0<c l then c l else 0)-c l)*T l r) (λl=>c l*T l r)];exact QF λl _=>by rw[← Zah];congr 1;lia
   rw[e];refine Int.add_nonneg ?_ (h r hr hrk);refine QlO λl hl=>?_;by_cases e2:l=r
   .subst e2;rw[if_pos h1,Int.sub_self,ZT];exact Zao _
   .refine Zav ?_ (tp.pos l r hl hr e2);split<;>lia
  .refine QlO λl hl=>?_;by_cases e2:l=r
   .subst e2;rw[if_neg h1,ZT];exact Zao _
   .exact Zav (p0 l) (tp.pos l r hl hr e2)
 have s1:0<=Qx m λr=>Qx m (λl=>(if 0<c l then c l else 0)*T l r)*w r:=by
  have:Qx m (λ_=>(0:Int))<=Qx m λr=>Qx m (λl=>(if 0<c l then c l else 0)*T l r)*w r:=QbL λr hr=>Zav (v0 r hr) (w0 r);rw[Qaj]at this;exact this
 have s2:(Qx m λr=>Qx m (λl=>(if 0<c l then c l else 0)*T l r)*w r)=Qx m λl=>(if 0<c l then c l else 0)*Qx m λr=>T l r*w r:=by
  have e1:(λr=>Qx m (λl=>(if 0<c l then c l else 0)*T l r)*w r)=λr=>Qx m λl=>(if 0<c l then c l else 0)*(T l r*w r):=by
   funext r;rw[ZaC,← Qdi];exact QF λl _=>by rw[ZaC (w r),ZaA]
  rw[e1,Qtu];exact QF λl _=>by rw[Qdi]
 have s3:(Qx m λl=>(if 0<c l then c l else 0)*Qx m λr=>T l r*w r)<=Qx m λl=> -(if 0<c l then c l else 0):=QbL λl hl=>by
  have:=Zac (hw l hl) (p0 l);lia
 rw[QcE]at s3;intro l hl;have big:(if 0<c l then c l else 0)<=Qx m λl=>(if 0<c l then c l else 0):=by
  have:=Qa8 (m:=m) hl (if 0<c l then c l else 0) (λ_=>1);have h2:Qx m (λi=>(if i=l then(if 0<c l then c l else 0)else 0)*1)<=Qx m λl=>(if 0<c l then c l else 0):=QbL λi _=>by
   rw[ZbP];by_cases e:i=l
   .subst e;rw[if_pos rfl];exact Zao _
   .rw[if_neg e];exact p0 i
  lia
 by_cases z:0<c l
 .rw[if_pos z]at big;lia
 .lia
def Qq9{m k:Nat}{T:Mt2}(tp:TP m T){c:Mt1}(h0:∀l,k<l->c l=0)(h:∀r,r<m->r<=k->Qx m (λl=>c l*T l r)=0):∀l,l<m->c l<=0:=Qol tp h0 λr hr hk=>Int.le_of_eq (h r hr hk).symm
def QlS{m:Nat}{T:Mt2}(tp:TP m T):Qge m λl r=>0-T l r:=λk hk c h=>by
 have ext:∀r,r<=k->Qx m (λl=>(if l<=k then c l else 0)*T l r)=0:=λr hr=>by
  have e:=h r hr;rw[← Qdw,QgQ (k:=k+1) ⋯]
  .have n:=Qgz (-1) 0 (λl=>c l*(0-T l r)) (λ_=>0) (k+1);rw[e]at n;rw[QaB (g:=λl=> -1*(c l*(0-T l r))+0*0) λl hl=>by rw[if_pos ⋯,Zbl,ZaK];lia,n];lia
  .intro l h1 h2;rw[if_neg ⋯,ZT]
 have a:=Qq9 tp (λl hl=>by show(if l<=k then c l else 0)=0;rw[if_neg ⋯]) (λr _ hr=>ext r hr) k hk;have b:=Qq9 (k:=k) tp (λl hl=>by show(if l<=k then-c l else 0)=0;rw[if_neg ⋯]) (λr _ hr=>by
  have:=ext r hr;rw[QF (g:=λl=> -((if l<=k then c l else 0)*T l r)) λl _=>by split<;>simp[ZaQ],QcE,this];rfl) k hk
 have a:(if k<=k then c k else 0)<=0:=a;have b:(if k<=k then-c k else 0)<=0:=b;rw[if_pos (Zt k)]at a b;lia
noncomputable def QkO:DS:=(Qc (QM (QO (Q7 vv0) (.nm 1) [none,none] Qac (dOp Qbo kk0 vv1))) Ql)
def Qr2(d:Den):Prop:=∀(n:Nat) (a:Mt1),d [Qd n a]=some (Qd n λi=>0-a i,true)
def QAe:Qr2 (Qm 1 QkO):=λn a=>QY (Qy (QR (List.range n) (Qae rfl rfl) rfl λi _=>⟨[none,slI (a i)],rfl,reI (0-a i),rfl,rfl,rfl⟩) ⟨rfl,rfl⟩)
noncomputable def Qji(Qbc:Den)(QX:Den):DS:=(Qc (QM (QO (Q7 (Qs 1 QX [] (Qa vv0 Qe))) (.nm 1) [none,none] Qac (Qs 1 Qbc [] (Qa vv1 Qe)))) Ql)
def Qhe(d:Den):Prop:=∀(m:Nat) (R L:Lpp),m<=1000->R.length+R.length+L.length<=1000000->(∀s∈R,Good m s)->(∀s∈L,Good m s)->d [Qo m R L]=some (Qz m m λi j=>0-Qg m (Qb R L) i j,true)
def Qtw(ho:Qr2 dop)(ht:QeP dt):Qhe (Qm 1 (Qji dop dt)):=λm R L hm hl hR hL=>by
 have et:=ht m R L hm hl hR hL;generalize Qg m (Qb R L)=T at *;exact QY (Qy (QR (List.range m) (Qae (Qu rfl et rfl) rfl) rfl λi _=>⟨[none,slF (Qd m (T i))],rfl,reT (Qd m λj=>0-T i j),Qu rfl (ho m (T i)) rfl,rfl,rfl⟩) ⟨rfl,rfl⟩)
noncomputable def QgT:DS:=(Qc (Qv 1 kk0) (Qc (QaU (Q7 vv0) (.nm 2) (Qc (Qv 3 (Qbi vv2)) (Qc (Qc6 (QA (dOp gNe vv3 kk0)) (Qc (Qv 4 (dOp QbE vv1 vv3)) (Qc (Qv 1 (Qbi vv3)) (Qc (Qv 3 (Qbi vv4)) Ql)))) Ql))) (Qc (QM (dBf QrF (Qa vv1 Qe))) Ql)))
def Qwd:(t∣b/\t∣QdI a b)↔(t∣a/\t∣b):=by
 have e:QdI a b=a-b*Qd8 a b:=by
  rw[QiV,show QdI a b=a.fmod b from Qiu a b,Int.fmod_def]
 rw[e];constructor
 .rintro⟨h1,h2⟩;refine⟨?_,h1⟩;have:=Int.dvd_add h2 (ZcE (c:=Qd8 a b) h1);rwa[Int.sub_add_cancel]at this
 .rintro⟨h1,h2⟩;exact⟨h2,Int.dvd_sub h1 (ZcE h2)⟩
def QxH(h:b≠0):(QdI a b).natAbs<b.natAbs:=by
 rw[show QdI a b=a.fmod b from Qiu a b];by_cases hb:0<b
 .have h1:=ZcK a hb;have h2:=Int.fmod_lt_of_pos a hb;lia
 .have hb':0< -b:= ⋯
  have h1:=ZcK (-a) hb';have h2:=Int.fmod_lt_of_pos (-a) hb';have h3:=Int.neg_fmod_neg a b;lia
def Qjs(d:Den):Prop:=∀(xs:List Int),∃g:Int,d [Qh xs]=some (.int g,true)/\0<=g/\∀t,t∣g↔∀x∈xs,t∣x
def Qs2:Qjs (Qm 5 QgT):=λxs=>by
 have key:Run QgT [slF (Qh xs),none,none,none,none] λo=>match o with | .rt d fr=>fr=true/\∃g,d= .int g/\0<=g/\∀t,t∣g↔∀x∈xs,t∣x | _=>False:=by
  refine rsa rfl ?_;refine Q6 (Qaa xs (λk J=>∃g j2 j3 j4,(∀t,t∣g↔∀x∈xs.take k,t∣x)/\J=[slF (Qh xs),slI g,j2,j3,j4]) (Qae rfl rfl) rfl ⟨0,none,none,none,λt=>⋯,rfl⟩ ?_ ?_)
  .rintro k x J hk ⟨g,j2,j3,j4,hg,rfl⟩;refine⟨[slF (Qh xs),slI g,slI x,j3,j4],rfl,?_⟩;refine run_seq (QK rfl ?_);rw[Qda rfl];refine Qal (P:=λJ=>∃g' j4,(∀t,t∣g'↔(t∣g/\t∣x))/\J=[slF (Qh xs),slI g',slI x,slI 0,j4]) ?_ ?_
   .refine QhD (λn J=>∃g' r j4,n=r.natAbs/\(∀t,(t∣g'/\t∣r)↔(t∣g/\t∣x))/\J=[slF (Qh xs),slI g',slI x,slI r,j4]) ?_ x.natAbs _ ⟨g,x,j4,rfl,λ_=>Iff.rfl,rfl⟩;rintro n J ⟨g',r,j4,rfl,hd,rfl⟩;refine⟨!decide (r=0),QC (QdC rfl rfl rfl rfl) rfl,λh=>?_,λh=>?_⟩
    .have hr:r=0:=by simpa using h
     subst hr;exact⟨g',j4,λt=>by rw[← hd t];simp,rfl⟩
    .have hr:r≠0:=by simpa using h
     refine rsa (Q4 rfl rfl (by show(if r≠0 then some (D.int (QdI g' r))else none)=_;rw[if_pos hr])) ?_;refine run_seq (QK rfl ?_);rw[Qda rfl];refine run_seq (QK rfl (Qp ?_));rw[Qda rfl];exact⟨_,QxH hr,r,QdI g' r,_,rfl,λt=>Qwd.trans (hd t),rfl⟩
   .rintro J ⟨g',j4,hd,rfl⟩;refine Qp ⟨g',_,_,_,λt=>?_,rfl⟩;rw[hd t,hg t,ZcQ,hk];simp only[Zf,Option.toList_some,Zj];exact⟨λ⟨a,b⟩ y hy=>hy.elim (a y) λe=>e▸b,λa=>⟨λy hy=>a y (.inl hy),a x (.inr rfl)⟩⟩
  .rintro J ⟨g,j2,j3,j4,hg,rfl⟩;rw[Zbc]at hg;refine Qy rfl ⟨rfl,_,rfl,by split<;>lia,λt=>?_⟩;rw[← hg t];split
   .exact Int.dvd_neg
   .exact Iff.rfl
 obtain⟨o,h1,h2⟩:=key;cases o with
 | rt d fr=>
  obtain⟨rfl,g,rfl,g0,hg⟩:=h2;exact⟨g,by show Option.bind (QgT [slF (Qh xs),none,none,none,none]) outD=_;rw[h1];rfl,g0,hg⟩
 | _=>exact h2.elim
def QyD(h:fa J=some ⟨.tup [a,b],fr,M⟩):Qk fa (dC (.int 1)) J=some (HS.R.norm ⟨b,fr,M⟩):=by
 unfold Qk;rw[h];rfl
noncomputable def QhS(Qb0:Den):DS:=(Qc (QM (Qk (Qs 1 Qb0 [] (Qa vv0 Qe)) kk1)) Ql)
noncomputable def QfU(Qb0:Den):DS:=(Qc (Qv 1 (Qs 1 Qb0 [] (Qa vv0 Qe))) (Qc (sIf (QA (dOp gEq (Qk vv1 kk1) kk0)) (Qc Qco Ql) Ql) (Qc (QM vv1) Ql)))
def Qhi(d:Den):Prop:=∀(n N:Nat) (A:Mt2),n<=8->n<=N->(∀j,j<N->∀r,r<n->(A j r).natAbs<=2^200)->Qge n A->∃m R b,d [Qz n N (λi j=>A j i)]=some (.tup [Qz n N R,.int b],false)/\QdA n N n A m R b
def Qqb(hc:QfZ dc):Qhi (Qm 2 (QfU dc)):=λn N A n8 hN hA hl=>by
 obtain⟨m,R,b,ec,C⟩:=hc n N A n8 hN hA hl;refine⟨m,R,b,QY ?_,C⟩;refine run_seq (QK ((Qg5 (r:=⟨[Qz n N (λi j=>A j i)],false,[]⟩) rfl ec rfl).trans rfl) ?_);refine Q6 (Q5 (b:=false) (QC (Qgt rfl rfl rfl rfl) (by simp[C.clr.nz])) (λh=>by cases h) (λ_=>Qp ?_));exact Qy rfl ⟨rfl,rfl⟩
noncomputable def QhG(Qey:Den)(Qbk:Den)(QcF:Den)(Qen:Den):DS:=(Qc (Qv 2 (dBf Qan (Qa vv0 Qe))) (Qc (sIf (QA (dOp gNe (dBf Qan (Qa vv1 Qe)) vv2)) (Qc Qco Ql) Ql) (Qc (Qv 3 (Qs 1 Qbk [] (Qa (QO (QaW (Qs 1 Qey [] (Qa vv0 Qe)) vv1) (.tp [1,2]) [none,none,none] Qac (QJ vv1 (Q0 (Qa vv2 Qe)))) Qe))) (Qc (Qv 4 (Qs 2 QcF [] (Qa (Qk vv3 kk0) (Qa vv2 Qe)))) (Qc (Qv 5 (Qs 1 Qen [] (Qa (QJ vv4 (Q0 (Qa (Qk vv3 kk1) Qe))) Qe))) (Qc (sIf (QA (dOp gLt (Qk vv3 kk1) kk0)) (Qc (Qv 5 (dOp Qbo kk0 vv5)) Ql) Ql) (Qc (QM (QaQ (Qa (QO (Q7 vv4) (.nm 1) [none,none,some 5] Qac (dOp QdM vv1 vv2)) (Qa (dOp QdM (Qk vv3 kk1) vv5) Qe)))) Ql)))))))
def Qnz(ha:fa J=some ra)(ea:ra.d=Qd m f)(hb:fb J=some (reI x))(hm:m<=1000):QJ fa (Q0 (Qa fb Qe)) J=some (reT (Qd (m+1) (up f m x))):=by
 have hb:Q0 (Qa fb Qe) J=some (reT (.lst [.int x])):=(Qps (Qt hb (QP _)) ⋯).trans rfl;unfold QJ;rw[ha,Za,hb,Za,ea];simp only[Qd,Zd,ZD,QbD];rw[if_pos (by simp;lia)];unfold Qa7;rw[if_pos (by rw[Qd5,Zl];exact⟨Qbf (λ_=>rfl) _,rfl⟩)];congr 3;rw[ZaJ,ZO];congr 1
 .refine Zp λi hi=>?_;rw[Qdb,if_neg (by have:=Zb.mp hi;lia)]
 .show _=[D.int (up f m x m)];rw[Qdb,if_pos rfl]
def QuD(n:Nat)(f:Mt1):Qd n f=Qh ((List.range n).map f):=by unfold Qd Qh;rw[ZN];rfl
def QjX(d:Den):Prop:=∀(n:Nat) (f:Mt2) (row:Mt1),n<=8->(∀j r,j<n->r<n->(f j r).natAbs<=2^200)->(∀r,r<n->(row r).natAbs<=2^200)->Qge n f->∃tops q,d [Qz n n f,Qd n row]=some (.tup [Qd n tops,.int q],true)/\0<q/\q.natAbs<2^2000/\(∀r,r<n->q*row r=sm n λl=>tops l*f l r)/\(∀l,l<n->(tops l).natAbs<2^2000)/\(q≠1->∃l,l<n/\¬q∣tops l)
def QsM(ht:QjR dt)(hc:Qhi dc)(hl:QgX dl)(hm:Qjs dm):QjX (Qm 6 (QhG dt dc dl dm)):=λn f row n8 hf hr hL=>by
 have hA:∀j,j<n+1->∀r,r<n->((λj r=>if j=n then row r else f j r) j r).natAbs<=2^200:=λj hj r hr'=>by
  show(if j=n then row r else f j r).natAbs<=_;split
  .exact hr r hr'
  .exact hf j r ⋯ hr'
 have hL':Qge n λj r=>if j=n then row r else f j r:=λk hk c h=>hL k hk c λr hr=>by
  rw[← h r hr];exact QaB λl hl=>by show c l*f l r=c l*(if l=n then row r else f l r);rw[if_neg ⋯]
 obtain⟨m,R,b,ec,C⟩:=hc n (n+1) _ n8 ⋯ hA hL';obtain⟨sb,sR⟩:=C.small n8 hA;obtain⟨g,eg,g0,hg⟩:=hm ((List.range (n+1)).map (up (λi=>R i n) n b));have gb:g∣b:=(hg g).mp ⟨1,⋯⟩ b (Zs.mpr ⟨n,Zb.mpr ⋯,by rw[Qdb,if_pos rfl]⟩);have gR:∀i,i<n->g∣R i n:=λi hi=>(hg g).mp ⟨1,⋯⟩ _ (Zs.mpr ⟨i,Zb.mpr ⋯,by rw[Qdb,if_neg ⋯]⟩);have bz:=C.clr.nz;have gz:g≠0:=λz=>by rw[z]at gb;obtain⟨x,hx⟩:=gb;rw[ZT]at hx;exact bz hx
 obtain⟨p,hp⟩:∃p,p=if b<0 then 0-g else g:=⟨_,rfl⟩;have pz:p≠0:=by rw[hp];split<;>lia
 have pd:∀x,g∣x->∃y,x=p*y:=λx Z=>by
  obtain⟨y,hy⟩:=Z;rw[hp];split
  .exact⟨-y,by rw[hy,Zbl,Int.neg_mul_neg]⟩
  .exact⟨y,hy⟩
 obtain⟨q,hq⟩:=pd b gb;have tp:∀i,∃y,i<n->R i n=p*y:=λi=>by
  by_cases h:i<n
  .obtain⟨y,hy⟩:=pd _ (gR i h);exact⟨y,λ_=>hy⟩
  .exact⟨0,λh'=>absurd h' h⟩
 have gle:g.natAbs<=b.natAbs:=Zbi.mpr gb |> λh=>Zca ⋯ h;have ple:p.natAbs<2^2000:=by rw[hp];split<;>lia
 have q0:0<q:=by
  by_cases h:b<0
  .rw[if_pos h]at hp;refine ZH λz=>?_;have:=ZU (a:=p) (b:=q) ⋯ ⋯;lia
  .rw[if_neg h]at hp;refine ZH λz=>?_;have:=Zbh (a:=p) (b:=q) ⋯ ⋯;lia
 have qle:q.natAbs<2^2000:=by
  have:q∣b:=⟨p,by rw[hq,ZaC]⟩;have:=Zca ⋯ (Zbi.mpr this);lia
 have tops_small:∀l,l<n->((tp l).choose).natAbs<2^2000:=λl hl=>by
  have h:=(tp l).choose_spec hl;have:=sR l n hl ⋯;by_cases z:(tp l).choose=0
  .rw[z];exact Zbf (ZS _) this
  .have d:(tp l).choose∣R l n:=⟨p,by rw[ZaC];exact h⟩;have nz:R l n≠0:=by rw[h];exact Int.mul_ne_zero pz z
   have:=Zca ⋯ (Zbi.mpr d);lia
 have low:q≠1->∃l,l<n/\¬q∣(tp l).choose:=λq1=>ZH λhno=>by
  have all:∀l,l<n->q∣(tp l).choose:=λl hl=>ZH λz=>hno ⟨l,hl,z⟩;have bg:b∣g:=(hg b).mpr λx hx=>by
   obtain⟨i,hi,rfl⟩:=Zs.mp hx;rw[Qdb];split
   .exact⟨1,⋯⟩
   .rename_i z;have hi':i<n:=by have:=Zb.mp hi;lia
    obtain⟨y,hy⟩:=all i hi';exact⟨y,by rw[(tp i).choose_spec hi',hy,hq,ZaA]⟩
  have h1:=Zca ⋯ (Zbi.mpr bg);have pg:p.natAbs=g.natAbs:=by rw[hp];split<;>lia
  have h2:b.natAbs=g.natAbs*q.natAbs:=by rw[hq,ZbE,pg]
  have h3:2<=q.natAbs:= ⋯
  have h4:=Nat.mul_le_mul_left g.natAbs h3;lia
 refine⟨λi=>(tp i).choose,q,QY ?_,q0,qle,λr hr'=>?_,tops_small,low⟩
 .refine rsa (Qiw (n:=n) (m:=n) (f:=f) (r:=reF (Qz n n f)) rfl rfl) ?_;refine Q6 (Q5 (b:=false) (QC (b:=false) (r:=reT (.bl false)) ((QdC ((Qbg rfl rfl).trans (by rw[Zd,ZD])) rfl rfl rfl).trans ⋯) rfl) (λh=>by cases h) (λ_=>Qp ?_));have et:=ht n f ⋯;have eZ:QO (QaW (Qs 1 dt [] (Qa (Qn 0) Qe)) (Qn 1)) (.tp [1,2]) [none,none,none] Qac (QJ (Qn 1) (Q0 (Qa (Qn 2) Qe))) [slF (Qz n n f),slF (Qd n row),slI n,none,none,none]=some (reT (Qz n (n+1) (λi j=>(λj r=>if j=n then row r else f j r) j i))):=by
   refine(QR (List.range n) (Qcq (Qu (r:=⟨[Qz n n f],false,[]⟩) rfl et rfl) rfl rfl rfl) rfl λi hi=>⟨[none,slF (Qd n (λj=>f j i)),slI (row i)],rfl,reT (Qd (n+1) (up (λj=>f j i) n (row i))),Qnz rfl rfl rfl ⋯,rfl,rfl⟩).trans ?_;have eT:Qz n (n+1) (λi j=>(λj r=>if j=n then row r else f j r) j i)= .lst ((List.range n).map λi=>Qd (n+1) (up (λj=>f j i) n (row i))):=by
    unfold Qz;refine congrArg D.lst (Zp λi _=>?_);unfold Qd;exact congrArg D.lst (Zp λj _=>by rw[Qdb])
   rw[eT]
  refine run_seq (QK ((Qg5 (Qt eZ (QP _)) ec rfl).trans rfl) ?_);refine rsa (Qu rfl (hl n (n+1) R n ⋯) rfl) ?_;refine rsa (Qu (Qt (Qnz rfl rfl rfl ⋯) (QP _)) (by show dm [Qd (n+1) (up (λi=>R i n) n b)]=_;rw[QuD];exact eg) rfl) ?_;refine Qal (P:=λJ=>J=[slF (Qz n n f),slF (Qd n row),slI n,slF (.tup [Qz n (n+1) R,.int b]),slT (Qd n (λi=>R i n)),slI p]) ?_ ?_
  .refine Q5 (QC (Q4 rfl rfl rfl) rfl) (λh=>?_) (λh=>?_)
   .refine run_seq (QK rfl (Qp ?_));rw[QaK,hp,if_pos (of_decide_eq_true h)];rfl
   .refine Qp ?_;rw[hp,if_neg (of_decide_eq_false h)];rfl
  .rintro J rfl;refine Qy (r:=reT (.tup [Qd n λi=>(tp i).choose,.int q])) ?_ ⟨rfl,rfl⟩;unfold QaQ;refine(congrArg (λz=>Option.bind z _) (Qt (QR (List.range n) (Qae rfl rfl) rfl λi hi=>⟨[none,slI (R i n),slI p],rfl,reT (.int (tp i).choose),QlU rfl rfl rfl rfl pz ple ((tp i).choose_spec (Zb.mp hi)),rfl,rfl⟩) (Qt (QlU rfl rfl rfl rfl pz ple hq) (QP _)))).trans ?_;rfl
 .have t:=C.clr.tell (j:=n) ⋯ hr';have t:b*row r=sm n λl=>R l n*m l r:=by
   have e:(if n=n then row r else f n r)=row r:=if_pos rfl;rw[← e];exact t
  rw[QaB (g:=λl=>((tp l).choose*f l r)*p) λl hl=>by
   rw[C.clr.own l hl];show R l n*(if l=n then row r else f l r)=_;rw[if_neg ⋯,ZaC _ p,← ZaA,← (tp l).choose_spec hl],Qrt,hq]at t
  refine ZbJ pz ?_;rw[← ZaA,t,ZaC]
def Qve(ha:fa J=some ra)(ea:ra.d=Qd m f)(hb:fb J=some rb)(eb:rb.d=Qd k g)(hl:m+k<=1000):QJ fa fb J=some (reT (Qd (m+k) (λi=>if i<m then f i else g (i-m)))):=by
 have e:Qd (m+k) (λi=>if i<m then f i else g (i-m))= .lst (((List.range m).map λi=>D.int (f i))++((List.range k).map λi=>D.int (g i))):=by
  unfold Qd;rw[List.range_add,ZO,ZN];congr 2
  .refine Zp λi hi=>?_;show D.int (if i<m then f i else g (i-m))=_;rw[if_pos (Zb.mp hi)]
  .refine Zp λi hi=>?_;show D.int (if m+i<m then f (m+i)else g (m+i-m))=_;rw[if_neg ⋯,Zbr]
 rw[e];unfold QJ;rw[ha,Za,hb,Za,ea,eb];simp only[Qd,Zd,ZD,QbD];rw[if_pos ⋯];unfold Qa7;rw[if_pos];rw[Qd5,Zl];exact⟨Qbf (λ_=>rfl) _,Qbf (λ_=>rfl) _⟩
noncomputable def Qhy(Qbb:Den)(Qce:Den):DS:=(Qc (Qv 2 (Qs 2 Qce [] (Qa (Qs 1 Qbb [] (Qa vv0 Qe)) (Qa vv1 Qe)))) (Qc (QM (QO (Q7 (Qk vv2 kk0)) (.nm 1) [none,none,some 2] Qac (dOp QdM vv1 (Qk vv2 kk1)))) Ql))
def QqI(ha:fa J=some ra)(ea:ra.d= .int a)(hb:fb J=some rb)(eb:rb.d= .int b)(h:0<b)(h2:b.natAbs<2^2000):dOp QdM fa fb J=some (reI (a / b)):=by
 refine Q4 ha hb ?_;rw[ea,eb];show(if Qb9 b=true then some (D.int (Qd8 a b))else none)=_;have:Qb9 b=true:=by
  unfold Qb9;simp only[Zl,decide_eq_true_eq];exact⟨⋯,Zbe h2 (ZY ∅ ∅)⟩
 rw[if_pos this,Qg0 _ _ ⋯]
def Quu(h:∀i,i<m-> -C<=f i/\f i<=C): -(m*C)<=Qx m f/\Qx m f<=m*C:=by
 induction m with
 | zero=>simp[Qx]
 | succ m ih=>
  rw[Qav];have h1:=ih λi hi=>h i ⋯;have h2:=h m ⋯;have e:((m+1:Nat):Int)*C=m*C+C:=by rw[ZbO,Zah];simp
  lia
def Qs1{m:Nat}{T:Mt2}(hm:m<=8)(hT:∀i j,i<m->j<m->(T i j).natAbs<2^64){f tops:Mt1}{q:Int}(q0:0<q)(h:∀r,r<m->q*f r=sm m λl=>tops l*(0-T l r)):∀r,r<m-> -(2^67)<=Qi m T f (λl=>tops l / q) r/\Qi m T f (λl=>tops l / q) r<=2^67:=λr hr=>by
 have e:q*Qi m T f (λl=>tops l / q) r=Qx m λl=> -(tops l % q)*T l r:=by
  unfold Qi;rw[Zbt,h r hr,Qdw,← Qdi,← QaF];refine QF λl _=>?_;have:=Zbz (tops l) q;have e2:q*(tops l / q*T l r)=(q*(tops l / q))*T l r:=by rw[ZaA]
  rw[e2,show q*(tops l / q)=tops l-tops l % q by lia,Zbl,ZaK,Int.sub_mul,ZaQ];lia
 have b:=Quu (f:=λl=> -(tops l % q)*T l r) (C:=q*2^64) λl hl=>by
  have h1:=ZR (tops l) (by lia:q≠0);have h2:=ZM (tops l) q0;have h3:=hT l r hl hr;have h4:tops l % q*(T l r)<=q*2^64/\ -(q*2^64)<=tops l % q*(T l r):=by
   have a1:tops l % q*T l r<=tops l % q*2^64:=Zac ⋯ h1;have a2:tops l % q*2^64<=q*2^64:=Zaw ⋯ ∅;have a3:tops l % q*(-(2^64))<=tops l % q*T l r:=Zac ⋯ h1;rw[ZaK]at a3;lia
  rw[ZaQ];lia
 rw[← e]at b;have hm':(m:Int)*(q*2^64)<=8*(q*2^64):=Zaw ⋯ ⋯;generalize Qi m T f (λl=>tops l / q) r=x at b ⊢;constructor
 .refine ZH λz=>?_;have:=Zac (show x<= -(2^67)-1 by lia) (show 0<=q by lia);rw[Int.mul_sub,ZaK,ZbP]at this;lia
 .refine ZH λz=>?_;have:=Zac (show(2^67+1:Int)<=x by lia) (show 0<=q by lia);rw[Zbt,ZbP]at this;lia
def Qlk(d:Den):Prop:=∀(m:Nat) (R L:Lpp) (f:Mt1),m<=8->Qaw m R L->(∀j,j<m->(f j).natAbs<=2^200)->∃c,d [Qo m R L,Qd m f]=some (Qd m c,true)/\∀r,r<m-> -(2^67)<=Qi m (Qg m (Qb R L)) f c r/\Qi m (Qg m (Qb R L)) f c r<=2^67
def Qvg(ht:Qhe dt)(hs:QjX ds):Qlk (Qm 3 (Qhy dt ds)):=λm R L f m8 hw hf=>by
 have hg:=hw.good;have tp:=hw.tp;have et:=ht m R L ⋯ ⋯ hg.1 hg.2.1;generalize Qg m (Qb R L)=T at *;obtain⟨tops,q,es,q0,q1,hq,_,_⟩:=hs m (λi j=>0-T i j) f m8 (λj r hj hr=>by have:=tp.bnd j r hj hr;have:(2:Nat)^64<=2^200:=ZY ∅ ∅;lia) hf (QlS tp);refine⟨λl=>tops l / q,QY ?_,Qs1 m8 tp.bnd q0 hq⟩;refine rsa (Qu (Qt (Qu rfl et rfl) (Qt rfl (QP _))) es rfl) ?_;refine Qy (QR (List.range m) (Qae rfl rfl) rfl λi _=>⟨[none,slI (tops i),slF (.tup [Qd m tops,.int q])],rfl,reI (tops i / q),QqI rfl rfl rfl rfl q0 q1,rfl,rfl⟩) ⟨rfl,rfl⟩
noncomputable def Qf2(Qba:Den):DS:=(Qc (QM (QO (Q7 (Qs 1 Qba [] (Qa vv0 Qe))) (.nm 1) [none,none] Qac (Qai kk2 vv1))) Ql)
def Qij(d:Den):Prop:=∀(m:Nat) (R L:Lpp),m<=1000->R.length+R.length+L.length<=1000000->(∀s∈R,Good m s)->(∀s∈L,Good m s)->d [Qo m R L]=some (Qd m λi=>2*QI R L i,true)
def Qsl(hs:Qku ds):Qij (Qm 1 (Qf2 ds)):=λm R L hm hl hR hL=>
 QY (Qy (QR (List.range m) (Qae (Qu rfl (hs m R L hm hl hR hL) rfl) rfl) rfl λi _=>⟨[none,slI (QI R L i)],rfl,reI (2*QI R L i),Qbh rfl rfl rfl rfl (Qex ∅),rfl,rfl⟩) ⟨rfl,rfl⟩)
def QnW(hN:n<=N)(hA:∀j,j<N->∀r,r<n->(A j r).natAbs<=2^200)(hl:Qge n A):∀k,k<=n->∃m R d,QdA n N k A m R d
 | 0,_=>⟨_,_,_,QdA.start n N A⟩
 | k+1,hk=>by
  obtain⟨m,R,d,C⟩:=QnW hN hA hl k ⋯;have pv:=C.Qwp (show k<n by lia) ⋯ hl;have ex:∀i j,∃q,i<n->i≠k->j<N->R k k*R i j-R i k*R k j=d*q:=λi j=>by
   by_cases h:i<n/\i≠k/\j<N
   .exact⟨_,λh1 h2 h3=>C.clr.exact ⋯ ⋯ h1 h3 h2⟩
   .exact⟨0,λh1 h2 h3=>absurd ⟨h1,h2,h3⟩ h⟩
  refine⟨_,λi j=>if i=k then R k j else(ex i j).choose,_,C.step ⋯ ⋯ hA pv (λj _=>by rw[if_pos rfl]) λi j hi ne hj q hq=>?_⟩;rw[if_neg ne];exact ZbJ C.clr.nz (((ex i j).choose_spec hi ne hj).symm.trans hq)
def Qo5{n N:Nat}(n8:n<=8){A:Mt2}{g v:Mt1}(hA:∀j,j<n->∀r,r<n->(A j r).natAbs<=2^200)(hl:Qge n A)(hg:∀r,r<n->(g r).natAbs<=2^200)(h:∀r,r<n->g r=sm n λl=>v l*A l r):∀l,l<n->(v l).natAbs<2^2000:=λl hln=>by
 obtain⟨m,R,d,C⟩:=QnW (Zt n) hA hl n (Zt n);have e1:det n (cup A l g)=v l*det n A:=by
  have e:det n (cup A l g)=det n (cup A l λr=>sm n λi=>v i*A i r):=by
   refine QbY λj hj r hr=>?_;by_cases q:j=l
   .subst q;rw[QU,QU];exact h r hr
   .rw[QH _ _ q,QH _ _ q]
  rw[e,QgD hln v A n,Qc5 hln λi hi ne=>by rw[QgB hln hi (Ne.symm ne) (by rw[QU,QH _ _ ne]),Zap],QbA]
 have e2:det n A=d:=by
  rw[← C.clr.det];exact QbY λj hj r _=>by rw[C.clr.own j hj]
 have b:=Zbf (QiQ (m:=cup A l g) λj hj r hr=>by
  by_cases q:j=l
  .subst q;rw[QU];exact hg r hr
  .rw[QH _ _ q];exact hA j hj r hr) (Qmt n8)
 rw[e1,e2,ZbE]at b;have dz:=C.clr.nz;have:=Nat.le_mul_of_pos_right (v l).natAbs (show 0<d.natAbs by lia);lia
noncomputable def QL(m:Nat)(T:Mt2)(v:Mt1):Nat->Int:=λj=>2*(0-T j j)-Qi m T (λj=>2*(0-T j j)) v j
def QhY(j:Nat):QL m T v j= -Qx m λi=>v i*T i j:=by
 unfold QL Qi;show 2*(0-T j j)-(2*(0-T j j)+_)=_;lia
def Rec(m:Nat)(T:Mt2)(v x:Mt1):Prop:=∃(y u:Mt1),(∀j,j<m->0<=y j)/\Told m T (λj=>y j+QL m T v j) u/\∀j,j<m->x j=Qi m T (λj=>y j+QL m T v j) u j
structure Dbl (m:Nat) (T:Mt2) (v:Mt1):Prop where
 told:Told m T (λj=>2*(0-T j j)) v
def Dbl.big(h:Dbl m T v)(hj:j<m):(0-T j j)+1<=QL m T v j/\QL m T v j<=2*(0-T j j):=by
 have h1:=h.told.stb j hj;have h2:=h.told.pos j hj;unfold QL;lia
noncomputable def QqK(QaG:Den)(QbM:Den)(Qft:Den)(QaY:Den)(QcH:Den):DS:=(Qc (Qc4 (Qs 2 QaG [] (Qa vv0 (Qa (Q0 (Qa vv1 Qe)) Qe)))) (Qc (Qv 2 (Qs 2 QbM [] (Qa vv0 (Qa vv1 Qe)))) (Qc (Qv 3 (Qs 3 Qft [] (Qa vv0 (Qa vv1 (Qa vv2 Qe))))) (Qc (Qv 4 (Qs 2 QcH [] (Qa vv0 (Qa (Qs 1 QaY [] (Qa vv0 Qe)) Qe)))) (Qc (Qv 5 (QO (QaW (Qs 1 QaY [] (Qa vv0 Qe)) (Qk vv4 kk0)) (.tp [1,2]) [none,none,none] Qac (dOp Qbo vv1 vv2))) (Qc (Qv 6 (QJ (dBf QdH (Qa (QJ (Q0 (Qa kk0 Qe)) (QO (QaW vv3 vv5) (.tp [1,2]) [none,none,none] Qac (dOp Qbo kk0 (dOp QdM vv1 vv2)))) Qe)) kk1)) (Qc (Qv 7 (QO (QaW vv3 vv5) (.tp [1,2]) [none,none,none,some 6] Qac (QJ vv1 (Qai vv3 vv2)))) (Qc (Qv 8 (Qs 2 QcH [] (Qa vv0 (Qa vv7 Qe)))) (Qc (Qv 9 (QO (Qim vv2 (Qk vv4 kk1) (Qk vv8 kk1)) (.tp [1,2,3]) [none,none,none,none,some 6] Qac (QJ (dOp Qbo vv1 (Qai vv4 vv2)) vv3))) (Qc (QM (QaQ (Qa (Qk vv8 kk0) (Qa vv9 Qe)))) Ql))))))))))
def QAY:QgR ((List.range m).map f) ((List.range m).map g) ((List.range m).map h)=(List.range m).map λi=> .tup [f i,g i,h i]:=by
 unfold QgR;refine Zaq λi=>?_;by_cases hi:i<m
 .have a:∀(k:Nat->D),((List.range m).map k)[i]? =some (k i):=λk=>by rw[Zk,ZQ hi];rfl
  have e1:(((List.range m).map g).zip ((List.range m).map h))[i]? =some (g i,h i):=ZaD.mpr ⟨a g,a h⟩;have e2:(((List.range m).map f).zip (((List.range m).map g).zip ((List.range m).map h)))[i]? =some (f i,(g i,h i)):=ZaD.mpr ⟨a f,e1⟩;rw[Zk,e2,a];rfl
 .rw[Zz (by simp;lia),Zz (by simp;lia)]
def Qu2(ha:fa J=some ra)(ea:ra.d= .lst ((List.range m).map f))(hb:fb J=some rb)(eb:rb.d= .lst ((List.range m).map g))(hc:fc J=some rc)(ec:rc.d= .lst ((List.range m).map h)):Qim fa fb fc J=some ⟨(List.range m).map λi=> .tup [f i,g i,h i],ra.M++(rb.M++rc.M)⟩:=by
 unfold Qim;rw[ha,Za,hb,Za,hc,Za,ea,eb,ec];show(if _ then _ else _)=_;rw[if_pos ⋯,QAY]
def Qls(d:Den):Prop:=∀(m:Nat) (R L:Lpp) (f:Mt1),0<m->m<=8->Qaw m R L->(∀j,j<m->(f j).natAbs<=2^200)->∃k v,d [Qo m R L,Qd m f]=some (.tup [Qd m (Qi m (Qg m (Qb R L)) f k),Qd m k],true)/\Dbl m (Qg m (Qb R L)) v/\Rec m (Qg m (Qb R L)) v (Qi m (Qg m (Qb R L)) f k)/\Stb m (Qg m (Qb R L)) (Qi m (Qg m (Qb R L)) f k)/\∀j,j<m->0<=Qi m (Qg m (Qb R L)) f k j
set_option maxHeartbeats 0 in
def Qvk{dn dc da dd ds:Den}(hn:QhO dn)(hc:Qlk dc)(ha:Qk5 da)(hd:Qij dd)(hs:QiI ds):Qls (Qm 10 (QqK dn dc da dd ds)):=λm R L f m0 m8 hw hf=>by
 have hg:=hw.good;have tp:=hw.tp;obtain⟨c,ec,bc⟩:=hc m R L f m8 hw hf;have ea:=ha m R L f c ⋯ ⋯ hg.1 hg.2.1;have ed:=hd m R L ⋯ ⋯ hg.1 hg.2.1;have sp:∀j,j<m->QI R L j=0-Qg m (Qb R L) j j:=λj hj=>(hw.neg hj).symm;rw[show(Qd m λi=>2*QI R L i)=Qd m λi=>2*(0-Qg m (Qb R L) i i)from congrArg D.lst (Zp λi hi=>by show D.int (2*QI R L i)=D.int (2*(0-Qg m (Qb R L) i i));rw[sp i (Zb.mp hi)])]at ed;obtain⟨v,ev,hv⟩:=hs m R L (λi=>2*(0-Qg m (Qb R L) i i)) m0 ⋯ hw λj hj=>by
  have:=tp.neg j hj;have:=tp.bnd j j hj hj;have:(2:Int)^66<=2^200:= ∅
  lia
 have DD:Dbl m (Qg m (Qb R L)) v:=⟨hv⟩;have still:=hs m R L;generalize Qg m (Qb R L)=T at *;generalize hlow:Qi m T f c=low at *;have big:=λj hj=>DD.big (j:=j) hj;have hmo:∀j,j<m->2*(0-T j j)-Qi m T (λi=>2*(0-T i i)) v j=QL m T v j:=λj hj=>rfl;generalize hmore:QL m T v=mo at *;have vb:∀l,l<m->(v l).natAbs<2^2000:=Qo5 (N:=m) m8 (g:=mo) (λj hj r hr=>by have:=tp.bnd j r hj hr;have:(2:Nat)^64<=2^200:=ZY ∅ ∅;lia) (QlS tp) (λr hr=>by
  have b:=big r hr;have:=tp.neg r hr;have:=tp.bnd r r hr hr;have:(2:Nat)^66<=2^200:=ZY ∅ ∅;lia) λr hr=>by
  rw[← hmore,QhY,Qdw,← QcE];exact QF λi _=>by rw[Zbl,ZaK]
 obtain⟨top,⟨i0,hi0,etop⟩,hmax,evmax⟩:=Qlo (m:=1+m) ⋯ (λi=>if i<1 then 0 else 0-low (i-1) / mo (i-1));have top0:0<=top:=by have:=hmax 0 ⋯;rw[if_pos ⋯]at this;exact this
 have topj:∀j,j<m->0-low j / mo j<=top:=λj hj=>by
  have:=hmax (j+1) ⋯;rw[if_neg ⋯,Zbg]at this;exact this
 have mo0:∀j,j<m->0<mo j:=λj hj=>by have:=big j hj;have:=tp.neg j hj;lia
 have mo1:∀j,j<m->mo j<2^66:=λj hj=>by have:=big j hj;have:=tp.bnd j j hj hj;lia
 have topU:top<=2^67:=by
  rw[etop];split
  .decide
  .rename_i h;have hj:i0-1<m:= ⋯
   have b:=bc (i0-1) hj;have p:=mo0 (i0-1) hj;have: -(2^67)<=low (i0-1) / mo (i0-1):=by
    rw[Int.le_ediv_iff_mul_le p];have:=Zac (show(1:Int)<=mo (i0-1) by lia) (show(0:Int)<=2^67 by decide);rw[ZaQ];lia
   lia
 have y0:∀j,j<m->0<=low j+top*mo j:=λj hj=>by
  have h1:=Zaw (topj j hj) (show 0<=mo j from Int.le_of_lt (mo0 j hj));have h2:=Zbz (low j) (mo j);have h3:=ZR (low j) (by have:=mo0 j hj;lia:mo j≠0);rw[Zbl,ZaQ,ZaC (low j / mo j)]at h1;lia
 have hi:∀j,j<m->0<=low j+(top+1)*mo j/\low j+(top+1)*mo j<2^200:=λj hj=>by
  have h1:=y0 j hj;have h2:=mo0 j hj;have h3:=mo1 j hj;have h4:=Zcm (show top+1<=2^67+1 by lia) (show mo j<=2^66 by lia) ⋯ ∅;have h5:(2:Int)^67+(2^67+1)*2^66<2^200:= ∅
  have h6:=(bc j hj).2;rw[Zah,ZaH]at h4 ⊢;lia
 obtain⟨u,eu,hu⟩:=still (λj=>low j+(top+1)*mo j) m0 ⋯ hw hi;have key:∀j,Qi m T (λj=>low j+(top+1)*mo j) u j=Qi m T f (λi=>c i-(top+1)*v i+u i) j:=λj=>by
  rw[← hlow,← hmore];unfold Qi;show f j+Qx m (λi=>c i*T i j)+(top+1)*QL m T v j+Qx m (λi=>u i*T i j)=f j+Qx m λi=>(c i-(top+1)*v i+u i)*T i j;rw[QhY,ZaK,← Qdi];have:(λi=>(c i-(top+1)*v i+u i)*T i j)=λi=>(c i*T i j+ -((top+1)*(v i*T i j)))+u i*T i j:=by
   funext i;rw[Zah,Int.sub_mul,ZaA];lia
  rw[this,QaF,QaF,QcE];lia
 have row:Qd m (Qi m T (λj=>low j+(top+1)*mo j) u)=Qd m (Qi m T f (λi=>c i-(top+1)*v i+u i)):=congrArg D.lst (Zp λj _=>by rw[key j]);refine⟨λi=>c i-(top+1)*v i+u i,v,QY ?_,DD,⟨λj=>low j+top*mo j,u,y0,?_,λj _=>?_⟩,λj hj=>?_,λj hj=>?_⟩
 .refine run_seq (Qb3 (Qu rfl (hn m R L [f]) rfl) ?_);refine rsa (Qu rfl ec rfl) ?_;refine rsa (Qu rfl ea rfl) ?_;refine rsa (Qu (Qt rfl (Qt (Qu rfl ed rfl) (QP _))) ev rfl) ?_;refine rsa (d:=Qd m mo) (QR (List.range m) (Qcq (Qu rfl ed rfl) rfl rfl rfl) rfl λj hj=>⟨[none,slI (2*(0-T j j)),slI (Qi m T (λi=>2*(0-T i i)) v j)],rfl,reI (2*(0-T j j)-Qi m T (λi=>2*(0-T i i)) v j),rfl,by rw[← hmo j (Zb.mp hj)],rfl⟩) ?_;refine rsa (Qao (evmax (Qve rfl rfl (QR (List.range m) (Qcq rfl rfl rfl rfl) rfl λj hj=>⟨[none,slI (low j),slI (mo j)],rfl,reI (0-low j / mo j),Qke rfl rfl (QqI rfl rfl rfl rfl (mo0 j (Zb.mp hj)) (by have:=mo0 j (Zb.mp hj);have:=mo1 j (Zb.mp hj);have:(2:Nat)^66<=2^2000:=ZY ∅ ∅;lia)) rfl,rfl,rfl⟩) rfl ⋯) rfl) rfl rfl rfl) ?_;refine rsa (QR (List.range m) (Qcq rfl rfl rfl rfl) rfl λj hj=>⟨[none,slI (low j),slI (mo j),slI (top+1)],rfl,reI (low j+(top+1)*mo j),Qao rfl rfl (Qbh rfl rfl rfl rfl (QiP (Qc8 (by have:(2:Nat)^68<=2^2000:=ZY ∅ ∅;lia)) (Qc8 (by have:=mo0 j (Zb.mp hj);have:=mo1 j (Zb.mp hj);have:(2:Nat)^66<=2^2000:=ZY ∅ ∅;lia)))) rfl,rfl,rfl⟩) ?_;refine rsa (Qu rfl eu rfl) ?_;refine run_seq (QK (QR (List.range m) (Qu2 rfl rfl rfl rfl rfl rfl) rfl λi hi=>⟨[none,slI (c i),slI (v i),slI (u i),slI (top+1)],rfl,reI (c i-(top+1)*v i+u i),Qao (Qke rfl rfl (Qbh rfl rfl rfl rfl ?_) rfl) rfl rfl rfl,rfl,rfl⟩) ?_)
  rotate_left
  .rw[QaK];refine Qy (r:=⟨.tup [Qd m (Qi m T (λj=>low j+(top+1)*mo j) u),Qd m λi=>c i-(top+1)*v i+u i],true,[8,9]⟩) rfl ⟨by rw[row],rfl⟩
  .exact QiP (Qc8 (by have:(2:Nat)^68<=2^2000:=ZY ∅ ∅;lia)) (Qc8 (vb i (Zb.mp hi)))
 .refine⟨hu.leg.Qnk λj hj=>?_,λj hj=>?_,λj hj=>?_⟩
  .show _=low j+top*mo j+QL m T v j;rw[hmore,Zah,ZaH];lia
  .have:=hu.pos j hj;rw[QaJ (g:=λj=>low j+top*mo j+QL m T v j) j (by show _=low j+top*mo j+QL m T v j;rw[hmore,Zah,ZaH];lia) λi _=>rfl]at this;exact this
  .have:=hu.stb j hj;rw[QaJ (g:=λj=>low j+top*mo j+QL m T v j) j (by show _=low j+top*mo j+QL m T v j;rw[hmore,Zah,ZaH];lia) λi _=>rfl]at this;exact this
 .rw[← key j];exact QaJ j (by show _=low j+top*mo j+QL m T v j;rw[hmore,Zah,ZaH];lia) λi _=>rfl
 .rw[← key j];exact hu.stb j hj
 .rw[← key j];exact hu.pos j hj
def Dbl.round{m:Nat}{T:Mt2}{v:Mt1}(h:Dbl m T v)(tp:TP m T){y u:Mt1}(y0:∀j,j<m->0<=y j)(hu:Told m T (λj=>y j+QL m T v j) u):Told m T (λj=>y j+QL m T v j+QL m T v j) (λi=>v i+u i)/\∀j,j<m->Qi m T (λj=>y j+QL m T v j) u j=Qi m T (λj=>y j+QL m T v j+QL m T v j) (λi=>v i+u i) j:=by
 refine h.told.lay (λj hj=>?_) (λj hj=>?_) hu
 .have b:=h.big hj;have:=h.told.stb j hj;have e:QL m T v j=2*(0-T j j)-Qi m T (λj=>2*(0-T j j)) v j:=rfl;have:=y0 j hj;lia
 .have e:QL m T v j=2*(0-T j j)-Qi m T (λj=>2*(0-T j j)) v j:=rfl;lia
def Dbl.pos(tp:TP m T)(h:Dbl m T v)(hj:j<m):1<=v j:=by
 refine ZH λz=>?_;have v0:v j=0:=by have:=h.told.leg.nonneg j;lia
 have s:=h.told.stb j hj;have:0<=Qx m λi=>v i*T i j:=QlO λi hi=>by
  by_cases e:i=j
  .rw[e,v0,ZT];exact Zao _
  .exact Zav (h.told.leg.nonneg i) (tp.pos i j hi hj e)
 have e:Qi m T (λj=>2*(0-T j j)) v j=2*(0-T j j)+Qx m λi=>v i*T i j:=rfl;have:=tp.neg j hj;lia
def Rec.Qwu{m:Nat}{T:Mt2}{v y u:Mt1}(tp:TP m T)(h:Dbl m T v)(y0:∀j,j<m->0<=y j)(hu:Told m T (λj=>y j+QL m T v j) u):∀N:Nat,Told m T (λj=>(y j+N*QL m T v j)+QL m T v j) (λi=>u i+N*v i)/\∀j,j<m->Qi m T (λj=>(y j+N*QL m T v j)+QL m T v j) (λi=>u i+N*v i) j=Qi m T (λj=>y j+QL m T v j) u j
 | 0=>by
  have e1:(λj=>(y j+((0:Nat):Int)*QL m T v j)+QL m T v j)=λj=>y j+QL m T v j:=by funext j;simp
  have e2:(λi=>u i+((0:Nat):Int)*v i)=u:=by funext i;simp
  rw[e1,e2];exact⟨hu,λ_ _=>rfl⟩
 | N+1=>by
  obtain⟨t,e⟩:=Rec.Qwu tp h y0 hu N;obtain⟨t2,e2⟩:=h.round tp (λj hj=>by
   have:=h.big hj;have:=tp.neg j hj;have:=Zav (show(0:Int)<=N by lia) (show 0<=QL m T v j by lia);have:=y0 j hj;show 0<=y j+N*QL m T v j;lia) t
  have e3:(λj=>(y j+((N+1:Nat):Int)*QL m T v j)+QL m T v j)=λj=>y j+N*QL m T v j+QL m T v j+QL m T v j:=by
   funext j;rw[ZbO,Zah];simp;lia
  have e4:(λi=>u i+((N+1:Nat):Int)*v i)=λi=>v i+(u i+N*v i):=by
   funext i;rw[ZbO,Zah];simp;lia
  rw[e3,e4];exact⟨t2,λj hj=>by rw[← e2 j hj,e j hj]⟩
def Qlq(j:Nat):Qi m T (Qi m T f c) d j=Qi m T f (λi=>c i+d i) j:=by
 unfold Qi;have:(λi=>(c i+d i)*T i j)=λi=>c i*T i j+d i*T i j:=by funext i;rw[Zah]
 rw[this,QaF];lia
def Qpq(d:Mt1):∃N:Nat,∀i,i<m-> -(N:Int)<=d i:=by
 induction m with
 | zero=>exact⟨0,λi hi=> ⋯⟩
 | succ m ih=>
  obtain⟨N,h⟩:=ih;refine⟨N+(d m).natAbs,λi hi=>?_⟩;by_cases e:i=m
  .subst e;lia
  .have:=h i ⋯;lia
def Rec.least{m:Nat}{T:Mt2}{v x d:Mt1}(tp:TP m T)(h:Dbl m T v)(hr:Rec m T v x)(hs:Stb m T (Qi m T x d)):∀i,i<m->0<=d i:=by
 obtain⟨y,u,y0,hu,ex⟩:=hr;obtain⟨N,hN⟩:=Qpq d;obtain⟨t,e⟩:=Rec.Qwu tp h y0 hu N;have:=t.leg.least tp (c':=λi=>(u i+N*v i)+d i) (λi hi=>by
  have h1:=h.pos tp hi;have h2:=hu.leg.nonneg i;have h3:=hN i hi;have h4:=Zac h1 (show(0:Int)<=N by lia);show 0<=u i+N*v i+d i;lia) (λp hp=>by
  have:=hs p hp;rw[← Qlq];have e2:Qi m T (Qi m T (λj=>(y j+N*QL m T v j)+QL m T v j) λi=>u i+N*v i) d p=Qi m T x d p:=QaJ p (by rw[e p hp,ex p hp]) λ_ _=>rfl;rw[e2];exact this)
 intro i hi;have:=this i hi;lia
def Rec.one(tp:TP m T)(h:Dbl m T v)(h':Dbl m T v')(hr:Rec m T v x)(hr':Rec m T v' x')(sx:Stb m T x)(sx':Stb m T x')(e:∀j,j<m->x' j=Qi m T x d j):∀i,i<m->d i=0:=λi hi=>by
 have a:=hr.least tp h (λp hp=>by rw[← e p hp];exact sx' p hp) i hi;have b:=hr'.least tp h' (λp hp=>by
  have:Qi m T x' (λi=> -d i) p=x p:=by
   have q:Qi m T x' (λi=> -d i) p=Qi m T (Qi m T x d) (λi=> -d i) p:=QaJ p (e p hp) λ_ _=>rfl;rw[q,Qlq];unfold Qi;rw[QF λi _=>by show(d i+ -d i)*T i p=0;rw[Int.add_right_neg,ZT],Qaj];lia
  rw[this];exact sx p hp) i hi
 lia
noncomputable def Qkg(Qas:Den)(QcH:Den):DS:=(Qc (Qc4 (Qs 2 Qas [] (Qa vv0 (Qa (Q0 (Qa vv1 (Qa vv2 Qe))) Qe)))) (Qc (QM (Qk (Qs 2 QcH [] (Qa vv0 (Qa (QO (QaW vv1 vv2) (.tp [1,2]) [none,none,none] Qac (QJ vv1 vv2)) Qe))) kk0)) Ql))
def Qox(d:Den):Prop:=∀(m:Nat) (R L:Lpp) (a b:Mt1),0<m->m<=8->Qaw m R L->(∀j,j<m->0<=a j/\a j<=2^100)->(∀j,j<m->0<=b j/\b j<=2^100)->∃c,d [Qo m R L,Qd m a,Qd m b]=some (Qd m (Qi m (Qg m (Qb R L)) (λj=>a j+b j) c),true)/\Told m (Qg m (Qb R L)) (λj=>a j+b j) c
def QqW(h:fa J=some r)(e:r.d= .tup [a,b]):Qk fa (dC (.int 0)) J=some (HS.R.norm ⟨a,r.fr,r.M⟩)/\Qk fa (dC (.int 1)) J=some (HS.R.norm ⟨b,r.fr,r.M⟩):=by
 unfold Qk;rw[h];simp only[Za,e,Qus];exact⟨rfl,rfl⟩
def Qxt(hn:QgJ dn)(hs:QiI ds):Qox (Qm 3 (Qkg dn ds)):=λm R L a b m0 m8 hw ha hb=>by
 obtain⟨c,ec,tc⟩:=hs m R L (λj=>a j+b j) m0 ⋯ hw λj hj=>by
  have h1:=ha j hj;have h2:=hb j hj;have:(2:Int)^100+2^100<2^200:= ∅
  show 0<=a j+b j/\a j+b j<2^200;lia
 refine⟨c,QY ?_,tc⟩;refine run_seq (Qb3 (Qu rfl (hn m R L [a,b] m0 λf hf j hj=>?_) rfl) ?_)
 .rcases Zq.mp hf with rfl | hf
  .exact(ha j hj).1
  .rw[Zj.mp hf];exact(hb j hj).1
 refine Qy (QqW (Qu (Qt rfl (Qt (QR (List.range m) (Qcq rfl rfl rfl rfl) rfl λj _=>⟨[none,slI (a j),slI (b j)],rfl,reI (a j+b j),rfl,rfl,rfl⟩) (QP _))) ec rfl) rfl).1 ⟨rfl,rfl⟩
structure QBi (m:Nat) (T:Mt2) (f k:Mt1):Prop where
 ex:∃v,Dbl m T v/\Rec m T v (Qi m T f k)
 stb:Stb m T (Qi m T f k)
 nn:∀j,j<m->0<=Qi m T f k j
noncomputable def QnG(Qff:Den):DS:=(Qc (QM (Qk (Qs 2 Qff [] (Qa vv0 (Qa (Qai (Q0 (Qa kk0 Qe)) (Qk vv0 kk0)) Qe))) kk0)) Ql)
def QjC(d:Den):Prop:=∀(m:Nat) (R L:Lpp),0<m->m<=8->Qaw m R L->∃k,d [Qo m R L]=some (Qd m (Qi m (Qg m (Qb R L)) (λ_=>0) k),true)/\QBi m (Qg m (Qb R L)) (λ_=>0) k
def Qs8(ha:Qls da):QjC (Qm 1 (QnG da)):=λm R L m0 m8 hw=>by
 obtain⟨k,v,ek,h1,h2,h3,h4⟩:=ha m R L (λ_=>0) m0 m8 hw λj _=>by simp
 refine⟨k,QY ?_,⟨⟨v,h1,h2⟩,h3,h4⟩⟩;exact Qy (QqW (Qu (Qt rfl (Qt (Qia rfl rfl ⋯) (QP _))) ek rfl) rfl).1 ⟨rfl,rfl⟩
def Qxp{m:Nat}{T:Mt2}{v x y c:Mt1}(tp:TP m T)(hd:Dbl m T v)(hr:Rec m T v x)(y0:∀j,j<m->0<=y j)(hc:Told m T (λj=>x j+y j) c):Rec m T v (Qi m T (λj=>x j+y j) c):=by
 obtain⟨z,u,z0,hu,ex⟩:=hr;obtain⟨t1,e1⟩:=hu.lay (F':=λj=>z j+y j+QL m T v j) (λj hj=>by have:=y0 j hj;show z j+QL m T v j<=z j+y j+QL m T v j;lia) (λj hj=>by show x j+y j=_+(z j+y j+QL m T v j-(z j+QL m T v j));rw[ex j hj];lia) hc;exact⟨λj=>z j+y j,λi=>u i+c i,λj hj=>by have:=z0 j hj;have:=y0 j hj;show 0<=z j+y j;lia,t1,e1⟩
def Qrr(j:Nat):Qi m T f (λ_=>0) j=f j:=by
 unfold Qi;rw[QF λi _=>by rw[ZT],Qaj,ZaF]
def QvU{n:Nat}{A:Mt2}{g v:Mt1}{l:Nat}(hl:l<n)(h:∀r,r<n->g r=sm n λi=>v i*A i r):det n (cup A l g)=v l*det n A:=by
 have e:det n (cup A l g)=det n (cup A l λr=>sm n λi=>v i*A i r):=by
  refine QbY λj hj r hr=>?_;by_cases q:j=l
  .subst q;rw[QU,QU];exact h r hr
  .rw[QH _ _ q,QH _ _ q]
 rw[e,QgD hl v A n,Qc5 (c:=l) hl λi hi ne=>by rw[QgB hl hi (Ne.symm ne) (by rw[QU,QH _ _ ne]),Zap],QbA]
def Qw6(hA:∀j,j<n->∀r,r<n->(A j r).natAbs<=2^200)(hl:Qge n A):det n A≠0:=by
 obtain⟨m,R,d,C⟩:=QnW (Zt n) hA hl n (Zt n);have e2:det n A=d:=by
  rw[← C.clr.det];exact QbY λj hj r _=>by rw[C.clr.own j hj]
 rw[e2];exact C.clr.nz
def Qaw.small{m:Nat}{R L:Lpp}(hw:Qaw m R L){i j:Nat}(hi:i<m)(hj:j<m):(Qg m (Qb R L) i j).natAbs<=600:=by
 have g:=hw.good;have gs:=QaP g.1 g.2.1;rw[Qb5 hi hj λs hs=>⟨(gs s hs).1,(gs s hs).2.1⟩];refine ZJ (QeJ i j _) ?_;unfold Qb;rw[ZG,ZG,Zd];lia
noncomputable def QG(T:Mt2):Nat->Nat->Int:=λi j=>0-T i j
def Qaw.big{m:Nat}{R L:Lpp}(hw:Qaw m R L):∀j,j<m->∀r,r<m->(QG (Qg m (Qb R L)) j r).natAbs<=2^200:=λj hj r hr=>by
 have:=hw.small hj hr;have:(600:Nat)<=2^200:= ∅
 unfold QG;lia
noncomputable def QkP:DS:=(Qc (QM (QO (Qa1 vv0) (.nm 1) [none,none,some 1] Qac (dIf (QA (dOp gEq vv1 vv2)) kk1 kk0))) Ql)
def Qn5(d:Den):Prop:=∀(n p:Nat),n<=1000->d [.int n,.int p]=some (Qd n λi=>if i=p then 1 else 0,true)
def Qx4:Qn5 (Qm 2 QkP):=λn p hn=>by
 refine QY (Qy (QR (List.range n) (Qbn rfl rfl ⋯) rfl λi _=>⟨[none,slI i,slI p],rfl,reI (if i=p then 1 else 0),?_,rfl,rfl⟩) ⟨rfl,rfl⟩);unfold dIf;rw[QC (Qgt rfl rfl rfl rfl) rfl,Za];by_cases z:i=p
 .rw[if_pos z,if_pos (by rw[z];simp)];rfl
 .rw[if_neg z,if_neg (by simp;lia)];rfl
def Qyq{fa fb:DE}{J:En}{a b:Bool}(ha:fa J=some (reT (.bl a)))(hb:fb J=some (reT (.bl b))):Qhf fa fb J=some (reT (.bl (a && b))):=by
 unfold Qhf;rw[ha,Za];cases a with
 | true=>rw[hb];rfl
 | false=>rfl
def at0(x:D)(xs:List D):atI (x::xs) (0:Int)=some x:=by rw[QdQ (show(0:Int)<=0 by decide) ⋯];rfl
def ix0(x:D)(xs:List D):ixN (x::xs).length (0:Int)=some 0:=by rw[QdY (show(0:Int)<=0 by decide) ⋯];rfl
def Qvl{x:Nat}{xs rs:List D}{fa:DE}{J:En}{v:Int}{Q:Out->Prop}(hx:J[x]? =some (slT (.lst (.lst xs::rs))))(ha:fa J=some (reI v))(hl:xs.length<16777216)(q:Q (.nx (J.set x (slT (.lst (.lst (xs++[.int v])::rs)))))):Run (Qb1 x (Qe4 Q8 (dC (.int 0))) fa) J Q:=by
 refine⟨_,?_,q⟩;have hn:(HS.R.mk (.int v) true []).norm=(reI v):=rfl;unfold Qb1;rw[hx];have hp:Qe4 Q8 (dC (.int 0)) J=some [0]:=rfl;have hd:Qak (.lst (.lst xs::rs)) [0]=some (.lst xs):=by
  simp only[Qak,D.items,Za,at0]
 have hu:∀d,Qa2 [0] (.lst (.lst xs::rs)) d= .lst (d::rs):=λd=>by
  simp only[Qa2,ix0];rfl
 simp only[hp,Za,ha,hd,QgO,hn,QbD,hu];simp[hl,kill]
def QsY{x y:Nat}{fa:DE}{J:En}{d:D}{xs:List D}{Q:Out->Prop}(hx:J[x]? =some (slT (.lst xs)))(ha:fa J=some ⟨d,true,[y]⟩)(hf:d.flat=false)(hxy:x≠y)(hl:xs.length<16777216)(q:Q (.nx ((J.set y none).set x (slT (.lst (xs++[d])))))):Run (Qb1 x Q8 fa) J Q:=by
 refine⟨_,?_,q⟩;have hn:(HS.R.mk d true [y]).norm=⟨d,true,[y]⟩:=by unfold R.norm;rw[if_neg (by rw[hf];exact Bool.false_ne_true)]
 unfold Qb1;rw[hx];simp only[Q8,Za,ha,Qak,QgO,hn,QbD];simp[hl,kill,Qa2,hxy]
def QwE{J:En}{i:Nat}{d:D}{b:Bool}(h:J[i]? =some (some (d,b)))(hf:d.flat=false):∃M,Qn i J=some ⟨d,b,M⟩:=by
 unfold Qn;rw[h];cases b with
 | true=>exact⟨[i],by simp[hf]⟩
 | false=>exact⟨[],by simp[hf]⟩
def QqV(d:Den):Prop:=∀(m:Nat) (R L:Lpp),m<=8->Qaw m R L->d [Qo m R L]=some (Qz m m (QG (Qg m (Qb R L))),true)
def Qw0(h:Qhe d):QqV d:=λm R L m8 hw=>by
 have hg:=hw.good;exact h m R L ⋯ ⋯ hg.1 hg.2.1
def QoH:∀(n:Nat) (m:Mt2),(∀r,r<n->m n r=0)->m n n=1->det (n+1) m=det n m
 | 0,m,_,h=>by show(0:Int)+sgn 0*m 0 0*1=1;rw[h];rfl
 | n+1,m,h0,h1=>by
  show sm (n+1) _+sgn (n+1)*m (n+1) 0*_=sm (n+1) _;rw[h0 0 ⋯,Zap,ZT,ZaF];refine QaB λj hj=>?_;have e:skp j n=n+1:=by unfold skp;rw[if_neg ⋯]
  rw[QoH n (λc r=>m (skp j c) (r+1)) (λr hr=>by show m (skp j n) (r+1)=0;rw[e];exact h0 (r+1) ⋯) (by show m (skp j n) (n+1)=1;rw[e];exact h1)]
def QkH(tp:TP m T):∀k,k<=m->0<det k λl r=>0-T l r
 | 0,_=>by show(0:Int)<1;decide
 | k+1,hk=>by
  have ih:=QkH tp k ⋯;have big:∀j,j<m->∀r,r<m->(0-T j r).natAbs<=2^200:=λj hj r hr=>by
   have:=tp.bnd j r hj hr;have:(2:Nat)^64<=2^200:=ZY ∅ ∅;lia
  have nz:=Qw6 (n:=k+1) (λj hj r hr=>big j ⋯ r ⋯) λk' hk'=>QlS tp k' ⋯;by_cases neg:(det (k+1) λl r=>0-T l r)<0
  .have cr:=λr (hr:r<k+1)=>Qki (λl r=>0-T l r) (λr=>if r=k then(1:Int)else 0) hr;generalize (det (k+1) λl r=>0-T l r)=D at *;have ck:det (k+1) (cup (λl r=>0-T l r) k λr=>if r=k then 1 else 0)=det k λl r=>0-T l r:=by
    rw[QoH k _ (λr hr=>by rw[QU,if_neg ⋯]) (by rw[QU,if_pos rfl])];exact QbY λj hj r _=>by rw[QH _ _ ⋯]
   have z:=Qol (k:=k) tp (c:=λl=>if l<=k then det (k+1) (cup (λl r=>0-T l r) l λr=>if r=k then 1 else 0)else 0) (λl hl=>if_neg ⋯) (λr _ hr=>?_) k ⋯
   .have z:(if k<=k then det (k+1) (cup (λl r=>0-T l r) k λr=>if r=k then 1 else 0)else 0)<=0:=z;rw[if_pos (Zt k),ck]at z;lia
   .have e:=cr r ⋯;have e2:Qx m (λl=>(if l<=k then det (k+1) (cup (λl r=>0-T l r) l λr=>if r=k then 1 else 0)else 0)*T l r)= -(D*if r=k then 1 else 0):=by
     rw[e,← Qdw,QgQ (k:=k+1) ⋯ λi h1 _=>by rw[if_neg ⋯,ZT],Qdw,Qdw,← QcE];exact QF λl hl=>by rw[if_pos ⋯,Zbl,ZaK,Int.neg_neg]
    rw[e2];split<;>lia
  .lia
def Cng(n:Nat)(m:Mt2)(x y:Mt1):Prop:=∃c:Nat->Int,∀r,r<n->x r-y r=sm n λj=>c j*m j r
def Qpn(f g:Mt1)(n:Nat):sm n (λi=>f i+g i)=sm n f+sm n g:=by
 have:=Qgz 1 1 f g n;simpa using this
def Cng.symm{n:Nat}{m:Mt2}{x y:Mt1}(h:Cng n m x y):Cng n m y x:=by
 obtain⟨c,h⟩:=h;refine⟨λj=> -1*c j,λr hr=>?_⟩;have:=h r hr;have e:=Qgz (-1) 0 (λj=>c j*m j r) (λ_=>0) n;have e2:(sm n λj=> -1*c j*m j r)=sm n λj=> -1*(c j*m j r)+0*0:=QaB λj _=>by rw[ZaA];lia
 rw[e2,e];lia
def Cng.trans{n:Nat}{m:Mt2}{x y z:Mt1}(h:Cng n m x y)(k:Cng n m y z):Cng n m x z:=by
 obtain⟨c,h⟩:=h;obtain⟨d,k⟩:=k;refine⟨λj=>c j+d j,λr hr=>?_⟩;have h1:=h r hr;have h2:=k r hr;have e:(sm n λj=>(c j+d j)*m j r)=sm n λj=>c j*m j r+d j*m j r:=QaB λj _=>Zah _ _ _;rw[e,Qpn];lia
structure Sys (n:Nat) (m:Mt2) (xs:List (Nat->Int)):Prop where
 all:∀y,∃x∈xs,Cng n m y x
 one:xs.Pairwise λx y=>¬Cng n m x y
def Qkm{n:Nat}{m:Mt2}:∀(xs ys:List (Nat->Int)),(∀x∈xs,∃y∈ys,Cng n m x y)->(xs.Pairwise λx y=>¬Cng n m x y)->xs.length<=ys.length
 | [],_,_,_=>ZS _
 | x::xs,ys,h,p=>by
  have p1:=Zas.mp p;obtain⟨y,hy,hxy⟩:=h x Zv;obtain⟨a,b,rfl⟩:=List.append_of_mem hy;have:=Qkm xs (a++b) (λz hz=>?_) p1.2
  .rw[ZG]at this ⊢;rw[Zw,Zw];lia
  .obtain⟨w,hw,hzw⟩:=h z (ZE _ hz);rcases Zf.mp hw with hw | hw
   .exact⟨w,Zh _ hw,hzw⟩
   .rcases Zq.mp hw with rfl | hw
    .exact absurd (hxy.trans hzw.symm) (p1.1 z hz)
    .exact⟨w,Zc _ hw,hzw⟩
def QhQ(f:Mt1):∀(n j:Nat),j<n+1->sm (n+1) f=f j+sm n λc=>f (skp j c)
 | 0,j,h=>by
  obtain rfl:j=0:= ⋯
  show 0+f 0=f 0+0;lia
 | n+1,j,h=>by
  by_cases e:j=n+1
  .subst e;show sm (n+1) f+f (n+1)=_;rw[QaB (g:=λc=>f (skp (n+1) c)) λc hc=>by unfold skp;rw[if_pos hc]];lia
  .have ih:=QhQ f n j ⋯;show sm (n+1) f+f (n+1)=f j+(sm n _+f (skp j n));rw[ih,show skp j n=n+1 from by unfold skp;rw[if_neg ⋯]];lia
def Qua(j c:Nat):skp j c≠j:=by unfold skp;split<;>lia
def QyO{j c n:Nat}(hc:c<n):skp j c<n+1:=by unfold skp;split<;>lia
noncomputable def Qsj(j i:Nat):Nat:=if i<j then i else i-1
def Qu8(j c:Nat):Qsj j (skp j c)=c:=by
 unfold Qsj skp;by_cases h:c<j
 .rw[if_pos h,if_pos h]
 .rw[if_neg h,if_neg ⋯];lia
def Qx2{n:Nat}{m:Mt2}{i k:Nat}(hi:i<n)(hk:k<n)(ne:i≠k)(q:Int):det n (cup m k λr=>m k r+q*m i r)=det n m:=by
 have e:=QiE 1 q (m k) (m i) n m k hk (m k) (m i);rw[QbA,QgB (m:=cup m k (m i)) hi hk ne (by rw[QU,QH _ _ ne])]at e;rw[show(λr=>m k r+q*m i r)=λr=>1*m k r+q*m i r from funext λr=> ⋯,e];lia
def Qq3{n:Nat}{m:Mt2}{i k:Nat}(hi:i<n)(hk:k<n)(ne:i≠k)(q:Int){x y:Mt1}(h:Cng n (cup m k λr=>m k r+q*m i r) x y):Cng n m x y:=by
 obtain⟨c,h⟩:=h;refine⟨λj=>c j+if j=i then q*c k else 0,λr hr=>?_⟩;rw[h r hr];have e:(sm n λj=>(c j+if j=i then q*c k else 0)*m j r)=sm n λj=>c j*m j r+(if j=i then q*c k else 0)*m j r:=QaB λj _=>Zah _ _ _;have e1:(sm n λj=>(if j=i then q*c k else 0)*m j r)=q*c k*m i r:=by
  rw[Qc5 hi λj _ hj=>by rw[if_neg hj,ZT],if_pos rfl]
 rw[e,Qpn,e1];have e2:(sm n λj=>c j*cup m k (λr=>m k r+q*m i r) j r)=sm n λj=>c j*m j r+(if j=k then c k*(q*m i r)else 0):=QaB λj _=>by
  by_cases z:j=k
  .rw[z,QU,if_pos rfl,Zbt]
  .rw[QH _ _ z,if_neg z,ZaF]
 have e3:(sm n λj=>if j=k then c k*(q*m i r)else 0)=c k*(q*m i r):=by
  rw[Qc5 hk λj _ hj=>if_neg hj,if_pos rfl]
 rw[e2,Qpn,e3]
 grind
def QvY{n:Nat}{m:Mt2}{i k:Nat}(hi:i<n)(hk:k<n)(ne:i≠k)(q:Int){x y:Mt1}(h:Cng n m x y):Cng n (cup m k λr=>m k r+q*m i r) x y:=by
 refine Qq3 hi hk ne (-q) ?_;have e:(cup (cup m k λr=>m k r+q*m i r) k λr=>cup m k (λr=>m k r+q*m i r) k r+ -q*cup m k (λr=>m k r+q*m i r) i r)=m:=by
  rw[Qq5,QU,QH _ _ ne,show(λr=>m k r+q*m i r+ -q*m i r)=m k from funext λr=>by grind];exact QbA m k
 rw[e];exact h
noncomputable def szN(n:Nat)(f:Mt1):Nat:=((List.range n).map λj=>(f j).natAbs).sum
def QsT{f g:Mt1}{k:Nat}:∀{n:Nat},k<n->(∀j,j<n->j≠k->g j=f j)->(g k).natAbs<(f k).natAbs->szN n g<szN n f
 | 0,h,_,_=> ⋯
 | n+1,h,he,hl=>by
  have s:∀f:Nat->Int,szN (n+1) f=szN n f+(f n).natAbs:=λf=>by unfold szN;rw[ZaJ,ZO,Zcg];simp
  rw[s,s];by_cases e:k=n
  .subst e;have:szN k g=szN k f:=by
    unfold szN;rw[Zp λj hj=>by rw[he j (by have:=Zb.mp hj;lia) (by have:=Zb.mp hj;lia)]]
   lia
  .have:=QsT (n:=n) ⋯ (λj hj=>he j ⋯) hl;rw[he n ⋯ (Ne.symm e)];lia
noncomputable def QyU(t:Nat)(x:Mt1):Nat->Int:=λr=>if r=0 then(t:Int)else x (r-1)
def QlJ:∀(n:Nat) (m:Mt2),det n m≠0->∃xs,Sys n m xs/\xs.length=(det n m).natAbs
 | 0,m,_=>⟨[λ_=>0],⟨λy=>⟨_,Zv,λ_=>0,λr hr=> ⋯⟩,List.pairwise_singleton _ _⟩,rfl⟩
 | n+1,m,hd=>by
  generalize hS:szN (n+1) (λj=>m j 0)=S
  induction S using Nat.strongRecOn generalizing m with
  | ind S ih=>
   by_cases two:∃i k,i<n+1/\k<n+1/\i≠k/\m i 0≠0/\(m i 0).natAbs<=(m k 0).natAbs
   .obtain⟨i,k,hi,hk,ne,nz,le⟩:=two;obtain⟨q,hq⟩:∃q:Int,(m k 0+q*m i 0).natAbs<(m k 0).natAbs:=by
     by_cases sg:(0<m i 0/\0<m k 0)∨(m i 0<0/\m k 0<0)
     .exact⟨-1,⋯⟩
     .exact⟨1,⋯⟩
    have sz:szN (n+1) (λj=>cup m k (λr=>m k r+q*m i r) j 0)<S:=by
     rw[← hS];refine QsT hk (λj _ hj=>by rw[QH _ _ hj]) ?_;show(cup m k (λr=>m k r+q*m i r) k 0).natAbs<_;rw[QU];exact hq
    have dm:=Qx2 (m:=m) hi hk ne q;obtain⟨xs,⟨h1,h2⟩,h3⟩:=ih _ sz (cup m k λr=>m k r+q*m i r) (by rw[dm];exact hd) rfl;refine⟨xs,⟨λy=>?_,h2.imp λh c=>h (QvY hi hk ne q c)⟩,by rw[h3,dm]⟩;obtain⟨x,hx,c⟩:=h1 y;exact⟨x,hx,Qq3 hi hk ne q c⟩
   .have only:∀i k,i<n+1->k<n+1->i≠k->m i 0≠0->m k 0=0:=λi k hi hk ne nz=>by
     by_cases z:m k 0=0
     .exact z
     .rcases Nat.le_total (m i 0).natAbs (m k 0).natAbs with h | h
      .exact absurd ⟨i,k,hi,hk,ne,nz,h⟩ two
      .exact absurd ⟨k,i,hk,hi,Ne.symm ne,z,h⟩ two
    obtain⟨j,hj,nz⟩:∃j,j<n+1/\m j 0≠0:=by
     refine ZH λno=>hd ?_;show sm (n+1) _=0;refine Qez λj hj=>?_;have:m j 0=0:=ZH λz=>no ⟨j,hj,z⟩;rw[this,Zap,ZT]
    have off:∀c,c<n->m (skp j c) 0=0:=λc hc=>only j _ hj (QyO hc) (Ne.symm (Qua j c)) nz;have de:det (n+1) m=sgn j*m j 0*det n λc r=>m (skp j c) (r+1):=by
     show sm (n+1) _=_;exact Qc5 hj λi hi ne=>by rw[only j i hj hi (Ne.symm ne) nz,Zap,ZT]
    have dn:(det n λc r=>m (skp j c) (r+1))≠0:=λz=>hd (by rw[de,z,Zap]);obtain⟨ys,⟨a1,a2⟩,a3⟩:=QlJ n (λc r=>m (skp j c) (r+1)) dn;have sg:(sgn j).natAbs=1:=by unfold sgn;split<;>rfl
    refine⟨(List.range (m j 0).natAbs).flatMap λt=>ys.map (QyU t),⟨λy=>?_,?_⟩,?_⟩
    .obtain⟨x,hx,c,hc⟩:=a1 λr=>y (r+1)-y 0 / m j 0*m j (r+1);have t0:0<=y 0 % m j 0:=ZR _ nz;have t1:(y 0 % m j 0).toNat<(m j 0).natAbs:=by have:=Int.emod_lt (y 0) nz;lia
     refine⟨QyU (y 0 % m j 0).toNat x,List.mem_flatMap.mpr ⟨_,Zb.mpr t1,Zs.mpr ⟨x,hx,rfl⟩⟩,λi=>if i=j then y 0 / m j 0 else c (Qsj j i),λr hr=>?_⟩;rw[QhQ _ n j hj];dsimp only;rw[if_pos rfl];have e:(sm n λc'=>(if skp j c'=j then y 0 / m j 0 else c (Qsj j (skp j c')))*m (skp j c') r)=sm n λc'=>c c'*m (skp j c') r:=QaB λc' _=>by rw[if_neg (Qua j c'),Qu8]
     rw[e];cases r with
     | zero=>
      rw[Qez λc' hc'=>by rw[off c' hc',Zap]];show y 0-((y 0 % m j 0).toNat:Int)=_;have:=Zbz (y 0) (m j 0);rw[ZaC (y 0 / m j 0)];lia
     | succ r=>
      have:=hc r ⋯;have this:y (r+1)-y 0 / m j 0*m j (r+1)-x r=sm n λc'=>c c'*m (skp j c') (r+1):=this;rw[← this];show y (r+1)-x r=_;lia
    .rw[List.pairwise_flatMap];refine⟨λt ht=>ZX.mpr (a2.imp ?_),?_⟩
     .intro x x' hx hc;refine hx ?_;obtain⟨c,hc⟩:=hc;have c0:=hc 0 ⋯;rw[QhQ _ n j hj,Qez λc' hc'=>by rw[off c' hc',Zap]]at c0;have z:c j=0:=by
       have:c j*m j 0=0:=by rw[← ZaF (c j*m j 0),← c0];show(t:Int)-t=0;lia
       rcases Int.mul_eq_zero.mp this with h | h
       .exact h
       .exact absurd h nz
      refine⟨λi=>c (skp j i),λr hr=>?_⟩;have c1:=hc (r+1) ⋯;rw[QhQ _ n j hj,z,ZT,Int.zero_add]at c1;exact c1
     .refine Zbn (λ{t s} ht hs lt=>?_) (ZaV);intro x hx x' hx' hc;obtain⟨x,_,rfl⟩:=Zs.mp hx;obtain⟨x',_,rfl⟩:=Zs.mp hx';obtain⟨c,hc⟩:=hc;have c0:=hc 0 ⋯;rw[QhQ _ n j hj,Qez λc' hc'=>by rw[off c' hc',Zap]]at c0;have c0:(t:Int)-s=c j*m j 0+0:=c0;have ts:=Zb.mp hs;have d:m j 0∣(t:Int)-s:=⟨c j,by rw[c0,ZaF,ZaC]⟩;have:=Zbi.mpr d;have:=Zca ⋯ this;lia
    .rw[de,ZbE,ZbE,sg,Nat.one_mul,← a3];generalize (m j 0).natAbs=N
     induction N with
     | zero=>simp
     | succ N ihN=>rw[ZaJ,List.flatMap_append,ZG,ihN];simp[ZcG]
def Sys.many{n:Nat}{m:Mt2}{xs:List (Nat->Int)}(h:Sys n m xs)(hd:det n m≠0):xs.length=(det n m).natAbs:=by
 obtain⟨ys,h2,e⟩:=QlJ n m hd;rw[← e];exact Zcf (Qkm xs ys (λx _=>h2.all x) h.one) (Qkm ys xs (λx _=>h.all x) h2.one)
def QvQ{n:Nat}{m:Mt2}{xs:List (Nat->Int)}(h:xs.Pairwise λx y=>¬Cng n m x y)(hd:det n m≠0):xs.length<=(det n m).natAbs:=by
 obtain⟨ys,h2,e⟩:=QlJ n m hd;rw[← e];exact Qkm xs ys (λx _=>h2.all x) h
noncomputable def Qdf(n:Nat)(f:Mt1):List Int:=(List.range n).map f
noncomputable def fnL(k:List Int):Nat->Int:=λi=>k.getD i 0
noncomputable def QeE(a:Nat):Nat->Int:=λj=>if j=a then 1 else 0
noncomputable def putL(ks:List (List Int))(k:List Int):List (List Int):=if ks.contains k then ks else ks++[k]
def Qpa(n:Nat)(f:Mt1):(Qdf n f).length=n:=by simp[Qdf]
def Qnj(n:Nat)(f:Mt1):Qd n f=Qh (Qdf n f):=by unfold Qd Qh Qdf;rw[ZN];rfl
def QgF{n:Nat}{f:Mt1}{i:Nat}(h:i<n):fnL (Qdf n f) i=f i:=by
 unfold fnL Qdf;rw[Zaa,Zk,ZQ h];rfl
def QoR{n:Nat}{f g:Mt1}(h:∀j,j<n->f j=g j):Qdf n f=Qdf n g:=Zp λj hj=>h j (Zb.mp hj)
def QgG{n:Nat}{k:List Int}(h:k.length=n):Qdf n (fnL k)=k:=by
 subst h;refine Zaq λi=>?_;unfold Qdf;rw[Zk];by_cases z:i<k.length
 .rw[ZQ z,Zg z];simp[fnL,Zaa,Zg z]
 .rw[Zz (by simp;lia),Zz ⋯];rfl
def QfQ{n:Nat}{k:List Int}(h:k.length=n):Qh k=Qd n (fnL k):=by rw[Qnj,QgG h]
def Qe5:∀k:List Int,intsOf (k.map .int)=some k
 | []=>rfl
 | x::k=>by
  show(intsOf (k.map .int)).map (x:: ·)=_;rw[Qe5 k];rfl
def QuH{x:Nat}{ks:List (List Int)}{k:List Int}{fs:DA}{ra:RA}{J:En}{Q:Out->Prop}(hx:J[x]? =some (some (.dk ks,true)))(ha:fs J=some ra)(e:ra.ds=[Qh k])(hl:ks.length<16777216)(q:Q (.nx (J.set x (some (.dk (putL ks k),true))))):Run (QiC x fs) J Q:=by
 refine⟨_,?_,q⟩;unfold QiC;rw[hx];show(fs J).bind _=_;rw[ha,Za,e];show(intsOf (k.map .int)).bind _=_;rw[Qe5,Za,if_pos (by rw[QbD];exact hl)];rfl
section
variable {fa fb:DE}{J:En}{ra rb:R}{a b:Int}
def Qzb(ha:fa J=some ra)(ea:ra.d= .int a)(hb:fb J=some rb)(eb:rb.d= .int b):dOp gGt fa fb J=some (reT (.bl (decide (b<a)))):=Q4 ha hb (by rw[ea,eb];rfl)
def QAb(ha:fa J=some ra)(ea:ra.d= .int a)(hb:fb J=some rb)(eb:rb.d= .int b):dOp gLt fa fb J=some (reT (.bl (decide (a<b)))):=Q4 ha hb (by rw[ea,eb];rfl)
def QvJ{g:D->D->Option D}{i:Nat}{d d':D}{bb:Bool}{Q:Out->Prop}(hx:J[i]? =some (some (d,bb)))(ha:fa J=some ra)(hg:g d ra.d=some d')(q:Q (.nx (J.set i (some (d',true))))):Run (QlX g i fa) J Q:=by
 refine⟨_,?_,q⟩;unfold QlX;rw[hx];show(fa J).bind _=_;rw[ha,Za,hg];rfl
end
noncomputable def QkX(Qbb:Den)(QeQ:Den):DS:=(Qc (QM (Qs 1 QeQ [] (Qa (Qs 1 Qbb [] (Qa vv0 Qe)) Qe))) Ql)
structure RcH (m:Nat) (T:Mt2) (x:Mt1):Prop where
 ex:∃v,Dbl m T v/\Rec m T v x
 stb:Stb m T x
 nn:∀j,j<m->0<=x j
section
variable {m:Nat}{T:Mt2}
def QlK(x c:Mt1):Cng m (QG T) x (Qi m T x c):=⟨c,λr hr=>by
 rw[Qdw];have e:(Qx m λj=>c j*QG T j r)= -Qx m λj=>c j*T j r:=by
  rw[← QcE];exact QF λj _=>by unfold QG;rw[Zbl,ZaK]
 rw[e];unfold Qi;lia⟩
def Qoy{x y:Mt1}(h:Cng m (QG T) x y):∃c,∀r,r<m->y r=Qi m T x c r:=by
 obtain⟨c,h⟩:=h;refine⟨c,λr hr=>?_⟩;have e:(Qx m λj=>c j*QG T j r)= -Qx m λj=>c j*T j r:=by
  rw[← QcE];exact QF λj _=>by unfold QG;rw[Zbl,ZaK]
 have:=h r hr;rw[Qdw,e]at this;unfold Qi;lia
def Cng.plus{n:Nat}{M:Mt2}{x y:Mt1}(h:Cng n M x y)(z:Mt1):Cng n M (λj=>x j+z j) (λj=>y j+z j):=by
 obtain⟨c,h⟩:=h;exact⟨c,λr hr=>by have:=h r hr;show x r+z r-(y r+z r)=_;lia⟩
def Cng.ext{n:Nat}{M:Mt2}{x x' y:Mt1}(h:Cng n M x y)(e:∀j,j<n->x' j=x j):Cng n M x' y:=by
 obtain⟨c,h⟩:=h;exact⟨c,λr hr=>by rw[e r hr];exact h r hr⟩
def RcH.one(tp:TP m T){x y:Mt1}(hx:RcH m T x)(hy:RcH m T y)(h:Cng m (QG T) x y):∀j,j<m->x j=y j:=λj hj=>by
 obtain⟨d,e⟩:=Qoy h;obtain⟨v,a1,a2⟩:=hx.ex;obtain⟨v',b1,b2⟩:=hy.ex;have z:=Rec.one tp a1 b1 a2 b2 hx.stb hy.stb e;rw[e j hj,QaJ j rfl z,Qrr]
def RcH.add(tp:TP m T){x y c:Mt1}(hx:RcH m T x)(y0:∀j,j<m->0<=y j)(hc:Told m T (λj=>x j+y j) c):RcH m T (Qi m T (λj=>x j+y j) c):=by
 obtain⟨v,a1,a2⟩:=hx.ex;exact⟨⟨v,a1,Qxp tp a1 a2 y0 hc⟩,hc.stb,hc.pos⟩
structure RcL (m:Nat) (T:Mt2) (rs:List (List Int)):Prop where
 len:∀r∈rs,r.length=m
 rc:∀r∈rs,RcH m T (fnL r)
 nd:rs.Nodup
def QlH{m:Nat}{r s:List Int}(hr:r.length=m)(hs:s.length=m)(h:∀j,j<m->fnL r j=fnL s j):r=s:=by
 rw[← QgG hr,← QgG hs];exact QoR h
def RcL.apart(tp:TP m T){rs:List (List Int)}(h:RcL m T rs):(rs.map fnL).Pairwise λx y=>¬Cng m (QG T) x y:=by
 rw[ZX];refine(List.Pairwise.and_mem.mp h.nd).imp λ{r s} q c=>q.2.2 ?_;exact QlH (h.len r q.1) (h.len s q.2.1) ((h.rc r q.1).one tp (h.rc s q.2.1) c)
def RcL.le(tp:TP m T){rs:List (List Int)}(h:RcL m T rs):(rs.length:Int)<=det m (QG T):=by
 have p:0<det m (QG T):=QkH tp m (Zt m);have:=QvQ (h.apart tp) ⋯;rw[Zd]at this;lia
def Clo(m:Nat)(T:Mt2)(rs:List (List Int))(x:Mt1):Prop:=∀p,p<m->∃r∈rs,Cng m (QG T) (λj=>x j+QeE p j) (fnL r)
def RcL.many(tp:TP m T){rs:List (List Int)}(h:RcL m T rs)(h0:∃r∈rs,Cng m (QG T) (λ_=>0) (fnL r))(hd:∃v,Dbl m T v)(hc:∀r∈rs,Clo m T rs (fnL r)):(rs.length:Int)=det m (QG T)/\∀y:Nat->Int,∃r∈rs,Cng m (QG T) y (fnL r):=by
 have p0:0<det m (QG T):=QkH tp m (Zt m);have one:∀(y:Mt1) (p:Nat),p<m->(∃r∈rs,Cng m (QG T) y (fnL r))->∃r∈rs,Cng m (QG T) (λj=>y j+QeE p j) (fnL r):=λy p hp ⟨r,hr,e⟩=>by
  obtain⟨s,hs,e2⟩:=hc r hr p hp;exact⟨s,hs,(e.plus _).trans e2⟩
 have times:∀(t:Nat) (y:Mt1) (p:Nat),p<m->(∃r∈rs,Cng m (QG T) y (fnL r))->∃r∈rs,Cng m (QG T) (λj=>y j+t*QeE p j) (fnL r):=λt=>by
  induction t with
  | zero=>intro y p _ ⟨r,hr,e⟩;exact⟨r,hr,e.ext λj _=>by show y j+((0:Nat):Int)*_=_;lia⟩
  | succ t ih=>
   intro y p hp h;obtain⟨r,hr,e⟩:=one _ p hp (ih y p hp h);exact⟨r,hr,e.ext λj _=>by show y j+((t+1:Nat):Int)*QeE p j=y j+t*QeE p j+QeE p j;rw[Int.natCast_succ,Zah];lia⟩
 have nn:∀(y:Mt1),(∀j,j<m->0<=y j)->∃r∈rs,Cng m (QG T) y (fnL r):=λy hy=>by
  have key:∀k,k<=m->∃r∈rs,Cng m (QG T) (λj=>if j<k then y j else 0) (fnL r):=λk=>by
   induction k with
   | zero=>intro _;obtain⟨r,hr,e⟩:=h0;exact⟨r,hr,e.ext λj _=>if_neg ⋯⟩
   | succ k ih=>
    intro hk;obtain⟨r,hr,e⟩:=times (y k).toNat _ k hk (ih ⋯);refine⟨r,hr,e.ext λj hj=>?_⟩;have:=hy k hk;show(if j<k+1 then y j else 0)=(if j<k then y j else 0)+((y k).toNat:Int)*QeE k j;unfold QeE;by_cases z:j=k
    .subst z;rw[if_pos ⋯,if_neg ⋯,if_pos rfl];lia
    .rw[if_neg z];by_cases z2:j<k
     .rw[if_pos ⋯,if_pos z2];lia
     .rw[if_neg ⋯,if_neg z2];lia
  obtain⟨r,hr,e⟩:=key m (Zt m);exact⟨r,hr,e.ext λj hj=>(if_pos hj).symm⟩
 have all:∀y:Nat->Int,∃r∈rs,Cng m (QG T) y (fnL r):=λy=>by
  obtain⟨v,dv⟩:=hd;obtain⟨N,hN⟩:=Qpq y;obtain⟨r,hr,e⟩:=nn (λj=>y j+N*QL m T v j) λj hj=>by
   have h1:=hN j hj;have h2:=dv.big hj;have h3:=tp.neg j hj;have:(N:Int)*1<=N*QL m T v j:=Zac ⋯ ⋯;show 0<=y j+N*QL m T v j;lia
  refine⟨r,hr,Cng.trans ?_ e⟩;have:=QlK (m:=m) (T:=T) y (λi=> -(N:Int)*v i);refine(Cng.ext this.symm λj hj=>?_).symm;show y j+N*QL m T v j=Qi m T y (λi=> -(N:Int)*v i) j;rw[QhY];unfold Qi;have e:(Qx m λi=> -(N:Int)*v i*T i j)= -(N:Int)*Qx m λi=>v i*T i j:=by rw[← Qdi];exact QF λi _=>ZaA _ _ _
  rw[e,ZaQ,ZaK]
 have s:Sys m (QG T) (rs.map fnL):=⟨λy=>by obtain⟨r,hr,e⟩:=all y;exact⟨fnL r,Zs.mpr ⟨r,hr,rfl⟩,e⟩,h.apart tp⟩;have:=s.many ⋯;rw[Zd]at this;exact⟨⋯,all⟩
end
noncomputable def Qek(QcL:Den):DS:=(Qc (Qv 1 (QJ kk1 (dOp QbE (Qk vv0 kk0) kk3))) (Qc (Qv 2 (Qs 2 QcL [] (Qa (Qep vv0 (Qcb kk2) (Qcb kk5)) (Qa vv1 Qe)))) (Qc (QaU (Q7 (Qep vv0 (Qcb kk5) (Qcb (QJ kk5 (dOp QbE (Qk vv0 kk1) (dOp Qbo kk9 vv1)))))) (.nm 3) (Qc (Qd0 (.tp [4,5]) (dDm (Qa vv3 (Qa (QJ vv1 kk1) Qe)))) (Qc (Qd0 (.tp [4,6]) (dDm (Qa vv4 (Qa vv1 Qe)))) (Qc (Qjw 2 Q8 (dOp QbE vv4 (QJ (dBf Qan (Qa vv2 Qe)) kk1)) (QaQ (Qa vv5 (Qa (dOp QbE (QJ (QJ vv5 kk1) vv6) (QJ vv1 kk1)) Qe)))) Ql)))) (Qc (QM (QaQ (Qa vv1 (Qa (QO (Q7 vv2) (.nm 1) [none,none] Qac (QaQ (Qa (dBf QeF (Qa vv1 Qe)) (Qa (dBf QdH (Qa vv1 Qe)) Qe)))) (Qa (Q0 Qe) Qe))))) Ql))))
def Ql1(d:Den):Prop:=∀cs:List Int,cs.length=14->(∀c∈cs,0<=c/\c<B40)->∃(m:Nat) (R:Lpp),d [Qh cs]=some (Qo m R [],true)/\0<m/\m<=3/\R.length<=8/\Qaw m R []
def QvK{db:Den}(hb:Qlc db):Ql1 (Qm 7 (Qek db)):=λcs hl hcs=>by
 have cell:∀k:Nat,k<14->∃c,cs[k]? =some c/\0<=c/\c<B40:=λk hk=>⟨cs[k]'⋯,Zg ⋯,hcs _ (Zbp _)⟩;obtain⟨c0,e0,p0,_⟩:=cell 0 ∅;obtain⟨c2,e2,p2,_⟩:=cell 1 ∅;have b1:=ZR c0 (by decide:(3:Int)≠0);have b2:=ZM c0 (by decide:(0:Int)<3);obtain⟨m,em1⟩:∃m:Nat,(m:Int)=1+c0 % 3:=⟨(1+c0 % 3).toNat,⋯⟩;have m0:0<m:= ⋯
 have m3:m<=3:= ⋯
 have key:Run (Qek db) (Qau 7 [Qh cs]) (Rt λd fr=>∃(m:Nat) (R:Lpp),d=Qo m R []/\fr=true/\0<m/\m<=3/\R.length<=8/\Qaw m R []):=by
  have idx:∀{J:En}(k:Nat) (c:Int),J[0]? =some (slF (Qh cs))->cs[k]? =some c->Qk (Qn 0) (dC (.int k)) J=some (reI c):=λ{J} k c h0 hc=>Qdx (ns:=cs) (i:=k) (Qcg h0) rfl (Qus _ _) rfl ⋯ (by simpa using hc);refine rsa (Qao (a:=1) rfl rfl (QbT (b:=3) (idx 0 c0 rfl e0) rfl rfl rfl ∅) rfl) ?_;rw[← em1];obtain⟨W0,hbase,lW0,gW0,esc0⟩:=hb m ((cs.drop (min 2 cs.length)).take (min 5 cs.length-min 2 cs.length)) ⋯ ⋯ (by rw[ZP,ZZ];lia) λc hc=>hcs c (Qqy hc);refine rsa (Qu (Qt (Qrb (cs:=cs) (a:=2) (b:=5) (ra:=reF (Qh cs)) rfl rfl rfl rfl rfl rfl) (Qt (r:=reI m) rfl (QP _))) hbase rfl) ?_;have d1:=ZR c2 (by lia:(9:Int)-m≠0);have d2:=ZM c2 (by lia:0<(9:Int)-m);obtain⟨q,eq⟩:∃q:Nat,(q:Int)=5+c2 % (9-m):=⟨(5+c2 % (9-m)).toNat,⋯⟩;have eh:QJ (dC (.int 5)) (dOp QbE (Qk (Qn 0) (dC (.int 1))) (dOp Qbo (dC (.int 9)) (Qn 1))) [slF (Qh cs),slI m,slT (Qr (prs W0)),none,none,none,none]=some (reI q):=by
   rw[eq];exact Qao (a:=5) rfl rfl (QbT (a:=c2) (b:=9-m) (idx 1 c2 rfl e2) rfl (rb:=reI (9-m)) rfl rfl ⋯) rfl
  have esl:=Qrb (cs:=cs) (a:=5) (b:=q) (fa:=Qn 0) (fl:=dC (.int 5)) (J:=[slF (Qh cs),slI m,slT (Qr (prs W0)),none,none,none,none]) (ra:=reF (Qh cs)) rfl rfl rfl rfl eh rfl;generalize efu:(cs.drop (min 5 cs.length)).take (min q cs.length-min 5 cs.length)=fu at esl;have hfu:∀c∈fu,0<=c/\c<B40:=λc hc=>hcs c (by rw[← efu]at hc;exact Qqy hc);have lfu:fu.length+m<=8:=by rw[← efu,ZP,ZZ];lia
  refine Qal (P:=λJ=>∃(W:List (Int×Int×Bool)) (j3 j4 j5 j6:Option (D×Bool)),W.length<=8/\(∀w∈W,GoodW m w)/\(∀w∈W0,w∈W)/\J=[slF (Qh cs),slI m,slT (Qr (prs W)),j3,j4,j5,j6]) ?_ ?_
  .refine Qaa (toD:=D.int) fu (λi J=>∃(W:List (Int×Int×Bool)) (j3 j4 j5 j6:Option (D×Bool)),W.length<=W0.length+i/\(∀w∈W,GoodW m w)/\(∀w∈W0,w∈W)/\J=[slF (Qh cs),slI m,slT (Qr (prs W)),j3,j4,j5,j6]) (Qae esl rfl) rfl ⟨W0,none,none,none,none,⋯,gW0,λw hw=>hw,rfl⟩ ?_ ?_
   .rintro i c J hi ⟨W,j3,j4,j5,j6,hw1,hw2,hw3,rfl⟩;have hil:i<fu.length:=(Zi.mp hi).1;have hc:=hfu c (Zu hi);refine⟨_,rfl,?_⟩;refine run_seq (Qh5 (a:=c) (b:=(m:Int)+1) rfl rfl (Qao (a:=(m:Int)) (b:=1) rfl rfl rfl rfl) rfl ⋯ ⋯ ?_);have a1:=ZR c (by lia:(m:Int)+1≠0);have a2:=ZM c (by lia:(0:Int)<(m:Int)+1);have a3:0<=c / ((m:Int)+1):=Zbx hc.1 ⋯;generalize c % ((m:Int)+1)=st at a1 a2;generalize c / ((m:Int)+1)=nb at a3;refine run_seq (Qh5 (a:=nb) (b:=m) rfl rfl rfl rfl ⋯ ⋯ ?_);have b1:=ZR nb (by lia:(m:Int)≠0);have b2:=ZM nb (by lia:(0:Int)<(m:Int));have b3:0<=nb / (m:Int):=Zbx a3 ⋯;generalize nb % (m:Int)=sp at b1 b2;generalize nb / (m:Int)=nc at b3;have gw:=QvM (m:=m) (a:=st) (s:=sp) (ln:=false) a1 ⋯ b1 b2 (λz=>by cases z);have elen:∀{J:En},J[2]? =some (slT (Qr (prs W)))->dBf Qan (Qa (Qn 2) Qe) J=some (reI W.length):=λ{J} h=>by
     rw[Qbg (xs:=(prs W).map pairD) (Qcg h) rfl,Zd];unfold prs;rw[Zd]
    have c1:=ZR nc (by lia:(W.length:Int)+1≠0);have c2:=ZM nc (by lia:(0:Int)<(W.length:Int)+1);refine run_seq (QpG (A:=prs W) (p:=QbS (st,(st+1+sp) % ((m:Int)+1),false)) (i:=nc % ((W.length:Int)+1)) (r:=⟨pairD (QbS (st,(st+1+sp) % ((m:Int)+1),false)),true,[]⟩) rfl (QbT (a:=nc) (b:=(W.length:Int)+1) rfl rfl (Qao (a:=(W.length:Int)) (b:=1) (elen rfl) rfl rfl rfl) rfl ⋯) rfl ?_ rfl c1 ⋯ (by unfold prs;rw[Zd];lia) (Qp ⟨QbB W (min (nc % ((W.length:Int)+1)).toNat W.length) (st,(st+1+sp) % ((m:Int)+1),false),slI c,slI nc,slI st,slI sp,by rw[Qrj];lia,λw hw=>?_,λw hw=>Qgv.mpr (.inr (hw3 w hw)),by rw[Qru];rfl⟩))
    .unfold QaQ;refine(congrArg (λz=>Option.bind z _) (Qt (r:=reI st) rfl (Qt (QbT (a:=st+1+sp) (b:=(m:Int)+1) (Qao (Qao (a:=st) (b:=1) rfl rfl rfl rfl) rfl rfl rfl) rfl (Qao (a:=(m:Int)) (b:=1) rfl rfl rfl rfl) rfl ⋯) (QP _)))).trans ?_;rfl
    .rcases Qgv.mp hw with rfl | h
     .exact gw
     .exact hw2 w h
   .rintro J ⟨W,j3,j4,j5,j6,hw1,hw2,hw3,rfl⟩;exact⟨W,_,_,_,_,⋯,hw2,hw3,rfl⟩
  rintro J ⟨W,j3,j4,j5,j6,hw1,hw2,hw3,rfl⟩
  have er:=QR (fi:=Q7 (Qn 2)) (t:= .nm 1) (cap:=[none,none]) (fe:=QaQ (Qa (dBf QeF (Qa (Qn 1) Qe)) (Qa (dBf QdH (Qa (Qn 1) Qe)) Qe))) (J:=[slF (Qh cs),slI m,slT (Qr (prs W)),j3,j4,j5,j6])
   (toD:=λw=>pairD (QbS w)) (out:=λw=>pairD (QbU w)) W (Qae (r:=⟨Qr (prs W),true,[2]⟩) rfl rfl) (by show List.map pairD (W.map QbS)=_;rw[ZN];rfl) λw _=>⟨[none,some (pairD (QbS w),true)],rfl,⟨pairD (QbU w),true,[]⟩,by
    unfold QaQ;refine(congrArg (λz=>Option.bind z _) (Qt (QuQ (s:=QbS w) (r:=⟨pairD (QbS w),true,[]⟩) rfl rfl) (Qt (Qvt (s:=QbS w) (r:=⟨pairD (QbS w),true,[]⟩) rfl rfl) (QP _)))).trans ?_;rfl,rfl,rfl⟩
  refine Qy (r:=reT (Qo m (W.map QbU) [])) ?_ ⟨m,W.map QbU,rfl,rfl,m0,m3,by rw[Zd];exact hw1,Qmk (esc0.mono hw3) hw2 ⋯⟩;unfold QaQ;refine(congrArg (λz=>Option.bind z _) (Qt (r:=reI m) rfl (Qt er (Qt (r:=reT (.lst [])) rfl (QP _))))).trans ?_;show some _=some _;congr 2;unfold Qo Qr;rw[ZN];rfl
 obtain⟨o,h1,h2⟩:=key;cases o with
 | rt d fr=>
  obtain⟨m,R,rfl,rfl,h3⟩:=h2;exact⟨m,R,by unfold Qm;rw[h1];rfl,h3⟩
 | _=>exact h2.elim
def QwA(M:Mt2):det 1 M=M 0 0:=by
 simp[det,sm,sgn]
def Qrg(M:Mt2):det 2 M=M 0 0*M 1 1-M 1 0*M 0 1:=by
 simp[det,sm,sgn,skp];lia
def Qyr(M:Mt2):det 3 M=M 0 0*(M 1 1*M 2 2-M 2 1*M 1 2)-M 1 0*(M 0 1*M 2 2-M 2 1*M 0 2)+M 2 0*(M 0 1*M 1 2-M 1 1*M 0 2):=by
 simp[det,sm,sgn,skp];lia
noncomputable def Qf6:DS:=(Qc (Qv 1 (dOp QbE vv0 kk3)) (Qc (QM (QaQ (Qa kk2 (Qa (QJ (QJ (Qai (Q0 (Qa (QaQ (Qa kk1 (Qa kk2 Qe))) Qe)) (QJ kk2 (dOp QbE (dOp QdM vv0 kk3) QuR))) (Qai (Q0 (Qa (QaQ (Qa kk0 (Qa kk1 Qe))) Qe)) vv1)) (Qai (Q0 (Qa (QaQ (Qa kk0 (Qa kk2 Qe))) Qe)) (QJ kk2 (dOp QbE (dOp QdM vv0 QBj) QuR)))) (Qa (Q0 Qe) Qe))))) Ql))
def Qzl:∀a b c:Fin 17,a.1+b.1+c.1<=16->a.1*b.1*c.1<=300:=by decide+kernel
def Qqt{a b c:Int}(ha:0<=a)(hb:0<=b)(hc:0<=c)(h:a+b+c<=16):a*b*c<=300:=by
 obtain⟨x,rfl⟩:=ZbQ ha;obtain⟨y,rfl⟩:=ZbQ hb;obtain⟨z,rfl⟩:=ZbQ hc;have:=Qzl ⟨x,⋯⟩ ⟨y,⋯⟩ ⟨z,⋯⟩ (by show x+y+z<=16;lia)
 exact_mod_cast this
def QyK(R:Lpp):QI R [] 0+QI R [] 1+QI R [] 2<=2*R.length:=by
 unfold QI
 induction R with
 | nil=>simp
 | cons s R ih=>
  simp only[Zy,Zab,Zw,Zcj,List.sum_nil,ZaF]at ih ⊢;have one:∀a:Int,isI 0 a+isI 1 a+isI 2 a<=1:=λa=>by
   unfold isI
   repeat' split
   all_goals lia
  have:=one s.1;have:=one s.2;lia
section
variable {m:Nat}{R:Lpp}
def QxA(hw:Qaw m R [])(m0:0<m)(m3:m<=3)(hl:R.length<=8):det m (QG (Qg m (Qb R [])))<=300:=by
 have tp:=hw.tp;have sp:=QyK R;have s0:=(Qjq R [] 0).1;have s1:=(Qjq R [] 1).1;have s2:=(Qjq R [] 2).1;have e:∀i,i<m->QG (Qg m (Qb R [])) i i=QI R [] i:=λi hi=>hw.neg hi;have n:∀i j,i<m->j<m->i≠j->QG (Qg m (Qb R [])) i j<=0:=λi j hi hj h=>by have:=tp.pos i j hi hj h;unfold QG;lia
 generalize QG (Qg m (Qb R []))=M at *
 match m,m0,m3 with
 | 1,_,_=>rw[QwA,e 0 ∅];lia
 | 2,_,_=>
  rw[Qrg,e 0 ∅,e 1 ∅];have h1:=ZU (n 1 0 ∅ ∅ ∅) (n 0 1 ∅ ∅ ∅);have h2:=Qqt s0 s1 (c:=1) ∅;by_cases z:QI R [] 0+QI R [] 1<=15
  .have:=h2 ⋯;lia
  .have z:QI R [] 0=16-QI R [] 1:= ⋯
   rw[z];have:0<=(QI R [] 1-8)*(QI R [] 1-8):=by
    rcases Int.le_total 0 (QI R [] 1-8)with q | q
    .exact Zav q q
    .exact ZU q q
   grind
 | 3,_,_=>
  rw[Qyr,e 0 ∅,e 1 ∅,e 2 ∅];have h2:=Qqt s0 s1 s2 ⋯;have a01:=n 0 1 ∅ ∅ ∅;have a10:=n 1 0 ∅ ∅ ∅;have a02:=n 0 2 ∅ ∅ ∅;have a20:=n 2 0 ∅ ∅ ∅;have a12:=n 1 2 ∅ ∅ ∅;have a21:=n 2 1 ∅ ∅ ∅;have p1:=Zav s0 (ZU a21 a12);have p2:=Zav s2 (ZU a10 a01);have p3:=Zav s1 (ZU a20 a02);have p4:=Zbh (ZU a10 a21) a02;have p5:=Zbh (ZU a20 a01) a12
  grind
end
noncomputable def Qbp(a b c:Nat):List (Int×Int):=List.replicate a (1,2)++List.replicate c (0,1)++List.replicate b (0,2)
noncomputable def QgM(a b c:Nat):List (Int×Int×Bool):=List.replicate a (1,2,false)++List.replicate c (0,1,false)++List.replicate b (0,2,false)
def Qka{a b c:Nat}(ha:0<a)(hb:0<b)(hl:a+b+c<=200):Qaw 2 (Qbp a b c) []:=by
 have e:Qbp a b c=(QgM a b c).map QbU:=by unfold Qbp QgM;simp[QbU]
 rw[e];refine Qmk (λA ⟨p,hp,hA⟩=>?_) (λw hw=>?_) (by unfold QgM;simp;lia)
 .have:p=0∨p=1:= ⋯
  rcases this with rfl | rfl
  .exact⟨(0,2,false),by unfold QgM;simp;lia,∅,hA,.inl rfl⟩
  .exact⟨(1,2,false),by unfold QgM;simp;lia,∅,hA,.inl rfl⟩
 .unfold QgM at hw;rcases Zf.mp hw with hw | hw
  .rcases Zf.mp hw with hw | hw
   .rw[(List.mem_replicate.mp hw).2];exact⟨⟨∅,∅,∅,∅,∅⟩,nofun⟩
   .rw[(List.mem_replicate.mp hw).2];exact⟨⟨∅,∅,∅,∅,∅⟩,nofun⟩
  .rw[(List.mem_replicate.mp hw).2];exact⟨⟨∅,∅,∅,∅,∅⟩,nofun⟩
def QrR{a b c:Nat}(ha:0<a)(hb:0<b)(a11:a<=11)(b11:b<=11)(c2:c<=2):det 2 (QG (Qg 2 (Qb (Qbp a b c) [])))<=300:=by
 have hw:=Qka (c:=c) ha hb ⋯;have tp:=hw.tp;have e:∀i,i<2->QG (Qg 2 (Qb (Qbp a b c) [])) i i=QI (Qbp a b c) [] i:=λi hi=>hw.neg hi;rw[Qrg,e 0 ∅,e 1 ∅];have s0:QI (Qbp a b c) [] 0=c+b:=by unfold QI Qbp;simp[Zbo,isI]
 have s1:QI (Qbp a b c) [] 1=a+c:=by unfold QI Qbp;simp[Zbo,isI]
 rw[s0,s1];have h1:0<=QG (Qg 2 (Qb (Qbp a b c) [])) 1 0*QG (Qg 2 (Qb (Qbp a b c) [])) 0 1:=by
  have:=tp.pos 0 1 ∅ ∅ ∅;have:=tp.pos 1 0 ∅ ∅ ∅;exact ZU (by unfold QG;lia) (by unfold QG;lia)
 have h2:((c:Int)+b)*(a+c)<=13*13:=Zcm ⋯ ⋯ ⋯ ∅;lia
def Qjn(d:Den):Prop:=∀x:Int,0<=x->∃a b c:Nat,0<a/\0<b/\a<=11/\b<=11/\c<=2/\d [.int x]=some (Qo 2 (Qbp a b c) [],true)
def QhN{fa fb:DE}{J:En}{rb:HS.R}{p:Int×Int}{n:Nat}(ha:fa J=some (reT (.lst [pairD p])))(hb:fb J=some rb)(eb:rb.d= .int n)(hn:n<=1000):Qai fa fb J=some (reT (Qr (List.replicate n p))):=by
 unfold Qai;rw[ha,Za,hb,Za,eb];show(if [pairD p].length*(n:Int).toNat<=sizeLine/\ -(2^63)<=(n:Int)/\(n:Int)<2^63/\Q3 [pairD p]=true then some (HS.R.mk (.lst (List.replicate (n:Int).toNat [pairD p]).flatten) true [])else none)=_;rw[if_pos ⟨by rw[QbD];simp;lia,⋯,⋯,rfl⟩,ZC];unfold Qr;rw[List.map_replicate,List.flatten_replicate_singleton]
def QtW:Qjn (Qm 2 Qf6):=λx hx=>by
 have q1:=ZR x (by decide:(3:Int)≠0);have q2:=ZM x (by decide:(0:Int)<3);have q3:=ZR (x / 3) (by decide:(10:Int)≠0);have q4:=ZM (x / 3) (by decide:(0:Int)<10);have q5:=ZR (x / 30) (by decide:(10:Int)≠0);have q6:=ZM (x / 30) (by decide:(0:Int)<10);obtain⟨c,ec⟩:∃c:Nat,(c:Int)=x % 3:=⟨(x % 3).toNat,⋯⟩;obtain⟨a,ea⟩:∃c:Nat,(c:Int)=2+x / 3 % 10:=⟨(2+x / 3 % 10).toNat,⋯⟩;obtain⟨b,eb⟩:∃c:Nat,(c:Int)=2+x / 30 % 10:=⟨(2+x / 30 % 10).toNat,⋯⟩;refine⟨a,b,c,⋯,⋯,⋯,⋯,⋯,QY ?_⟩;refine rsa (QbT (a:=x) (b:=3) rfl rfl rfl rfl ∅) ?_;rw[← ec];have h:∀(k:Int) (n:Nat),0<k->k<2^64->(n:Int)=2+x / k % 10->QJ (dC (.int 2)) (dOp QbE (dOp QdM (Qn 0) (dC (.int k))) (dC (.int 10))) [slI x,slI c]=some (reI n):=λk n k0 k1 e=>by
  rw[e];exact Qao (a:=2) rfl rfl (QbT (b:=10) (QyS (a:=x) (b:=k) rfl rfl rfl rfl k0 k1) rfl rfl rfl ∅) rfl
 refine Qy (r:=reT (Qo 2 (Qbp a b c) [])) ?_ ⟨rfl,rfl⟩;unfold QaQ;refine(congrArg (λz=>Option.bind z _) (Qt (r:=reI 2) rfl (Qt (QiB (QiB (QhN (p:=(1,2)) rfl (h 3 a ∅ ∅ ea) rfl ⋯) rfl (QhN (p:=(0,1)) (n:=c) rfl rfl rfl ⋯) rfl (by simp;lia)) rfl (QhN (p:=(0,2)) rfl (h 30 b ∅ ∅ eb) rfl ⋯) rfl (by simp;lia)) (Qt (r:=reT (.lst [])) rfl (QP _))))).trans ?_;rfl
def QvD{J:En}{l:List Nat}{fs:DA}{rs:RA}(h:fs J=some rs)(e:rs.ds=[Qf l]):dList fs J=some (reT (Qf l)):=by
 unfold dList;rw[h,Za,e];unfold Qf Qa7;simp only[];rw[if_pos (Qbf (λ_=>rfl) _)]
def QzV{m:Nat}{s:Int×Int}(g:Good m s){p:Nat}{l:List Nat}:QW p l s=if(QaL p s && decide (oe p s∈l))=true then 1 else 0:=by
 unfold QW;by_cases hi:QaL p s=true
 .obtain⟨_,_,ne,alt⟩:=Qa0 g hi;rw[hi,Zct];rcases alt with⟨a,b⟩ | ⟨a,b⟩
  .by_cases z:oe p s∈l
   .rw[if_pos (.inl ⟨a,by rw[b,ZC];exact z⟩),if_pos (decide_eq_true z)]
   .rw[if_neg,if_neg (by rw[decide_eq_false z];decide)];rintro(⟨_,q⟩ | ⟨q,_⟩)
    .rw[b,ZC]at q;exact z q
    .lia
  .by_cases z:oe p s∈l
   .rw[if_pos (.inr ⟨a,by rw[b,ZC];exact z⟩),if_pos (decide_eq_true z)]
   .rw[if_neg,if_neg (by rw[decide_eq_false z];decide)];rintro(⟨q,_⟩ | ⟨_,q⟩)
    .lia
    .rw[b,ZC]at q;exact z q
 .have h2:¬s.1=(p:Int)/\¬s.2=(p:Int):=by
   unfold QaL at hi;rw[Zbj,decide_eq_true_iff,decide_eq_true_iff]at hi;exact not_or.mp hi
  rw[if_neg (by rintro(⟨q,_⟩ | ⟨q,_⟩);exact h2.1 q;exact h2.2 q),if_neg (by rw[Bool.not_eq_true]at hi;rw[hi,Bool.false_and];decide)]
def Qw9{m:Nat}{R:Lpp}(hR:∀s∈R,Good m s){p:Nat}{l:List Nat}:(R.map (QW p l)).sum=(((QaA R p).filter λk=>decide (oe p (rd R k)∈l)).length:Int):=by
 rw[Qkd];unfold QaA;have key:∀K:List Nat,(∀k∈K,k<R.length)->(K.map λk=>QW p l (rd R k)).sum=(((K.filter λk=>QaL p (rd R k)).filter λk=>decide (oe p (rd R k)∈l)).length:Int):=by
  intro K
  induction K with
  | nil=>intro _;rfl
  | cons k r ih=>
   intro hK;rw[Zy,Zab,ih (λx hx=>hK x (ZE _ hx)),QzV (hR _ (Qay (hK k Zv))),Zbd];cases QaL p (rd R k)with
   | false=>simp
   | true=>
    simp only[if_true,Zbd,Zct];cases decide (oe p (rd R k)∈l)with
    | false=>simp
    | true=>simp;lia
 exact key _ λk hk=>Zb.mp hk
def Qqr{R:Lpp}{dep:Mt1}{p:Nat}:((QaA R p).filter λk=>decide (dep p-1<=dep (oe p (rd R k)))).length=(QT R dep p).length+(Qbm R dep p).length:=by
 unfold QT Qbm
 induction QaA R p with
 | nil=>rfl
 | cons k r ih=>
  simp only[Zbd];by_cases a:dep (oe p (rd R k))=dep p-1
  .have b:dep p-1<=dep (oe p (rd R k)):= ⋯
   have c:¬dep p<=dep (oe p (rd R k)):= ⋯
   simp only[decide_eq_true a,decide_eq_true b,decide_eq_false c,if_true,if_false,Zw,ZaG];lia
  .by_cases b:dep p-1<=dep (oe p (rd R k))
   .have c:dep p<=dep (oe p (rd R k)):= ⋯
    simp only[decide_eq_false a,decide_eq_true b,decide_eq_true c,if_true,if_false,Zw,ZaG];lia
   .have c:¬dep p<=dep (oe p (rd R k)):= ⋯
    simp only[decide_eq_false a,decide_eq_false b,decide_eq_false c,if_true,if_false,ZaG];lia
structure QbW (R:Lpp) (m:Nat) (h mk:Mt1):Prop where
 pit:mk m=0
 val:∀v,v<m->1<=mk v/\mk v<=m
 lo:∀v,v<m->((Qbm R mk v).length:Int)<=h v
 hi:∀v,v<m->h v<(Qbm R mk v).length+(QT R mk v).length
def Qpf{m:Nat}{R:Lpp}{h:Mt1}(hR:∀s∈R,Good m s)(hc:QcG R m h (QZ (Qg m (Qb R [])) h m m)=true):∃mk:Nat->Int,QbW R m h mk/\∀v,v<m->QZ (Qg m (Qb R [])) h m m v=some (mk v):=by
 unfold QcG at hc;rw[Zl,Zae,Zak,ZaR]at hc;obtain⟨hc1,hc2⟩:=hc;have hs:∀v,v<m->h v<QI R [] v:=λv hv=>by simpa using hc1 v (Zb.mpr hv)
 obtain⟨mk,hmk⟩:∃mk:Nat->Int,mk=λv=>if v<m then(QZ (Qg m (Qb R [])) h m m v).getD 0 else 0:=⟨_,rfl⟩;have e1:∀v,v<m->QZ (Qg m (Qb R [])) h m m v=some (mk v):=λv hv=>by
  rw[hmk];show _=some (if v<m then(QZ (Qg m (Qb R [])) h m m v).getD 0 else 0);rw[if_pos hv];cases e:QZ (Qg m (Qb R [])) h m m v with
  | none=>have:=hc2 v (Zb.mpr hv);rw[e]at this;exact absurd rfl this
  | some t=>rfl
 have pit:mk m=0:=by rw[hmk];exact if_neg (ZaZ _)
 generalize hT:Qg m (Qb R [])=T at *;have cold:∀(j:Nat),j<=m->∀v,v<m->(v∈QN T h m j↔(j:Int)+1<=mk v):=λj hj v hv=>by
  rw[QuO hv hj,e1 v hv];constructor
  .rintro(z | ⟨t,z,y⟩)
   .cases z
   .cases z;exact y
  .exact λy=> .inr ⟨_,rfl,y⟩
 have val:∀v,v<m->1<=mk v/\mk v<=m:=λv hv=>by
  obtain⟨j,h1,h2,_⟩:=Qc9 m v (mk v) (e1 v hv);lia
 have num:∀(j:Nat),j<=m->∀v,v<m->Qaz T v (QN T h m j)=(((QaA R v).filter λk=>decide ((j:Int)+1<=mk (oe v (rd R k)))).length:Int):=λj hj v hv=>by
  rw[← hT,QeC hR hv (QcB j) (λo ho=>Qcf ho),Qw9 hR,hT];congr 2;refine ZbV λk hk=>?_;obtain⟨k1,k2⟩:=Qcs.mp hk;obtain⟨_,om,_,_⟩:=Qa0 (hR _ (Qay k1)) k2;by_cases z:oe v (rd R k)<m
  .rw[decide_eq_decide,cold j hj _ z]
  .have e:oe v (rd R k)=m:= ⋯
   rw[e,pit,decide_eq_false (λq=>absurd (Qcf q) (ZaZ _)),decide_eq_false ⋯]
 refine⟨mk,⟨pit,val,λv hv=>?_,λv hv=>?_⟩,e1⟩
 .obtain⟨j,h1,h2,_,_,h5⟩:=Qc9 m v (mk v) (e1 v hv);rw[num j ⋯ v hv,← h2]at h5;exact h5
 .obtain⟨j,h1,h2,h3,_,_⟩:=Qc9 m v (mk v) (e1 v hv);cases j with
  | zero=>
   have a:=Qcy (R:=R) (dep:=mk) (p:=v);have b:=Qov hR v;have c:(Qa5 R mk v).length=0:=by
    unfold Qa5;rw[List.length_eq_zero_iff,ZcJ];intro k hk;obtain⟨k1,k2⟩:=Qcs.mp hk;obtain⟨_,om,_,_⟩:=Qa0 (hR _ (Qay k1)) k2;have:0<=mk (oe v (rd R k)):=by
     by_cases z:oe v (rd R k)<m
     .have:=val _ z;lia
     .rw[show oe v (rd R k)=m by lia,pit];exact Zao _
    simp;lia
   have:=hs v hv;lia
  | succ i=>
   have h6:=QcA.mp (show v∈QcD T h (QN T h m i)from h3);have h7:h v<Qaz T v (QN T h m i):=by
    by_cases z:Qaz T v (QN T h m i)<=h v
    .exact absurd (Qbv.mpr ⟨h6.1,z⟩) h6.2
    .lia
   rw[num i ⋯ v hv,show((i:Int)+1)=mk v-1 by lia,Qqr]at h7;lia
def Qpx{t:List Nat}:∀{l:List Nat}{i k:Nat},l[i]? =some k->k∈t->(∀j k',j<i->l[j]? =some k'->k'∉t)->QaE t l=i
 | [],i,k,h,_,_=>by simp at h
 | a::r,0,k,h,hk,_=>by
  cases h;unfold QaE;rw[if_pos hk]
 | a::r,i+1,k,h,hk,hn=>by
  unfold QaE;rw[if_neg (hn 0 a ⋯ rfl),Qpx (l:=r) (i:=i) (by simpa using h) hk λj k' hj e=>hn (j+1) k' ⋯ (by simpa using e)]
noncomputable def Qa3(R:Lpp)(mk h:Mt1)(p:Nat):Nat:=(QT R mk p).getD ((QT R mk p).length+(Qbm R mk p).length-1-h p).toNat 0
section
variable {R:Lpp}{m:Nat}{h mk:Mt1}
def QbW.own(M:QbW R m h mk){p:Nat}(hp:p<m):(QT R mk p)[((QT R mk p).length+(Qbm R mk p).length-1-h p:Int).toNat]? =some (Qa3 R mk h p):=by
 have a:=M.lo p hp;have b:=M.hi p hp;unfold Qa3;rw[Zaa];obtain⟨x,hx⟩:∃x,(QT R mk p)[((QT R mk p).length+(Qbm R mk p).length-1-h p:Int).toNat]? =some x:=⟨_,Zg ⋯⟩;rw[hx];rfl
def QbW.Qef(M:QbW R m h mk){p:Nat}(hp:p<m):Qa3 R mk h p<R.length/\QaL p (rd R (Qa3 R mk h p))=true/\mk (oe p (rd R (Qa3 R mk h p)))=mk p-1:=by
 have:=Zu (M.own hp);unfold QT at this;obtain⟨h1,h2⟩:=Zx.mp this;obtain⟨h3,h4⟩:=Qcs.mp h1;exact⟨h3,h4,of_decide_eq_true h2⟩
def QbW.Qni(hR:∀s∈R,Good m s)(M:QbW R m h mk){p q:Nat}(hp:p<m)(hi:QaL q (rd R (Qa3 R mk h p))=true):q=p∨(oe q (rd R (Qa3 R mk h p))=p/\mk q=mk p-1):=by
 obtain⟨h1,h2,h3⟩:=M.Qef hp;have g:=hR _ (Qay h1);generalize rd R (Qa3 R mk h p)=s at *;obtain⟨a1,a2,a3,a4⟩:=Qa0 g h2;obtain⟨b1,b2,b3,b4⟩:=Qa0 g hi;by_cases z:q=p
 .exact .inl z
 .have e1:oe q s=p:= ⋯
  have e2:oe p s=q:= ⋯
  exact .inr ⟨e1,by rw[← h3,e2]⟩
def QbW.inj(hR:∀s∈R,Good m s)(M:QbW R m h mk){p q:Nat}(hp:p<m)(hq:q<m)(e:Qa3 R mk h p=Qa3 R mk h q):p=q:=by
 rcases M.Qni hR hp (q:=q) (by rw[e];exact(M.Qef hq).2.1)with z | ⟨_,z⟩
 .exact z.symm
 .rcases M.Qni hR hq (q:=p) (by rw[← e];exact(M.Qef hp).2.1)with y | ⟨_,y⟩
  .exact y
  .lia
def QbW.tree(hR:∀s∈R,Good m s)(M:QbW R m h mk){t:List Nat}(ht:t.Perm ((List.range m).map (Qa3 R mk h))):Qcv R m t mk/\∀p,p<m->Qag R mk t p=h p:=by
 have mem:∀k,k∈t↔∃p,p<m/\Qa3 R mk h p=k:=λk=>by
  rw[ht.mem_iff,Zs];exact⟨λ⟨p,a,b⟩=>⟨p,Zb.mp a,b⟩,λ⟨p,a,b⟩=>⟨p,Zb.mpr a,b⟩⟩
 refine⟨⟨λk hk=>?_,M.pit,M.val,λv hv=>⟨_,(mem _).mpr ⟨v,hv,rfl⟩,(M.Qef hv).2⟩,λv hv k hk hi=>?_⟩,λp hp=>?_⟩
 .obtain⟨p,hp,rfl⟩:=(mem k).mp hk;exact(M.Qef hp).1
 .obtain⟨p,hp,rfl⟩:=(mem k).mp hk;rcases M.Qni hR hp hi with rfl | ⟨e,z⟩
  .rw[(M.Qef hp).2.2];exact Zao _
  .rw[e];lia
 .have e:QaE t (QT R mk p)=((QT R mk p).length+(Qbm R mk p).length-1-h p:Int).toNat:=by
   refine Qpx (M.own hp) ((mem _).mpr ⟨p,hp,rfl⟩) λj k' hj hk' hkt=>?_;obtain⟨q,hq,rfl⟩:=(mem k').mp hkt;have hm:=Zu hk';unfold QT at hm;obtain⟨h1,h2⟩:=Zx.mp hm;have h2:=of_decide_eq_true h2;rcases M.Qni hR hq (Qcs.mp h1).2 with rfl | ⟨e,z⟩
   .have pw:(QT R mk p).Pairwise (· < ·):=by unfold QT QaA;exact(ZaV.filter _).filter _
    exact absurd (QqD pw hk' (M.own hp) hj) (ZaZ _)
   .rw[e]at h2;lia
  have a:=M.lo p hp;have b:=M.hi p hp;have c:=Qcy (R:=R) (dep:=mk) (p:=p);unfold Qag;rw[e];lia
end
noncomputable def QmP(Qeb:Den)(QbO:Den)(QaN:Den):DS:=(Qc (Qv 2 (Qs 2 Qeb [] (Qa vv0 (Qa vv1 Qe)))) (Qc (sIf (QdJ (QA (Qs 2 QbO [] (Qa vv0 (Qa vv1 Qe))))) (Qc Qco Ql) Ql) (Qc (Qv 3 (Q0 Qe)) (Qc (QaU (Qcj vv1) (.tp [4,5]) (Qc (Qv 6 (Qs 3 QaN [] (Qa vv0 (Qa vv4 (Qa (QJ vv2 (Q0 (Qa kk0 Qe))) Qe))))) (Qc (Qb1 3 Q8 (Qk (Qk vv6 kk0) (dOp Qbo (Qk vv6 kk1) vv5))) Ql))) (Qc (QM (Qd6 (Qa vv3 Qe))) Ql)))))
def Qhl(d:Den):Prop:=∀(m:Nat) (R:Lpp) (h:Mt1),0<m->m<=8->R.length<=200->(∀s∈R,Good m s)->(∀j,j<m->0<=h j)->QcG R m h (QZ (Qg m (Qb R [])) h m m)=true->∃t mk,d [Qo m R [],Qd m h]=some (Qf t,true)/\t.length=m/\t.Pairwise (· < ·)/\Qcv R m t mk/\∀p,p<m->Qag R mk t p=h p
def QrS{fa:DE}{J:En}{ra:HS.R}{n:Nat}{f:Mt1}(ha:fa J=some ra)(ea:ra.d=Qd n f):Qcj fa J=some ⟨(List.range n).map λ(i:Nat)=> .tup [.int i,.int (f i)],ra.M⟩:=by
 unfold Qcj;rw[ha,Za,ea];show some (IR.mk (Qdu ((List.range n).map λi=>D.int (f i))) ra.M)=_;congr 2;unfold Qdu;refine Zaq λi=>?_;rw[Zk,Zk,Zcc,Zk];by_cases z:i<n
 .rw[ZQ z];simp
 .rw[Zz (by simp;lia)];rfl
def QtF{df da dw:Den}(hf:Qkr df)(ha:Qk7 da)(hw:Qnm dw):Qhl (Qm 7 (QmP df da dw)):=λm R h m0 m8 hRl hR hpos hc=>by
 obtain⟨mk,M,hF⟩:=Qpf hR hc;obtain⟨t,tp,te,ts⟩:=QmM ((List.range m).map (Qa3 R mk h));have nd:((List.range m).map (Qa3 R mk h)).Nodup:=by
  unfold List.Nodup;rw[ZX];exact Zbn (λ{a b} x y ne e=>ne (M.inj hR (Zb.mp x) (Zb.mp y) e)) Zat
 obtain⟨Dp,hh⟩:=M.tree hR tp;refine⟨t,mk,?_,by rw[tp.length_eq];simp,ts nd,Dp,hh⟩;have ef:=hf m R h m0 ⋯ ⋯ hR hpos;have ec:=ha m R h m0 ⋯ ⋯ hR hpos;rw[hc]at ec;have efar:Q9 m (QZ (Qg m (Qb R [])) h m m)=Qd m mk:=by
  unfold Q9 Qd;congr 1;exact Zp λv hv=>by rw[hF v (Zb.mp hv)];rfl
 rw[efar]at ef;have edep:Qd (m+1) (QgZ m mk)=Qd (m+1) mk:=Qeh λj hj=>by
  unfold QgZ;by_cases e:j<m
  .rw[if_pos e]
  .rw[if_neg e,show j=m by lia,M.pit]
 refine QY ?_;refine rsa (Qu (r:=⟨[Qo m R [],Qd m h],false,[]⟩) rfl ef rfl) ?_;refine run_seq (Q5 (b:=false) (Qc7 (b:=true) (QC (Qu (r:=⟨[Qo m R [],Qd m h],false,[]⟩) rfl ec rfl) rfl)) (λh=>by cases h) (λ_=>Qp ?_));refine rsa (d:=Qf []) rfl ?_;change Run _ [slF (Qo m R []),slF (Qd m h),slT (Qd m mk),slT (Qf []),none,none,none] _;refine run_seq (Qaa (toD:=λ(i:Nat)=> .tup [.int i,.int (h i)]) (List.range m) (λi J=>∃j4 j5 j6,J=[slF (Qo m R []),slF (Qd m h),slT (Qd m mk),slT (Qf ((List.range i).map (Qa3 R mk h))),j4,j5,j6]) (QrS rfl rfl) rfl ⟨none,none,none,rfl⟩ ?_ ?_)
 .rintro i i' J hi ⟨j4,j5,j6,rfl⟩;obtain⟨h1,rfl⟩:=Zi.mp hi;rw[List.getElem_range];have him:i<m:=by simpa using h1
  refine⟨[slF (Qo m R []),slF (Qd m h),slT (Qd m mk),slT (Qf ((List.range i).map (Qa3 R mk h))),slI i,slI (h i),j6],rfl,?_⟩;refine rsa (Qu (Qt (r:=reF (Qo m R [])) rfl (Qt (r:=reI i) rfl (Qt (r:=reT (Qd (m+1) mk)) ((QhU (m:=m) (f:=mk) (ra:=⟨Qd m mk,true,[2]⟩) rfl rfl ⋯).trans (by rw[edep])) (QP _)))) (hw m R i mk him hR) rfl) ?_;change Run _ [slF (Qo m R []),slF (Qd m h),slT (Qd m mk),slT (Qf ((List.range i).map (Qa3 R mk h))),slI i,slI (h i),slT (.tup [Qf (QT R mk i),.int ((QaA R i).length-1-(Qa5 R mk i).length)])] _;have c:=Qcy (R:=R) (dep:=mk) (p:=i);have b:=M.hi i him;have own:=M.own him;rw[show((QT R mk i).length+(Qbm R mk i).length-1-h i:Int)=(QaA R i).length-1-(Qa5 R mk i).length-h i by lia]at own;refine run_seq (QvT (l:=(List.range i).map (Qa3 R mk h)) (v:=Qa3 R mk h i) rfl (QiL (l:=QT R mk i) (ra:=⟨Qf (QT R mk i),true,[6]⟩) rfl rfl (Q4 (d:= .int ((QaA R i).length-1-(Qa5 R mk i).length-h i)) (ra:=reI ((QaA R i).length-1-(Qa5 R mk i).length)) (rb:=reI (h i)) rfl rfl rfl) rfl ⋯ own) rfl (by simp;lia) (Qp ⟨slI i,slI (h i),slT (.tup [Qf (QT R mk i),.int ((QaA R i).length-1-(Qa5 R mk i).length)]),?_⟩));rw[ZaJ,ZO];rfl
 .rintro J ⟨j4,j5,j6,rfl⟩;rw[ZD];refine Qy (r:=reT (Qf t)) ?_ ⟨rfl,rfl⟩;refine Qvf ?_;unfold QfE;show(Qa4 (((List.range m).map (Qa3 R mk h)).map λ(p:Nat)=>D.int (p:Int))).bind _=_;have:=Qdg (((List.range m).map (Qa3 R mk h)).map λ(p:Nat)=>(p:Int));rw[ZN]at this;rw[show(((List.range m).map (Qa3 R mk h)).map λ(p:Nat)=>D.int (p:Int))=((List.range m).map (Qa3 R mk h)).map (D.int ∘ λ(p:Nat)=>(p:Int))from rfl,this,Za,if_pos (by simp;lia),te];rfl
section
variable {R:Lpp}{m:Nat}{h a b:Mt1}
def QhT{t:List Nat}{dep:Mt1}(D:Qcv R m t dep)(hh:∀p,p<m->Qag R dep t p=h p):QbW R m h dep:=by
 have key:∀v,v<m->h v=(QT R dep v).length+(Qbm R dep v).length-1-QaE t (QT R dep v)/\QaE t (QT R dep v)<(QT R dep v).length:=λv hv=>by
  have e:=hh v hv;unfold Qag at e;have:=Qcy (R:=R) (dep:=dep) (p:=v);have:=Qg8 D hv;exact⟨⋯,⋯⟩
 exact⟨D.pit,D.val,λv hv=>by have:=key v hv;lia,λv hv=>by have:=key v hv;lia⟩
def QkW(hR:∀s∈R,Good m s)(M1:QbW R m h a)(M2:QbW R m h b)(d:Int)(ih:∀v,v<=m->(a v<d↔b v<d)){v:Nat}(hv:v<m)(e:a v=d):b v=d:=by
 have h0:=ih v ⋯;by_cases z:b v=d
 .exact z
 .have l1:=M1.lo v hv;have l2:=M2.hi v hv;have e1:Qbm R a v=(QaA R v).filter λk=>decide (d<=b (oe v (rd R k))):=by
   unfold Qbm;refine ZbV λk hk=>?_;obtain⟨k1,k2⟩:=Qcs.mp hk;obtain⟨_,om,_,_⟩:=Qa0 (hR _ (Qay k1)) k2;have:=ih _ om;rw[decide_eq_decide];lia
  have e2:=Qqr (R:=R) (dep:=b) (p:=v);have e3:((QaA R v).filter λk=>decide (b v-1<=b (oe v (rd R k)))).length<=((QaA R v).filter λk=>decide (d<=b (oe v (rd R k)))).length:=by
   rw[← List.countP_eq_length_filter,← List.countP_eq_length_filter];refine List.countP_mono_left λk _ hk=>?_;have:=of_decide_eq_true hk;exact decide_eq_true ⋯
  rw[e1]at l1;lia
def Quc(hR:∀s∈R,Good m s)(M1:QbW R m h a)(M2:QbW R m h b):∀v,v<=m->a v=b v:=by
 have nn:∀{c:Mt1},QbW R m h c->∀v,v<=m->0<=c v:=λM v hv=>by
  by_cases z:v<m
  .have:=M.val v z;lia
  .rw[show v=m by lia,M.pit];exact Zao _
 have key:∀(n:Nat) (v:Nat),v<=m->(a v<n↔b v<n):=by
  intro n
  induction n with
  | zero=>intro v hv;have:=nn M1 v hv;have:=nn M2 v hv;constructor<;>(intro z;lia)
  | succ n ih=>
   intro v hv;by_cases z:v<m
   .have i1:=ih v hv;have h1:=QkW hR M1 M2 n ih z;have h2:=QkW hR M2 M1 n (λv hv=>(ih v hv).symm) z;constructor
    .intro y;by_cases w:a v=n
     .have:=h1 w;lia
     .have:=i1.mp ⋯;lia
    .intro y;by_cases w:b v=n
     .have:=h2 w;lia
     .have:=i1.mpr ⋯;lia
   .rw[show v=m by lia,M1.pit,M2.pit]
 intro v hv;have a0:=nn M1 v hv;have b0:=nn M2 v hv;have h1:=(key ((a v).toNat+1) v hv).mp ⋯;have h2:=(key ((b v).toNat+1) v hv).mpr ⋯;lia
def Qkz(hR:∀s∈R,Good m s)(e:∀v,v<=m->a v=b v){p:Nat}(hp:p<m):QT R a p=QT R b p/\Qbm R a p=Qbm R b p:=by
 constructor
 .unfold QT;refine ZbV λk hk=>?_;obtain⟨k1,k2⟩:=Qcs.mp hk;obtain⟨_,om,_,_⟩:=Qa0 (hR _ (Qay k1)) k2;rw[e _ om,e p ⋯]
 .unfold Qbm;refine ZbV λk hk=>?_;obtain⟨k1,k2⟩:=Qcs.mp hk;obtain⟨_,om,_,_⟩:=Qa0 (hR _ (Qay k1)) k2;rw[e _ om,e p ⋯]
def Qmr{t:List Nat}:∀{l:List Nat},QaE t l<l.length->∃k,l[QaE t l]? =some k/\k∈t
 | [],z=>by simp at z
 | x::r,z=>by
  unfold QaE at z ⊢;by_cases y:x∈t
  .rw[if_pos y];exact⟨x,rfl,y⟩
  .rw[if_neg y]at z ⊢;rw[Zw]at z;obtain⟨k,h1,h2⟩:=Qmr (t:=t) (l:=r) ⋯;exact⟨k,by simpa using h1,h2⟩
def Qpy(hR:∀s∈R,Good m s){t:List Nat}{dep:Mt1}(D:Qcv R m t dep)(hh:∀p,p<m->Qag R dep t p=h p)(tl:t.length=m):((List.range m).map (Qa3 R dep h)).Perm t:=by
 have M:=QhT D hh;refine Qf9 ?_ (λx hx=>?_) (by simp[tl])
 .unfold List.Nodup;rw[ZX];exact Zbn (λ{a b} x y ne e=>ne (M.inj hR (Zb.mp x) (Zb.mp y) e)) Zat
 .obtain⟨p,hp,rfl⟩:=Zs.mp hx;have hp:=Zb.mp hp;have e:=hh p hp;unfold Qag at e;have h3:=Qcy (R:=R) (dep:=dep) (p:=p);have h4:=Qg8 D hp;obtain⟨k,h5,h6⟩:=Qmr h4;have h7:=M.own hp;rw[show((QT R dep p).length+(Qbm R dep p).length-1-h p:Int).toNat=QaE t (QT R dep p) by lia,h5]at h7;cases h7;exact h6
def Qu3(hR:∀s∈R,Good m s){t1 t2:List Nat}(D1:Qcv R m t1 a)(D2:Qcv R m t2 b)(e1:∀p,p<m->Qag R a t1 p=h p)(e2:∀p,p<m->Qag R b t2 p=h p)(l1:t1.length=m)(l2:t2.length=m)(s1:t1.Pairwise (· < ·))(s2:t2.Pairwise (· < ·)):t1=t2:=by
 have e:=Quc hR (QhT D1 e1) (QhT D2 e2);have eo:(List.range m).map (Qa3 R a h)=(List.range m).map (Qa3 R b h):=Zp λp hp=>by
  obtain⟨n1,n2⟩:=Qkz hR e (Zb.mp hp);unfold Qa3;rw[n1,n2]
 have p1:=Qpy hR D1 e1 l1;have p2:=Qpy hR D2 e2 l2;rw[eo]at p1;exact(p1.symm.trans p2).eq_of_pairwise (λx y _ _ h1 h2=>absurd (ZbT h1 h2) (ZaZ _)) s1 s2
def QvC(hR:∀s∈R,Good m s){t:List Nat}(D1:Qcv R m t a)(D2:Qcv R m t b){p:Nat}(hp:p<m):Qag R a t p=Qag R b t p:=by
 have e:∀v,v<=m->a v=b v:=λv hv=>(Qgs hR D1 v hv).symm.trans (Qgs hR D2 v hv);obtain⟨n1,n2⟩:=Qkz hR e hp;have h1:=Qcy (R:=R) (dep:=a) (p:=p);have h2:=Qcy (R:=R) (dep:=b) (p:=p);unfold Qag;rw[n1];rw[n1,n2]at h1;lia
def QuE(m0:0<m)(hR:∀s∈R,Good m s){t:List Nat}{dep:Mt1}(D:Qcv R m t dep):∀v,v<m->Qah (Qb (Qaq R t) []) (Qar m) m v=some (dep v):=by
 have hT:∀s∈Qaq R t,Good m s:=λs hs=>by
  obtain⟨k,hk,rfl⟩:=Zs.mp hs;exact hR _ (Qay (D.tl k hk))
 have gS:=QaP (L:=[]) hT (λs hs=>absurd hs ⋯);have pit:=(Qos gS m).pit;have con:∀(n:Nat) (v:Nat),v<m->dep v=n->Qah (Qb (Qaq R t) []) (Qar m) m v≠none:=by
  intro n
  induction n with
  | zero=>intro v hv e;have:=D.val v hv;lia
  | succ n ih=>
   intro v hv e z;obtain⟨k,h1,h2,h3⟩:=D.pred v hv;have g:=hR _ (Qay (D.tl k h1));obtain⟨o1,o2,o3,o4⟩:=Qa0 g h2;have mem:rd R k∈Qaq R t:=Zs.mpr ⟨k,h1,rfl⟩;have hu:Qah (Qb (Qaq R t) []) (Qar m) m (oe v (rd R k))=none:=by
    rcases o4 with⟨x,y⟩ | ⟨x,y⟩
    .have:=QjU m0 gS hv z (rd R k) (by unfold Qb;simp[mem]) ⋯;rwa[show(rd R k).2.toNat=oe v (rd R k) by lia]at this
    .have:=QjU m0 gS hv z (rd R k).swap (by unfold Qb;rw[ZV,Zf,Zs];exact .inr ⟨rd R k,mem,rfl⟩) (by simp;lia);rwa[show(rd R k).swap.2.toNat=oe v (rd R k) by simp;lia]at this
   by_cases w:oe v (rd R k)=m
   .rw[w,pit]at hu;cases hu
   .exact ih _ ⋯ ⋯ hu
 obtain⟨dep',D',e'⟩:=QtO hR D.tl λv hv=>con (dep v).toNat v hv (by have:=D.val v hv;lia);intro v hv;rw[e' v hv,← Qgs hR D v ⋯,← Qgs hR D' v ⋯]
end
def Qxl{fa:DE}{J:En}{r:HS.R}{t:List Nat}(h:fa J=some r)(e:r.d=Qf t)(hp:t.Pairwise (· < ·))(hl:t.length<=18):QkA fa J=some (reT (Qf t)):=by
 unfold QkA;rw[h,Za,e,Qms];show(Qa4 ((t.map λ(p:Nat)=>(p:Int)).map D.int)).bind _=_;have hi:(t.map λ(p:Nat)=>(p:Int)).Pairwise (· < ·):=by rw[ZX];exact hp.imp λh=> ⋯
 rw[Qdg,Za,if_pos (by simpa using hl),Qtv (hi.imp λh=> ⋯),Qsn (hi.imp λh=> ⋯)]
def Qu6(t:List Nat):Qf t=Qd t.length λi=>((t.getD i 0:Nat):Int):=by
 unfold Qf Qd;congr 1;refine Zaq λi=>?_;rw[Zk,Zk];by_cases z:i<t.length
 .rw[ZQ z,Zg z];show some (D.int ((t[i]:Nat):Int))=some (D.int ((t.getD i 0:Nat):Int));rw[Zaa,Zg z];rfl
 .rw[Zz ⋯,Zz (by simp;lia)];rfl
noncomputable def QeO(QaH:Den)(QbP:Den):DS:=(Qc (sIf (bOr (QdJ (QA (Qs 2 QaH [] (Qa vv1 (Qa (Qk vv0 kk0) Qe))))) (bOr (QA (dOp gNe vv1 (QkA vv1))) (QA (dOp gNe (dBf Qan (Qa vv1 Qe)) (Qk vv0 kk0))))) (Qc (QM (dC (.bl false))) Ql) Ql) (Qc (sIf (bOr (QA (dOp gLt (Qk vv1 kk0) kk0)) (QA (dOp gGe (Qk vv1 (Qhk kk1)) (dBf Qan (Qa (Qk vv0 kk1) Qe))))) (Qc (QM (dC (.bl false))) Ql) Ql) (Qc (QM (dOp gLe (dBf QdH (Qa (Qs 2 QbP [] (Qa vv0 (Qa vv1 Qe))) Qe)) (Qk vv0 kk0))) Ql)))
def Qja:∀xs ys:List Int,PyData.eqvAll (pys (xs.map D.int)) (pys (ys.map D.int))=decide (xs=ys)
 | [],[]=>rfl
 | [],y::ys=>rfl
 | x::xs,[]=>rfl
 | x::xs,y::ys=>by
  have ih:=Qja xs ys;show(PyData.eqv (D.int x).py (D.int y).py && PyData.eqvAll (pys (xs.map D.int)) (pys (ys.map D.int)))=_;rw[ih];show((x == y) && decide (xs=ys))=_;by_cases a:x=y
  .subst a;by_cases b:xs=ys
   .subst b;simp
   .simp[b]
  .simp[a]
def Qx1{m:Nat}{f g:Mt1}:deq (Qd m f) (Qd m g)=decide (∀j,j<m->f j=g j):=by
 rw[QfV,QfV];show PyData.eqvAll (pys (((List.range m).map f).map D.int)) (pys (((List.range m).map g).map D.int))=_;rw[Qja];congr 1;rw[eq_iff_iff];constructor
 .intro h j hj;have:=congrArg (λl:List Int=>l[j]?) h;simpa[hj]using this
 .intro h;exact Zp λj hj=>h j (Zb.mp hj)
structure PO (R:Lpp) (m:Nat) (e:(Nat->Int)×List Nat):Prop where
 dep:∃dep,Qcv R m e.2 dep/\∀p,p<m->Qag R dep e.2 p=e.1 p
 len:e.2.length=m
 inc:e.2.Pairwise (· < ·)
 com:QcG R m e.1 (QZ (Qg m (Qb R [])) e.1 m m)=true
 bnd:∀j,j<m->0<=e.1 j/\e.1 j<QI R [] j
def PO.same{R:Lpp}{m:Nat}{e f:(Nat->Int)×List Nat}(hR:∀s∈R,Good m s)(p:PO R m e)(q:PO R m f):(∀j,j<m->e.1 j=f.1 j)↔e.2=f.2:=by
 obtain⟨a,D1,h1⟩:=p.dep;obtain⟨b,D2,h2⟩:=q.dep;constructor
 .intro h;exact Qu3 hR D1 D2 h1 (λj hj=>(h2 j hj).trans (h j hj).symm) p.len q.len p.inc q.inc
 .intro h j hj;rw[← h]at D2 h2;rw[← h1 j hj,← h2 j hj];exact QvC hR D1 D2 hj
noncomputable def Qc3(Qbr:Den)(Qej:Den)(Qdm:Den)(Qdt:Den):DS:=(Qc (sIf (QA (dOp gGt (Qs 1 Qbr [] (Qa vv0 Qe)) QAC)) (Qc Qco Ql) Ql) (Qc (Qv 1 (Q0 (Qa (Qs 1 Qej [] (Qa vv0 Qe)) Qe))) (Qc (Qv 2 (dD1 (Qa (Qk vv1 kk0) Qe))) (Qc (Qv 3 kk0) (Qc (Qc6 (QA (dOp gLt vv3 (dBf Qan (Qa vv1 Qe)))) (Qc (QaU (Qa1 (Qk vv0 kk0)) (.nm 4) (Qc (Qv 5 (Qs 3 Qdt [] (Qa vv0 (Qa (Qk vv1 vv3) (Qa (Qs 2 Qdm [] (Qa (Qk vv0 kk0) (Qa vv4 Qe))) Qe))))) (Qc (sIf (QA (dOp (gIn true) (QiO (Qa vv5 Qe)) vv2)) (Qc (QiC 2 (Qa vv5 Qe)) (Qc (Qb1 1 Q8 vv5) Ql)) Ql) Ql))) (Qc (QlX (gI λi j=>some (.int (i+j))) 3 kk1) Ql))) (Qc (QM (Qd6 (Qa vv1 Qe))) Ql))))))
structure QkN (m:Nat) (T:Mt2) (rs:List (List Int)):Prop where
 rc:RcL m T rs
 many:(rs.length:Int)=det m (QG T)
 srt:SrR rs
 all:∀y:Nat->Int,∃r∈rs,Cng m (QG T) y (fnL r)
def QkR(d:Den):Prop:=∀(m:Nat) (R L:Lpp),m<=3->Qaw m R L->d [Qo m R L]=some (.int (det m (QG (Qg m (Qb R L)))),true)
def QkI(d:Den):Prop:=∀(m:Nat) (R L:Lpp),0<m->m<=3->Qaw m R L->det m (QG (Qg m (Qb R L)))<=300->∃rs:List (List Int),d [Qo m R L]=some (.lst (rs.map Qh),true)/\QkN m (Qg m (Qb R L)) rs
def QgY{fa fb:DE}{J:En}{rb:HS.R}{rs:List (List Int)}{b:Bool}{M:List Nat}{k:Nat}{r:List Int}(ha:fa J=some ⟨.lst (rs.map Qh),b,M⟩)(hb:fb J=some rb)(eb:rb.d= .int k)(h:rs[k]? =some r):Qk fa fb J=some ⟨Qh r,b,M⟩:=by
 have hk:k<rs.length:=(Zi.mp h).1;have a:atI (rs.map Qh) (k:Int)=some (Qh r):=by
  rw[QdQ ⋯ (by rw[Zd];lia)];simp[Zk,h]
 unfold Qk;rw[ha,Za,hb,Za,eb];show(match D.items (.lst (rs.map Qh))with | some xs=>(atI xs (k:Int)).map λd=>HS.R.norm ⟨d,b,M⟩ | _=>none)=_;simp only[D.items,a];rfl
def QoL{fa:DE}{J:En}{r:HS.R}{rs:List (List Int)}(h:fa J=some r)(e:r.d= .lst (rs.map Qh)):dBf Qan (Qa fa Qe) J=some (reI rs.length):=(Qbg h e).trans (by rw[Zd])
def QoF:∀rs:List (List Int),Qiq (rs.map Qh)=some rs
 | []=>rfl
 | r::rs=>by
  show(Qa4 (r.map .int)).bind _=_;rw[Qdg,Za,QoF rs];rfl
def Qjv{fa:DE}{J:En}{rs:List (List Int)}{b:Bool}{M:List Nat}(h:fa J=some ⟨.lst (rs.map Qh),b,M⟩)(hn:rs≠[]):Qd6 (Qa fa Qe) J=some ⟨.lst ((QfP rs).map Qh),b,M⟩:=by
 have e1:QfE (Qa fa Qe) J=none:=by
  unfold QfE;rw[Qt h (QP _),Za];cases rs with
  | nil=>exact absurd rfl hn
  | cons r rs=>rfl
 unfold Qd6;rw[e1];show QnR _ _=_;unfold QnR;rw[Qt h (QP _),Za];show(Qiq (rs.map Qh)).bind _=_;rw[QoF,Za];show some (HS.R.mk (.lst ((QfP rs).map Qh)) (b && true) (M++[]))=_;rw[Bool.and_true,ZV]
def QzM{fb:DE}{J:En}{ra:RA}{rb:HS.R}{k:List Int}{ks:List (List Int)}{fs:DA}(ha:fs J=some ra)(ea:ra.ds=[Qh k])(hb:fb J=some rb)(eb:rb.d= .dk ks):dOp (gIn true) (QiO fs) fb J=some (reT (.bl (!ks.contains k))):=by
 have e1:QiO fs J=some (reT (.tup (k.map .int))):=by
  unfold QiO;rw[ha,Za,ea];show(if Q3 (k.map .int)=true then _ else _)=_;rw[if_pos (Qs4 k)]
 refine Q4 e1 hb ?_;rw[eb];show(intsOf (k.map .int)).map _=_;rw[Qe5];show some (D.bl (ks.contains k != true))=_;rw[Bool.bne_true]
def QAK{J:En}{ra:RA}{k:List Int}{fs:DA}(ha:fs J=some ra)(ea:ra.ds=[Qh k]):dD1 fs J=some ⟨.dk [k],true,[]⟩:=by
 unfold dD1;rw[ha,Za,ea];show(intsOf (k.map .int)).map _=_;rw[Qe5];rfl
structure Bfs (m:Nat) (T:Mt2) (rs:List (List Int)) (z:List Int) (done:Nat):Prop where
 rc:RcL m T rs
 hd:z∈rs
 le:done<=rs.length
 clo:∀i r,i<done->rs[i]? =some r->Clo m T rs (fnL r)
def Clo.more{m:Nat}{T:Mt2}{rs qs:List (List Int)}{x:Mt1}(h:Clo m T rs x)(hs:∀r∈rs,r∈qs):Clo m T qs x:=λp hp=>by
 obtain⟨r,hr,e⟩:=h p hp;exact⟨r,hs r hr,e⟩
def RcL.snoc{m:Nat}{T:Mt2}{rs:List (List Int)}{h:List Int}(hr:RcL m T rs)(hl:h.length=m)(hc:RcH m T (fnL h))(hn:h∉rs):RcL m T (rs++[h]) where
 len:=λr hr'=>by
  rcases Zf.mp hr' with q | q
  .exact hr.len r q
  .rw[Zj.mp q];exact hl
 rc:=λr hr'=>by
  rcases Zf.mp hr' with q | q
  .exact hr.rc r q
  .rw[Zj.mp q];exact hc
 nd:=by
  rw[Zal];refine⟨hr.nd,⋯,λa ha b hb e=>hn ?_⟩;rw[Zj.mp hb]at e;rw[← e];exact ha
def QwM{dh dn du ds:Den}(hh:QkR dh)(hn:QjC dn)(hu:Qn5 du)(hs:Qox ds):QkI (Qm 6 (Qc3 dh dn du ds)):=λm R L m0 m3 hw hd=>by
 have m8:m<=8:=ZJ m3 ∅;have tp:=hw.tp;have eh:=hh m R L m3 hw;obtain⟨k,ek,ro⟩:=hn m R L m0 m8 hw;have es:=λa b=>hs m R L a b m0 m8 hw;have sm6:=λj (hj:j<m)=>hw.small hj hj;generalize Qg m (Qb R L)=T at *;generalize ez:Qdf m (Qi m T (λ_=>0) k)=z at *;have lz:z.length=m:=by rw[← ez];exact Qpa _ _
 have fz:∀j,j<m->fnL z j=Qi m T (λ_=>0) k j:=λj hj=>by rw[← ez];exact QgF hj
 rw[Qnj,ez]at ek;have rec_ext:∀{x y:Mt1},RcH m T x->(∀j,j<m->y j=x j)->RcH m T y:=λ{x y} h e=>by
  obtain⟨v,a1,y',u,b1,b2,b3⟩:=h.ex;exact⟨⟨v,a1,y',u,b1,b2,λj hj=>by rw[e j hj];exact b3 j hj⟩,λj hj=>by rw[e j hj];exact h.stb j hj,λj hj=>by rw[e j hj];exact h.nn j hj⟩
 have rz:RcH m T (fnL z):=rec_ext ⟨ro.ex,ro.stb,ro.nn⟩ fz;have start:Bfs m T [z] z 0:=⟨⟨λr hr=>by rw[Zj.mp hr];exact lz,λr hr=>by rw[Zj.mp hr];exact rz,⋯⟩,Zj.mpr rfl,ZS _,λi r hi=> ⋯⟩;have cz:Cng m (QG T) (λ_=>0) (fnL z):=(Cng.ext (QlK (λ_=>0) k).symm fz).symm;have bnd:∀{rs done},Bfs m T rs z done->rs.length<=300:=λh=>by have:=h.rc.le tp;lia
 have key:Run (Qc3 dh dn du ds) (Qau 6 [Qo m R L]) (Rt λd fr=>∃rs:List (List Int),d= .lst (rs.map Qh)/\fr=true/\QkN m T rs):=by
  refine Q6 (Q5 ((QC (Qzb (Qu (r:=⟨[Qo m R L],false,[]⟩) rfl eh rfl) rfl rfl rfl) rfl).trans (by rw[decide_eq_false ⋯])) (λh=>by cases h) (λ_=>Qp ?_));refine rsa (d:= .lst [Qh z]) (Qps (Qt (Qu (r:=⟨[Qo m R L],false,[]⟩) rfl ek rfl) (QP _)) (by show 1<=64;decide)) ?_;refine rsa (QAK (Qt (QgY (rs:=[z]) rfl rfl rfl rfl) (QP _)) rfl) ?_;refine rsa rfl ?_;refine run_seq (QhD (I:=λn J=>∃rs done j4 j5,n+done=301/\J=[slF (Qo m R L),slT (.lst (rs.map Qh)),some (.dk rs,true),slI ((done:Nat):Int),j4,j5]/\Bfs m T rs z done) ?_ 301 _ ⟨[z],0,none,none,rfl,rfl,start⟩);rintro n J ⟨rs,done,j4,j5,hn0,rfl,hB⟩;refine⟨decide (done<rs.length),(QC (QAb rfl rfl (QoL rfl rfl) rfl) rfl).trans ⋯,λhb=>?_,λhb=>?_⟩
  .have hb:¬done<rs.length:=of_decide_eq_false hb;obtain⟨q1,q2⟩:=hB.rc.many tp ⟨z,hB.hd,cz⟩ (ro.ex.imp λv h=>h.1) λr hr=>by
    obtain⟨i,hi⟩:=ZaP hr;exact hB.clo i r (by have:=(Zi.mp hi).1;lia) hi
   have ne:rs≠[]:=λe=>by have:=hB.hd;rw[e]at this;cases this
   have pm:=QeR rs;refine Qy (Qjv rfl ne) ⟨QfP rs,rfl,rfl,⟨λr hr=>hB.rc.len r (pm.mem_iff.mp hr),λr hr=>hB.rc.rc r (pm.mem_iff.mp hr),pm.nodup_iff.mpr hB.rc.nd⟩,by rw[pm.length_eq];exact q1,QfJ rs,λy=>?_⟩;obtain⟨r,hr,e⟩:=q2 y;exact⟨r,pm.mem_iff.mpr hr,e⟩
  .have hb:done<rs.length:=of_decide_eq_true hb;obtain⟨x,hx⟩:∃x,rs[done]? =some x:=⟨_,Zg hb⟩;have mx:x∈rs:=Zu hx;have lx:=hB.rc.len x mx;have rx:=hB.rc.rc x mx;refine run_seq (Qaa (List.range m) (λi J=>∃qs j4 j5,J=[slF (Qo m R L),slT (.lst (qs.map Qh)),some (.dk qs,true),slI ((done:Nat):Int),j4,j5]/\Bfs m T qs z done/\qs[done]? =some x/\∀p,p<i->∃r∈qs,Cng m (QG T) (λj=>fnL x j+QeE p j) (fnL r)) (Qbn rfl rfl ⋯) rfl ⟨rs,j4,j5,rfl,hB,hx,λp hp=> ⋯⟩ ?_ ?_)
   .rintro i i' J hi ⟨qs,j4,j5,rfl,hQ,hqx,hp⟩;obtain⟨him,rfl⟩:=QcC hi;have hq:done<qs.length:=(Zi.mp hqx).1;refine⟨[slF (Qo m R L),slT (.lst (qs.map Qh)),some (.dk qs,true),slI ((done:Nat):Int),slI i,j5],rfl,?_⟩;have uq:=hu m i ⋯;obtain⟨c,ec,tc⟩:=es (fnL x) (λj=>if j=i then 1 else 0) (λj hj=>by
      have h1:=rx.nn j hj;have h2:=rx.stb j hj;have h3:=sm6 j hj;have:(600:Int)<=2^100:= ∅
      lia) (λj hj=>by
      have:(1:Int)<=2^100:= ∅
      show 0<=(if j=i then(1:Int)else 0)/\(if j=i then(1:Int)else 0)<=2^100;split<;>lia)
    generalize eh2:Qdf m (Qi m T (λj=>fnL x j+if j=i then 1 else 0) c)=h at *;have lh:h.length=m:=by rw[← eh2];exact Qpa _ _
    have fh:∀j,j<m->fnL h j=Qi m T (λj=>fnL x j+if j=i then 1 else 0) c j:=λj hj=>by rw[← eh2];exact QgF hj
    rw[Qnj m (Qi m T _ c),eh2,← QfQ lx]at ec;have rh:RcH m T (fnL h):=rec_ext (rx.add tp (λj _=>by show 0<=(if j=i then(1:Int)else 0);split<;>lia) tc) fh;have ch:Cng m (QG T) (λj=>fnL x j+QeE i j) (fnL h):=(Cng.ext (QlK _ c).symm fh).symm
    have e5:Qs 3 ds [] (Qa (Qn 0) (Qa (Qk (Qn 1) (Qn 3)) (Qa (Qs 2 du [] (Qa (Qk (Qn 0) (dC (.int 0))) (Qa (Qn 4) Qe))) Qe))) [slF (Qo m R L),slT (.lst (qs.map Qh)),some (.dk qs,true),slI ((done:Nat):Int),slI i,j5]=some (reT (Qh h)):=
     Qu (Qt rfl (Qt (QgY rfl rfl rfl hqx) (Qt (Qu (Qt rfl (Qt rfl (QP _))) uq rfl) (QP _)))) ec rfl
    refine rsa e5 ?_;have b300:=bnd hQ;refine run_seq (Q5 (QC (QzM rfl rfl rfl rfl) rfl) (λhc=>?_) (λhc=>Qp ?_))
    .have hc:h∉qs:=by simpa using hc
     refine run_seq (QuH rfl rfl rfl ⋯ ?_);have ep:putL qs h=qs++[h]:=by unfold putL;rw[if_neg (by simpa using hc)]
     rw[ep];refine run_seq (QsY rfl rfl rfl ∅ (by rw[Zd];lia) ?_);refine Qp (Qp ⟨qs++[h],slI i,none,by rw[ZO];rfl,⟨hQ.rc.snoc lh rh hc,Zh _ hQ.hd,by rw[ZG];lia,λl r hl hr=>?_⟩,by rw[Zay hq];exact hqx,λp hpi=>?_⟩)
     .rw[Zay ⋯]at hr;exact(hQ.clo l r hl hr).more λr hr=>Zh _ hr
     .by_cases z:p=i
      .rw[z];exact⟨h,⋯,ch⟩
      .obtain⟨r,hr,e⟩:=hp p ⋯;exact⟨r,Zh _ hr,e⟩
    .have hc:h∈qs:=by simpa using hc
     refine Qp ⟨qs,slI i,_,rfl,hQ,hqx,λp hpi=>?_⟩;by_cases z:p=i
     .rw[z];exact⟨h,hc,ch⟩
     .exact hp p ⋯
   .rintro J ⟨qs,j4,j5,rfl,hQ,hqx,hp⟩;have hq:done<qs.length:=(Zi.mp hqx).1;rw[ZD]at hp;refine run_seq (QvJ (d':= .int ((done+1:Nat):Int)) rfl rfl rfl ?_);refine Qp ⟨n-1,by have:=bnd hB;lia,qs,done+1,j4,j5,by have:=bnd hB;lia,rfl,hQ.rc,hQ.hd,⋯,λl r hl hr=>?_⟩;by_cases z:l=done
    .subst z;rw[hqx]at hr;cases hr;exact hp
    .exact hQ.clo l r ⋯ hr
 obtain⟨o,h1,h2⟩:=key;cases o with
 | rt d fr=>
  obtain⟨rs,rfl,rfl,h⟩:=h2;refine⟨rs,?_,h⟩;show Option.bind (Qc3 dh dn du ds (Qau 6 [Qo m R L])) outD=_;rw[h1];rfl
 | _=>exact h2.elim
def QrG(k:Nat)(rs:List (List Int)):(D.lst (rs.map Qh)).sim (k+2)=true:=by
 simp only[D.sim,ZbI,Zae];intro r _;show(D.lst (r.map .int)).sim (k+1)=true;simp only[D.sim,ZbI,Zae];intro x _;show(D.int x).sim k=true;cases k<;>rfl
def QtL{x:Nat}{xs:List D}{J:En}{Q:Out->Prop}(hx:J[x]? =some (slT (.lst xs)))(q:Q (.nx (J.set x (slT (.lst []))))):Run (Qlh x Q8) J Q:=by
 refine⟨_,?_,q⟩;unfold Qlh;rw[hx];rfl
def QxK{m:Nat}{R:Lpp}(hw:Qaw m R []){p:Nat}(hp:p<m):(Qx m λi=>Qg m (Qb R []) i p)<=0:=by
 have hR:=hw.good.1;have e:=Qrq (QiD hR) (l:=List.range m) Zat (λo ho=>Zb.mp ho) hp;have e2:(Qx m λi=>(if i∈List.range m then 1 else 0)*Qg m (Qb R []) i p)=Qx m λi=>Qg m (Qb R []) i p:=QF λi hi=>by rw[if_pos (Zb.mpr hi),ZaH]
 rw[← e2,e,if_pos (Zb.mpr hp),QeC hR hp Zat (λo ho=>Zb.mp ho)];have n:=hw.neg hp;have s:=QkV hR p;have l:(R.map (QW p (List.range m))).sum<=(R.map (QW p (List.range (m+1)))).sum:=Qho λs _=>QsR λx hx=>Zb.mpr (by have:=Zb.mp hx;lia);lia
def QyF{m:Nat}(d:Mt1)(h:∃i,i<m/\d i<0):∃p,p<m/\d p<0/\∀j,j<m->d p<=d j:=by
 induction m with
 | zero=>obtain⟨i,hi,_⟩:=h;lia
 | succ m ih=>
  by_cases q:∃i,i<m/\d i<0
  .obtain⟨p,hp,h0,h1⟩:=ih q;by_cases z:d m<d p
   .exact⟨m,⋯,⋯,λj hj=>by
     by_cases e:j=m
     .subst e;exact Zao _
     .have:=h1 j ⋯;lia⟩
   .exact⟨p,⋯,h0,λj hj=>by
     by_cases e:j=m
     .subst e;lia
     .exact h1 j ⋯⟩
  .obtain⟨i,hi,h0⟩:=h;have e:i=m:=ZH λz=>q ⟨i,⋯,h0⟩;subst e;exact⟨i,⋯,h0,λj hj=>by
    by_cases e:j=i
    .subst e;exact Zao _
    .have:¬d j<0:=λz=>q ⟨j,⋯,z⟩;lia⟩
def Qkj{m:Nat}{R:Lpp}(hw:Qaw m R []){x d:Mt1}(hb:∀i,i<m->QZ (Qg m (Qb R [])) x m m i≠none)(hs:Stb m (Qg m (Qb R [])) (Qi m (Qg m (Qb R [])) x d)):∀i,i<m->0<=d i:=by
 have hR:=hw.good.1;have tp:=hw.tp;refine λi hi=>ZH λhn=>?_;obtain⟨p0,hp0,neg,mn⟩:=QyF (m:=m) d ⟨i,hi,⋯⟩;obtain⟨n,⟨p,hp,ep,pc⟩,least⟩:=QoU (P:=λn=>∃p,p<m/\d p=d p0/\p∉QN (Qg m (Qb R [])) x m n) ⟨m,p0,hp0,rfl,λz=>hb p0 hp0 ((QdX m p0 hp0).mpr z)⟩;cases n with
 | zero=>exact pc (Zb.mpr hp)
 | succ k=>
  have inC:∀q,q<m->d q=d p0->q∈QN (Qg m (Qb R [])) x m k:=λq hq e=>ZH λz=>least k ⋯ ⟨q,hq,e,z⟩;have rd:Qaz (Qg m (Qb R [])) p (QN (Qg m (Qb R [])) x m k)<=x p:=ZH λq=>pc (QcA.mpr ⟨inC p hp ep,λz=>q (Qbv.mp z).2⟩);have ml:∀q,q∈(List.range m).filter (λq=>decide (d q=d p0))↔q<m/\d q=d p0:=λq=>by
   rw[Zx,Zb,decide_eq_true_iff]
  have nl:((List.range m).filter λq=>decide (d q=d p0)).Nodup:=Zat.filter _;generalize (List.range m).filter (λq=>decide (d q=d p0))=l at ml nl;have am:=QkQ tp.pos hp nl (QcB (T:=Qg m (Qb R [])) (h:=x) (m:=m) k) (λo ho=>Qcf ho) (λo ho=>inC o ((ml o).mp ho).1 ((ml o).mp ho).2);have is:=Qrq (QiD hR) nl (λo ho=>((ml o).mp ho).1) hp;rw[if_pos ((ml p).mpr ⟨hp,ep⟩)]at is;have le:(Qx m λi=>(d p0+1)*Qg m (Qb R []) i p+ -((if i∈l then 1 else 0)*Qg m (Qb R []) i p))<=Qx m λi=>d i*Qg m (Qb R []) i p:=QbL λi hi=>by
   show(d p0+1)*Qg m (Qb R []) i p+ -((if i∈l then 1 else 0)*Qg m (Qb R []) i p)<=d i*Qg m (Qb R []) i p;by_cases e:i∈l
   .rw[if_pos e,((ml i).mp e).2,Zah];lia
   .have ne:i≠p:=λz=>e (z▸(ml p).mpr ⟨hp,ep⟩);have dl:d p0+1<=d i:=by
     have h1:=mn i hi;have h2:¬d i=d p0:=λz=>e ((ml i).mpr ⟨hi,z⟩);lia
    have:=Zaw dl (tp.pos i p hi hp ne);rw[if_neg e,ZT];lia
  rw[QaF,QcE,Qdi,is]at le;have cs:=QxK hw hp;have cm:0<=(d p0+1)*Qx m λi=>Qg m (Qb R []) i p:=by
   have:=Zav (show 0<= -(d p0+1) by lia) (show 0<= -(Qx m λi=>Qg m (Qb R []) i p) by lia);rw[Int.neg_mul_neg]at this;exact this
  have st:=hs p hp;have ea:Qi m (Qg m (Qb R [])) x d p=x p+Qx m λi=>d i*Qg m (Qb R []) i p:=rfl;lia
def Qwg{m:Nat}{R:Lpp}(hw:Qaw m R []){x x' d:Mt1}(hb:∀i,i<m->QZ (Qg m (Qb R [])) x m m i≠none)(hb':∀i,i<m->QZ (Qg m (Qb R [])) x' m m i≠none)(sx:Stb m (Qg m (Qb R [])) x)(sx':Stb m (Qg m (Qb R [])) x')(e:∀j,j<m->x' j=Qi m (Qg m (Qb R [])) x d j):∀i,i<m->d i=0:=λi hi=>by
 have a:=Qkj hw hb (d:=d) (λp hp=>by rw[← e p hp];exact sx' p hp) i hi;have b:=Qkj hw hb' (d:=λi=> -d i) (λp hp=>by
  have:Qi m (Qg m (Qb R [])) x' (λi=> -d i) p=x p:=by
   have q:Qi m (Qg m (Qb R [])) x' (λi=> -d i) p=Qi m (Qg m (Qb R [])) (Qi m (Qg m (Qb R [])) x d) (λi=> -d i) p:=QaJ p (e p hp) λ_ _=>rfl;rw[q,Qlq];unfold Qi;rw[QF (g:=λ_=>0) λi _=>by show(d i+ -d i)*Qg m (Qb R []) i p=0;rw[Int.add_right_neg,ZT],Qaj];lia
  rw[this];exact sx p hp) i hi
 lia
def Qr1{m:Nat}{R:Lpp}(hw:Qaw m R []){x y:Mt1}(h:∀j,j<m->x j=y j)(hb:∀i,i<m->QZ (Qg m (Qb R [])) x m m i≠none):∀i,i<m->QZ (Qg m (Qb R [])) y m m i≠none:=λi hi z=>by
 cases q:QZ (Qg m (Qb R [])) x m m i with
 | none=>exact hb i hi q
 | some t=>
  obtain⟨t',e,_⟩:=QtP hw.tp.pos (λj hj=>Int.le_of_eq (h j hj)) hi q;rw[z]at e;cases e
def Qto{m:Nat}{R:Lpp}(hw:Qaw m R []){v x:Mt1}(hd:Dbl m (Qg m (Qb R [])) v)(hr:Rec m (Qg m (Qb R [])) v x):∀i,i<m->QZ (Qg m (Qb R [])) x m m i≠none:=by
 obtain⟨y,u,y0,hu,ex⟩:=hr;refine Qr1 hw (λj hj=>(ex j hj).symm) (Qsc hw (λj hj=>?_) hu);have b:=hd.big hj;have:=y0 j hj;have:=hw.neg hj;lia
def QwZ(xs:List D):deq (.lst xs) (.lst [])=xs.isEmpty:=by
 cases xs with
 | nil=>rfl
 | cons x xs=>rfl
def QsW{R:Lpp}{t:List Nat}{k:Nat}(hk:k∈t):rd R k∈Qb (Qaq R t) []/\(rd R k).swap∈Qb (Qaq R t) []:=by
 have mem:rd R k∈Qaq R t:=Zs.mpr ⟨k,hk,rfl⟩;unfold Qb;rw[ZV];exact⟨Zh _ mem,Zc _ (Zs.mpr ⟨_,mem,rfl⟩)⟩
def QxZ{m:Nat}{R:Lpp}{t:List Nat}(m0:0<m)(hR:∀s∈R,Good m s)(ht:∀k∈t,k<R.length)(h:∀v,v<=m->Qb6 R m t m v<=m):∀v,v<m->Qah (Qb (Qaq R t) []) (Qar m) m v≠none:=by
 have hT:∀s∈Qaq R t,Good m s:=λs hs=>by
  obtain⟨k,hk,rfl⟩:=Zs.mp hs;exact hR _ (Qay (ht k hk))
 have gS:=QaP (L:=[]) hT (λs hs=>absurd hs ⋯);have I:=(Qos gS m).pit;have E:=λ(v:Nat) (hv:v<m)=>QjU m0 gS hv;generalize Qah (Qb (Qaq R t) []) (Qar m) m=F at *;have pit:F m≠none:=by rw[I];simp
 have clo:∀k∈t,∀a b:Nat,(a=(rd R k).1.toNat/\b=(rd R k).2.toNat)∨(a=(rd R k).2.toNat/\b=(rd R k).1.toNat)->F b≠none->F a≠none:=λk hk a b hab hb ha=>by
  obtain⟨g1,g2,g3,g4,g5⟩:=hR _ (Qay (ht k hk));by_cases e:a=m
  .exact pit (e▸ha)
  .obtain⟨s1,s2⟩:=QsW (R:=R) hk;rcases hab with⟨rfl,rfl⟩ | ⟨rfl,rfl⟩
   .exact hb (E _ ⋯ ha _ s1 rfl)
   .exact hb (E _ ⋯ ha _ s2 rfl)
 have one:∀k∈t,∀g:Nat->Int,(∀v,v<=m->g v<=m->F v≠none)->∀v,v<=m->Qbs R g k v<=m->F v≠none:=λk hk g hg v hv hle=>by
  obtain⟨g1,g2,g3,g4,g5⟩:=hR _ (Qay (ht k hk));have n:¬(rd R k).2.toNat=(rd R k).1.toNat:= ⋯
  have n':¬(rd R k).1.toNat=(rd R k).2.toNat:= ⋯
  have ha:=hg (rd R k).1.toNat ⋯;have hb:=hg (rd R k).2.toNat ⋯;have ca:=clo k hk _ _ (.inl ⟨rfl,rfl⟩);have cb:=clo k hk _ _ (.inr ⟨rfl,rfl⟩);unfold Qbs at hle;simp only[Qdb]at hle;by_cases a:v=(rd R k).2.toNat
  .subst a;simp only[if_true,n,n',if_false]at hle;by_cases q:g (rd R k).1.toNat<=m
   .exact cb (ha q)
   .refine hb ?_;revert hle
    repeat' split
    all_goals (intro hle;lia)
  .by_cases b:v=(rd R k).1.toNat
   .subst b;simp only[if_true,n,n',if_false]at hle;by_cases q:g (rd R k).2.toNat<=m
    .exact ca (hb q)
    .refine ha ?_;revert hle;split
     all_goals (intro hle;lia)
   .simp only[a,b,if_false]at hle;exact hg v hv hle
 have all:∀(t':List Nat) (g:Mt1),(∀k∈t',k∈t)->(∀v,v<=m->g v<=m->F v≠none)->∀v,v<=m->t'.foldl (Qbs R) g v<=m->F v≠none:=λt'=>by
  induction t' with
  | nil=>intro g _ hg;exact hg
  | cons k r ih=>intro g hs hg;exact ih (Qbs R g k) (λk hk=>hs k (by simp[hk])) (one k (hs k ⋯) g hg)
 have far:∀(i:Nat) (v:Nat),v<=m->Qb6 R m t i v<=m->F v≠none:=λi=>by
  induction i with
  | zero=>
   intro v hv hle;have hle:(if v<m then(m:Int)+1 else 0)<=m:=hle;by_cases e:v<m
   .rw[if_pos e]at hle;lia
   .rw[show v=m by lia];exact pit
  | succ i ih=>exact all t _ (λ_ h=>h) ih
 exact λv hv=>far m v ⋯ (h v ⋯)
def QjF(d:Den):Prop:=∀(m:Nat) (R:Lpp) (t:List Nat),0<m->m<=8->(∀s∈R,Good m s)->t.length=m->t.Pairwise (· < ·)->(∀k∈t,k<R.length)->∃b,d [Qo m R [],Qf t]=some (.bl b,true)/\(b=true↔∃dep,Qcv R m t dep)
def Qql{du dd:Den}(hu:Qkh du)(hd:Qom dd):QjF (Qm 2 (QeO du dd)):=λm R t m0 m8 hR tl tp tR=>by
 have eu:=hu t.length λi=>((t.getD i 0:Nat):Int);rw[← Qu6,tl]at eu;have ed:=hd m R t m8 hR tR;obtain⟨a,ha⟩:∃a,t[0]? =some a:=⟨_,Zg ⋯⟩;obtain⟨b,hb⟩:∃b,t[m-1]? =some b:=⟨_,Zg ⋯⟩;have bl:=tR b (Zu hb);obtain⟨v,⟨i,hi,ei⟩,hmx,hv⟩:=Qlo (by lia:0<m+1) (Qb6 R m t m);refine⟨decide (v<=(m:Int)),?_,λz=>?_,λ⟨dep,Dp⟩=>decide_eq_true ?_⟩
 rotate_left
 .have vm:=of_decide_eq_true z;obtain⟨dep,Dp,_⟩:=QtO hR tR (QxZ m0 hR tR λu hu=>ZbF (hmx u ⋯) vm);exact⟨dep,Dp⟩
 .rw[ei,Qgs hR Dp i ⋯];by_cases z:i<m
  .exact(Dp.val i z).2
  .rw[show i=m by lia,Dp.pit];lia
 have last:∀(J:En),J[1]? =some (slF (Qf t))->Qk (Qn 1) (Qhk (dC (.int 1))) J=some (reI b):=λJ h1=>by
  unfold Qk;rw[Qcg h1,Za];show(atI (t.map λ(p:Nat)=>D.int (p:Int)) (-1)).map _=_;rw[Qoi (by simp;lia),Zd,Zk,tl,hb];rfl
 refine QY ?_;refine Q6 (Q5 (b:=false) (Qd2 (a:=false) (b:=false) (Qc7 (b:=true) (QC (Qu (r:=⟨[Qf t,.int m],false,[]⟩) rfl eu rfl) rfl)) (Qd2 (a:=false) (b:=false) (QC (b:=false) (Qz0 (d:=Qf t) (ra:=reF (Qf t)) rfl rfl (Qxl (r:=reF (Qf t)) rfl rfl tp ⋯) rfl (Qju 7 _)) rfl) (QC (b:=false) (r:=reT (.bl false)) ((QdC (a:=(m:Int)) (b:=m) ((Qlw (l:=t) (r:=reF (Qf t)) rfl rfl).trans (by rw[tl])) rfl (rb:=reI m) rfl rfl).trans ⋯) rfl))) (λh=>by cases h) (λ_=>Qp ?_));refine Q6 (Q5 (b:=false) (Qd2 (a:=false) (b:=false) (QC (b:=false) (Q4 (d:= .bl (decide ((a:Int)<0))) (QiL (l:=t) (i:=0) (v:=a) (ra:=reF (Qf t)) (rb:=reI 0) rfl rfl rfl rfl ∅ ha) (rb:=reI 0) rfl rfl) (by rw[decide_eq_false ⋯])) (QC (b:=false) (Q4 (d:= .bl (decide ((R.length:Int)<=b))) (last _ rfl) (rb:=reI R.length) ((Qbg (xs:=R.map pairD) (r:=reF (Qr R)) rfl rfl).trans (by rw[Zd])) rfl) (by rw[decide_eq_false ⋯]))) (λh=>by cases h) (λ_=>Qp ?_));exact Qy (r:=reT (.bl (decide (v<=(m:Int))))) ((Q4 (d:= .bl (decide (v<=(m:Int)))) (hv (r:=reT (Qd (m+1) (Qb6 R m t m))) (Qu (r:=⟨[Qo m R [],Qf t],false,[]⟩) rfl ed rfl) rfl) (rb:=reI m) rfl rfl).trans rfl) ⟨rfl,rfl⟩
noncomputable def Qb8(t:List Nat):List Int:=t.map λ(p:Nat)=>(p:Int)
def QsO(t:List Nat):Qf t=Qh (Qb8 t):=by unfold Qf Qh Qb8;rw[ZN];rfl
def Qyl(ts:List (List Nat)):ts.map Qf=(ts.map Qb8).map Qh:=by rw[ZN];exact Zp λt _=>QsO t
def Qnx{a b:List Nat}(h:Qb8 a=Qb8 b):a=b:=(List.map_inj_right λ_ _ h=>Int.ofNat.inj h).mp h
def QiG{α:Type}(l:List α):l=[]∨∃q z,l=q++[z]:=(List.eq_nil_or_concat l).imp id λ⟨q,z,e⟩=>⟨q,z,by rw[e,List.concat_eq_append]⟩
noncomputable def Qa6(r:List Nat):Nat:=(r.getLast?.map (· +1)).getD 0
def QyQ{r:List Nat}(h:r.Pairwise (· < ·)){a:Nat}(ha:a∈r):a<Qa6 r:=by
 rcases QiG r with rfl | ⟨q,l,rfl⟩
 .cases ha
 .have e:Qa6 (q++[l])=l+1:=by unfold Qa6;simp
  rw[e];rcases Zf.mp ha with ha | ha
  .have:=(List.pairwise_append.mp h).2.2 a ha l ⋯;lia
  .rw[Zj.mp ha];lia
def QtA{r:List Nat}{x:Nat}(h:∀a∈r,a<x):Qa6 r<=x:=by
 rcases QiG r with rfl | ⟨q,l,rfl⟩
 .exact ZS _
 .have e:Qa6 (q++[l])=l+1:=by unfold Qa6;simp
  rw[e];exact h l ⋯
noncomputable def Qbu(n:Nat)(r:List Nat):List (List Nat):=(List.range (n-Qa6 r)).map λj=>r++[Qa6 r+j]
noncomputable def Qab(n:Nat):Nat->List (List Nat)
 | 0=>[[]]
 | k+1=>(Qab n k).flatMap (Qbu n)
def QcI{n:Nat}:∀{k:Nat}{r:List Nat},r∈Qab n k↔r.length=k/\r.Pairwise (· < ·)/\∀a∈r,a<n
 | 0,r=>by
  show r∈[[]]↔_;rw[Zj];exact⟨λh=>by subst h;exact⟨rfl,.nil,nofun⟩,λh=>Zax h.1⟩
 | k+1,r=>by
  show r∈(Qab n k).flatMap (Qbu n)↔_;rw[List.mem_flatMap];constructor
  .rintro⟨q,hq,hr⟩;obtain⟨h1,h2,h3⟩:=QcI.mp hq;obtain⟨j,hj,rfl⟩:=Zs.mp hr;have hj:=Zb.mp hj;refine⟨by simp[h1],List.pairwise_append.mpr ⟨h2,⋯,λa ha b hb=>?_⟩,λa ha=>?_⟩
   .rw[Zj.mp hb];have:=QyQ h2 ha;lia
   .rcases Zf.mp ha with ha | ha
    .exact h3 a ha
    .rw[Zj.mp ha];lia
  .rintro⟨h1,h2,h3⟩;rcases QiG r with rfl | ⟨q,l,rfl⟩
   .cases h1
   .obtain⟨p1,p2,p3⟩:=List.pairwise_append.mp h2;have nl:=QtA λa ha=>p3 a ha l ⋯;have ln:=h3 l ⋯;exact⟨q,QcI.mpr ⟨by simpa using h1,p1,λa ha=>h3 a (by simp[ha])⟩,Zs.mpr ⟨l-Qa6 q,Zb.mpr ⋯,by rw[Nat.add_sub_cancel' nl]⟩⟩
def Qq8:∀{x y a b:List Int},HT.lexLt x y=true->x.length=y.length->HT.lexLt (x++a) (y++b)=true
 | [],[],_,_,h,_=>by cases h
 | u::x,v::y,a,b,h,l=>by
  rw[HT.Qbq]at h;rw[Zbb,Zbb,HT.Qbq];split
  .rename_i e;rw[if_pos e]at h;exact Qq8 h (by simpa using l)
  .rename_i e;rw[if_neg e]at h;exact h
def QpM:∀(x:List Int) {a b:List Int},HT.lexLt (x++a) (x++b)=HT.lexLt a b
 | [],_,_=>rfl
 | u::x,a,b=>by rw[Zbb,Zbb,HT.Qbq,if_pos rfl];exact QpM x
def Qrc{n:Nat}:∀k:Nat,(Qab n k).Pairwise λx y=>HT.lexLt (Qb8 x) (Qb8 y)=true
 | 0=>List.pairwise_singleton _ _
 | k+1=>by
  show((Qab n k).flatMap (Qbu n)).Pairwise _;rw[List.pairwise_flatMap];refine⟨λr _=>?_,(List.Pairwise.and_mem.mp (Qrc k)).imp λ{x y} ⟨hx,hy,h⟩ u hu v hv=>?_⟩
  .unfold Qbu;rw[ZX];refine ZaV.imp λ{i j} h=>?_;unfold Qb8;rw[ZO,ZO,QpM];show HT.lexLt [((Qa6 r+i:Nat):Int)] [((Qa6 r+j:Nat):Int)]=true;rw[HT.Qbq,if_neg ⋯];exact decide_eq_true ⋯
  .obtain⟨i,_,rfl⟩:=Zs.mp hu;obtain⟨j,_,rfl⟩:=Zs.mp hv;unfold Qb8 at h ⊢;rw[ZO,ZO];exact Qq8 h (by rw[Zd,Zd,(QcI.mp hx).1,(QcI.mp hy).1])
def Qof(n:Nat)(r:List Nat):(Qbu n r).length<=n:=by unfold Qbu;simp
def QjB(n:Nat):∀ls:List (List Nat),(ls.flatMap (Qbu n)).length<=ls.length*n
 | []=>by simp
 | r::ls=>by
  rw[List.flatMap_cons,ZG,Zw,ZcG];have:=Qof n r;have:=QjB n ls;lia
def QqC{n:Nat}(hn:n<=24):∀k:Nat,(Qab n k).length<=24^k
 | 0=>by show 1<=1;exact Zt _
 | k+1=>by
  have h1:=QjB n (Qab n k);have h2:=ZcR (QqC hn k) hn;rw[Nat.pow_succ];exact ZJ h1 h2
def Qu4{x:Nat}{fb:DE}{J:En}{xs ys:List D}{b:Bool}{Q:Out->Prop}(hx:J[x]? =some (some (.lst xs,b)))(hb:fb J=some (reT (.lst ys)))(hl:xs.length+ys.length<=16777216)(q:∀b',Q (.nx (J.set x (some (.lst (xs++ys),b'))))):Run (Qv x (QJ (Qn x) fb)) J Q:=by
 have e:∃M:List Nat,(M=[]∨M=[x])/\QJ (Qn x) fb J=some (Qa7 (xs++ys) M):=by
  unfold QJ;rw[Qcg hx,Za,hb,Za];cases b with
  | true=>exact⟨[x],.inr rfl,(if_pos (show xs.length+ys.length<=sizeLine by rw[QbD];exact hl)).trans rfl⟩
  | false=>exact⟨[],.inl rfl,(if_pos (show xs.length+ys.length<=sizeLine by rw[QbD];exact hl)).trans rfl⟩
 obtain⟨M,hM,e⟩:=e;refine QK e ?_;unfold Qa7;split
 .rw[QaK];exact q true
 .rw[Qid rfl];rcases hM with rfl | rfl
  .exact q false
  .have:QaT [x] J=J.set x (slF (.lst xs)):=by
    show QaT [] (match J[x]? with | some (some (d,_))=>J.set x (some (d,false)) | _=>J)=_;rw[hx];rfl
   rw[this,List.set_set];exact q false
noncomputable def QdL:DS:=(Qc (Qv 2 (Q0 (Qa (Q0 Qe) Qe))) (Qc (QaU (Qa1 vv1) (.nm 3) (Qc (Qv 4 (Q0 Qe)) (Qc (QaU (Q7 vv2) (.nm 5) (Qc (Qv 6 kk0) (Qc (sIf (QA (dOp gNe vv5 (Q0 Qe))) (Qc (Qv 6 (QJ (Qk vv5 (Qhk kk1)) kk1)) Ql) Ql) (Qc (Qv 4 (QJ vv4 (QO (QcR vv6 vv0) (.nm 1) [none,none,some 5] Qac (QJ vv2 (Q0 (Qa vv1 Qe)))))) Ql)))) (Qc (Qv 2 (Qbi vv4)) Ql)))) (Qc (QM vv2) Ql)))
def Qio(d:Den):Prop:=∀n k:Nat,n<=24->k<=3->∃fr,d [.int n,.int k]=some (.lst ((Qab n k).map Qf),fr)
def QrT:Qio (Qm 7 QdL):=λn k hn hk=>by
 have key:Run QdL (Qau 7 [.int n,.int k]) (Rt λd _=>d= .lst ((Qab n k).map Qf)):=by
  refine rsa (d:= .lst [.lst []]) rfl ?_;refine Qal (P:=λJ=>∃b j3 j4 j5 j6,J=[slI n,slI k,some (.lst ((Qab n k).map Qf),b),j3,j4,j5,j6]) ?_ ?_
  .refine Qaa (toD:=λ(i:Nat)=> .int (i:Int)) (List.range k) (λi J=>∃b j3 j4 j5 j6,J=[slI n,slI k,some (.lst ((Qab n i).map Qf),b),j3,j4,j5,j6]) (Qbn rfl rfl ⋯) rfl ⟨true,none,none,none,none,rfl⟩ ?_ ?_
   .rintro i i' J hi ⟨b,j3,j4,j5,j6,rfl⟩;obtain⟨hik,rfl⟩:=QcC hi;refine⟨_,rfl,?_⟩;refine rsa (d:= .lst []) rfl ?_;have len3:(Qab n i).length<=24^3:=ZJ (QqC hn i) (ZY ∅ ⋯);have len4:∀l,(((Qab n i).take l).flatMap (Qbu n)).length<=24^4:=λl=>by
     refine ZJ (QjB n _) (ZJ (ZcR (ZJ (by rw[ZP];exact Zcz _ _) len3) hn) ∅)
    obtain⟨M,hM⟩:∃M,Qn 2 [slI n,slI k,some (.lst ((Qab n i).map Qf),b),slI i,slT (.lst []),j5,j6]=some ⟨.lst ((Qab n i).map Qf),b,M⟩/\QaT M [slI n,slI k,some (.lst ((Qab n i).map Qf),b),slI i,slT (.lst []),j5,j6]=[slI n,slI k,slF (.lst ((Qab n i).map Qf)),slI i,slT (.lst []),j5,j6]:=by
     cases b with
     | true=>exact⟨[2],rfl,rfl⟩
     | false=>exact⟨[],rfl,rfl⟩
    refine run_seq (Qaa (toD:=Qf) (Qab n i) (λl J=>∃b4 j5 j6,J=[slI n,slI k,slF (.lst ((Qab n i).map Qf)),slI i,some (.lst ((((Qab n i).take l).flatMap (Qbu n)).map Qf),b4),j5,j6]) (Qae hM.1 rfl) rfl ⟨true,j5,j6,hM.2⟩ ?_ ?_)
    .rintro l r J hl ⟨b4,j5,j6,rfl⟩;obtain⟨h1,h2,h3⟩:=QcI.mp (Zu hl);refine⟨_,rfl,?_⟩;refine rsa (d:= .int 0) rfl ?_;have lst:∀j6:Int,r≠[]->QJ (Qk (Qn 5) (Qhk (dC (.int 1)))) (dC (.int 1)) [slI n,slI k,slF (.lst ((Qab n i).map Qf)),slI i,some (.lst ((((Qab n i).take l).flatMap (Qbu n)).map Qf),b4),slF (Qf r),slI j6]=some (reI (Qa6 r)):=λj6 hr=>by
      rcases QiG r with rfl | ⟨q,z,rfl⟩
      .exact absurd rfl hr
      .have e:Qa6 (q++[z])=z+1:=by unfold Qa6;simp
       rw[e,Int.natCast_succ];refine Qao (a:=(z:Int)) (b:=1) (ra:=reI z) ?_ rfl rfl rfl;unfold Qk;show(atI ((q++[z]).map λ(p:Nat)=>D.int (p:Int)) (-1)).map _=_;rw[Qoi ⋯];simp;rfl
     refine Qal (P:=λJ=>J=[slI n,slI k,slF (.lst ((Qab n i).map Qf)),slI i,some (.lst ((((Qab n i).take l).flatMap (Qbu n)).map Qf),b4),slF (Qf r),slI (Qa6 r)]) ?_ ?_
     .have tst:QA (dOp gNe (Qn 5) (Q0 Qe)) [slI n,slI k,slF (.lst ((Qab n i).map Qf)),slI i,some (.lst ((((Qab n i).take l).flatMap (Qbu n)).map Qf),b4),slF (Qf r),slI 0]=some (!r.isEmpty):=by
       refine QC (Q4 (d:= .bl (!r.isEmpty)) (ra:=reF (Qf r)) (rb:=reT (.lst [])) rfl rfl ?_) rfl;show gNe (Qf r) (.lst [])=_;unfold gNe;rw[Qju 7 r,if_pos (by rfl)];unfold Qf;rw[QwZ,List.isEmpty_map]
      refine Q5 tst (λh=>?_) (λh=>?_)
      .refine run_seq (QK (lst 0 (λz=>by subst z;cases h)) (Qp ?_));rw[QaK];rfl
      .refine Qp ?_;have:r=[]:=by cases r with | nil=>rfl | cons a r=>cases h
       subst this;rfl
     .rintro J rfl;have nl:=QtA h3
      have ec:=QR (fi:=QcR (Qn 6) (Qn 0)) (t:= .nm 1) (cap:=[none,none,some 5]) (fe:=QJ (Qn 2) (Q0 (Qa (Qn 1) Qe))) (J:=[slI n,slI k,slF (.lst ((Qab n i).map Qf)),slI i,some (.lst ((((Qab n i).take l).flatMap (Qbu n)).map Qf),b4),slF (Qf r),slI (Qa6 r)])
       (toD:=λ(j:Nat)=> .int ((Qa6 r:Int)+j)) (out:=λ(j:Nat)=>Qf (r++[Qa6 r+j])) (List.range (n-Qa6 r)) (QfX (i:=(Qa6 r:Int)) (j:=n) rfl rfl rfl rfl ⋯ ⋯ ⋯ ⋯) rfl λj hj=>⟨[none,slI ((Qa6 r:Int)+j),slF (Qf r)],rfl,reT (Qf (r++[Qa6 r+j])),?_,rfl,rfl⟩
      .refine run_seq (Qu4 rfl ec (by have:=len4 l;have:=Qof n r;simp only[Zd,ZD];lia) λb'=>Qp ⟨b',slF (Qf r),slI (Qa6 r),?_⟩);have:((((Qab n i).take (l+1)).flatMap (Qbu n)).map Qf)=((((Qab n i).take l).flatMap (Qbu n)).map Qf)++(List.range (n-Qa6 r)).map λ(j:Nat)=>Qf (r++[Qa6 r+j]):=by
        rw[Zcq,hl,List.flatMap_append,ZO];show _++(List.flatMap (Qbu n) [r]).map Qf=_;rw[List.flatMap_singleton];unfold Qbu;rw[ZN];rfl
       rw[this];rfl
      .rw[QwX (l:=r) (k:=[Qa6 r+j]) (ra:=reF (Qf r)) rfl rfl (rb:=reT (.lst [.int ((Qa6 r:Int)+j)])) rfl (by unfold Qf;simp) (by rw[h1];simp;lia)]
    .rintro J ⟨b4,j5,j6,rfl⟩;rw[Zbc];obtain⟨M,hM⟩:∃M,Qbi (Qn 4) [slI n,slI k,slF (.lst ((Qab n i).map Qf)),slI i,some (.lst (((Qab n i).flatMap (Qbu n)).map Qf),b4),j5,j6]=some ⟨.lst (((Qab n i).flatMap (Qbu n)).map Qf),false,M⟩/\(M=[]∨M=[4]):=by
      cases b4 with
      | true=>exact⟨[4],rfl,.inr rfl⟩
      | false=>exact⟨[],rfl,.inl rfl⟩
     refine run_seq (QK hM.1 ?_);rw[Qid rfl];refine Qp ?_;rcases hM.2 with h | h<;>rw[h]<;>exact⟨false,_,_,_,_,rfl⟩
   .rintro J h;rw[ZD]at h;exact h
  .rintro J ⟨b,j3,j4,j5,j6,rfl⟩;cases b with
   | true=>exact Qy (r:=⟨.lst ((Qab n k).map Qf),true,[2]⟩) rfl rfl
   | false=>exact Qy (r:=reF (.lst ((Qab n k).map Qf))) rfl rfl
 obtain⟨o,h1,h2⟩:=key;cases o with
 | rt d fr=>cases h2;exact⟨fr,by unfold Qm;rw[h1];rfl⟩
 | _=>exact h2.elim
noncomputable def Qf4(QaH:Den):DS:=(Qc (sIf (bOr (QdJ (QA (Qll "list" vv0))) (QA (dOp gNe (dBf Qan (Qa vv0 Qe)) (dBf Qan (Qa vv1 Qe))))) (Qc (QM (dC (.bl false))) Ql) Ql) (Qc (QaU (Q7 vv0) (.nm 3) (Qc (sIf (QdJ (QA (Qs 2 QaH [] (Qa vv3 (Qa vv2 Qe))))) (Qc (QM (dC (.bl false))) Ql) Ql) Ql)) (Qc (QM (dOp gEq vv0 vv1)) Ql)))
def QjL(d:Den):Prop:=∀(m:Nat) (rs:List (List Int)),(∀r∈rs,r.length=m)->d [.lst (rs.map Qh),.lst (rs.map Qh),.int m]=some (.bl true,true)
def Qtb{du:Den}(hu:Qkh du):QjL (Qm 4 (Qf4 du)):=λm rs hl=>by
 refine QY ?_;refine Q6 (Q5 (b:=false) (Qd2 (a:=false) (b:=false) (Qc7 (b:=true) (QC rfl rfl)) (QvN (xs:=rs.map Qh) (ra:=reF (.lst (rs.map Qh))) (rb:=reF (.lst (rs.map Qh))) rfl rfl rfl rfl)) (λh=>by cases h) (λ_=>Qp ?_));refine Q6 (Qaa (toD:=Qh) rs (λ_ J=>∃j3,J=[slF (.lst (rs.map Qh)),slF (.lst (rs.map Qh)),slI m,j3]) (Qae (r:=reF (.lst (rs.map Qh))) rfl rfl) rfl ⟨none,rfl⟩ ?_ ?_)
 .rintro i r J hi ⟨j3,rfl⟩;have lr:=hl r (Zu hi);have eu:=hu m (fnL r);rw[← QfQ lr]at eu;refine⟨_,rfl,?_⟩;exact Q6 (Q5 (b:=false) (Qc7 (b:=true) (QC (Qu (r:=⟨[Qh r,.int m],false,[]⟩) rfl eu rfl) rfl)) (λh=>by cases h) (λ_=>Qp (Qp ⟨_,rfl⟩)))
 .rintro J ⟨j3,rfl⟩;exact Qy (Qyh (d:= .lst (rs.map Qh)) (ra:=reF (.lst (rs.map Qh))) (rb:=reF (.lst (rs.map Qh))) rfl rfl rfl rfl (QrG 6 rs)) ⟨rfl,rfl⟩
def QtE(m:Mt2):∀n,n<=3->det n (λj r=>m r j)=det n m
 | 0,_=>rfl
 | 1,_=>rfl
 | 2,_=>by
  simp only[det,sm,skp,sgn];simp
  grind
 | 3,_=>by
  simp only[det,sm,skp,sgn];simp
  grind
def Qwf{m:Nat}{T:Mt2}(tp:TP m T)(m3:m<=3):Qge m λj i=>QG T i j:=λk hk c h=>by
 have p:=QkH tp (k+1) hk;have p2:det (k+1) (λj i=>QG T i j)≠0:=by rw[QtE (QG T) (k+1) ⋯];exact λz=>by have p:0<det (k+1) (QG T):=p;lia
 have e:=QvU (n:=k+1) (A:=λj i=>QG T i j) (l:=k) (v:=c) (g:=λ_=>0) ⋯ λr hr=>(h r ⋯).symm;have z:det (k+1) (cup (λj i=>QG T i j) k λ_=>0)=0:=by
  have:=QiU (n:=k+1) (m:=λj i=>QG T i j) (c:=k) ⋯ 0 (λ_=>0);rw[ZT]at this;simpa using this
 rw[z]at e;rcases Int.mul_eq_zero.mp e.symm with q | q
 .exact q
 .exact absurd q p2
def Quv{dt dc:Den}(ht:QqV dt)(hc:QfZ dc):QkR (Qm 1 (QkX dt (Qm 1 (QhS dc)))):=λm R L m3 hw=>by
 have m8:m<=8:=ZJ m3 ∅;have tp:=hw.tp;have big:=hw.big;have et:=ht m R L m8 hw;generalize Qg m (Qb R L)=T at *;obtain⟨k,R',b,ec,C⟩:=hc m m (λj i=>QG T i j) m8 (Zt m) (λj hj r hr=>big r hr j hj) (Qwf tp m3);have eb:b=det m (QG T):=by
  rw[← QtE (QG T) m m3,← C.clr.det];exact QbY λj hj r _=>by rw[C.clr.own j hj]
 have e1:Qm 1 (QhS dc) [Qz m m (QG T)]=slI (det m (QG T)):=by
  refine QY (Qy (r:=reI (det m (QG T))) ?_ ⟨rfl,rfl⟩);rw[← eb];exact(QyD ((Qg5 (fs:=Qa (Qn 0) Qe) (J:=[slF (Qz m m (QG T))]) rfl ec rfl).trans rfl)).trans rfl
 exact QY (Qy (Qu (Qt (Qu rfl et rfl) (QP _)) e1 rfl) ⟨rfl,rfl⟩)
def Qi3{α:Type}{t:Tg}{ft:DT}{fe:DE}{Jc:En}{toD:α->D}{keep:α->Bool}{out:α->D}:∀(xs:List α) (acc:List D) (b:Bool),
  (∀x∈xs,∃J1,Qca t (toD x) Jc=some J1/\ft J1=some (keep x)/\(keep x=true->∃r,fe J1=some r/\r.d=out x))→
  ∃b',(xs.map toD).foldlM (QdG t ft fe Jc) (acc,b)=some (acc++(xs.filter keep).map out,b')
 | [],acc,b,_=>⟨b,⋯⟩
 | x::xs,acc,b,h=>by
  obtain⟨J1,h1,h2,h3⟩:=h x Zv;have ih:=λacc b=>Qi3 xs acc b (λy hy=>h y (ZE _ hy));cases hk:keep x with
  | false=>
   have e:QdG t ft fe Jc (acc,b) (toD x)=some (acc,b):=by simp[QdG,h1,h2,hk]
   obtain⟨b',hb⟩:=ih acc b;exact⟨b',by simp[ZbH,e,hb,hk]⟩
  | true=>
   obtain⟨r,h4,h5⟩:=h3 hk;have e:QdG t ft fe Jc (acc,b) (toD x)=some (acc++[out x],b && r.norm.fr):=by simp[QdG,h1,h2,hk,h4,h5]
   obtain⟨b',hb⟩:=ih (acc++[out x]) (b && r.norm.fr);exact⟨b',by simp[ZbH,e,hb,hk]⟩
def Qt0{α:Type}{fi:DI}{t:Tg}{cap:List (Option Nat)}{ft:DT}{fe:DE}{J:En}{ir:IR}{toD:α->D}{keep:α->Bool}{out:α->D}(xs:List α)(h:fi J=some ir)(hx:ir.items=xs.map toD)
  (turn:∀x∈xs,∃J1,Qca t (toD x) (QdF cap J)=some J1/\ft J1=some (keep x)/\(keep x=true->∃r,fe J1=some r/\r.d=out x)):
  ∃b:Bool,QO fi t cap ft fe J=some (if b=true then(reT (.lst ((xs.filter keep).map out)))else⟨.lst ((xs.filter keep).map out),false,ir.M++Qmb cap J⟩):=by
 obtain⟨b,hb⟩:=Qi3 xs [] true turn;refine⟨b,?_⟩;unfold QO;rw[h,Za,hx,hb];simp
section
variable {m:Nat}{R:Lpp}{x:Mt1}{rs:List (List Int)}
def Qjl(hw:Qaw m R [])(h:RcH m (Qg m (Qb R [])) x):QcG R m x (QZ (Qg m (Qb R [])) x m m)=true:=by
 obtain⟨v,a,b⟩:=h.ex;exact Qj5 λi hi=>⟨Qto hw a b i hi,by rw[← hw.neg hi];exact h.stb i hi⟩
def QeK{F:Nat->Option Int}(h:QcG R m x F=true):∀i,i<m->F i≠none/\x i<QI R [] i:=λi hi=>by
 unfold QcG at h;rw[Zl,Zak,ZaR,Zae]at h;have h1:=h.2 i (Zb.mpr hi);exact⟨λz=>h1 (by rw[z];rfl),of_decide_eq_true (h.1 i (Zb.mpr hi))⟩
def Qmn(hw:Qaw m R [])(A:QkN m (Qg m (Qb R [])) rs)(hc:QcG R m x (QZ (Qg m (Qb R [])) x m m)=true):Qdf m x∈rs:=by
 obtain⟨r,hr,c⟩:=A.all x;have rr:=A.rc.rc r hr;obtain⟨d,e⟩:=Qoy c;have z:=Qwg hw (λi hi=>(QeK hc i hi).1) (λi hi=>(QeK (Qjl hw rr) i hi).1) (λp hp=>by rw[hw.neg hp];exact(QeK hc p hp).2) rr.stb e;have q:∀j,j<m->x j=fnL r j:=λj hj=>by rw[e j hj,QaJ j rfl z,Qrr]
 have:Qdf m x=r:=by rw[QoR q];exact QgG (A.rc.len r hr)
 rw[this];exact hr
def QuT{dt:Den}(ht:Qhl dt)(m0:0<m)(m8:m<=8)(hw:Qaw m R [])(A:QkN m (Qg m (Qb R [])) rs){r:List Int}(hr:r∈rs):∃t,dt [Qo m R [],Qh r]=slT (Qf t)/\PO R m (fnL r,t):=by
 have rr:=A.rc.rc r hr;have hc:=Qjl hw rr;obtain⟨t,mk,e,tl,tp,Dp,eH⟩:=ht m R (fnL r) m0 m8 hw.good.2.2.1 hw.good.1 rr.nn hc;rw[← QfQ (A.rc.len r hr)]at e;exact⟨t,e,⟨mk,Dp,eH⟩,tl,tp,hc,λj hj=>⟨rr.nn j hj,(QeK hc j hj).2⟩⟩
def QzY{t:List Nat}{dep:Mt1}(hw:Qaw m R [])(tl:t.length=m)(tp:t.Pairwise (· < ·))(D:Qcv R m t dep):PO R m (Qag R dep t,t):=
 ⟨⟨dep,D,λ_ _=>rfl⟩,tl,tp,Qr7 hw.good.1 D,λj hj=>by
  have:=QfC hw.good.1 D hj;exact⟨show 0<=Qag R dep t j by lia,this.2⟩⟩
end
noncomputable def QfT(Qat:Den)(QdP:Den)(QaV:Den):DS:=(Qc (Qc4 (Qs 1 Qat [] (Qa vv0 Qe))) (Qc (QM (Qd6 (Qa (QO (Q7 (Qs 1 QaV [] (Qa vv0 Qe))) (.nm 1) [none,none,some 0] Qac (Qs 2 QdP [] (Qa vv2 (Qa vv1 Qe)))) Qe))) Ql))
def QnA(d:Den):Prop:=∀(m:Nat) (R:Lpp),0<m->m<=3->Qaw m R []->det m (QG (Qg m (Qb R [])))<=300->∃qs:List (List Int),d [Qo m R []]=some (.lst (qs.map Qh),true)/\SrR qs/\qs.Nodup/\∀q,q∈qs↔∃t h,q=Qb8 t/\PO R m (h,t)
def Qxb{dp dt da:Den}(hp:Qgq dp)(ht:Qhl dt)(ha:QkI da):QnA (Qm 1 (QfT dp dt da)):=λm R m0 m3 hw hd=>by
 obtain⟨rs,ea,A⟩:=ha m R [] m0 m3 hw hd;have F:=λr (hr:r∈rs)=>QuT ht m0 ⋯ hw A hr;have hR:=hw.good.1;obtain⟨f,hf⟩:∃f:List Int->List Nat,∀r∈rs,dt [Qo m R [],Qh r]=slT (Qf (f r))/\PO R m (fnL r,f r):=⟨λr=>if h:r∈rs then Classical.choose (F r h)else [],λr hr=>by
  dsimp only;rw[dif_pos hr];exact Classical.choose_spec (F r hr)⟩
 have ec:=QR (fi:=Q7 (Qs 1 da [] (Qa (Qn 0) Qe))) (t:= .nm 1) (cap:=[none,none,some 0]) (fe:=Qs 2 dt [] (Qa (Qn 2) (Qa (Qn 1) Qe))) (J:=[slF (Qo m R [])])
  (toD:=Qh) (out:=λr=>Qh (Qb8 (f r))) rs (Qae (Qu (r:=⟨[Qo m R []],false,[]⟩) rfl ea rfl) rfl) rfl λr hr=>⟨[none,slF (Qh r),slF (Qo m R [])],rfl,reT (Qh (Qb8 (f r))),by rw[← QsO];exact Qu (r:=⟨[Qo m R [],Qh r],false,[]⟩) rfl (hf r hr).1 rfl,rfl,rfl⟩
 have em:rs.map (λr=>Qh (Qb8 (f r)))=(rs.map λr=>Qb8 (f r)).map Qh:=by rw[ZN];rfl
 rw[em]at ec;have ne:rs≠[]:=λz=>by
  obtain⟨r,hr,_⟩:=A.all λ_=>0;rw[z]at hr;cases hr
 have pm:=QeR (rs.map λr=>Qb8 (f r));refine⟨QfP (rs.map λr=>Qb8 (f r)),QY ?_,QfJ _,pm.nodup_iff.mpr ?_,λq=>?_⟩
 .refine run_seq (Qb3 (Qu (r:=⟨[Qo m R []],false,[]⟩) rfl (hp m R) rfl) ?_);exact Qy (Qjv ec (by simpa using ne)) ⟨rfl,rfl⟩
 .unfold List.Nodup;rw[ZX];refine(List.Pairwise.and_mem.mp A.rc.nd).imp λ{r s} q e=>q.2.2 ?_;exact QlH (A.rc.len r q.1) (A.rc.len s q.2.1) (((hf r q.1).2.same hR (hf s q.2.1).2).mpr (Qnx e))
 .rw[pm.mem_iff,Zs];constructor
  .rintro⟨r,hr,rfl⟩;exact⟨f r,fnL r,rfl,(hf r hr).2⟩
  .rintro⟨t,h,rfl,p⟩;have hr:=Qmn hw A p.com;refine⟨_,hr,?_⟩;exact congrArg Qb8 (((hf _ hr).2.same hR p).mp λj hj=>QgF hj)
def QfH{den:Den}{d x:D}{i:Nat}{b:Bool}{J:En}(h:J[i]? =some (some (x,b)))(hf:x.flat=false)(hd:den [x]=some (d,true)):Qs 1 den [] (Qa (Qn i) Qe) J=some ⟨d,true,[]⟩:=by
 obtain⟨M,e⟩:=QwE h hf;exact Qu (Qt e (QP _)) hd rfl
def Qg2{den:Den}{d a b c:D}{fa fb fc:DE}{ra rb rc:HS.R}{J:En}(ha:fa J=some ra)(ea:ra.d=a)(hb:fb J=some rb)(eb:rb.d=b)(hc:fc J=some rc)(ec:rc.d=c)(hd:den [a,b,c]=some (d,true)):Qs 3 den [] (Qa fa (Qa fb (Qa fc Qe))) J=some ⟨d,true,[]⟩:=
 Qu (Qt ha (Qt hb (Qt hc (QP _)))) (by subst ea eb ec;exact hd) rfl
def QxR{i:Nat}{J:En}{d:D}{b:Bool}(h:J[i]? =some (some (d,b))):∃r,Qn i J=some r/\r.d=d:=⟨_,Qcg h,by split;rfl;split<;>rfl⟩
def QmN{α:Type}{l k:List α}(h1:l.Nodup)(h2:k.Nodup)(h:∀a,a∈l↔a∈k):l.Perm k:=(List.perm_ext_iff_of_nodup h1 h2).mpr h
noncomputable def Qmw(Qci:Den)(Qdl:Den)(QcV:Den)(Qcr:Den)(Qby:Den)(Qb2:Den)(Qa9:Den)(QdZ:Den)(QaV:Den)(Qbr:Den)(QaZ:Den):DS:=(Qc (Qv 1 (Qs 2 Qci [] (Qa vv0 (Qa QBk Qe)))) (Qc (Qv 2 (Qs 1 Qdl [] (Qa vv1 Qe))) (Qc (sIf (QA (dOp gEq (dOp QbE (Qk vv1 QBg) kk8) kk1)) (Qc (Qv 2 (Qs 1 QcV [] (Qa (Qk vv1 QBh) Qe))) Ql) Ql) (Qc (Qv 3 (QO (Q7 (Qs 2 Qcr [] (Qa (dBf Qan (Qa (Qk vv2 kk1) Qe)) (Qa (Qk vv2 kk0) Qe)))) (.nm 1) [none,none,some 2] (QA (Qs 2 Qby [] (Qa vv2 (Qa vv1 Qe)))) vv1)) (Qc (Qv 4 (Qs 1 Qb2 [] (Qa vv2 Qe))) (Qc (sIf (QdJ (QA (Qs 3 Qa9 [] (Qa vv4 (Qa vv3 (Qa (Qk vv2 kk0) Qe)))))) (Qc (QM (dC (.bl false))) Ql) Ql) (Qc (Qv 5 (Qd6 (Qa (QO (Q7 vv3) (.nm 1) [none,none,some 2] Qac (Qs 2 QdZ [] (Qa vv2 (Qa (dList (Qa vv1 Qe)) Qe)))) Qe))) (Qc (Qv 6 (Qs 1 QaV [] (Qa vv2 Qe))) (Qc (Qv 7 (Qs 1 Qbr [] (Qa vv2 Qe))) (Qc (sIf (bOr (QdJ (QA (Qs 3 Qa9 [] (Qa vv6 (Qa vv5 (Qa (Qk vv2 kk0) Qe)))))) (bOr (QdJ (QA (Qs 1 QaZ [] (Qa vv7 Qe)))) (QA (dOp gNe vv7 (dBf Qan (Qa vv3 Qe)))))) (Qc (QM (dC (.bl false))) Ql) Ql) (Qc (QaU (QcR kk1 (dBf Qan (Qa vv5 Qe))) (.nm 8) (Qc (sIf (QA (dOp gEq (Qk vv5 (dOp Qbo vv8 kk1)) (Qk vv5 vv8))) (Qc (QM (dC (.bl false))) Ql) Ql) Ql)) (Qc (Qb1 4 (Qe4 Q8 kk0) kk0) (Qc (Qb1 4 Q8 (Q0 Qe)) (Qc (Qlh 6 Q8) (Qc (QM (Qhf (Qs 3 Qa9 [] (Qa (Qs 1 Qb2 [] (Qa vv2 Qe)) (Qa vv3 (Qa (Qk vv2 kk0) Qe)))) (Qs 3 Qa9 [] (Qa (Qs 1 QaV [] (Qa vv2 Qe)) (Qa vv5 (Qa (Qk vv2 kk0) Qe)))))) Ql)))))))))))))))
set_option maxHeartbeats 0 in
def QyM{dc dn dw dl di dat ds dh da dm dwh:Den}(hc:CellsOk dc)(hn:Ql1 dn)(hwd:Qjn dw)(hl:Qio dl)(hi:QjF di)(hat:QnA dat)(hs:QjL ds)(hh:QjM dh)(ha:QkI da)(hm:QkR dm)(hwh:Qiy dwh)(ns:List Int)(hns:ns.length<=63):Qm 9 (Qmw dc dn dw dl di dat ds dh da dm dwh) [.lst (ns.map .int)]=slT (.bl true):=by
 obtain⟨cs,hcells,lcs,pcs⟩:=hc ns 14 hns ∅;have cell:∀k:Nat,k<14->∃c,cs[k]? =some c/\0<=c:=λk hk=>⟨cs[k]'⋯,Zg ⋯,(pcs _ (Zbp _)).1⟩;obtain⟨c12,e12,_⟩:=cell 12 ∅;obtain⟨c13,e13,p13⟩:=cell 13 ∅;obtain⟨m1,R1,en,m10,m13,R18,hw1⟩:=hn cs lcs pcs;refine QY ?_;refine rsa (Qu (r:=⟨[.lst (ns.map .int),.int 14],false,[]⟩) rfl hcells rfl) ?_;refine rsa (Qu (r:=⟨[Qh cs],true,[1]⟩) rfl en rfl) ?_;refine Qal (P:=λJ=>∃(m:Nat) (R:Lpp),0<m/\m<=3/\R.length<=24/\Qaw m R []/\det m (QG (Qg m (Qb R [])))<=300/\J=[slF (.lst (ns.map .int)),slT (Qh cs),slT (Qo m R []),none,none,none,none,none,none]) ?_ ?_
 .refine Q5 (b:=decide (c12 % 8=1)) (QC (Qgt (a:=c12 % 8) (b:=1) (QbT (a:=c12) (b:=8) (Qdx (ns:=cs) (i:=12) (v:=c12) (ra:=⟨Qh cs,true,[1]⟩) (rb:=reI 12) rfl rfl rfl rfl ∅ e12) rfl rfl rfl ∅) rfl rfl rfl) rfl) (λ_=>?_) (λ_=>Qp ⟨m1,R1,m10,m13,⋯,hw1,QxA hw1 m10 m13 R18,rfl⟩);obtain⟨a,b,c,a0,b0,a11,b11,c2,ew⟩:=hwd c13 p13;refine rsa (Qu (Qt (Qdx (ns:=cs) (i:=13) (v:=c13) (ra:=⟨Qh cs,true,[1]⟩) (rb:=reI 13) rfl rfl rfl rfl ∅ e13) (QP _)) ew rfl) ?_;exact Qp ⟨2,Qbp a b c,∅,∅,by unfold Qbp;simp;lia,Qka a0 b0 ⋯,QrR a0 b0 a11 b11 c2,rfl⟩
 rintro J ⟨m,R,m0,m3,R24,hw,hd,rfl⟩;have m8:m<=8:= ⋯
 have hR:=hw.good.1;have hRl:R.length<=200:= ⋯
 obtain⟨rs,ea,A⟩:=ha m R [] m0 m3 hw hd;obtain⟨qs,et,qsr,qnd,qm⟩:=hat m R m0 m3 hw hd;have em:=hm m R [] m3 hw;obtain⟨frl,el⟩:=hl R.length m R24 m3
 let keep:List Nat->Bool:=λt=>match di [Qo m R [],Qf t]with | some (.bl b,_)=>b | _=>false
 have hk:∀t∈Qab R.length m,di [Qo m R [],Qf t]=slT (.bl (keep t))/\(keep t=true↔∃dep,Qcv R m t dep):=λt ht=>by
  obtain⟨h1,h2,h3⟩:=QcI.mp ht;obtain⟨b,e,k⟩:=hi m R t m0 m8 hR h1 h2 h3;have:keep t=b:=by show(match di [Qo m R [],Qf t]with | some (.bl b,_)=>b | _=>false)=b;rw[e]
  rw[this];exact⟨e,k⟩
 clear_value keep
 have dm:∀t,t∈(Qab R.length m).filter keep↔∃h,PO R m (h,t):=λt=>by
  rw[Zx];constructor
  .rintro⟨h1,h2⟩;obtain⟨dep,D⟩:=(hk t h1).2.mp h2;exact⟨_,QzY hw (QcI.mp h1).1 (QcI.mp h1).2.1 D⟩
  .rintro⟨h,p⟩;obtain⟨dep,D,_⟩:=p.dep;have ht:t∈Qab R.length m:=QcI.mpr ⟨p.len,p.inc,D.tl⟩;exact⟨ht,(hk t ht).2.mpr ⟨dep,D⟩⟩
 have dst:((Qab R.length m).filter keep).Pairwise λx y=>HT.lexLt (Qb8 x) (Qb8 y)=true:=(Qrc m).filter _;have dlen:∀t∈(Qab R.length m).filter keep,t.length=m:=λt ht=>(QcI.mp (Zx.mp ht).1).1
 obtain⟨bc,ec⟩:=Qt0 (fi:=Q7 (Qs 2 dl [] (Qa (dBf Qan (Qa (Qk (Qn 2) (dC (.int 1))) Qe)) (Qa (Qk (Qn 2) (dC (.int 0))) Qe)))) (t:= .nm 1) (cap:=[none,none,some 2]) (ft:=QA (Qs 2 di [] (Qa (Qn 2) (Qa (Qn 1) Qe)))) (fe:=Qn 1) (J:=[slF (.lst (ns.map .int)),slT (Qh cs),slT (Qo m R []),none,none,none,none,none,none]) (ir:=⟨(Qab R.length m).map Qf,[]⟩)
  (toD:=Qf) (keep:=keep) (out:=Qf) (Qab R.length m) (by
   refine(Qae (r:=if frl=true then(reT (.lst ((Qab R.length m).map Qf)))else HS.R.norm (reF (.lst ((Qab R.length m).map Qf)))) (xs:=(Qab R.length m).map Qf) ?_ ?_).trans ?_
   .unfold Qs;rw[Qt ((Qbg (xs:=R.map pairD) (r:=⟨Qr R,true,[2]⟩) rfl rfl).trans (by rw[Zd])) (Qt (r:=reI m) rfl (QP _)),Za];show(dl [.int R.length,.int m]).map _=_;rw[el];rfl
   .cases frl<;>rfl
   .cases frl<;>rfl) rfl λt ht=>⟨[none,slF (Qf t),slF (Qo m R [])],rfl,QC (Qu (r:=⟨[Qo m R [],Qf t],false,[]⟩) rfl (hk t ht).1 rfl) rfl,λ_=>⟨(reF (Qf t)),rfl,rfl⟩⟩
 generalize hdue:(Qab R.length m).filter keep=due at dm dst dlen ec;have dnd:due.Nodup:=dst.imp λ{x y} h e=>by rw[e,Qlv]at h;cases h
 have qd:qs=due.map Qb8:=by
  refine QiA qsr ?_ (QmN qnd ?_ λq=>?_)
  .unfold SrR;rw[ZX];exact dst.imp λh=>Qj4 _ _ h
  .unfold List.Nodup;rw[ZX];exact dnd.imp λh e=>h (Qnx e)
  .rw[qm,Zs];constructor
   .rintro⟨t,h,rfl,p⟩;exact⟨t,(dm t).mpr ⟨h,p⟩,rfl⟩
   .rintro⟨t,h,rfl⟩;obtain⟨g,p⟩:=(dm t).mp h;exact⟨t,g,rfl,p⟩
 let H:List Nat->List Int:=λt=>match dh [Qo m R [],Qf t]with | some (.lst xs,_)=>(Qa4 xs).getD [] | _=>[]
 have hH:∀t h,PO R m (h,t)->dh [Qo m R [],Qf t]=slT (Qh (Qdf m h))/\H t=Qdf m h:=λt h p=>by
  obtain⟨dep,Dp,eH⟩:=p.dep;have dl:=QuE m0 hR Dp;have f1:=hh m R t dep m0 m8 hRl hR ⟨p.len,p.inc,Dp.tl,λv hv z=>by rw[dl v hv]at z;cases z⟩ Dp dl;rw[Qeh eH,Qnj]at f1;refine⟨f1,?_⟩;show(match dh [Qo m R [],Qf t]with | some (.lst xs,_)=>(Qa4 xs).getD [] | _=>[])=_;rw[f1];show(Qa4 ((Qdf m h).map .int)).getD []=_;rw[Qdg];rfl
 clear_value H
 have pH:(due.map H).Perm rs:=by
  refine QmN ?_ A.rc.nd λr=>?_
  .unfold List.Nodup;rw[ZX];refine(List.Pairwise.and_mem.mp dnd).imp λ{x y} q e=>q.2.2 ?_;obtain⟨g,p⟩:=(dm x).mp q.1;obtain⟨k,p'⟩:=(dm y).mp q.2.1;rw[(hH x g p).2,(hH y k p').2]at e;exact(p.same hR p').mp λj hj=>by show g j=k j;rw[← QgF (f:=g) hj,e,QgF hj]
  .rw[Zs];constructor
   .rintro⟨t,h,rfl⟩;obtain⟨g,p⟩:=(dm t).mp h;rw[(hH t g p).2];exact Qmn hw A p.com
   .intro hr;have rr:=A.rc.rc r hr;have hcm:=Qjl hw rr;have:r∈rs:=hr;obtain⟨t,ht⟩:∃t,PO R m (fnL r,t):=by
     obtain⟨mk,M,_⟩:=Qpf hR hcm;obtain⟨t,tp,_,ts⟩:=QmM ((List.range m).map (Qa3 R mk (fnL r)));obtain⟨D,e⟩:=M.tree hR tp;refine⟨t,⟨mk,D,e⟩,by rw[tp.length_eq];simp,ts ?_,hcm,λj hj=>⟨rr.nn j hj,(QeK hcm j hj).2⟩⟩;unfold List.Nodup;rw[ZX];refine(List.Pairwise.and_mem.mp (Zat (n:=m))).imp λ{a b} q e=>q.2.2 ?_;exact M.inj hR (Zb.mp q.1) (Zb.mp q.2.1) e
    exact⟨t,(dm t).mpr ⟨_,ht⟩,by rw[(hH t _ ht).2,QgG (A.rc.len r hr)]⟩
 have hsrt:QfP (due.map H)=rs:=QiA (QfJ _) A.srt ((QeR _).trans pH);have hlen:(due.length:Int)=det m (QG (Qg m (Qb R []))):=by rw[← A.many,← pH.length_eq,Zd]
 have dne:due≠[]:=λz=>by
  obtain⟨r,hr,_⟩:=A.all λ_=>0;rw[← pH.mem_iff,z]at hr;cases hr
 subst qd;have st:=hs m (due.map Qb8) λr hr=>by
  obtain⟨t,h,rfl⟩:=Zs.mp hr;show(t.map _).length=m;rw[Zd];exact dlen t h
 have sr:=hs m rs A.rc.len;rw[← Qyl]at et st;refine Qal (P:=λJ=>∃b2 b3,J=[slF (.lst (ns.map .int)),slT (Qh cs),some (Qo m R [],b2),some (.lst (due.map Qf),b3),none,none,none,none,none]) ?_ ?_
 .refine QK ec ?_;cases bc with
  | true=>rw[if_pos rfl,QaK];exact⟨true,true,rfl⟩
  | false=>rw[if_neg ∅,Qid rfl];exact⟨false,false,rfl⟩
 rintro J ⟨b2,b3,rfl⟩;have it:∀{J:En}{b:Bool},J[2]? =some (some (Qo m R [],b))->Qk (Qn 2) (dC (.int 0)) J=some (reI m):=λ{J b} h=>(Qdk (m:=m) (R:=R) (L:=[]) (Qcg h) (by cases b<;>rfl)).1;have v3:∀{J:En}{b:Bool},J[3]? =some (some (.lst (due.map Qf),b))->∃r,Qn 3 J=some r/\r.d= .lst (due.map Qf):=λh=>QxR h;refine rsa (QfH (x:=Qo m R []) (b:=b2) rfl rfl et) ?_;change Run _ [slF (.lst (ns.map .int)),slT (Qh cs),some (Qo m R [],b2),some (.lst (due.map Qf),b3),slT (.lst (due.map Qf)),none,none,none,none] _;obtain⟨r3,x3,y3⟩:=v3 (J:=[slF (.lst (ns.map .int)),slT (Qh cs),some (Qo m R [],b2),some (.lst (due.map Qf),b3),slT (.lst (due.map Qf)),none,none,none,none]) (b:=b3) rfl;refine Q6 (Q5 (b:=false) (Qc7 (b:=true) (QC (Qg2 (ra:=⟨.lst (due.map Qf),true,[4]⟩) rfl rfl x3 y3 (it rfl) rfl st) rfl)) (λh=>by cases h) (λ_=>Qp ?_))
 have eh:=QR (fi:=Q7 (Qn 3)) (t:= .nm 1) (cap:=[none,none,some 2]) (fe:=Qs 2 dh [] (Qa (Qn 2) (Qa (dList (Qa (Qn 1) Qe)) Qe))) (J:=[slF (.lst (ns.map .int)),slT (Qh cs),some (Qo m R [],b2),some (.lst (due.map Qf),b3),slT (.lst (due.map Qf)),none,none,none,none])
  (toD:=Qf) (out:=λt=>Qh (H t)) due (Qae x3 y3) rfl λt ht=>⟨[none,slF (Qf t),slF (Qo m R [])],rfl,reT (Qh (H t)),by
   obtain⟨g,p⟩:=(dm t).mp ht;obtain⟨h1,h2⟩:=hH t g p;rw[h2];exact Qu (Qt (r:=reF (Qo m R [])) rfl (Qt (QvD (l:=t) (rs:=⟨[Qf t],false,[]⟩) rfl rfl) (QP _))) h1 rfl,rfl,rfl⟩
 have em2:due.map (λt=>Qh (H t))=(due.map H).map Qh:=by rw[ZN];rfl
 rw[em2]at eh;have e5:=Qjv eh (by simpa using dne);rw[hsrt]at e5;refine rsa e5 ?_;refine rsa (QfH (x:=Qo m R []) (b:=b2) rfl rfl ea) ?_;refine rsa (QfH (x:=Qo m R []) (b:=b2) rfl rfl em) ?_;change Run _ [slF (.lst (ns.map .int)),slT (Qh cs),some (Qo m R [],b2),some (.lst (due.map Qf),b3),slT (.lst (due.map Qf)),slT (.lst (rs.map Qh)),slT (.lst (rs.map Qh)),slI (det m (QG (Qg m (Qb R [])))),none] _;obtain⟨r3,x3,y3⟩:=v3 (J:=[slF (.lst (ns.map .int)),slT (Qh cs),some (Qo m R [],b2),some (.lst (due.map Qf),b3),slT (.lst (due.map Qf)),slT (.lst (rs.map Qh)),slT (.lst (rs.map Qh)),slI (det m (QG (Qg m (Qb R [])))),none]) (b:=b3) rfl;refine Q6 (Q5 (b:=false) (Qd2 (a:=false) (b:=false) (Qc7 (b:=true) (QC (Qg2 (ra:=⟨.lst (rs.map Qh),true,[6]⟩) (rb:=⟨.lst (rs.map Qh),true,[5]⟩) rfl rfl rfl rfl (it rfl) rfl sr) rfl)) (Qd2 (a:=false) (b:=false) (Qc7 (b:=true) (QC (Qu (r:=⟨[.int (det m (QG (Qg m (Qb R []))))],true,[]⟩) rfl (hwh _) rfl) rfl)) (QC (b:=false) ((QdC (a:=det m (QG (Qg m (Qb R [])))) (b:=(due.length:Int)) rfl rfl ((Qbg x3 y3).trans (by rw[Zd])) rfl).trans (by rw[hlen,decide_eq_true rfl])) rfl))) (λh=>by cases h) (λ_=>Qp ?_));have rlen:(rs.length:Int)=det m (QG (Qg m (Qb R []))):=A.many;have pos:0<rs.length:=List.length_pos_iff.mpr λz=>dne (by have:=pH.length_eq;rw[z,Zd]at this;exact Zax this);refine Q6 (Qaa (toD:=λ(i:Nat)=> .int (1+(i:Int))) (List.range (rs.length-1)) (λ_ J=>∃j8,J=[slF (.lst (ns.map .int)),slT (Qh cs),some (Qo m R [],b2),some (.lst (due.map Qf),b3),slT (.lst (due.map Qf)),slT (.lst (rs.map Qh)),slT (.lst (rs.map Qh)),slI (det m (QG (Qg m (Qb R [])))),j8]) (QfX (i:=1) (j:=rs.length) rfl rfl (QoL (r:=⟨.lst (rs.map Qh),true,[5]⟩) rfl rfl) rfl ⋯ ⋯ ∅ ∅) rfl ⟨none,rfl⟩ ?_ ?_)
 .rintro i i' J hix ⟨j8,rfl⟩;have hi':i<rs.length-1/\i=i':=by
   obtain⟨h1,h2⟩:=Zi.mp hix;simp at h1 h2;exact⟨h1,h2⟩
  obtain⟨hil,rfl⟩:=hi';obtain⟨a,ha'⟩:∃a,rs[i]? =some a:=⟨_,Zg ⋯⟩;obtain⟨b,hb'⟩:∃b,rs[i+1]? =some b:=⟨_,Zg ⋯⟩;have hne:a≠b:=λe=>by
   obtain⟨ka,ea⟩:=Zi.mp ha';obtain⟨kb,eb⟩:=Zi.mp hb';have:=(Zan.mp A.rc.nd) i (i+1) ka kb ⋯;rw[ea,eb]at this;exact this e
  refine⟨_,rfl,?_⟩;refine Q6 (Q5 (b:=false) (QC (b:=false) (Q4 (d:= .bl false) (QgY (rs:=rs) (k:=i) (r:=a) (b:=true) (M:=[5]) rfl (rb:=reI i) ((Qke (a:=1+(i:Int)) (b:=1) rfl rfl rfl rfl).trans (by rw[show 1+(i:Int)-1=i by lia])) rfl ha') (QgY (rs:=rs) (k:=i+1) (r:=b) (b:=true) (M:=[5]) rfl (rb:=reI (1+(i:Int))) rfl (by show D.int (1+(i:Int))=D.int ((i+1:Nat):Int);rw[Int.natCast_succ,Int.add_comm]) hb') ?_) rfl) (λh=>by cases h) (λ_=>Qp (Qp ⟨_,rfl⟩)));show gEq (Qh a) (Qh b)=_;rw[QfQ (A.rc.len a (Zu ha')),QfQ (A.rc.len b (Zu hb'))];unfold gEq;rw[Qqx 7,Qqx 7,if_pos (by rfl),Qx1,decide_eq_false];exact λh=>hne (QlH (A.rc.len a (Zu ha')) (A.rc.len b (Zu hb')) h)
 .rintro J ⟨j8,rfl⟩;obtain⟨t0,dr,edue⟩:∃t0 dr,due=t0::dr:=by
   cases due with
   | nil=>exact absurd rfl dne
   | cons t0 dr=>exact⟨t0,dr,rfl⟩
  refine run_seq (Qvl (xs:=t0.map λ(p:Nat)=> .int (p:Int)) (rs:=dr.map Qf) (by rw[edue];rfl) (v:=0) rfl (by rw[Zd,dlen t0 (by rw[edue];simp)];lia) ?_);have dl1:(due.length:Int)=dr.length+1:=by rw[edue];simp
  have dl2:(dr.length:Int)<=300:= ⋯
  refine run_seq (QuF (xs:= .lst ((t0.map λ(p:Nat)=>D.int (p:Int))++[.int 0])::dr.map Qf) (d:= .lst []) rfl rfl (by simp;lia) ?_);refine run_seq (QtL (xs:=rs.map Qh) rfl ?_);generalize D.lst ((D.lst ((t0.map λ(p:Nat)=>D.int (p:Int))++[.int 0])::dr.map Qf)++[.lst []])=d4;change Run _ [slF (.lst (ns.map .int)),slT (Qh cs),some (Qo m R [],b2),some (.lst (due.map Qf),b3),some (d4,true),slT (.lst (rs.map Qh)),slT (.lst []),slI (det m (QG (Qg m (Qb R [])))),j8] _;obtain⟨r3,x3,y3⟩:=v3 (J:=[slF (.lst (ns.map .int)),slT (Qh cs),some (Qo m R [],b2),some (.lst (due.map Qf),b3),some (d4,true),slT (.lst (rs.map Qh)),slT (.lst []),slI (det m (QG (Qg m (Qb R [])))),j8]) (b:=b3) rfl;exact Qy (Qyq (Qg2 (QfH (x:=Qo m R []) (b:=b2) rfl rfl et) rfl x3 y3 (it rfl) rfl st) (Qg2 (QfH (x:=Qo m R []) (b:=b2) rfl rfl ea) rfl (rb:=⟨.lst (rs.map Qh),true,[5]⟩) rfl rfl (it rfl) rfl sr)) ⟨rfl,rfl⟩
end HS
namespace Law
open PySem L2 HS HN
noncomputable section
def top(i:Nat):Stmt:=PySem.Challenge.pw_heapstill_k54_whole_as_many_trees.main.body.getD i (.Pass ⟨0,0,0,0⟩)
abbrev cst:List (Str×Cn):=[("MOST_HEAPS",300)]
abbrev Sc(s:Stmt)(P:List Str):Prop:=Qfg (namesOf (QB s)) P (QB s)
def scM{s:Stmt}{P:List Str}(h1:(QB s).kind= .function)(h2:(QB s).isCoroutine=false)(h3:(QB s).isGenerator=false)(h4:(namesOf (QB s)).Nodup/\(namesOf (QB s)).take P.length=P/\(∀x∈P,(QB s).names.lookup x=some .local ∨(QB s).names.lookup x=some .cell)/\∀y∈(QB s).names,y.2≠ .free):Sc s P:=⟨h1,h2,h3,h4.1,h4.2.1,h4.2.2.1,h4.2.2.2⟩
noncomputable abbrev U(s:Stmt)(Γ:List (Str×FnR)):=Ts (QnT s Γ cst) (Qck s)
noncomputable abbrev Cp(s:Stmt)(Γ:List (Str×FnR)):Option (U s Γ):=tSs 60 (QnT s Γ cst) (Qck s)
noncomputable abbrev Dn(s:Stmt){Γ:List (Str×FnR)}(u:U s Γ):Den:=Qm (namesOf (QB s)).length u.1
noncomputable abbrev Gc(x:Str)(n:Nat)(d:Den)(Γ:List (Str×FnR)):List (Str×FnR):=(x,⟨n,[],d⟩)::Γ
abbrev QcT:=top 10
def QoB:Sc QcT ["net","rows"]:=scM rfl rfl rfl (by decide+kernel)
def Qp4:Qw "need_rows" QcT ["net","rows"]:=λ_ _ _ _ _ _=>lc λ_=>lc λ_=>l0 rfl
noncomputable def Qjg:U QcT []:=(Cp QcT []).get (by decide+kernel)
abbrev QaG:=Dn QcT Qjg
abbrev Qf8:=Gc "need_rows" 2 QaG []
abbrev Qcm:=top 11
def QmW:Sc Qcm ["net","heaps"]:=scM rfl rfl rfl (by decide+kernel)
def Qpj:Qw "need_heaps" Qcm ["net","heaps"]:=λ_ _ _ _ _ _=>lc λ_=>lc λ_=>l0 rfl
noncomputable def Qib:U Qcm Qf8:=(Cp Qcm Qf8).get (by decide+kernel)
abbrev Qas:=Dn Qcm Qib
abbrev QfN:=Gc "need_heaps" 2 Qas Qf8
abbrev Qfe:=top 13
def Qup:Sc Qfe ["roads","lanes"]:=scM rfl rfl rfl (by decide+kernel)
def QxO:Qw "steps" Qfe ["roads","lanes"]:=λ_ _ _ _ _ _=>lc λ_=>lc λ_=>l0 rfl
noncomputable def Qrh:U Qfe QfN:=(Cp Qfe QfN).get (by decide+kernel)
abbrev Qch:=Dn Qfe Qrh
abbrev Qk4:=Gc "steps" 2 Qch QfN
abbrev Qcc:=top 14
def Qm5:Sc Qcc ["net"]:=scM rfl rfl rfl (by decide+kernel)
def Qno:Qw "toll_table" Qcc ["net"]:=λ_ _ _ _ _ _=>lc λ_=>l0 rfl
noncomputable def Qh6:U Qcc Qk4:=(Cp Qcc Qk4).get (by decide+kernel)
abbrev QX:=Dn Qcc Qh6
abbrev QfO:=Gc "toll_table" 1 QX Qk4
abbrev QcP:=top 15
def Qpd:Sc QcP ["net"]:=scM rfl rfl rfl (by decide+kernel)
def QpS:Qw "span_list" QcP ["net"]:=λ_ _ _ _ _ _=>lc λ_=>l0 rfl
noncomputable def Qjk:U QcP QfO:=(Cp QcP QfO).get (by decide+kernel)
abbrev Qba:=Dn QcP Qjk
abbrev Qf7:=Gc "span_list" 1 Qba QfO
abbrev Qfq:=top 16
def Qwe:Sc Qfq ["net","row","counts"]:=scM rfl rfl rfl (by decide+kernel)
def Qxa:Qw "after" Qfq ["net","row","counts"]:=λ_ _ _ _ _ _=>lc λ_=>lc λ_=>lc λ_=>l0 rfl
noncomputable def Qqp:U Qfq Qf7:=(Cp Qfq Qf7).get (by decide+kernel)
abbrev Qft:=Dn Qfq Qqp
abbrev Qk9:=Gc "after" 3 Qft Qf7
abbrev Qfn:=top 18
def Qwh:Sc Qfn ["many","roads","lanes"]:=scM rfl rfl rfl (by decide+kernel)
def Qxk:Qw "leads" Qfn ["many","roads","lanes"]:=λ_ _ _ _ _ _=>lc λ_=>lc λ_=>lc λ_=>l0 rfl
noncomputable def QqZ:U Qfn Qk9:=(Cp Qfn Qk9).get (by decide+kernel)
abbrev Qfl:=Dn Qfn QqZ
abbrev QlW:=Gc "leads" 3 Qfl Qk9
abbrev Qdn:=top 19
def QpX:Sc Qdn ["net"]:=scM rfl rfl rfl (by decide+kernel)
def Qr0:Qw "is_plain" Qdn ["net"]:=λ_ _ _ _ _ _=>lc λ_=>l0 rfl
noncomputable def Qj6:U Qdn QlW:=(Cp Qdn QlW).get (by decide+kernel)
abbrev Qdy:=Dn Qdn Qj6
abbrev Qg9:=Gc "is_plain" 1 Qdy QlW
abbrev Qcd:=top 20
def Qm8:Sc Qcd ["net"]:=scM rfl rfl rfl (by decide+kernel)
def Qpk:Qw "need_plain" Qcd ["net"]:=λ_ _ _ _ _ _=>lc λ_=>l0 rfl
noncomputable def Qih:U Qcd Qg9:=(Cp Qcd Qg9).get (by decide+kernel)
abbrev Qat:=Dn Qcd Qih
abbrev Qfy:=Gc "need_plain" 1 Qat Qg9
abbrev QdU:=top 23
def QrY:Sc QdU ["tolls","heap","counts"]:=scM rfl rfl rfl (by decide+kernel)
def Qtr:Qw "settled" QdU ["tolls","heap","counts"]:=λ_ _ _ _ _ _=>lc λ_=>lc λ_=>lc λ_=>l0 rfl
noncomputable def QmH:U QdU Qfy:=(Cp QdU Qfy).get (by decide+kernel)
abbrev QdW:=Dn QdU QmH
abbrev QhJ:=Gc "settled" 3 QdW Qfy
abbrev Qfr:=top 22
def QvA:Sc Qfr ["net","heap"]:=scM rfl rfl rfl (by decide+kernel)
def Qxv:Qw "still" Qfr ["net","heap"]:=λ_ _ _ _ _ _=>lc λ_=>lc λ_=>l0 rfl
noncomputable def Qrs:U Qfr QhJ:=(Cp Qfr QhJ).get (by decide+kernel)
abbrev QcH:=Dn Qfr Qrs
abbrev Qlj:=Gc "still" 2 QcH QhJ
abbrev QbK:=top 24
def QlR:Sc QbK ["toll","place","places"]:=scM rfl rfl rfl (by decide+kernel)
def Qne:Qw "roads_among" QbK ["toll","place","places"]:=λ_ _ _ _ _ _=>lc λ_=>lc λ_=>lc λ_=>l0 rfl
noncomputable def QhA:U QbK Qlj:=(Cp QbK Qlj).get (by decide+kernel)
abbrev QbQ:=Dn QbK QhA
abbrev Qe1:=Gc "roads_among" 3 QbQ Qlj
abbrev QgL:=top 26
def Qxo:Sc QgL ["net","heap"]:=scM rfl rfl rfl (by decide+kernel)
def Qzj:Qw "fire" QgL ["net","heap"]:=λ_ _ _ _ _ _=>lc λ_=>lc λ_=>l0 rfl
noncomputable def Qud:U QgL Qe1:=(Cp QgL Qe1).get (by decide+kernel)
abbrev Qeb:=Dn QgL Qud
abbrev QpK:=Gc "fire" 2 Qeb Qe1
abbrev QbN:=top 27
def Qlp:Sc QbN ["net","heap"]:=scM rfl rfl rfl (by decide+kernel)
def QmU:Qw "comes_again" QbN ["net","heap"]:=λ_ _ _ _ _ _=>lc λ_=>lc λ_=>l0 rfl
noncomputable def Qht:U QbN QpK:=(Cp QbN QpK).get (by decide+kernel)
abbrev QbO:=Dn QbN Qht
abbrev Qe0:=Gc "comes_again" 2 QbO QpK
abbrev Qei:=top 29
def Qsu:Sc Qei ["table","at"]:=scM rfl rfl rfl (by decide+kernel)
def QuS:Qw "column" Qei ["table","at"]:=λ_ _ _ _ _ _=>lc λ_=>lc λ_=>l0 rfl
noncomputable def Qnu:U Qei Qe0:=(Cp Qei Qe0).get (by decide+kernel)
abbrev QcF:=Dn Qei Qnu
abbrev QjK:=Gc "column" 2 QcF Qe0
abbrev QeA:=top 30
def QtK:Sc QeA ["table"]:=scM rfl rfl rfl (by decide+kernel)
def Qu1:Qw "turned" QeA ["table"]:=λ_ _ _ _ _ _=>lc λ_=>l0 rfl
noncomputable def QoM:U QeA QjK:=(Cp QeA QjK).get (by decide+kernel)
abbrev Qey:=Dn QeA QoM
abbrev QjE:=Gc "turned" 1 Qey QjK
abbrev Qdr:=top 31
def Qqe:Sc Qdr ["size","at"]:=scM rfl rfl rfl (by decide+kernel)
def Qsi:Qw "unit_row" Qdr ["size","at"]:=λ_ _ _ _ _ _=>lc λ_=>lc λ_=>l0 rfl
noncomputable def Qkt:U Qdr QjE:=(Cp Qdr QjE).get (by decide+kernel)
abbrev Qdm:=Dn Qdr Qkt
abbrev Qg3:=Gc "unit_row" 2 Qdm QjE
abbrev Qdq:=top 32
def Qp0:Sc Qdq ["line"]:=scM rfl rfl rfl (by decide+kernel)
def QrE:Qw "opposite" Qdq ["line"]:=λ_ _ _ _ _ _=>lc λ_=>l0 rfl
noncomputable def Qkc:U Qdq Qg3:=(Cp Qdq Qg3).get (by decide+kernel)
abbrev Qbc:=Dn Qdq Qkc
abbrev Qg1:=Gc "opposite" 1 Qbc Qg3
abbrev Qel:=top 33
def QsP:Sc Qel ["numbers"]:=scM rfl rfl rfl (by decide+kernel)
def QuX:Qw "common" Qel ["numbers"]:=λ_ _ _ _ _ _=>lc λ_=>l0 rfl
noncomputable def QpF:U Qel Qg1:=(Cp Qel Qg1).get (by decide+kernel)
abbrev Qen:=Dn Qel QpF
abbrev QjP:=Gc "common" 1 Qen Qg1
abbrev Qcp:=top 35
def Qnd:Sc Qcp ["lines","at"]:=scM rfl rfl rfl (by decide+kernel)
def QoN:Qw "with_pivot" Qcp ["lines","at"]:=λ_ _ _ _ _ _=>lc λ_=>lc λ_=>l0 rfl
noncomputable def QhF:U Qcp QjP:=(Cp Qcp QjP).get (by decide+kernel)
abbrev Qcn:=Dn Qcp QhF
abbrev QfG:=Gc "with_pivot" 2 Qcn QjP
abbrev QcS:=top 36
def Qpw:Sc QcS ["line","pivot_line","at","before"]:=scM rfl rfl rfl (by decide+kernel)
def Qp3:Qw "taken_off" QcS ["line","pivot_line","at","before"]:=λ_ _ _ _ _ _=>lc λ_=>lc λ_=>lc λ_=>lc λ_=>l0 rfl
noncomputable def Qi1:U QcS QfG:=(Cp QcS QfG).get (by decide+kernel)
abbrev QcZ:=Dn QcS Qi1
abbrev Qgi:=Gc "taken_off" 4 QcZ QfG
abbrev QdT:=top 34
def Qse:Sc QdT ["lines"]:=scM rfl rfl rfl (by decide+kernel)
def QtX:Qw "cleared" QdT ["lines"]:=λ_ _ _ _ _ _=>lc λ_=>l0 rfl
noncomputable def QmD:U QdT Qgi:=(Cp QdT Qgi).get (by decide+kernel)
abbrev Qb0:=Dn QdT QmD
abbrev Qif:=Gc "cleared" 1 Qb0 Qgi
abbrev QdR:=top 37
def QrL:Sc QdR ["table"]:=scM rfl rfl rfl (by decide+kernel)
def Qty:Qw "measure" QdR ["table"]:=λ_ _ _ _ _ _=>lc λ_=>l0 rfl
noncomputable def Qmm:U QdR Qif:=(Cp QdR Qif).get (by decide+kernel)
abbrev QeQ:=Dn QdR Qmm
abbrev QhP:=Gc "measure" 1 QeQ Qif
abbrev Qbl:=top 38
def Qjp:Sc Qbl ["lines"]:=scM rfl rfl rfl (by decide+kernel)
def QkC:Qw "cleared_whole" Qbl ["lines"]:=λ_ _ _ _ _ _=>lc λ_=>l0 rfl
noncomputable def Qf0:U Qbl QhP:=(Cp Qbl QhP).get (by decide+kernel)
abbrev Qbk:=Dn Qbl Qf0
abbrev Qd1:=Gc "cleared_whole" 1 Qbk QhP
abbrev Qcx:=top 39
def Qm9:Sc Qcx ["table","row"]:=scM rfl rfl rfl (by decide+kernel)
def QpH:Qw "shared_out" Qcx ["table","row"]:=λ_ _ _ _ _ _=>lc λ_=>lc λ_=>l0 rfl
noncomputable def Qh8:U Qcx Qd1:=(Cp Qcx Qd1).get (by decide+kernel)
abbrev Qce:=Dn Qcx Qh8
abbrev Qfx:=Gc "shared_out" 2 Qce Qd1
abbrev QcK:=top 41
def Qn6:Sc QcK ["net"]:=scM rfl rfl rfl (by decide+kernel)
def Qp6:Qw "net_table" QcK ["net"]:=λ_ _ _ _ _ _=>lc λ_=>l0 rfl
noncomputable def Qje:U QcK Qfx:=(Cp QcK Qfx).get (by decide+kernel)
abbrev Qbb:=Dn QcK Qje
abbrev Qgo:=Gc "net_table" 1 Qbb Qfx
abbrev QbI:=top 44
def Ql7:Sc QbI ["net","row"]:=scM rfl rfl rfl (by decide+kernel)
def Qm3:Qw "near_counts" QbI ["net","row"]:=λ_ _ _ _ _ _=>lc λ_=>lc λ_=>l0 rfl
noncomputable def Qhx:U QbI Qgo:=(Cp QbI Qgo).get (by decide+kernel)
abbrev QbM:=Dn QbI Qhx
abbrev QeX:=Gc "near_counts" 2 QbM Qgo
abbrev Qbj:=top 45
def QjS:Sc Qbj ["net"]:=scM rfl rfl rfl (by decide+kernel)
def Qky:Qw "doubled_spans" Qbj ["net"]:=λ_ _ _ _ _ _=>lc λ_=>l0 rfl
noncomputable def QfY:U Qbj QeX:=(Cp Qbj QeX).get (by decide+kernel)
abbrev QaY:=Dn Qbj QfY
abbrev Qea:=Gc "doubled_spans" 1 QaY QeX
abbrev s_again:=top 43
def QuN:Sc s_again ["net","row"]:=scM rfl rfl rfl (by decide+kernel)
def Qyk:Qw "again" s_again ["net","row"]:=λ_ _ _ _ _ _=>lc λ_=>lc λ_=>l0 rfl
noncomputable def Qro:U s_again Qea:=(Cp s_again Qea).get (by decide+kernel)
abbrev Qff:=Dn s_again Qro
abbrev Qlr:=Gc "again" 2 Qff Qea
abbrev Qdo:=top 46
def Qqi:Sc Qdo ["net","one","other"]:=scM rfl rfl rfl (by decide+kernel)
def QrO:Qw "heap_sum" Qdo ["net","one","other"]:=λ_ _ _ _ _ _=>lc λ_=>lc λ_=>lc λ_=>l0 rfl
noncomputable def Qj8:U Qdo Qlr:=(Cp Qdo Qlr).get (by decide+kernel)
abbrev Qdt:=Dn Qdo Qj8
abbrev Qhj:=Gc "heap_sum" 3 Qdt Qlr
abbrev Qer:=top 47
def Qtq:Sc Qer ["net"]:=scM rfl rfl rfl (by decide+kernel)
def Quw:Qw "nought" Qer ["net"]:=λ_ _ _ _ _ _=>lc λ_=>l0 rfl
noncomputable def Qpv:U Qer Qhj:=(Cp Qer Qhj).get (by decide+kernel)
abbrev Qej:=Dn Qer Qpv
abbrev QjH:=Gc "nought" 1 Qej Qhj
abbrev Qdj:=top 50
def QpP:Sc Qdj ["net"]:=scM rfl rfl rfl (by decide+kernel)
def Qr6:Qw "how_many" Qdj ["net"]:=λ_ _ _ _ _ _=>lc λ_=>l0 rfl
noncomputable def QkB:U Qdj QjH:=(Cp Qdj QjH).get (by decide+kernel)
abbrev Qbr:=Dn Qdj QkB
abbrev QgW:=Gc "how_many" 1 Qbr QjH
abbrev QcN:=top 51
def Qn7:Sc QcN ["net"]:=scM rfl rfl rfl (by decide+kernel)
def Qp1:Qw "all_again" QcN ["net"]:=λ_ _ _ _ _ _=>lc λ_=>l0 rfl
noncomputable def QiX:U QcN QgW:=(Cp QcN QgW).get (by decide+kernel)
abbrev QaV:=Dn QcN QiX
abbrev Qga:=Gc "all_again" 1 QaV QgW
abbrev QcU:=top 57
def QnE:Sc QcU ["net","place"]:=scM rfl rfl rfl (by decide+kernel)
def QpY:Qw "road_ends" QcU ["net","place"]:=λ_ _ _ _ _ _=>lc λ_=>lc λ_=>l0 rfl
noncomputable def Qi4:U QcU Qga:=(Cp QcU Qga).get (by decide+kernel)
abbrev QcW:=Dn QcU Qi4
abbrev Qgc:=Gc "road_ends" 2 QcW Qga
abbrev QbG:=top 56
def QlP:Sc QbG ["net","place","marks"]:=scM rfl rfl rfl (by decide+kernel)
def Qm0:Qw "own_choices" QbG ["net","place","marks"]:=λ_ _ _ _ _ _=>lc λ_=>lc λ_=>lc λ_=>l0 rfl
noncomputable def Qhz:U QbG Qgc:=(Cp QbG Qgc).get (by decide+kernel)
abbrev QaN:=Dn QbG Qhz
abbrev Qe2:=Gc "own_choices" 3 QaN Qgc
abbrev QdV:=top 53
def Qsr:Sc QdV ["net","heap"]:=scM rfl rfl rfl (by decide+kernel)
def Qta:Qw "tree_of" QdV ["net","heap"]:=λ_ _ _ _ _ _=>lc λ_=>lc λ_=>l0 rfl
noncomputable def Qmo:U QdV Qe2:=(Cp QdV Qe2).get (by decide+kernel)
abbrev QdP:=Dn QdV Qmo
abbrev Qic:=Gc "tree_of" 2 QdP Qe2
abbrev QbR:=top 58
def Qk2:Sc QbR ["net","tree"]:=scM rfl rfl rfl (by decide+kernel)
def Qnc:Qw "tree_depths" QbR ["net","tree"]:=λ_ _ _ _ _ _=>lc λ_=>lc λ_=>l0 rfl
noncomputable def Qhu:U QbR Qic:=(Cp QbR Qic).get (by decide+kernel)
abbrev QaO:=Dn QbR Qhu
abbrev QeY:=Gc "tree_depths" 2 QaO Qic
abbrev QcX:=top 59
def Qoz:Sc QcX ["net","tree"]:=scM rfl rfl rfl (by decide+kernel)
def Qqn:Qw "need_tree" QcX ["net","tree"]:=λ_ _ _ _ _ _=>lc λ_=>lc λ_=>l0 rfl
noncomputable def Qjb:U QcX QeY:=(Cp QcX QeY).get (by decide+kernel)
abbrev QcM:=Dn QcX Qjb
abbrev Qgd:=Gc "need_tree" 2 QcM QeY
abbrev QdO:=top 54
def QrB:Sc QdO ["net","tree"]:=scM rfl rfl rfl (by decide+kernel)
def Qtn:Qw "heap_of" QdO ["net","tree"]:=λ_ _ _ _ _ _=>lc λ_=>lc λ_=>l0 rfl
noncomputable def QmA:U QdO Qgd:=(Cp QdO Qgd).get (by decide+kernel)
abbrev QdZ:=Dn QdO QmA
abbrev Qh0:=Gc "heap_of" 2 QdZ Qgd
abbrev QcJ:=top 55
def Qo6:Sc QcJ ["net"]:=scM rfl rfl rfl (by decide+kernel)
def QpR:Qw "all_trees" QcJ ["net"]:=λ_ _ _ _ _ _=>lc λ_=>l0 rfl
noncomputable def Qjj:U QcJ Qh0:=(Cp QcJ Qh0).get (by decide+kernel)
abbrev Qb2:=Dn QcJ Qjj
abbrev Qgl:=Gc "all_trees" 1 Qb2 Qh0
abbrev Qcw:=top 61
def Qm6:Sc Qcw ["_law_script","_law_many"]:=scM rfl rfl rfl (by decide+kernel)
def QnN:Qw "_law_cells" Qcw ["_law_script","_law_many"]:=λ_ _ _ _ _ _=>lc λ_=>lc λ_=>l0 rfl
noncomputable def QhW:U Qcw Qgl:=(Cp Qcw Qgl).get (by decide+kernel)
abbrev Qci:=Dn Qcw QhW
abbrev Qfv:=Gc "_law_cells" 2 Qci Qgl
abbrev Qct:=top 62
def QmX:Sc Qct ["_law_found"]:=scM rfl rfl rfl (by decide+kernel)
def Qny:Qw "_law_whole" Qct ["_law_found"]:=λ_ _ _ _ _ _=>lc λ_=>l0 rfl
noncomputable def Qh2:U Qct Qfv:=(Cp Qct Qfv).get (by decide+kernel)
abbrev QaZ:=Dn Qct Qh2
abbrev QfK:=Gc "_law_whole" 1 QaZ Qfv
abbrev QcY:=top 63
def Qnp:Sc QcY ["_law_cells_here","_law_many"]:=scM rfl rfl rfl (by decide+kernel)
def Qp5:Qw "_law_base" QcY ["_law_cells_here","_law_many"]:=λ_ _ _ _ _ _=>lc λ_=>lc λ_=>l0 rfl
noncomputable def Qjc:U QcY QfK:=(Cp QcY QfK).get (by decide+kernel)
abbrev QcL:=Dn QcY Qjc
abbrev Qgj:=Gc "_law_base" 2 QcL QfK
abbrev Qdv:=top 64
def QpU:Sc Qdv ["_law_cells_here"]:=scM rfl rfl rfl (by decide+kernel)
def QrM:Qw "_law_net" Qdv ["_law_cells_here"]:=λ_ _ _ _ _ _=>lc λ_=>l0 rfl
noncomputable def QkE:U Qdv Qgj:=(Cp Qdv Qgj).get (by decide+kernel)
abbrev Qdl:=Dn Qdv QkE
abbrev Qha:=Gc "_law_net" 1 Qdl Qgj
abbrev Qbw:=top 67
def QkM:Sc Qbw ["_law_found","_law_many"]:=scM rfl rfl rfl (by decide+kernel)
def QlY:Qw "_law_numbers" Qbw ["_law_found","_law_many"]:=λ_ _ _ _ _ _=>lc λ_=>lc λ_=>l0 rfl
noncomputable def Qgw:U Qbw Qha:=(Cp Qbw Qha).get (by decide+kernel)
abbrev QaH:=Dn Qbw Qgw
abbrev Qes:=Gc "_law_numbers" 2 QaH Qha
abbrev QbJ:=top 68
def Qla:Sc QbJ ["_law_net_here","_law_tree"]:=scM rfl rfl rfl (by decide+kernel)
def Qm1:Qw "_law_depths" QbJ ["_law_net_here","_law_tree"]:=λ_ _ _ _ _ _=>lc λ_=>lc λ_=>l0 rfl
noncomputable def Qhs:U QbJ Qes:=(Cp QbJ Qes).get (by decide+kernel)
abbrev QbP:=Dn QbJ Qhs
abbrev QeZ:=Gc "_law_depths" 2 QbP Qes
abbrev Qbx:=top 69
def Qko:Sc Qbx ["_law_net_here","_law_tree"]:=scM rfl rfl rfl (by decide+kernel)
def Qly:Qw "_law_is_tree" Qbx ["_law_net_here","_law_tree"]:=λ_ _ _ _ _ _=>lc λ_=>lc λ_=>l0 rfl
noncomputable def Qgy:U Qbx QeZ:=(Cp Qbx QeZ).get (by decide+kernel)
abbrev Qby:=Dn Qbx Qgy
abbrev Qeg:=Gc "_law_is_tree" 2 Qby QeZ
abbrev Qcl:=top 70
def QmS:Sc Qcl ["_law_size","_law_many"]:=scM rfl rfl rfl (by decide+kernel)
def Qn9:Qw "_law_lists" Qcl ["_law_size","_law_many"]:=λ_ _ _ _ _ _=>lc λ_=>lc λ_=>l0 rfl
noncomputable def QhZ:U Qcl Qeg:=(Cp Qcl Qeg).get (by decide+kernel)
abbrev Qcr:=Dn Qcl QhZ
abbrev QfF:=Gc "_law_lists" 2 Qcr Qeg
abbrev QcO:=top 71
def QnP:Sc QcO ["_law_found","_law_due","_law_many"]:=scM rfl rfl rfl (by decide+kernel)
def Qqa:Qw "_law_same" QcO ["_law_found","_law_due","_law_many"]:=λ_ _ _ _ _ _=>lc λ_=>lc λ_=>lc λ_=>l0 rfl
noncomputable def QiZ:U QcO QfF:=(Cp QcO QfF).get (by decide+kernel)
abbrev Qa9:=Dn QcO QiZ
abbrev Qgk:=Gc "_law_same" 3 Qa9 QfF
abbrev QcQ:=top 72
def QpC:Sc QcQ ["_law_cell"]:=scM rfl rfl rfl (by decide+kernel)
def Qqg:Qw "_law_wide" QcQ ["_law_cell"]:=λ_ _ _ _ _ _=>lc λ_=>l0 rfl
noncomputable def Qjh:U QcQ Qgk:=(Cp QcQ Qgk).get (by decide+kernel)
abbrev QcV:=Dn QcQ Qjh
abbrev Qjf:=Gc "_law_wide" 1 QcV Qgk
abbrev QiN:=top 73
def QyV:Sc QiN ["_law_script"]:=scM rfl rfl rfl (by decide+kernel)
def QA0:Qw "law" QiN ["_law_script"]:=λ_ _ _ _ _ _=>lc λ_=>l0 rfl
noncomputable def Qwl:U QiN Qjf:=(Cp QiN Qjf).get (by decide+kernel)
abbrev Qsb:=Dn QiN Qwl
def Qqm:QaG=Qm 3 (HS.Qgg):=by kernel_rfl
def Qor:Qas=Qm 3 (HS.QfL QaG):=by kernel_rfl
def Qq1:Qch=Qm 4 (HS.QlD):=by kernel_rfl
def QpO:QX=Qm 5 (HS.QfI Qch):=by kernel_rfl
def QpT:Qba=Qm 1 (HS.Qgf QX):=by kernel_rfl
def Qya:Qft=Qm 6 (HS.QqJ QaG QX):=by kernel_rfl
def QxP:Qfl=Qm 8 (HS.QqR Qch):=by kernel_rfl
def QrZ:Qdy=Qm 1 (HS.Qkf):=by kernel_rfl
def Qn3:Qat=Qm 1 (HS.QfR Qdy):=by kernel_rfl
def Qug:QdW=Qm 9 (HS.QhK):=by kernel_rfl
def Qxh:QcH=Qm 8 (HS.Qli Qas QX QdW):=by kernel_rfl
def Qm7:QbQ=Qm 3 (HS.Qhr):=by kernel_rfl
def QyW:Qeb=Qm 8 (HS.Qtx Qat Qas QX QbQ):=by kernel_rfl
def QmV:QbO=Qm 4 (HS.Qhv Qeb Qba):=by kernel_rfl
def Qvr:QcF=Qm 2 (HS.Qo4):=by kernel_rfl
def Quq:Qey=Qm 1 (HS.Qo3 QcF):=by kernel_rfl
def Qsg:Qdm=Qm 2 (HS.QkP):=by kernel_rfl
def Qsh:Qbc=Qm 1 (HS.QkO):=by kernel_rfl
def Qvi:Qen=Qm 5 (HS.QgT):=by kernel_rfl
def Qo7:Qcn=Qm 4 (HS.Qh3 Qbc):=by kernel_rfl
def Qqc:QcZ=Qm 4 (HS.Qi0):=by kernel_rfl
def Qtd:Qb0=Qm 5 (HS.Qf3 Qcn QcZ):=by kernel_rfl
def QsK:QeQ=Qm 1 (HS.QhS Qb0):=by kernel_rfl
def QkT:Qbk=Qm 2 (HS.QfU Qb0):=by kernel_rfl
def QoZ:Qce=Qm 6 (HS.QhG Qey Qbk QcF Qen):=by kernel_rfl
def Qqf:Qbb=Qm 1 (HS.Qji Qbc QX):=by kernel_rfl
def QmY:QbM=Qm 3 (HS.Qhy Qbb Qce):=by kernel_rfl
def QkD:QaY=Qm 1 (HS.Qf2 Qba):=by kernel_rfl
def Qxx:Qff=Qm 10 (HS.QqK QaG QbM Qft QaY QcH):=by kernel_rfl
def QrU:Qdt=Qm 3 (HS.Qkg Qas QcH):=by kernel_rfl
def Quo:Qej=Qm 1 (HS.QnG Qff):=by kernel_rfl
def Qrz:Qbr=Qm 1 (HS.QkX Qbb QeQ):=by kernel_rfl
def Qp8:QaV=Qm 6 (HS.Qc3 Qbr Qej Qdm Qdt):=by kernel_rfl
def QpV:QcW=Qm 2 (HS.Qjd):=by kernel_rfl
def QmT:QaN=Qm 7 (HS.QhB QcW):=by kernel_rfl
def Qt2:QdP=Qm 7 (HS.QmP Qeb QbO QaN):=by kernel_rfl
def Qm2:QaO=Qm 2 (HS.Qhw Qfl):=by kernel_rfl
def Qp2:QcM=Qm 2 (HS.Qgm QaO):=by kernel_rfl
def QsN:QdZ=Qm 7 (HS.Qmf Qat QcM QaO QaN):=by kernel_rfl
def Qqj:Qb2=Qm 1 (HS.QfT Qat QdP QaV):=by kernel_rfl
def QnZ:Qci=Qm 9 (HS.QfD):=by kernel_rfl
def QoE:QaZ=Qm 1 (HS.QhI):=by kernel_rfl
def QpZ:QcL=Qm 10 (HS.QeV):=by kernel_rfl
def Qrv:Qdl=Qm 7 (HS.Qek QcL):=by kernel_rfl
def Qk3:QaH=Qm 3 (HS.QfB QaZ):=by kernel_rfl
def Qm4:QbP=Qm 7 (HS.QhC):=by kernel_rfl
def QlG:Qby=Qm 2 (HS.QeO QaH QbP):=by kernel_rfl
def Qpz:Qcr=Qm 7 (HS.QdL):=by kernel_rfl
def Qp9:Qa9=Qm 4 (HS.Qf4 QaH):=by kernel_rfl
def Qqh:QcV=Qm 2 (HS.Qf6):=by kernel_rfl
def QAU:Qsb=Qm 9 (HS.Qmw Qci Qdl QcV Qcr Qby Qb2 Qa9 QdZ QaV Qbr QaZ):=by kernel_rfl
end
end Law
namespace HS
open PySem PySem.Spec L2
def Qvw(mg:Str->Option Value):List Str->Prop
 | []=>True
 | x::r=>mg x=none/\Qvw mg r
def QoX{mg:Str->Option Value}:∀{l:List Str},Qvw mg l->∀x∈l,mg x=none
 | [],_,x,h=>by simp at h
 | y::r,h,x,hx=>by
  rcases Zq.mp hx with rfl | hx
  .exact h.1
  .exact QoX h.2 x hx
def QuU(mg:Str->Option Value):List (Str×Cn)->Prop
 | []=>True
 | (x,i)::r=>(∃t,mg x=some (cnV i t))/\QuU mg r
def Qou{mg:Str->Option Value}:∀{l:List (Str×Cn)},QuU mg l->∀x i,look x l=some i->∃t,mg x=some (cnV i t)
 | [],_,x,i,h=>by cases h
 | (y,j)::r,h,x,i,hx=>by
  unfold look at hx;split at hx
  .rename_i e;cases hx;subst e;exact h.1
  .exact Qou h.2 x i hx
def QyE{mg:Str->Option Value}{cs:List (Str×Cn)}(b:Qvw mg Qgp)(c:QuU mg cs):QkJ mg cs:=⟨QoX b,Qou c⟩
end HS
def HS.QAV{K:Fgg}{mg:PySem.Str->Option PySem.Value}{h:PySem.Heap}{x:PySem.Str}{i:Int}{t:PySem.Tok}(X:K.In h)(G:h.Ns PySem.mainGlobals mg)(a:PySem.W.nsIn K PySem.mainGlobals x=some (some (.int i t))):∃t,mg x=some (.int i t):=⟨t,ZcS X G a⟩
namespace Law
open HS
def Qzu:CellsOk Qci:=by rw[QnZ];exact Qwb
def Qt5:Qiy QaZ:=by rw[QoE];exact QvO
def QAG:Qlc QcL:=by rw[QpZ];exact QvI
def QBm:Ql1 Qdl:=by rw[Qrv];exact QvK QAG
def QAq:Qjn QcV:=by rw[Qqh];exact QtW
def QzO:Qio Qcr:=by rw[Qpz];exact QrT
def QzD:Qkh QaH:=by rw[Qk3];exact QwQ Qt5
def QA8:Qom QbP:=by rw[Qm4];exact Qxu
def QBp:QjF Qby:=by rw[QlG];exact Qql QzD QA8
def QAz:QjL Qa9:=by rw[Qp9];exact Qtb QzD
def QkK:QeP QX:=by rw[QpO,Qq1];exact QxC
def Qr5:QhO QaG:=by rw[Qqm];exact QwG
def Qpg:QgJ Qas:=by rw[Qor];exact Qvd Qr5
def QyR:QlE Qdy:=by rw[QrZ];exact QuM
def QpN:Qgq Qat:=by rw[Qn3];exact QvE QyR
def Qzi:QlT QbQ:=by rw[Qm7];exact Qv4
def Qwj:Qkr Qeb:=by rw[QyW];exact QxY QpN Qpg QkK Qzi
def Qs9:Qku Qba:=by rw[QpT];exact QwI QkK
def QAn:Qk7 QbO:=by rw[QmV];exact Qut Qwj Qs9
def QuV:QhE QdW:=by rw[Qug];exact QrJ
def QtY:QiI QcH:=by rw[Qxh];exact QvV Qpg QkK QuV
def Qzw:Qk5 Qft:=by rw[Qya];exact Qvp Qr5 QkK
def Qvs:Qij QaY:=by rw[QkD];exact Qsl Qs9
def QBx:Qr2 Qbc:=by rw[Qsh];exact QAe
def QqA:Qhe Qbb:=by rw[Qqf];exact Qtw QBx QkK
def QqF:QgX QcF:=by rw[Qvr];exact QtV
def Qys:QjR Qey:=by rw[Quq];exact Qt9 QqF
def Qye:Qjs Qen:=by rw[Qvi];exact Qs2
def Qz7:Ql9 Qcn:=by rw[Qo7];exact QvX (dop:=Qbc)
def Qz2:QlZ QcZ:=by rw[Qqc];exact QvS
def Qo8:QfZ Qb0:=by rw[Qtd];exact QrW Qz7 Qz2
def Qte:Qhi Qbk:=by rw[QkT];exact Qqb Qo8
def Qyg:QjX Qce:=by rw[QoZ];exact QsM Qys Qte QqF Qye
def QAw:Qlk QbM:=by rw[QmY];exact Qvg QqA Qyg
def Qzv:Qls Qff:=by rw[Qxx];exact Qvk Qr5 QAw Qzw Qvs QtY
def QwN:QjC Qej:=by rw[Quo];exact Qs8 Qzv
def QAF:Qox Qdt:=by rw[QrU];exact Qxt Qpg QtY
def QAy:Qn5 Qdm:=by rw[Qsg];exact Qx4
def QAl:QkR Qbr:=by rw[Qrz,QsK];exact Quv (Qw0 QqA) Qo8
def QyG:QkI QaV:=by rw[Qp8];exact QwM QAl QwN QAy QAF
def QyC:QlI Qfl:=by rw[QxP];exact Qvc λR L h=>by rw[Qq1];exact Qmx ⋯
def Qwx:Qkb QaO:=by rw[Qm2];exact QyB QyC
def Qzz:Qma QcM:=by rw[Qp2];exact Qva Qwx
def QAJ:QlM QcW:=by rw[QpV];exact QvB
def QAa:Qnm QaN:=by rw[QmT];exact Qz3 QAJ
def Qxr:Qhl QdP:=by rw[Qt2];exact QtF Qwj QAn QAa
def QxW:QjM QdZ:=by rw[QsN];exact QsC QpN Qzz Qwx QAa
def QAR:QnA Qb2:=by rw[Qqj];exact Qxb QpN Qxr QyG
def QzN(ns:List Int)(h:ns.length<=63)(_:∀k:Nat,PySem.Builtin.Int.intBits (ns.getD k 0)<=2^20):∃fr,Qsb [.lst (ns.map .int)]=some (.bl true,fr):=by
 rw[QAU];exact⟨true,QyM Qzu QBm QAq QzO QBp QAR QAz QxW QyG QAl Qt5 ns h⟩
end Law
namespace PySem.W.Fast
def tw15186521987676756776:=0
def tw3830244187711600919:=0
def tw1962048202633154194:=0
def tw11682664296899818679:=0
def tw7727731388754309305:=0
def tw17014709239652957062:=0
def tw2642554087219533902:=0
def tw2573606883974240433:=0
def tw238329956906030322:=0
def tw17668400210591398067:=0
def tw2606842948949869579:=0
def tw12040425085238135331:=0
def tw3424521556263592873:=0
def tw14953723808085142485:=0
def tw14285527127115394536:=0
def tw9728145353951012828:=0
def tw5775595428064727649:=0
def tw5050253078524434808:=0
def tw261472893658205154:=0
def tw8466584161667534631:=0
def tw3150851642902611473:=0
def tw13978330524872734971:=0
def tw6971483377240673515:=0
def tw9524569858094076755:=0
def tw14827835708217138552:=0
def tw12000679911511947943:=0
def tw5485907495345906208:=0
def tw2680813112588706868:=0
def tw2152994418012624390:=0
def tw8259890735993757896:=0
def tw6214980291782419058:=0
def tw10806527311510408355:=0
def tw5707784277504052019:=0
def tw4222912260989689768:=0
def tw11734576166100533919:=0
def tw17580529905122889737:=0
def tw13248603650424198764:=0
def tw1781490350003393530:=0
def tw1003978386555935626:=0
def tw6794696029450934832:=0
def tw7922960596500813322:=0
def tw9984983951391026248:=0
def tw14606416125854395923:=0
def tw7782546391267059648:=0
def tw3520274671779774510:=0
def tw2439615463413221348:=0
def tw15751585965350411695:=0
def tw3398290583326492385:=0
def tw2245215296321542518:=0
def tw9035830764152377093:=0
def tw65354802315991515:=0
def tw4583490717506431768:=0
def tw966379524994096812:=0
def tw809523281803767801:=0
def tw14528271750335447158:=0
def tw1177426439361222934:=0
def tw6039725267938934844:=0
def tw1055186873233160887:=0
def tw8103364424605015521:=0
def tw1423402366744712673:=0
def tw7176406811222382294:=0
def tw16695574547374231721:=0
def tw13317817349700528769:=0
def tw4432594506430153716:=0
def tw179899708738503287:=0
def tw3542545734717236113:=0
def tw17502627973907785858:=0
def tw3205344438111507544:=0
def tw3083143305380772567:=0
def tw3961957974325736866:=0
def tw1215248080345977635:=0
def tw8407833803170362779:=0
def tw10914321576716817471:=0
def tw12660044533232648549:=0
def tw12657132503038922576:=0
def tw3500854017883731862:=0
def tw17181588358886580788:=0
def tw18087871719698369674:=0
def tw13337603571733251333:=0
def tw6842524951747590355:=0
def tw13159344029664669612:=0
def tw6777936379440914784:=0
def tw10871671692527468455:=0
def tw1420270809739745307:=0
def tw6721318804601724566:=0
def tw15717039122624863466:=0
def tw10760302132464968026:=0
def tw4718442593339405862:=0
def tw6646073792112192125:=0
def tw3103967118680169045:=0
def tw3405003462849908575:=0
def tw9030301210347927068:=0
def tw17592031750838644917:=0
def tw16835308366580879285:=0
def tw11651224754589634875:=0
def tw13754554443041522658:=0
def tw3562880822843903391:=0
def tw12062860030150501942:=0
def tw7887100930468015612:=0
def tw10019402069848211713:=0
def tw12746178255365924508:=0
def tw6067721631983225090:=0
def tw13490945557689033277:=0
def tw17571983353036201218:=0
def tw314554306715904917:=0
def tw3278509011184032488:=0
def tw1595306598665088078:=0
def tw7375170108682253987:=0
def tw12673804957584755867:=0
def tw14087917186519572866:=0
def tw11610527171265384628:=0
def tw8952064713858462874:=0
def tw4322103816690036174:=0
def tw11634197413150995199:=0
def tw6006760616235337889:=0
def tw4288696707017172429:=0
def tw8485634306016473704:=0
def tw16164013287370024674:=0
def tw14627252191441758219:=0
def tw11077057400456853663:=0
def tw9466809023755469550:=0
def tw18106105002956113700:=0
def tw10119851672159681741:=0
def tw11399428874064613562:=0
def tw15811255312846785430:=0
def tw12981861530192732801:=0
def tw14390849227810460747:=0
def tw5919847021602583252:=0
def tw12785504341122698392:=0
def tw14760532435226696477:=0
def tw5047322753952433461:=0
def tw16782729909973471901:=0
def tw13467328539437093497:=0
def tw15239422298194570269:=0
def tw12727083248505795011:=0
def tw6069613822834617554:=0
def tw3082897624384536360:=0
def tw8346707486005069338:=0
def tw15546644626947367040:=0
def tw8499030475602863335:=0
def tw10106496444360775659:=0
def tw6871849733155574913:=0
def tw15433401259073266043:=0
def tw3473775803839902217:=0
def tw9441259875933018543:=0
def tw13327901113597829162:=0
def tw7764546195712337266:=0
def tw13362374996678812705:=0
def tw6828765845321793947:=0
def tw9423235453675595773:=0
def tw7237628293539209692:=0
def tw2826769051752035612:=0
def tw234452616842100291:=0
def tw11887106165371138599:=0
def tw10447854592262123267:=0
def tw6936054167761059234:=0
def tw15136872614682969871:=0
end PySem.W.Fast
open PySem PySem.W PyProof.Rows HS HN
set_option maxRecDepth 100000 in
set_option maxHeartbeats 0 in
theorem PySem.Challenge.cw_heapstill_k54_whole_as_many_trees_holds : PySem.Challenge.rw_heapstill_k54_whole_as_many_trees.Holds := by
 w_on;o_law;k_head;(case hw=>w_witness2)
 k_fill
 refine HN.Qti (l:=PySem.Challenge.rw_heapstill_k54_whole_as_many_trees) (k:=51) (x:= "_law_script") (den:=Law.Qsb) rfl rfl ⟨rfl,∅,∅⟩ (λw h Y=>PySem.W.kIn_of Y) Law.QzN ?F
 case F=>
  intro w mg fa h KX G hmg;obtain⟨f_need_rows,f_need_heaps,f_steps,f_toll_table,f_span_list,f_after,f_leads,f_is_plain,f_need_plain,f_settled,f_still,f_roads_among,f_fire,f_comes_again,f_column,f_turned,f_unit_row,f_opposite,f_common,f_with_pivot,f_taken_off,f_cleared,f_measure,f_cleared_whole,f_shared_out,f_net_table,f_near_counts,f_doubled_spans,f_again,f_heap_sum,f_nought,f_how_many,f_all_again,f_road_ends,f_own_choices,f_tree_of,f_tree_depths,f_need_tree,f_heap_of,f_all_trees,f__law_cells,f__law_whole,f__law_base,f__law_net,f__law_numbers,f__law_depths,f__law_is_tree,f__law_lists,f__law_same,f__law_wide,f_law⟩:HS.Fact (L2.KOf KX) "need_rows" Law.QcT/\HS.Fact (L2.KOf KX) "need_heaps" Law.Qcm/\HS.Fact (L2.KOf KX) "steps" Law.Qfe/\HS.Fact (L2.KOf KX) "toll_table" Law.Qcc/\HS.Fact (L2.KOf KX) "span_list" Law.QcP/\HS.Fact (L2.KOf KX) "after" Law.Qfq/\HS.Fact (L2.KOf KX) "leads" Law.Qfn/\HS.Fact (L2.KOf KX) "is_plain" Law.Qdn/\HS.Fact (L2.KOf KX) "need_plain" Law.Qcd/\HS.Fact (L2.KOf KX) "settled" Law.QdU/\HS.Fact (L2.KOf KX) "still" Law.Qfr/\HS.Fact (L2.KOf KX) "roads_among" Law.QbK/\HS.Fact (L2.KOf KX) "fire" Law.QgL/\HS.Fact (L2.KOf KX) "comes_again" Law.QbN/\HS.Fact (L2.KOf KX) "column" Law.Qei/\HS.Fact (L2.KOf KX) "turned" Law.QeA/\HS.Fact (L2.KOf KX) "unit_row" Law.Qdr/\HS.Fact (L2.KOf KX) "opposite" Law.Qdq/\HS.Fact (L2.KOf KX) "common" Law.Qel/\HS.Fact (L2.KOf KX) "with_pivot" Law.Qcp/\HS.Fact (L2.KOf KX) "taken_off" Law.QcS/\HS.Fact (L2.KOf KX) "cleared" Law.QdT/\HS.Fact (L2.KOf KX) "measure" Law.QdR/\HS.Fact (L2.KOf KX) "cleared_whole" Law.Qbl/\HS.Fact (L2.KOf KX) "shared_out" Law.Qcx/\HS.Fact (L2.KOf KX) "net_table" Law.QcK/\HS.Fact (L2.KOf KX) "near_counts" Law.QbI/\HS.Fact (L2.KOf KX) "doubled_spans" Law.Qbj/\HS.Fact (L2.KOf KX) "again" Law.s_again/\HS.Fact (L2.KOf KX) "heap_sum" Law.Qdo/\HS.Fact (L2.KOf KX) "nought" Law.Qer/\HS.Fact (L2.KOf KX) "how_many" Law.Qdj/\HS.Fact (L2.KOf KX) "all_again" Law.QcN/\HS.Fact (L2.KOf KX) "road_ends" Law.QcU/\HS.Fact (L2.KOf KX) "own_choices" Law.QbG/\HS.Fact (L2.KOf KX) "tree_of" Law.QdV/\HS.Fact (L2.KOf KX) "tree_depths" Law.QbR/\HS.Fact (L2.KOf KX) "need_tree" Law.QcX/\HS.Fact (L2.KOf KX) "heap_of" Law.QdO/\HS.Fact (L2.KOf KX) "all_trees" Law.QcJ/\HS.Fact (L2.KOf KX) "_law_cells" Law.Qcw/\HS.Fact (L2.KOf KX) "_law_whole" Law.Qct/\HS.Fact (L2.KOf KX) "_law_base" Law.QcY/\HS.Fact (L2.KOf KX) "_law_net" Law.Qdv/\HS.Fact (L2.KOf KX) "_law_numbers" Law.Qbw/\HS.Fact (L2.KOf KX) "_law_depths" Law.QbJ/\HS.Fact (L2.KOf KX) "_law_is_tree" Law.Qbx/\HS.Fact (L2.KOf KX) "_law_lists" Law.Qcl/\HS.Fact (L2.KOf KX) "_law_same" Law.QcO/\HS.Fact (L2.KOf KX) "_law_wide" Law.QcQ/\HS.Fact (L2.KOf KX) "law" Law.QiN:=by
   refine⟨?_,?_,?_,?_,?_,?_,?_,?_,?_,?_,?_,?_,?_,?_,?_,?_,?_,?_,?_,?_,?_,?_,?_,?_,?_,?_,?_,?_,?_,?_,?_,?_,?_,?_,?_,?_,?_,?_,?_,?_,?_,?_,?_,?_,?_,?_,?_,?_,?_,?_,?_⟩<;>(dsimp only[L2.KOf];refine' HS.fact_mk ?a ?l ?c ?k;(case a=>k_is);(case l=>k_is);(case c=>k_is);(case k=>k_is))
  have M:HS.QkJ mg Law.cst:=by
   obtain⟨n_range,n_enumerate,n_zip,n_len,n_list,n_min,n_max,n_sum,n_abs,n_isinstance,n_int,n_bool,n_tuple,n_str,n_divmod,n_sorted,n_any,n_all,n_set⟩:PySem.W.nsIn (L2.KOf KX) mainGlobals "range" =some none/\PySem.W.nsIn (L2.KOf KX) mainGlobals "enumerate" =some none/\PySem.W.nsIn (L2.KOf KX) mainGlobals "zip" =some none/\PySem.W.nsIn (L2.KOf KX) mainGlobals "len" =some none/\PySem.W.nsIn (L2.KOf KX) mainGlobals "list" =some none/\PySem.W.nsIn (L2.KOf KX) mainGlobals "min" =some none/\PySem.W.nsIn (L2.KOf KX) mainGlobals "max" =some none/\PySem.W.nsIn (L2.KOf KX) mainGlobals "sum" =some none/\PySem.W.nsIn (L2.KOf KX) mainGlobals "abs" =some none/\PySem.W.nsIn (L2.KOf KX) mainGlobals "isinstance" =some none/\PySem.W.nsIn (L2.KOf KX) mainGlobals "int" =some none/\PySem.W.nsIn (L2.KOf KX) mainGlobals "bool" =some none/\PySem.W.nsIn (L2.KOf KX) mainGlobals "tuple" =some none/\PySem.W.nsIn (L2.KOf KX) mainGlobals "str" =some none/\PySem.W.nsIn (L2.KOf KX) mainGlobals "divmod" =some none/\PySem.W.nsIn (L2.KOf KX) mainGlobals "sorted" =some none/\PySem.W.nsIn (L2.KOf KX) mainGlobals "any" =some none/\PySem.W.nsIn (L2.KOf KX) mainGlobals "all" =some none/\PySem.W.nsIn (L2.KOf KX) mainGlobals "set" =some none:=by refine⟨?_,?_,?_,?_,?_,?_,?_,?_,?_,?_,?_,?_,?_,?_,?_,?_,?_,?_,?_⟩<;>(dsimp only[L2.KOf];k_is)
   have n_MOST_HEAPS:∃t,mg "MOST_HEAPS" =some (.int 300 t):=by refine' HS.QAV KX G ?a;(case a=>first | k_is | exact rfl | (dsimp only[L2.KOf];k_is))
   exact HS.QyE ⟨PySem.W.mg_none_of KX G n_range,PySem.W.mg_none_of KX G n_enumerate,PySem.W.mg_none_of KX G n_zip,PySem.W.mg_none_of KX G n_len,PySem.W.mg_none_of KX G n_list,PySem.W.mg_none_of KX G n_min,PySem.W.mg_none_of KX G n_max,PySem.W.mg_none_of KX G n_sum,PySem.W.mg_none_of KX G n_abs,PySem.W.mg_none_of KX G n_isinstance,PySem.W.mg_none_of KX G n_int,PySem.W.mg_none_of KX G n_bool,PySem.W.mg_none_of KX G n_tuple,PySem.W.mg_none_of KX G n_str,PySem.W.mg_none_of KX G n_divmod,PySem.W.mg_none_of KX G n_sorted,PySem.W.mg_none_of KX G n_any,PySem.W.mg_none_of KX G n_all,PySem.W.mg_none_of KX G n_set,True.intro⟩ ⟨n_MOST_HEAPS,True.intro⟩
  have t0:∀base:Heap,HN.Tab ⟨(PySem.Challenge.rw_heapstill_k54_whole_as_many_trees).prog,w,L2.KOf KX,mg,base⟩ 0 []:=λ_=>HN.Tab.nil;have t_need_rows:=λb=>(t0 b).cons (HN.QS KX G f_need_rows Law.QoB Law.Qp4 M (t0 b) Law.Qjg);have t_need_heaps:=λb=>(t_need_rows b).cons (HN.QS KX G f_need_heaps Law.QmW Law.Qpj M (t_need_rows b) Law.Qib);have t_steps:=λb=>(t_need_heaps b).cons (HN.QS KX G f_steps Law.Qup Law.QxO M (t_need_heaps b) Law.Qrh);have t_toll_table:=λb=>(t_steps b).cons (HN.QS KX G f_toll_table Law.Qm5 Law.Qno M (t_steps b) Law.Qh6);have t_span_list:=λb=>(t_toll_table b).cons (HN.QS KX G f_span_list Law.Qpd Law.QpS M (t_toll_table b) Law.Qjk);have t_after:=λb=>(t_span_list b).cons (HN.QS KX G f_after Law.Qwe Law.Qxa M (t_span_list b) Law.Qqp);have t_leads:=λb=>(t_after b).cons (HN.QS KX G f_leads Law.Qwh Law.Qxk M (t_after b) Law.QqZ);have t_is_plain:=λb=>(t_leads b).cons (HN.QS KX G f_is_plain Law.QpX Law.Qr0 M (t_leads b) Law.Qj6);have t_need_plain:=λb=>(t_is_plain b).cons (HN.QS KX G f_need_plain Law.Qm8 Law.Qpk M (t_is_plain b) Law.Qih);have t_settled:=λb=>(t_need_plain b).cons (HN.QS KX G f_settled Law.QrY Law.Qtr M (t_need_plain b) Law.QmH);have t_still:=λb=>(t_settled b).cons (HN.QS KX G f_still Law.QvA Law.Qxv M (t_settled b) Law.Qrs);have t_roads_among:=λb=>(t_still b).cons (HN.QS KX G f_roads_among Law.QlR Law.Qne M (t_still b) Law.QhA);have t_fire:=λb=>(t_roads_among b).cons (HN.QS KX G f_fire Law.Qxo Law.Qzj M (t_roads_among b) Law.Qud);have t_comes_again:=λb=>(t_fire b).cons (HN.QS KX G f_comes_again Law.Qlp Law.QmU M (t_fire b) Law.Qht);have t_column:=λb=>(t_comes_again b).cons (HN.QS KX G f_column Law.Qsu Law.QuS M (t_comes_again b) Law.Qnu);have t_turned:=λb=>(t_column b).cons (HN.QS KX G f_turned Law.QtK Law.Qu1 M (t_column b) Law.QoM);have t_unit_row:=λb=>(t_turned b).cons (HN.QS KX G f_unit_row Law.Qqe Law.Qsi M (t_turned b) Law.Qkt);have t_opposite:=λb=>(t_unit_row b).cons (HN.QS KX G f_opposite Law.Qp0 Law.QrE M (t_unit_row b) Law.Qkc);have t_common:=λb=>(t_opposite b).cons (HN.QS KX G f_common Law.QsP Law.QuX M (t_opposite b) Law.QpF);have t_with_pivot:=λb=>(t_common b).cons (HN.QS KX G f_with_pivot Law.Qnd Law.QoN M (t_common b) Law.QhF);have t_taken_off:=λb=>(t_with_pivot b).cons (HN.QS KX G f_taken_off Law.Qpw Law.Qp3 M (t_with_pivot b) Law.Qi1);have t_cleared:=λb=>(t_taken_off b).cons (HN.QS KX G f_cleared Law.Qse Law.QtX M (t_taken_off b) Law.QmD);have t_measure:=λb=>(t_cleared b).cons (HN.QS KX G f_measure Law.QrL Law.Qty M (t_cleared b) Law.Qmm);have t_cleared_whole:=λb=>(t_measure b).cons (HN.QS KX G f_cleared_whole Law.Qjp Law.QkC M (t_measure b) Law.Qf0);have t_shared_out:=λb=>(t_cleared_whole b).cons (HN.QS KX G f_shared_out Law.Qm9 Law.QpH M (t_cleared_whole b) Law.Qh8);have t_net_table:=λb=>(t_shared_out b).cons (HN.QS KX G f_net_table Law.Qn6 Law.Qp6 M (t_shared_out b) Law.Qje);have t_near_counts:=λb=>(t_net_table b).cons (HN.QS KX G f_near_counts Law.Ql7 Law.Qm3 M (t_net_table b) Law.Qhx);have t_doubled_spans:=λb=>(t_near_counts b).cons (HN.QS KX G f_doubled_spans Law.QjS Law.Qky M (t_near_counts b) Law.QfY);have t_again:=λb=>(t_doubled_spans b).cons (HN.QS KX G f_again Law.QuN Law.Qyk M (t_doubled_spans b) Law.Qro);have t_heap_sum:=λb=>(t_again b).cons (HN.QS KX G f_heap_sum Law.Qqi Law.QrO M (t_again b) Law.Qj8);have t_nought:=λb=>(t_heap_sum b).cons (HN.QS KX G f_nought Law.Qtq Law.Quw M (t_heap_sum b) Law.Qpv);have t_how_many:=λb=>(t_nought b).cons (HN.QS KX G f_how_many Law.QpP Law.Qr6 M (t_nought b) Law.QkB);have t_all_again:=λb=>(t_how_many b).cons (HN.QS KX G f_all_again Law.Qn7 Law.Qp1 M (t_how_many b) Law.QiX);have t_road_ends:=λb=>(t_all_again b).cons (HN.QS KX G f_road_ends Law.QnE Law.QpY M (t_all_again b) Law.Qi4);have t_own_choices:=λb=>(t_road_ends b).cons (HN.QS KX G f_own_choices Law.QlP Law.Qm0 M (t_road_ends b) Law.Qhz);have t_tree_of:=λb=>(t_own_choices b).cons (HN.QS KX G f_tree_of Law.Qsr Law.Qta M (t_own_choices b) Law.Qmo);have t_tree_depths:=λb=>(t_tree_of b).cons (HN.QS KX G f_tree_depths Law.Qk2 Law.Qnc M (t_tree_of b) Law.Qhu);have t_need_tree:=λb=>(t_tree_depths b).cons (HN.QS KX G f_need_tree Law.Qoz Law.Qqn M (t_tree_depths b) Law.Qjb);have t_heap_of:=λb=>(t_need_tree b).cons (HN.QS KX G f_heap_of Law.QrB Law.Qtn M (t_need_tree b) Law.QmA);have t_all_trees:=λb=>(t_heap_of b).cons (HN.QS KX G f_all_trees Law.Qo6 Law.QpR M (t_heap_of b) Law.Qjj);have t__law_cells:=λb=>(t_all_trees b).cons (HN.QS KX G f__law_cells Law.Qm6 Law.QnN M (t_all_trees b) Law.QhW);have t__law_whole:=λb=>(t__law_cells b).cons (HN.QS KX G f__law_whole Law.QmX Law.Qny M (t__law_cells b) Law.Qh2);have t__law_base:=λb=>(t__law_whole b).cons (HN.QS KX G f__law_base Law.Qnp Law.Qp5 M (t__law_whole b) Law.Qjc);have t__law_net:=λb=>(t__law_base b).cons (HN.QS KX G f__law_net Law.QpU Law.QrM M (t__law_base b) Law.QkE);have t__law_numbers:=λb=>(t__law_net b).cons (HN.QS KX G f__law_numbers Law.QkM Law.QlY M (t__law_net b) Law.Qgw);have t__law_depths:=λb=>(t__law_numbers b).cons (HN.QS KX G f__law_depths Law.Qla Law.Qm1 M (t__law_numbers b) Law.Qhs);have t__law_is_tree:=λb=>(t__law_depths b).cons (HN.QS KX G f__law_is_tree Law.Qko Law.Qly M (t__law_depths b) Law.Qgy);have t__law_lists:=λb=>(t__law_is_tree b).cons (HN.QS KX G f__law_lists Law.QmS Law.Qn9 M (t__law_is_tree b) Law.QhZ);have t__law_same:=λb=>(t__law_lists b).cons (HN.QS KX G f__law_same Law.QnP Law.Qqa M (t__law_lists b) Law.QiZ);have t__law_wide:=λb=>(t__law_same b).cons (HN.QS KX G f__law_wide Law.QpC Law.Qqg M (t__law_same b) Law.Qjh);exact HN.QAt KX G hmg f_law Law.QyV Law.QA0 M (λbase=>t__law_wide base) Law.Qwl
