import PyProof.Rows.All
import Wide.All
import OpenK.AllK
import Wide.FinOn
import Lean
import PyProof.EqAt
import PyProof.EqKinds
import PyProof.TupleCall
import PyProof.Rows.TupTab
import PyProof.DictRoadsH
import PyProof.StrWalks
import PyProof.SliceStr2
import PyProof.StrBlockI
import PyProof.StrBlockG
import PyProof.StrCalls2
import KE.KIntText
import PyProof.Rows.StrSplitMax
import PyProof.ZipIter
import PyProof.EnumMake
import PyProof.Rows.FactsT2
import PyProof.Rows.EnumRows
import PyProof.P3In
import PyProof.NeData
import KE.KUnpack
import PyProof.Rows.TupDisplay
import PyProof.Rows.SumAny
import PyProof.Rows.MinMaxN
import PyProof.Rows.ListRangeD
import PyProof.Rows.Range3
import PyProof.Rows.RuleM_int
import PyProof.Rows.SortShell
import PyProof.Rows.StrNews2
import PyProof.Rows.FStrParts
import PyProof.Rows.SeqMore
import PyProof.DictWalks
import PyProof.ListRange
import PyProof.Rows.SetFrom
import PyProof.CollectIter
import PyProof.SetRoads
import KE.KSortAsk
import PyProof.DictCompW
import OpenK.KTop
import KE.KTryOn
import PyProof.ExcBaseAll.ValueError
import PyProof.RulesAs
import PyProof.ExcAttrAll.ValueError
import PyProof.Rows.RegTopCatchBFacts
import KE.RegKTryMore
import KE.RegKIsAll
import PyProof.Rows.SortStr
import KE.KPar
import PyProof.Rows.ReprOcc
import PyProof.StrLawsIdx
import PyProof.StrLawsIn
import PyProof.StrLawsJoin
import PyProof.StrLawsTight
import PyProof.StrLawsChain
import KE.IntTextText
import PyProof.StrLawsFirst
import PySem.Challenge.RW_heapstill_k75_desk_refused
set_option Elab.async false
set_option linter.all false
set_option maxRecDepth 100000
noncomputable section
local macro_rules | `(⋯)=> `(by first | with_reducible assumption | with_reducible exact Int.natCast_nonneg _ | with_reducible exact Int.ofNat_lt.2 (by assumption) | lia | simp)
local macro_rules | `(∅)=> `(by decide)
local macro_rules | `('r')=> `(by kernel_rfl) | `('d')=> `(by decide+kernel)
def Za:= @List.mem_append_right
def Zb:= @PySem.Heap.get?_push_of_some
def Zc:= @List.mem_append_left
def Zd:= @Option.map_eq_some_iff
def Ze:= @Bool.and_eq_true
def Zf:= @List.mem_append
def Zg:= @List.mem_singleton
def Zh:= @List.length_map
def Zi:= @PySem.Heap.get?_push_size
def Zj:= @List.mem_cons
def Zk:= @List.size_toArray
def Zl:= @List.mem_cons_of_mem
def Zm:= @List.length_append
def Zn:= @List.getElem?_eq_some_iff
def Zo:= @List.append_nil
def Zp:= @List.map_cons
def Zq:= @List.mem_map
def Zr:= @List.mem_range
def Zs:= @List.mem_cons_self
def Zt:= @List.getElem?_eq_getElem
def Zu:= @Nat.le_refl
def Zv:= @PySem.Heap.get?_none_of_le
def Zw:= @List.lookup_cons
def Zx:= @Int.toNat_natCast
def Zy:= @List.getElem?_map
def Zz:= @List.getD_eq_getElem?_getD
def ZA:= @List.length_cons
def ZC:= @PySem.Heap.lt_size
def ZD:= @Array.getElem?_eq_getElem
def ZE:= @Nat.le_trans
def ZF:= @PySem.Heap.size_push
def ZG:= @List.map_map
def ZH:= @List.map_append
def ZI:= @List.zip_cons_cons
def ZJ:= @PySem.Calls.spliced_cons
def ZK:= @List.mem_of_getElem?
def ZL:= @Bool.false_ne_true
def ZM:= @Int.emod_nonneg
def ZN:= @List.all_eq_true
def ZO:= @List.filter_cons
def ZP:= @List.length_range
def ZQ:= @Int.emod_lt_of_pos
def ZR:= @Option.map_some
def ZS:= @List.getElem?_set_self
def ZT:= @Bool.not_eq_true'
def ZU:= @List.nodup_append
def ZV:= @List.mem_filterMap
def ZW:= @Nat.lt_succ_self
def ZX:= @List.append_assoc
def ZY:= @PySem.Calls.spliced_nil
def ZZ:= @List.nodup_cons
def mS:= @List.length_drop
def rM:= @List.take_of_length_le
def uT:= @List.drop_eq_getElem_cons
def pW:= @List.getElem?_range
def pY:= @PySem.mem_of_lookup
def qT:= @List.getElem?_eq_none
def mH:= @List.mem_filter
def pC:= @PySem.W.callWith_K
def lC:= @Bool.and_true
def kX:= @List.sum_cons
def t9:= @PySem.W.cellsFrom_some
def kR:= @Nat.ne_of_lt
def tU:= @PySem.Calls.callWith_builtin
def qN:= @List.replicate_succ
def sJ:= @Int.toNat_of_nonneg
def vD:= @PySem.Heap.get?_update_self
def pP:= @List.length_take
def pE:= @List.take_length
def rX:= @List.filter_append
def xV:= @Option.isSome_iff_exists
def kU:= @Nat.ne_of_gt
def mQ:= @PySem.W.mg_of
def uF:= @List.getElem?_set_ne
def u4:= @PySem.Calls.evalArgs_plain
def o7:= @PySem.F.slot_zip_next
def pD:= @List.length_set
def rB:= @List.cons_append
def q6:= @List.not_mem_nil
def sY:= @PySem.W.codeRec_of
def wA:= @Array.getElem?_toList
def rW:= @List.of_mem_zip
def rQ:= @List.forIn_cons
def sH:= @PySem.W.kia_one
def vH:= @Nat.lt_succ_of_lt
def w7:= @List.map_congr_left
def wX:= @Nat.lt_of_lt_of_le
def xP:= @Bool.false_eq_true
def BN:= @PySem.Heap.get?_update_other
def Be:= @List.drop_eq_nil_of_le
def Bc:= @Nat.le_of_ble_eq_true
def vO:= @List.flatten_cons
def BP:= @Nat.pow_le_pow_right
def C4:= @List.getElem?_zip_eq_some
def zS:= @PySem.Heap.SameBut.update
def BR:= @List.sum_append_int
def DC:= @PySem.F.slot_list_append
def CS:= @PySem.F.slot_list_extend
def DU:= @PySem.F.type_list_extend
def xZ:= @Bool.or_eq_true
def BD:= @PySem.W.of_hideAll
def sG:= @Nat.zero_le
def J4:= @List.set_eq_take_append_cons_drop
def zG:= @PySem.F.args_zip_next_1
def A7:= @List.take_add_one
def EF:= @List.filter_eq_nil_iff
def xH:= @Int.mul_nonneg
def EM:= @List.contains_iff_mem
def Fp:= @PySem.W.methodCall_KW
def y8:= @List.zipIdx_cons
def Bj:= @PySem.F.entry_zip_next
def Ae:= @PySem.Heap.IsList.push
def zW:= @PySem.IsL.update
def Ac:= @List.foldlM_cons
def Fy:= @Bool.or_eq_false_iff
def CI:= @PySem.Around.frames_deeper
def Af:= @List.foldl_cons
def AY:= @List.zipIdx_nil
def Ax:= @List.nil_append
def As:= @List.range_succ
def DL:= @PySem.W.plainGet_of
def Fe:= @Array.length_toList
def D0:= @List.filter_eq_self
def AA:= @List.forIn_nil
def Jf:= @Int.fdiv_eq_ediv_of_nonneg
def Bh:= @Bool.false_and
def Al:= @Bool.and_false
def D3:= @List.contains_cons
def Km:= @List.getElem?_append_left
def Fk:= @PySem.list_append
def DQ:= @List.ext_getElem?
def Er:= @Int.emod_eq_of_lt
def Ak:= @Nat.lt_irrefl
def AP:= @Bool.true_and
def ML:= @PyProof.noPylong_of_log2
def BA:= @List.map_take
def DV:= @List.getElem_mem
def K6:= @PySem.F.plainAttrs_list
def FF:= @List.isEmpty_iff
def FD:= @List.drop_append
def BV:= @Int.add_zero
def BL:= @List.all_map
def Jr:= @List.drop_of_length_le
def Dj:= @Nat.min_eq_left
def B0:= @Int.mul_le_mul
def E3:= @List.all_cons
def CB:= @List.map_drop
def CF:= @Bool.not_true
abbrev jU:=Nat->Nat->Int
abbrev b8:=Nat->Int
abbrev bE:=List (Int×Int)
abbrev Ħ:=List PySem.Addr
abbrev bK:=PySem.W.Frag
namespace L2
open PySem PySem.Spec PyProof.Rows
structure Mod (K:bK) (mg:Str->Option Value) (base:Heap):Prop where
 bH:K.In base
 glob:base.Ns mainGlobals mg
 blt:∃mb,base.Ns builtinsNs mb/\∀x:Str,x≠ "__name__" ->mb x=bootBuiltins x
 nolimit:base.NoLimit
noncomputable def fW(l:List Env):List Addr:=l.filterMap (·.frame)
def Loc(sc:Scope)(x:Str):Prop:=sc.names.lookup x=some .local ∨sc.names.lookup x=some .cell
def Look(env:Env)(h:Heap)(m:Str->Option Value)(x:Str)(u:Value):Prop:=
 (env.kindOf x=some .local /\m x=some u)∨((env.kindOf x=some .cell∨env.kindOf x=some .free)/\∃c,env.cells.lookup x=some c/\h.IsCell c (some u))
section
def JL{N:List Str}(hN:N.Nodup){i j:Nat}{x:Str}(a:N[i]? =some x)(b:N[j]? =some x):i=j:=by
 obtain⟨h1,e1⟩:=Zn.mp a;obtain⟨h2,e2⟩:=Zn.mp b;exact(List.getElem_inj hN).mp (e1.trans e2.symm)
end
def aN{α:Type}{t:Sem α}{Q Q':α->Shared->Prop}{M:Model}{A:Around}{E:Value->Shared->Prop}{s:Shared}(h:wpAny M A t Q E s)(hQ:∀a s,Q a s->Q' a s):wpAny M A t Q' E s:=wpAny_mono h hQ λ_ _ x=>x
section
def Xw(k:Nat):(0:Int)<=2^k:=by
 rw[two_pow_cast];exact Int.natCast_nonneg _
end
structure kC (h:Heap) (x dx C:Addr) (mA:Str->Option Value):Prop where
 obj:h.get? x=some (PySem.W.instObj C dx)
 ns:h.Ns1 dx mA
 ne:dx≠x
def Tt{h:Heap}{dx:Addr}{mA:Str->Option Value}(n:h.Ns1 dx mA):∃od,h.get? dx=some od/\∀name,PySem.W.lookIn name od=some (mA name):=by
 obtain⟨o,es,ep,ho,hd,hk,_,hm⟩:=n;refine⟨o,ho,λname=>?_⟩;have e:=hm name;unfold nsFind findBy at e;rw[← Array.find?_toList]at e;unfold PySem.W.lookIn;rw[hd];dsimp only;split
 .rename_i y q;rw[q]at e;exact congrArg some e
 .rename_i q;rw[q]at e;have a:es.toList.any (·.refKey)=false:=by
   rw[List.any_eq_false];intro y hy;obtain⟨z,t,hkey⟩:=hk y (Array.mem_toList_iff.mp hy);simp[DictEntry.refKey,hkey]
  have a':¬es.toList.any (·.refKey)=true:=by rw[a];exact ZL
  rw[if_neg a'];exact congrArg some e
def kC.look{h:Heap}{x dx C:Addr}{mA:Str->Option Value}(I:kC h x dx C mA):∃od,PySem.W.InstAt h x (PySem.W.instObj C dx) C (some od)/\∀name,PySem.W.lookIn name od=some (mA name):=
 let ⟨od,ho,hl⟩:=Tt I.ns
 ⟨od,⟨I.obj,rfl,rfl,ho⟩,hl⟩
section
variable {prog:Program}{w:World}{A:Around}{E:Value->Shared->Prop}{s:Shared}{K:bK}{x dx C f:Addr}{mA:Str->Option Value}{name:Str}{v:Value}
def get_map{expr:Bool}{Q:Value->Shared->Prop}(X:K.In s.heap)(I:kC s.heap x dx C mA)(hg:PySem.W.plainGet K C name=true)(hh:PySem.W.hasDictIn K C=true)
  (ha:PySem.W.findIn K (.ref C) name=some none) (hv:mA name=some v) (hv':PySem.W.handedIn v=true) (h:Q v {s with toks:=s.toks+1}):
  wpAny (model prog w) A (getAttr (.ref x) name expr) Q E s:=by
 obtain⟨od,J,hl⟩:=I.look;exact PySem.W.get_value X J (DL hg).1 (PySem.W.findObj_own hh ha rfl (by rw[hl,hv])) hv' h
def D5{pl:Sem Bool}{Q:Value×List Value->Shared->Prop}(X:K.In s.heap)(I:kC s.heap x dx C mA)(hg:PySem.W.plainGet K C name=true)
  (hf:PySem.W.findIn K (.ref C) name=some (some (.ref f))) (ht:PySem.W.isFn K (.ref f)=true) (hv:mA name=none) (h:Q (.ref f,[.ref x]) s):
  wpAny (model prog w) A (getMethod (.ref x) name pl) Q E s:=by
 obtain⟨od,J,hl⟩:=I.look;exact PySem.W.method_fn X J (DL hg).1 (DL hg).2 hf (beq_iff_eq.mp ht) (by show(PySem.W.lookIn name od).map (·.isSome)=some false;rw[hl,hv];rfl) h
def Bz{ns:List Str}{Q:Unit->Shared->Prop}(X:K.In s.heap)(I:kC s.heap x dx C mA)
  (hs:PySem.W.findIn K (.ref C) "__setattr__" =some (some (.builtin "object.__setattr__"))) (hp:PySem.W.plainOver K C=true) (ht:PySem.W.takerIn K C name=some none) (hh:PySem.W.hasDictIn K C=true)
  (hw:PySem.Within mA ns) (hsz:ns.length<=sizeLine)
  (h:∀h',kC h' x dx C (λy=>if y=name then some v else mA y)->Heap.SameBut dx s.heap h'->Q () {s with heap:=h',toks:=s.toks+2}):
  wpAny (model prog w) A (setAttr (.ref x) name v) Q E s:=by
 obtain⟨od,J,hl⟩:=I.look;refine PySem.W.set_plain X J hs (PySem.W.osa_open (s:={s with toks:=s.toks+1}) (r:=none) X J hp ht λb=>?_);obtain⟨cd,hc,hd'⟩:=PySem.W.any_some hh;have hx:s.heap.get? x=some ⟨.ref C,some dx,.plain,#[]⟩:=I.obj;refine wpAny_bind (wpAny_pure (wpAny_bind (wpAny_bind (wpAny_loadPart hx (wpAny_bind (PySem.W.Looks.here (s:={s with toks:=s.toks+1}) (PySem.W.looks_clsIn X hc) ?_))))));rw[hd'];refine wpAny_pure (a:=some dx) (wpAny_bind (wpAny_pure (wpAny_bind ?_)));refine wpAny_nsSet1 (s:={s with toks:=s.toks+1}) I.ns λh' hn2 hs2=>?_;obtain⟨oD,esD,epD,hoD,hdD,hcD⟩:=hn2.count (PySem.Within.cons name v hw);refine wpAny_bind (wpAny_lookBehind hoD (by rw[hdD];exact pastItsLine_dict (ZE hcD (by rw[ZA];lia))) ?_);exact wpAny_pure (h _ ⟨(hs2.2 _ (Ne.symm I.ne)).trans I.obj,hn2,I.ne⟩ hs2)
def à{R:Result->Shared->Prop}{vs:List Value}{kw:List (Str×Value)}(X:K.In s.heap)(hm:PySem.W.makesIn K C=true)
  (hi:PySem.W.findIn K (.ref C) "__init__" =some (some (.ref f))) (hf:PySem.W.typeIn K (.ref f)=some (.type "function"))
  (h:codeAny (model prog w) (A.under (.builtin "type.__call__" ⟨.ref C::vs,kw⟩)) (.call (.ref f) ⟨.ref (s.heap.objs.size+1)::vs,kw⟩) (PySem.W.InitBack (s.heap.objs.size+1) R)
   {s with heap:=(s.heap.push PySem.W.emptyDict).push (PySem.W.instObj C s.heap.objs.size)}):
  codeAny (model prog w) A (.call (.ref C) ⟨vs,kw⟩) R s:=by
 obtain⟨hh,g,d,t,os⟩:=s;exact PySem.W.make_core (PySem.W.makes_of X hm) (PySem.W.looks_findIn X hi) (λself=>PySem.W.bind_fn X self hf) (.inl rfl) h
end
structure l6 (K:bK) (C:Addr):Prop where
 pg:PySem.W.plainGet K C Str.empty=true
 hd:PySem.W.hasDictIn K C=true
 po:PySem.W.plainOver K C=true
 sa:PySem.W.findIn K (.ref C) "__setattr__" =some (some (.builtin "object.__setattr__"))
def l6.get{K:bK}{C:Addr}(c:l6 K C)(f:Str):PySem.W.plainGet K C f=true:=c.pg
def qW(K:bK)(C:Addr)(f:Str):Prop:=PySem.W.findIn K (.ref C) f=some none
def qW.BE{K:bK}{C:Addr}{f:Str}(n:qW K C f):PySem.W.takerIn K C f=some none:=by
 unfold PySem.W.takerIn;rw[show PySem.W.findIn K (.ref C) f=some none from n];rfl
structure wV (K:bK) (C:Addr) (m:Str) (f:Addr):Prop where
 at_:PySem.W.findIn K (.ref C) m=some (some (.ref f))
 fn:PySem.W.isFn K (.ref f)=true
 kp:PySem.W.keepIn K (.ref f)=true
section
variable {s:Shared}{f:Str}{A:Around}{E:Value->Shared->Prop}
def LP{prog:Program}{w:World}{env:Env}{e:Expr}{f:Str}{pos:Pos}{s:Shared}{Q:Value->Shared->Prop}(hb:attributeBase e f env (eval e env)=eval e env)
  (h:wpAny (model prog w) A (eval e env) (λo s₁=>wpAny (model prog w) A (getAttr o f true) Q E s₁) E s):wpAny (model prog w) A (eval (.Attribute e f pos) env) Q E s:=
 Attribute_any_ h (by rw[arm_eval_Attribute,hb])
end
structure cC (k:Nat) (A:Around):Prop where
 hd:A.handled=none
 dp:A.depth+3*k+5<recursionLimit
 un:A.units+16*k+200<cLine
def cC.mono{j k:Nat}{A:Around}(r:cC k A)(h:j<=k):cC j A:=⟨r.hd,by have:=r.dp;lia,by have:=r.un;lia⟩
def cC.deeper{k:Nat}{A:Around}(r:cC (k+1) A)(env:Env):cC k (A.deeper env):=
 ⟨r.hd,by have:=r.dp;show A.depth+1+3*k+5<_;lia,by have:=r.un;show A.units+3+16*k+200<_;lia⟩
def Xr{A:Around}{C:Addr}{us:List Value}{kw:List (Str×Value)}:(A.under (.builtin "type.__call__" ⟨.ref C::us,kw⟩)).depth=A.depth+1:=by
 first | rfl | simp[Around.under,Code.weight,Code.isCreation,Code.isGuard,Code.isCaller,Code.frames,Code.isFrame,guardIds]
def YV{A:Around}{C:Addr}{us:List Value}{kw:List (Str×Value)}:(A.under (.builtin "type.__call__" ⟨.ref C::us,kw⟩)).units=A.units+1:=by
 first | rfl | simp[Around.under,Code.cUnits,Code.frames,Code.isFrame]
def cC.make{k:Nat}{A:Around}(r:cC (k+1) A)(C:Addr)(us:List Value)(kw:List (Str×Value)):cC k (A.under (.builtin "type.__call__" ⟨.ref C::us,kw⟩)):=
 ⟨r.hd,by have:=r.dp;rw[Xr];lia,by have:=r.un;rw[YV];lia⟩
def cC.depth{k:Nat}{A:Around}(r:cC k A):A.depth<recursionLimit:=by have:=r.dp;lia
def Binds(K:bK)(fd:FuncData)(ps:List Str)(ds:List Value):Prop:=
 ∀(s:Shared) (us:List Value),K.In s.heap->(us++ds).length=ps.length->BindsTo s fd ⟨us,[]⟩ (ps.zip (us++ds))
def Binds.all{K:bK}{fd:FuncData}{ps:List Str}(h:∀us:List Value,us.length=ps.length->bindArgs fd ⟨us,[]⟩=pure (ps.zip us)):Binds K fd ps []:=λs us _ hl=>by
 rw[Zo]at hl ⊢;exact .of_eq (h us hl)
section
variable {f C:Addr}
structure Mk (K:bK) (C f:Addr):Prop where
 makes:PySem.W.makesIn K C=true
 init:PySem.W.findIn K (.ref C) "__init__" =some (some (.ref f))
 fn:PySem.W.isFn K (.ref f)=true
 kp:PySem.W.keepIn K (.ref C)=true
end
structure mT (N P:List Str) (sc:Scope):Prop where
 kind:sc.kind= .function
 co:sc.isCoroutine=false
 gen:sc.isGenerator=false
 nd:N.Nodup
 pre:N.take P.length=P
 par:∀x∈P,sc.names.lookup x=some .local ∨sc.names.lookup x=some .cell
 nofree:∀y∈sc.names,y.2≠ .free
def K3{kindOf:Str->Option NameKind}{x:Str}:∀{binds:List (Str×Value)}{m:Str->Option Value},(∀v,(x,v)∉binds)->bindL kindOf binds m x=m x
 | [],_,_=>rfl
 | (n,v)::r,m,h=>by
  unfold bindL;rw[K3 λw hw=>h w (Zl _ hw)];split
  .have:x≠n:=by rintro rfl;exact h v Zs
   simp[this]
  .rfl
def HR{kindOf:Str->Option NameKind}{x:Str}:∀{binds:List (Str×Value)}{m:Str->Option Value},(∀v,(x,v)∉binds)->bindC kindOf binds m x=m x
 | [],_,_=>rfl
 | (n,v)::r,m,h=>by
  unfold bindC;rw[HR λw hw=>h w (Zl _ hw)];split
  .rfl
  .have:x≠n:=by rintro rfl;exact h v Zs
   simp[this]
def K7{kindOf:Str->Option NameKind}{x:Str}{v:Value}:∀{P:List Str}{vs:List Value}{i:Nat}{m:Str->Option Value},P.Nodup->P[i]? =some x->vs[i]? =some v->kindOf x=some .local →
  bindL kindOf (P.zip vs) m x=some v
 | [],_,_,_,_,h,_,_=>by simp at h
 | _::_,[],_,_,_,_,h,_=>by simp at h
 | p::P,w::vs,0,m,nd,h1,h2,hk=>by
  simp at h1 h2;subst h1;subst h2;show bindL kindOf ((p,w)::P.zip vs) m p=_;unfold bindL;rw[K3 λv hv=>(ZZ.mp nd).1 (rW hv).1,if_pos hk];simp
 | p::P,w::vs,i+1,m,nd,h1,h2,hk=>by
  show bindL kindOf ((p,w)::P.zip vs) m x=_;unfold bindL;exact K7 (i:=i) (ZZ.mp nd).2 (by simpa using h1) (by simpa using h2) hk
def Ll{kindOf:Str->Option NameKind}{x:Str}{v:Value}:∀{P:List Str}{vs:List Value}{i:Nat}{m:Str->Option Value},P.Nodup->P[i]? =some x->vs[i]? =some v->kindOf x≠some .local →
  bindC kindOf (P.zip vs) m x=some v
 | [],_,_,_,_,h,_,_=>by simp at h
 | _::_,[],_,_,_,_,h,_=>by simp at h
 | p::P,w::vs,0,m,nd,h1,h2,hk=>by
  simp at h1 h2;subst h1;subst h2;show bindC kindOf ((p,w)::P.zip vs) m p=_;unfold bindC;rw[HR λv hv=>(ZZ.mp nd).1 (rW hv).1,if_neg hk];simp
 | p::P,w::vs,i+1,m,nd,h1,h2,hk=>by
  show bindC kindOf ((p,w)::P.zip vs) m x=_;unfold bindC;exact Ll (i:=i) (ZZ.mp nd).2 (by simpa using h1) (by simpa using h2) hk
def Ma{sc:Scope}{n:Nat}{x:Str}(h:sc.names.lookup x=some .cell):∃c,(cellsFrom n sc.names []).lookup x=some c:=by
 have q:=t9 sc.names n [] (.inl h);exact xV.mp q
end L2
namespace HT
open PySem PyProof.Rows
section
noncomputable def gV(n d:Nat):Option Int->Nat
 | none=>d
 | some v=>if v<0 then(v+(n:Int)).toNat else min v.toNat n
def FR(n d:Nat):gV n d none=d:=rfl
def Ai(n d k:Nat):gV n d (some (k:Int))=min k n:=by
 show(if(k:Int)<0 then((k:Int)+(n:Int)).toNat else min (k:Int).toNat n)=min k n;rw[if_neg ⋯,Zx]
end
end HT
namespace L2
open PySem PySem.Spec PyProof.Rows
noncomputable def kI(n:Nat)(i:Int):Option Nat:=if 0<=i then(if i<n then some i.toNat else none)else if-(n:Int)<=i then some (i+n).toNat else none
def eU{α:Type}(xs:List α)(i:Int):Option α:=(kI xs.length i).bind λj=>xs[j]?
def tV{n:Nat}{i:Int}{j:Nat}(h:kI n i=some j):seqIndex? i n=some j/\j<n/\ -(n:Int)<=i/\i<n:=by
 unfold kI at h;by_cases h0:0<=i
 .rw[if_pos h0]at h;by_cases h1:i<n
  .rw[if_pos h1]at h;have e:i.toNat=j:=Option.some.inj h;exact⟨by rw[seqIndex_of h0 h1,e],⋯,⋯,h1⟩
  .rw[if_neg h1]at h;cases h
 .rw[if_neg h0]at h;by_cases h1: -(n:Int)<=i
  .rw[if_pos h1]at h;have e:(i+n).toNat=j:=Option.some.inj h;exact⟨by rw[seqIndex_neg ⋯ h1,e],⋯,h1,⋯⟩
  .rw[if_neg h1]at h;cases h
def Rx{α:Type}{xs:List α}{i:Int}{v:α}(h:eU xs i=some v):∃j,seqIndex? i xs.length=some j/\xs[j]? =some v/\j<xs.length/\ -(xs.length:Int)<=i/\i<xs.length:=by
 unfold eU at h;cases e:kI xs.length i with
 | none=>rw[e]at h;cases h
 | some j=>
  rw[e]at h;obtain⟨h1,h2,h3,h4⟩:=tV e;exact⟨j,h1,h,h2,h3,h4⟩
def wI(b:Expr):Prop:=∀o i,subscripted b false o i=operate [o,i] (getItem o i)
section
def Vf(lo hi:Option Int)(n:Nat):(sliceBounds lo hi none n).1=((HT.gV n 0 lo:Nat):Int)/\(sliceBounds lo hi none n).2.1=((HT.gV n n hi:Nat):Int)/\(sliceBounds lo hi none n).2.2=1:=by
 refine⟨?_,?_,rfl⟩
 .cases lo with
  | none=>simp[sliceBounds,HT.gV]
  | some i=>
   simp only[sliceBounds,HT.gV,Option.getD_none,show(1:Int)>0 by decide,if_true];by_cases h:i<0
   .simp only[h,if_true]<;>lia
   .simp only[h,if_false]<;>lia
 .cases hi with
  | none=>simp[sliceBounds,HT.gV]
  | some i=>
   simp only[sliceBounds,HT.gV,Option.getD_none,show(1:Int)>0 by decide,if_true];by_cases h:i<0
   .simp only[h,if_true]<;>lia
   .simp only[h,if_false]<;>lia
def Y4(its:List Value)(lo hi:Option Int):slicePick its.toArray lo hi none=((its.drop (HT.gV its.length 0 lo)).take (HT.gV its.length its.length hi-HT.gV its.length 0 lo)).toArray:=by
 obtain⟨h1,h2,h3⟩:=Vf lo hi its.toArray.size;unfold slicePick;rw[h1,h2,h3];simp only[sliceRange_one,pick_run,Zk]<;>rfl
end
def foldl_rep(its:List Value):∀(k:Nat) (acc:List Value),
  List.foldl (λx1 x2=>x1++x2) acc.toArray (List.replicate k its.toArray)=(acc++(List.replicate k its).flatten).toArray
 | 0,acc=>by simp
 | k+1,acc=>by
  have e:acc.toArray++its.toArray=(acc++its).toArray:= ⋯
  have e2:(acc++its)++(List.replicate k its).flatten=acc++(List.replicate (k+1) its).flatten:=by
   rw[qN,vO,ZX]
  rw[← e2,← foldl_rep its k (acc++its),← e,qN,Af]
section
def GD{n:Nat}(h:n<=sizeLine):Builtin.List.listTooLong n=false:=by
 unfold Builtin.List.listTooLong;exact decide_eq_false ⋯
def len_rep{α:Type}(xs:List α)(k:Nat):(List.replicate k xs).flatten.length=k*xs.length:=by
 induction k with
 | zero=>simp
 | succ k ih=>rw[qN,vO,Zm,ih,Nat.succ_mul,Nat.add_comm]
end
end L2
namespace Att
open PySem PySem.W PySem.Calls PyProof.Rows
def TS{P:Params}{h:Heap}:∀(ns:List Int) (vs:List Value),WellAll P h vs (ns.map WData.int)->IntsAre vs ns:=by
 intro ns
 induction ns with
 | nil=>
  intro vs w;rw[List.map_nil]at w;cases w;exact .nil
 | cons n ns ih=>
  intro vs w;rw[Zp]at w;cases w with
  | cons a b=>
   cases a;exact .cons _ _ (ih _ b)
def YS{l:OpenLaw}{n:Nat}(hn:l.most=some n){P:Params}{h:Heap}{args:List WData}{vals:List Value}
  (hpre:l.row.toRowW.claim.pre args=true) (hwl:WellAll P h vals args):
  ∃a vs ns,vals=[Value.ref a]/\args=[WData.list (ns.map WData.int)]/\h.get? a=some {cls:= .type "list",data:= .seq vs.toArray}/\IntsAre vs ns/\ns.length<=n:=by
 have hsh:WShape.hasAll [] args [.list .int]=true:=(pre_splitW hpre).1;have hc:l.pre.holds [] {args:=args}=true:=(pre_splitW hpre).2;obtain⟨d,r,rfl,h1,h2⟩:=hasAllW_cons hsh;obtain rfl:=hasAllW_nil h2;obtain⟨xs,rfl,h3⟩:=hasW_list h1;obtain⟨ns,rfl⟩:=items_int h3;have hlen:ns.length<=n:=by
  unfold OpenLaw.pre at hc;have h4:(WTm.not (.lt (.lit (.int (n:Int))) (.len (.arg 0)))).holds [] {args:=[.list (ns.map .int)]}=true:=by
   have h4:=(holds_andW hc).1;rw[hn]at h4;exact h4
  have h5:=condW_of h4 (w_not (w_lt w_lit (w_len_list (w_arg rfl))));rw[Zh]at h5;refine Nat.le_of_not_lt λq=>?_;have q':(n:Int)<((ns.length:Nat):Int):= ⋯
  first
   | (rw[decide_eq_true q']at h5;exact absurd h5 ∅)
   | (simp at h5;lia)
 cases hwl with
 | cons w1 w2=>
  cases w2;cases w1 with
  | list ho hall=>exact⟨_,_,ns,rfl,rfl,ho,TS ns _ hall,hlen⟩
def Rd(l:OpenLaw)(args:List WData):l.row.toRowW.claim.post args (.bool true) args=true:=
 postW_of (r:=l.row.toRowW) (X:=(true == true))
  (show WShape.has [] (.bool true) .bool=true by first | rfl | decide | simp[WShape.has,WShape.arms,WShape.armsAll])
  (show(WTm.eq .res (.lit (.bool true))).value [] {args:=args,res:=some (.bool true),after:=args}=some (.bool (true == true))from w_eq_bool (w_res rfl) w_lit) rfl
end Att
namespace L2
open PySem PySem.Spec PyProof.Rows
noncomputable abbrev iY{K:bK}{h:Heap}(_:K.In h):PySem.W.Frag:=K
noncomputable def inClass(s:Stmt)(j:Nat):Stmt:=match s with
 | .ClassDef _ _ _ body _ _ _ _ _ _ _=>body.getD j (.Pass ⟨0,0,0,0⟩)
 | _=> .Pass ⟨0,0,0,0⟩
noncomputable def jV(s:Stmt):Arguments:=match s with
 | .FunctionDef _ a _ _ _ _ _ _ _ _=>a
 | _=>{posonlyargs:=[],args:=[],vararg:=none,kwonlyargs:=[],kw_defaults:=[],kwarg:=none,defaults:=[]}
noncomputable def QE(s:Stmt):List Stmt:=match s with
 | .FunctionDef _ _ b _ _ _ _ _ _ _=>b
 | _=>[]
noncomputable def Qp(s:Stmt):Scope:=match s with
 | .FunctionDef _ _ _ _ _ _ sc _ _ _=>sc
 | _=>{kind:= .function,names:=[],isGenerator:=false,isCoroutine:=false}
structure oW (K:bK) (x qual:Str) (st:Stmt) (f:Addr) (fd:FuncData):Prop where
 ex:∃(oc:Value) (od:Option Addr) (kV doc pm:Value) (an:Option Addr) (cdv ct:Value) (osl:Array (Option Value)),
  fd=PySem.W.fnOf x qual (jV st) (QE st) (Qp st) .none kV doc pm an cdv ct/\K.lookup f=some ⟨oc,od,.func fd,osl⟩/\PySem.W.codeIn K cdv qual=true
 kp:PySem.W.keepIn K (.ref f)=true
section
variable {K:bK}
def oW.binds{x qual:Str}{st:Stmt}{f:Addr}{fd:FuncData}{ps:List Str}(F:oW K x qual st f fd)
  (h:∀(kV doc pm:Value) (an:Option Addr) (cdv ct:Value) (us:List Value),us.length=ps.length->bindArgs (PySem.W.fnOf x qual (jV st) (QE st) (Qp st) .none kV doc pm an cdv ct) ⟨us,[]⟩=pure (ps.zip us)):Binds K fd ps []:=by
 obtain⟨oc,od,kV,doc,pm,an,cdv,ct,osl,rfl,lk,hcd⟩:=F.ex;exact .all (h kV doc pm an cdv ct)
def Hq{x qual:Str}{st:Stmt}{f:Addr}{oc:Value}{od an:Option Addr}{osl:Array (Option Value)}{kV doc pm cdv ct:Value}(l:K.lookup f=some ⟨oc,od,.func (PySem.W.fnOf x qual (jV st) (QE st) (Qp st) .none kV doc pm an cdv ct),osl⟩)
  (c:PySem.W.codeIn K cdv qual=true) (k:PySem.W.keepIn K (.ref f)=true):oW K x qual st f (PySem.W.fnOf x qual (jV st) (QE st) (Qp st) .none kV doc pm an cdv ct):=⟨⟨oc,od,kV,doc,pm,an,cdv,ct,osl,rfl,l,c⟩,k⟩
end
end L2
namespace HS
open PySem PySem.Spec L2 PyProof.Rows
section
def Im{v:Value}{o:Option Int}(h:IsPart v o):∃l:Option (Int×Tok),v=partValue l/\o=l.map (·.1):=by
 cases h with
 | none=>exact⟨none,rfl,rfl⟩
 | int i t=>exact⟨some (i,t),rfl,rfl⟩
end
end HS
namespace L2
open PySem PySem.Spec PyProof.Rows
def Ck(env:Env)(body:Str×NameKind->List (Str×Addr)->Sem (ForInStep (List (Str×Addr))))
  (hb:∀n k cs,body (n,k) cs=if(k == NameKind.free)=true then(do let c ← cellOf env n;pure (ForInStep.yield ((n,c)::cs)))else pure (ForInStep.yield cs)):
  ∀(names:List (Str×NameKind)) (acc:List (Str×Addr)),(∀y∈names,y.2= .free->∃c,env.cells.lookup y.1=some c)->(∀x c,acc.lookup x=some c->env.cells.lookup x=some c)→
   ∃cl,forIn names acc body=(pure cl:Sem _)/\(∀x c,cl.lookup x=some c->env.cells.lookup x=some c)/\(∀x,acc.lookup x≠none->cl.lookup x≠none)/\∀y∈names,y.2= .free->cl.lookup y.1≠none
 | [],acc,_,ha=>⟨acc,rfl,ha,λ_ h=>h,λy hy=>by simp at hy⟩
 | (n,k)::r,acc,hn,ha=>by
  rw[rQ,hb];have hr:∀y∈r,y.2= .free->∃c,env.cells.lookup y.1=some c:=λy hy=>hn y (Zl _ hy);by_cases hk:k= .free
  .subst hk;obtain⟨c,hc⟩:=hn (n,.free) Zs rfl;have hce:cellOf env n=pure c:=by unfold cellOf;rw[show env.cells.lookup n=some c from hc]
   rw[if_pos (by rfl),hce];obtain⟨cl,e,h1,h2,h3⟩:=Ck env body hb r ((n,c)::acc) hr (λx c' e=>by
    rw[Zw]at e;cases q:x == n with
    | true=>rw[q]at e;cases e;rw[beq_iff_eq]at q;rw[q];exact hc
    | false=>rw[q]at e;exact ha x c' e)
   have hcons:∀x,((n,c)::acc).lookup x≠none->cl.lookup x≠none:=h2;refine⟨cl,by simpa using e,h1,λx hx=>hcons x ?_,λy hy hf=>?_⟩
   .rw[Zw];cases x == n with
    | true=>simp
    | false=>exact hx
   .rcases Zj.mp hy with rfl | hy
    .exact hcons _ (by simp[Zw])
    .exact h3 y hy hf
  .rw[if_neg (by simpa using hk)];obtain⟨cl,e,h1,h2,h3⟩:=Ck env body hb r acc hr ha;refine⟨cl,by simpa using e,h1,h2,λy hy hf=>?_⟩;rcases Zj.mp hy with rfl | hy
   .exact absurd hf hk
   .exact h3 y hy hf
def Dr(h:∀y∈scope.names,y.2= .free->∃c,env.cells.lookup y.1=some c):
  ∃cl,closureFor scope env=pure cl/\(∀x c,cl.lookup x=some c->env.cells.lookup x=some c)/\∀y∈scope.names,y.2= .free->∃c,cl.lookup y.1=some c:=by
 unfold closureFor;obtain⟨cl,e,h1,_,h3⟩:=Ck env (λx cs=>match x with | (name,kind)=>if(kind == NameKind.free)=true then(do let c ← cellOf env name;pure (ForInStep.yield ((name,c)::cs)))else pure (ForInStep.yield cs)) (λ_ _ _=>rfl) scope.names [] h (λx c e=>by simp at e);refine⟨cl,?_,h1,λy hy hf=>Option.ne_none_iff_exists'.mp (h3 y hy hf)⟩;show(forIn scope.names [] _ >>= λr=>pure r)=_;rw[e];rfl
def Ep{env:Env}:∀{names:List (Str×NameKind)}{x:Str},names.lookup x=some .free→
  (names.map λ(n,k)=>if(k == NameKind.free && env.scope.kind == .function && env.kindOf n == some .cell)then(n,NameKind.cell)else(n,k)).lookup x=some .cell∨
  (names.map λ(n,k)=>if(k == NameKind.free && env.scope.kind == .function && env.kindOf n == some .cell)then(n,NameKind.cell)else(n,k)).lookup x=some .free
 | [],_,h=>by simp at h
 | (n,k)::r,x,h=>by
  have ih:= @Ep env r x;rw[Zp];cases hx:x == n with
  | true=>
   simp only[Zw,hx]at h;cases h;dsimp only;split
   .left;simp[Zw,hx]
   .right;simp[Zw,hx]
  | false=>
   simp only[Zw,hx]at h;dsimp only;split
   .simp only[Zw,hx];exact ih h
   .simp only[Zw,hx];exact ih h
def Hf{env:Env}:∀{names:List (Str×NameKind)}{x:Str},
  ((names.map λ(n,k)=>if(k == NameKind.free && env.scope.kind == .function && env.kindOf n == some .cell)then(n,NameKind.cell)else(n,k)).lookup x=some .cell∨
  (names.map λ(n,k)=>if(k == NameKind.free && env.scope.kind == .function && env.kindOf n == some .cell)then(n,NameKind.cell)else(n,k)).lookup x=some .free)→
  ∃k,(x,k)∈names/\(k= .free∨k= .cell)
 | [],_,h=>by simp at h
 | (n,k)::r,x,h=>by
  have ih:= @Hf env r x;rw[Zp]at h;cases hx:x == n with
  | true=>
   have hn:x=n:=by simpa using hx
   subst hn;dsimp only at h;split at h
   .rename_i hc;simp only[Ze]at hc;refine⟨k,Zs,.inl (by simpa using hc.1.1)⟩
   .simp only[Zw,hx]at h;refine⟨k,Zs,?_⟩;rcases h with h | h
    .exact .inr (Option.some.inj h)
    .exact .inl (Option.some.inj h)
  | false=>
   dsimp only at h;have:∃k,(x,k)∈r/\(k= .free∨k= .cell):=by
    apply ih;split at h
    .simpa only[Zw,hx]using h
    .simpa only[Zw,hx]using h
   obtain⟨k',h1,h2⟩:=this;exact⟨k',Zl _ h1,h2⟩
def q7:∀(names:List (Str×NameKind)) (n:Nat) (acc:List (Str×Addr)) (x:Str) (c:Addr),(cellsFrom n names acc).lookup x=some c->acc.lookup x=some c∨(n<=c/\(x,NameKind.cell)∈names)
 | [],_,_,_,_,h=> .inl h
 | (nm,k)::r,n,acc,x,c,h=>by
  unfold cellsFrom at h;split at h
  .rename_i hk;have hk:k= .cell:=by simpa using hk
   rcases q7 r (n+1) ((nm,n)::acc) x c h with h | ⟨h1,h2⟩
   .rw[Zw]at h;cases q:x == nm with
    | true=>
     rw[q]at h;cases h;have:x=nm:=by simpa using q
     exact .inr ⟨Zu _,by rw[this,hk];exact Zs⟩
    | false=>rw[q]at h;exact .inl h
   .exact .inr ⟨⋯,Zl _ h2⟩
  .rcases q7 r n acc x c h with h | ⟨h1,h2⟩
   .exact .inl h
   .exact .inr ⟨h1,Zl _ h2⟩
def B7:∀(names:List (Str×NameKind)) (n:Nat) (acc:List (Str×Addr)) (x:Str) (c:Addr),(x,NameKind.cell)∈names->(cellsFrom n names acc).lookup x=some c->n<=c
 | (nm,k)::r,n,acc,x,c,hm,h=>by
  unfold cellsFrom at h;split at h
  .by_cases hr:(x,NameKind.cell)∈r
   .have:=B7 r (n+1) _ x c hr h;lia
   .have hx:x=nm:=by
     rcases Zj.mp hm with e | e
     .exact(Prod.mk.inj e).1
     .exact absurd e hr
    rcases q7 r (n+1) ((nm,n)::acc) x c h with h | ⟨h1,_⟩
    .rw[Zw,show(x == nm)=true by simpa using hx]at h;cases h;exact Zu _
    .lia
  .rename_i hk;rcases Zj.mp hm with e | e
   .exact absurd (by rw[← (Prod.mk.inj e).2];rfl) hk
   .exact B7 r n acc x c e h
def Ef:∀(names:List (Str×NameKind)) (n:Nat) (acc:List (Str×Addr)),(∀x y c,acc.lookup x=some c->acc.lookup y=some c->x=y)->(∀x c,acc.lookup x=some c->c<n)→
  ∀x y c,(cellsFrom n names acc).lookup x=some c->(cellsFrom n names acc).lookup y=some c->x=y
 | [],_,_,hi,_,x,y,c,h1,h2=>hi x y c h1 h2
 | (nm,k)::r,n,acc,hi,hb,x,y,c,h1,h2=>by
  unfold cellsFrom at h1 h2;split at h1
  .rename_i hk;rw[if_pos hk]at h2;refine Ef r (n+1) ((nm,n)::acc) (λx y c h1 h2=>?_) (λx c h=>?_) x y c h1 h2
   .rw[Zw]at h1 h2;cases qx:x == nm with
    | true=>
     rw[qx]at h1;cases h1;cases qy:y == nm with
     | true=>rw[show x=nm by simpa using qx,show y=nm by simpa using qy]
     | false=>rw[qy]at h2;exact absurd (hb y _ h2) (Ak _)
    | false=>
     rw[qx]at h1;cases qy:y == nm with
     | true=>rw[qy]at h2;cases h2;exact absurd (hb x _ h1) (Ak _)
     | false=>rw[qy]at h2;exact hi x y c h1 h2
   .rw[Zw]at h;cases qx:x == nm with
    | true=>rw[qx]at h;cases h;exact ZW _
    | false=>rw[qx]at h;exact vH (hb x c h)
  .rename_i hk;rw[if_neg hk]at h2;exact Ef r n acc hi hb x y c h1 h2
def yT:∀(names:List (Str×NameKind)) (n:Nat) (acc:List (Str×Addr)) (x:Str),(∃c,acc.lookup x=some c)->∃c,(cellsFrom n names acc).lookup x=some c
 | [],_,_,_,h=>h
 | (nm,k)::r,n,acc,x,h=>by
  unfold cellsFrom;split
  .refine yT r (n+1) _ x ?_;rw[Zw];cases x == nm with
   | true=>exact⟨n,rfl⟩
   | false=>exact h
  .exact yT r n acc x h
def DM:∀(names:List (Str×NameKind)) (n:Nat) (acc:List (Str×Addr)) (x:Str),(x,NameKind.cell)∈names->∃c,(cellsFrom n names acc).lookup x=some c
 | (nm,k)::r,n,acc,x,hm=>by
  unfold cellsFrom;rcases Zj.mp hm with e | e
  .obtain⟨e1,e2⟩:=Prod.mk.inj e;subst e1;rw[← e2,if_pos (by rfl)];exact yT r (n+1) _ x ⟨n,by simp[Zw]⟩
  .split
   .exact DM r (n+1) _ x e
   .exact DM r n acc x e
def E6(lo:Nat):∀(names:List (Str×NameKind)) (h:Heap) (acc:List (Str×Addr)),(∀x c,acc.lookup x=some c->lo<=c->h.IsCell c none)->lo<=h.objs.size→
  ∀x c,(cellsFrom h.objs.size names acc).lookup x=some c->lo<=c->(pushCells h names).IsCell c none
 | [],_,_,ha,_,x,c,e,hl=>ha x c e hl
 | (nm,k)::r,h,acc,ha,hlo,x,c,e,hl=>by
  unfold cellsFrom at e;unfold pushCells;split at e
  .rename_i hk;rw[if_pos hk];have hs:=ZF h {cls:= .type "cell",data:= .cell none};refine E6 lo r (h.push {cls:= .type "cell",data:= .cell none}) ((nm,h.objs.size)::acc) (λx c e hl=>?_) (by rw[hs];lia) x c (by rw[hs];exact e) hl;rw[Zw]at e;cases q:x == nm with
   | true=>rw[q]at e;cases e;exact⟨_,Zi _ rfl,rfl⟩
   | false=>rw[q]at e;exact(ha x c e hl).keeps λb o e=>Zb _ e
  .rename_i hk;rw[if_neg hk];exact E6 lo r h acc ha hlo x c e hl
def Hn
  (hQ:∀h':Heap,h'.Ns s.heap.objs.size (λ_=>none)->(∀b o,s.heap.get? b=some o->h'.get? b=some o)->((∀x c,cl.lookup x=some c->c<s.heap.objs.size)->∀x c,(cellsFrom (s.heap.objs.size+1) scope.names cl).lookup x=some c->s.heap.objs.size+1<=c->h'.IsCell c none)→
   Q (newEnv scope s.heap.objs.size globals (cellsFrom (s.heap.objs.size+1) scope.names cl) qual none .none (some env) builtins) {s with heap:=h'}):
  wpAny M A (newFunctionEnv scope globals cl [] qual none .none (some env) builtins) Q E s:=by
 simp only[newFunctionEnv,Option.isSome_some,if_true];refine wpAny_bind (wpAny_alloc ?_);refine wpAny_bind (wpAny_layCells _ (λname kind cells=>by cases hkc:kind == NameKind.cell<;>simp[hkc]) _ _ _ _ ?_);have hs:=ZF s.heap {cls:= .type "dict",data:= .dict #[]};rw[show({s with heap:=s.heap.push {cls:= .type "dict",data:= .dict #[]}}:Shared).heap.objs.size=s.heap.objs.size+1 from hs];refine wpAny_bind (wpAny_pure (wpAny_pure ?_));refine hQ _ ((Heap.Ns.new s.heap (.type "dict")).keeps (pushCells_keeps _ _)) (λb o e=>pushCells_keeps _ _ b o (Zb _ e)) λhb x c e hl=>?_;refine E6 (s.heap.objs.size+1) scope.names (s.heap.push {cls:= .type "dict",data:= .dict #[]}) cl (λx c e hl=>?_) (by rw[hs];exact Zu _) x c (by rw[hs];exact e) hl;exact absurd (wX (hb x c e) (ZE (Nat.le_succ _) hl)) (Ak _)
section
variable {tg iter elt:Expr}{ifs:List Expr}{scope:Scope}{pos:Pos}
def WB(J:Nat->Shared->Prop)
  (turn:∀n s,J n s->wpAny (model prog w) A (pyNext it) (λr s1=>match r with
   | none=>R (.ok .next) s1
   | some v=>wpAny (model prog w) A (letOwnedTupleGo tg it v) (λ_ s2=>wpAny (model prog w) A (assign tg env v) (λ_ s3=>
     wpAny (model prog w) A (forIn ifs true λc r=>if r=true then do let ok ← isTrue c env (eval c env);pure (ForInStep.yield ok)else pure (ForInStep.yield r)) (λok s4=>
      if ok=true then wpAny (model prog w) A (eval elt env) (λx s5=>wpAny (model prog w) A (call (.builtin "list.append") [acc,x]) (λ_ s6=>∃m,m<n/\J m s6) (λ_ _=>False) s5) (λ_ _=>False) s4
      else ∃m,m<n/\J m s4) (λ_ _=>False) s3) (λ_ _=>False) s2) (λ_ _=>False) s1) (λ_ _=>False) s)
  (n:Nat) (h:J n s0):codeAny (model prog w) A (.compLoop (.ListComp elt [⟨tg,iter,ifs,0⟩] scope pos) 0 it acc env) R s0:=by
 have up:∀{α:Type}{t:Sem α}{Q:α->Shared->Prop}{E:Value->Shared->Prop}{s:Shared},wpAny (model prog w) A t Q (λ_ _=>False) s->wpAny (model prog w) A t Q E s:=λh=>wpAny_mono h (λ_ _ q=>q) λ_ _ f=>f.elim;refine codeAny_loop (by rfl) J (λk sk hk=>?_) n h;show wpAny (model prog w) A ((compTurn (.ListComp elt [⟨tg,iter,ifs,0⟩] scope pos) 0 it acc env).onRaise (λx=>do noteFrame x env;theTreesLotGoes x)) _ _ sk;refine wpAny_noted (up ?_);rw[compTurn_list];refine wpAny_bind (wpAny_standAt (wpAny_bind (aN (turn k sk hk) λr s1 h1=>?_)));cases r with
 | none=>exact wpAny_pure h1
 | some v=>
  refine wpAny_bind (aN h1 λ_ s2 h2=>wpAny_bind (aN h2 λ_ s3 h3=>wpAny_bind (aN h3 λok s4 h4=>?_)));cases ok with
  | false=>exact wpAny_pure ⟨rfl,h4⟩
  | true=>exact wpAny_bind (wpAny_bind (aN h4 λx s5 h5=>wpAny_bind (aN h5 λ_ s6 h6=>wpAny_pure (wpAny_pure ⟨rfl,h6⟩))))
end
end L2
namespace L2
open PySem PySem.Spec
def Um(a b c:Value):checkTypeCall "zip" ⟨[a,b,c],[]⟩=pure ():= 'r'
def YC(a b c:Value):checkBuiltinCall "zip.__new__" ⟨[.type "zip",a,b,c],[]⟩=pure ():= 'r'
def đ(a b c d:Value):argsOk "object.__init__" ⟨[a,b,c,d],[]⟩:=by
 unfold argsOk;rw[signature?_of (n:=['_','_','t','i','n','i','_','_']) 'r' F.owner_object];kernel_rfl
abbrev d7(h:Heap)(T:Addr)(a b c:Value):Prop:=h.get? T=some {cls:= .type "tuple",data:= .seq #[a,b,c]}
section
variable {prog:Program}{w:World}{A:Around}{E:Value->Shared->Prop}{s:Shared}
def E8(hT:d7 s.heap T a b c)
  (h:∀h',h'.get? T=some {cls:= .type "tuple",data:= .seq ((#[a,b,c]:Array Value).setIfInBounds k x)}->Heap.SameBut T s.heap h'->Q () {s with heap:=h'}):
  wpAny (model prog w) A (updateSeq T (·.setIfInBounds k x)) Q E s:=by
 refine wpAny_updateSeq hT rfl (h _ ?_ (zS ..));rw[vD _ hT rfl];simp[Obj.mapSeq]
structure w6 (z TI TO i1 i2 i3:Addr):Prop where
 TIz:TI≠z
 TOz:TO≠z
 i1z:i1≠z
 i2z:i2≠z
 i3z:i3≠z
 TITO:TI≠TO
 TIi1:TI≠i1
 TIi2:TI≠i2
 TIi3:TI≠i3
 TOi1:TO≠i1
 TOi2:TO≠i2
 TOi3:TO≠i3
 i12:i1≠i2
 i13:i1≠i3
 i23:i2≠i3
def Off(z TO i1 i2 i3 l:Addr):Prop:=l≠z/\l≠TO/\l≠i1/\l≠i2/\l≠i3
def Wi{z TI TO i1 i2 i3 l1 l2 l3:Addr}{k:Nat}{xs ys zs:Array Value}{x y u a b c:Value}{Q:Value->Shared->Prop}(D:w6 z TI TO i1 i2 i3)(O1:Off z TO i1 i2 i3 l1)(O2:Off z TO i1 i2 i3 l2)(O3:Off z TO i1 i2 i3 l3)
  (hz:IsZip s.heap z TI TO .none) (hTI:d7 s.heap TI (.ref i1) (.ref i2) (.ref i3)) (hTO:d7 s.heap TO a b c)
  (h1:s.heap.IsListIter i1 l1 k) (h2:s.heap.IsListIter i2 l2 k) (h3:s.heap.IsListIter i3 l3 k) (hl1:s.heap.IsList l1 xs) (hl2:s.heap.IsList l2 ys) (hl3:s.heap.IsList l3 zs) (hx:xs[k]? =some x) (hy:ys[k]? =some y) (hu:zs[k]? =some u)
  (hQ:∀h',IsZip h' z TI TO (rawInt s.heap.objs.size)->d7 h' TO x y u->h'.IsListIter i1 l1 (k+1)->h'.IsListIter i2 l2 (k+1)->h'.IsListIter i3 l3 (k+1)->d7 h' s.heap.objs.size x y u->h'.objs.size=s.heap.objs.size+1→
   (∀c o,c≠z->c≠TO->c≠i1->c≠i2->c≠i3->s.heap.get? c=some o->h'.get? c=some o)->Q (.ref s.heap.objs.size) {s with heap:=h'}):
  wpAny (model prog w) A (Builtin.«zip.__next__» ⟨[.ref z],[]⟩) (λfin s'=>∃v,fin= .done (.ret v)/\Q v s') E s:=by
 show wpAny _ _ (field (.ref z) 2 >>= _) _ _ _;refine wpAny_bind (wpAny_field hz rfl rfl ?_);show wpAny _ _ (field (.ref z) 3 >>= _) _ _ _;refine wpAny_bind (wpAny_field hz rfl rfl ?_);refine wpAny_bind (wpAny_seqItems hTI rfl ?_);show wpAny _ _ (Builtin.SmallTypes.ownedTupleIsFree (.ref z) >>= _) _ _ _;refine wpAny_bind ?_;unfold Builtin.SmallTypes.ownedTupleIsFree;refine wpAny_bind (wpAny_field hz rfl rfl (wpAny_pure ?_));simp only[if_true];refine wpAny_bind (wpAny_rule ?_);refine wpAny_bind (wpAny_field hz rfl rfl ?_);refine wpAny_bind (wpAny_setField_rec hz ⋯ λg1 hz1 s1=>?_)
 replace hz1:IsZip g1 z TI TO .ellipsis:=hz1
 refine wpAny_bind ?_;simp only[y8,AY,rQ,AA];refine wpAny_bind (wpAny_bind (wpAny_onRaise ?_));show wpAny _ _ (Builtin.SmallTypes.nextOf (.ref i1) >>= _) _ _ _;have k1:∀e o,e≠z->s.heap.get? e=some o->g1.get? e=some o:=λe o a1 q=>s1.extBut _ _ a1 q;refine wpAny_bind (wpAny_nextOf_list_item (h1.at λo e=>k1 _ o D.i1z e) (hl1.at λo e=>k1 _ o O1.1 e) hx λg2 m1 s2=>wpAny_pure ?_);have k2:∀e o,e≠z->e≠i1->s.heap.get? e=some o->g2.get? e=some o:=λe o a1 a3 q=>s2.extBut _ _ a3 (k1 e o a1 q);have t2:d7 g2 TO a b c:=k2 _ _ D.TOz D.TOi1 hTO;refine wpAny_bind (wpAny_seqItems t2 rfl ?_);refine wpAny_bind (E8 t2 λg3 t3 s3=>?_)
 replace t3:d7 g3 TO x b c:=t3
 have k3:∀e o,e≠z->e≠TO->e≠i1->s.heap.get? e=some o->g3.get? e=some o:=λe o a1 a2 a3 q=>s3.extBut _ _ a2 (k2 e o a1 a3 q);refine wpAny_bind (wpAny_letGo (wpAny_pure ?_));refine wpAny_bind (wpAny_bind (wpAny_onRaise ?_));show wpAny _ _ (Builtin.SmallTypes.nextOf (.ref i2) >>= _) _ _ _;refine wpAny_bind (wpAny_nextOf_list_item (h2.at λo e=>k3 _ o D.i2z D.TOi2.symm D.i12.symm e) (hl2.at λo e=>k3 _ o O2.1 O2.2.1 O2.2.2.1 e) hy λg4 m2 s4=>wpAny_pure ?_);have k4:∀e o,e≠z->e≠TO->e≠i1->e≠i2->s.heap.get? e=some o->g4.get? e=some o:=λe o a1 a2 a3 a4 q=>s4.extBut _ _ a4 (k3 e o a1 a2 a3 q);have t4:d7 g4 TO x b c:=s4.extBut _ _ D.TOi2 t3;refine wpAny_bind (wpAny_seqItems t4 rfl ?_);refine wpAny_bind (E8 t4 λg5 t5 s5=>?_)
 replace t5:d7 g5 TO x y c:=t5
 have k5:∀e o,e≠z->e≠TO->e≠i1->e≠i2->s.heap.get? e=some o->g5.get? e=some o:=λe o a1 a2 a3 a4 q=>s5.extBut _ _ a2 (k4 e o a1 a2 a3 a4 q);refine wpAny_bind (wpAny_letGo (wpAny_pure ?_));refine wpAny_bind (wpAny_bind (wpAny_onRaise ?_));show wpAny _ _ (Builtin.SmallTypes.nextOf (.ref i3) >>= _) _ _ _;refine wpAny_bind (wpAny_nextOf_list_item (h3.at λo e=>k5 _ o D.i3z D.TOi3.symm D.i13.symm D.i23.symm e) (hl3.at λo e=>k5 _ o O3.1 O3.2.1 O3.2.2.1 O3.2.2.2.1 e) hu λg6 m3 s6=>wpAny_pure ?_);have k6:∀e o,e≠z->e≠TO->e≠i1->e≠i2->e≠i3->s.heap.get? e=some o->g6.get? e=some o:=λe o a1 a2 a3 a4 a5 q=>s6.extBut _ _ a5 (k5 e o a1 a2 a3 a4 q);have t6:d7 g6 TO x y c:=s6.extBut _ _ D.TOi3 t5;refine wpAny_bind (wpAny_seqItems t6 rfl ?_);refine wpAny_bind (E8 t6 λg7 t7 s7=>?_)
 replace t7:d7 g7 TO x y u:=t7
 have k7:∀e o,e≠z->e≠TO->e≠i1->e≠i2->e≠i3->s.heap.get? e=some o->g7.get? e=some o:=λe o a1 a2 a3 a4 a5 q=>s7.extBut _ _ a2 (k6 e o a1 a2 a3 a4 a5 q);refine wpAny_bind (wpAny_letGo (wpAny_pure (wpAny_pure ?_)));refine wpAny_bind (wpAny_seqItems t7 rfl ?_);refine wpAny_bind (wpAny_newTuple ?_);have hsz:g7.objs.size=s.heap.objs.size:=by rw[s7.1,s6.1,s5.1,s4.1,s3.1,s2.1,s1.1]
 have hz7:IsZip g7 z TI TO .ellipsis:=s7.extBut _ _ D.TOz.symm (s6.extBut _ _ D.i3z.symm (s5.extBut _ _ D.TOz.symm (s4.extBut _ _ D.i2z.symm (s3.extBut _ _ D.TOz.symm (s2.extBut _ _ D.i1z.symm hz1)))));have n1:g7.IsListIter i1 l1 (k+1):=((((m1.extBut s3.extBut D.TOi1.symm).extBut s4.extBut D.i12).extBut s5.extBut D.TOi1.symm).extBut s6.extBut D.i13).extBut s7.extBut D.TOi1.symm;have n2:g7.IsListIter i2 l2 (k+1):=((m2.extBut s5.extBut D.TOi2.symm).extBut s6.extBut D.i23).extBut s7.extBut D.TOi2.symm;have n3:g7.IsListIter i3 l3 (k+1):=m3.extBut s7.extBut D.TOi3.symm;have hzlt:z<g7.objs.size:=ZC hz7;show wpAny _ _ (Builtin.SmallTypes.ownedTupleHandOut (.ref z) (.ref g7.objs.size) >>= _) _ _ _;refine wpAny_bind ?_;unfold Builtin.SmallTypes.ownedTupleHandOut;have hz8:IsZip (g7.push {cls:= .type "tuple",data:= .seq #[x,y,u]}) z TI TO .ellipsis:=Zb _ hz7;refine wpAny_bind (wpAny_setField_rec hz8 ⋯ λg9 hz9 s9=>?_)
 replace hz9:IsZip g9 z TI TO (rawInt g7.objs.size):=hz9
 refine wpAny_setField_rec hz9 ⋯ λg10 hz10 s10=>?_
 replace hz10:IsZip g10 z TI TO (rawInt g7.objs.size):=hz10
 have up:∀c o,c≠z->g7.get? c=some o->g10.get? c=some o:=λc o c1 e=>s10.extBut _ _ c1 (s9.extBut _ _ c1 (Zb _ e));have hT:d7 g10 g7.objs.size x y u:=s10.extBut _ _ (kU hzlt) (s9.extBut _ _ (kU hzlt) (Zi _ rfl));have hz':g10.objs.size=g7.objs.size+1:=by rw[s10.1,s9.1,ZF]
 rw[hsz]at hz10 hT hz';refine wpAny_pure ⟨_,rfl,?_⟩;show Q (.ref g7.objs.size) _;rw[hsz];exact hQ g10 hz10 (up _ _ D.TOz t7) (n1.at λo e=>up _ o D.i1z e) (n2.at λo e=>up _ o D.i2z e) (n3.at λo e=>up _ o D.i3z e) hT hz' λc o c1 c2 c3 c4 c5 e=>up c o c1 (k7 c o c1 c2 c3 c4 c5 e)
def V7{z TI TO i1 i2 i3 l1:Addr}{k:Nat}{xs:Array Value}{Q:Fin->Shared->Prop}(hh:A.handled=none)(D:w6 z TI TO i1 i2 i3)(O1:l1≠z)
  (hz:IsZip s.heap z TI TO .none) (hTI:d7 s.heap TI (.ref i1) (.ref i2) (.ref i3)) (h1:s.heap.IsListIter i1 l1 k) (hl1:s.heap.IsList l1 xs) (hx:xs[k]? =none)
  (hE:∀h' e,(∀c o,c≠z->c≠i1->s.heap.get? c=some o->h'.get? c=some o)->(∃o,h'.get? e=some o/\o.cls= .type "StopIteration")->E (.ref e) {s with heap:=h'}):
  wpAny (model prog w) A (Builtin.«zip.__next__» ⟨[.ref z],[]⟩) Q E s:=by
 show wpAny _ _ (field (.ref z) 2 >>= _) _ _ _;refine wpAny_bind (wpAny_field hz rfl rfl ?_);show wpAny _ _ (field (.ref z) 3 >>= _) _ _ _;refine wpAny_bind (wpAny_field hz rfl rfl ?_);refine wpAny_bind (wpAny_seqItems hTI rfl ?_);show wpAny _ _ (Builtin.SmallTypes.ownedTupleIsFree (.ref z) >>= _) _ _ _;refine wpAny_bind ?_;unfold Builtin.SmallTypes.ownedTupleIsFree;refine wpAny_bind (wpAny_field hz rfl rfl (wpAny_pure ?_));simp only[if_true];refine wpAny_bind (wpAny_rule ?_);refine wpAny_bind (wpAny_field hz rfl rfl ?_);refine wpAny_bind (wpAny_setField_rec hz ⋯ λg1 hz1 s1=>?_)
 replace hz1:IsZip g1 z TI TO .ellipsis:=hz1
 refine wpAny_bind ?_;simp only[y8,AY,rQ,AA];refine wpAny_bind (wpAny_bind (wpAny_onRaise ?_));show wpAny _ _ (Builtin.SmallTypes.nextOf (.ref i1) >>= _) _ _ _;refine wpAny_bind (wpAny_nextOf_list_end hh (h1.extBut s1.extBut D.i1z) (hl1.extBut s1.extBut O1) hx λg2 e s2 he=>?_);obtain⟨oe,hoe,hce⟩:=he;have hz2:IsZip g2 z TI TO .ellipsis:=s2 _ _ D.i1z.symm hz1;have hez:e≠z:=λx=>by subst x;rw[hz2]at hoe;cases hoe;simp at hce
 refine wpAny_setField_rec hz2 ⋯ λg3 _ s3=>hE g3 e (λc o c1 c3 x=>s3.extBut _ _ c1 (s2 _ _ c3 (s1.extBut _ _ c1 x))) ⟨oe,s3.extBut _ _ hez hoe,hce⟩
def UZ{z TI TO i1 i2 i3 l1 l2 l3:Addr}{k:Nat}{xs ys zs:Array Value}{x y u a b c:Value}{Q:Option Value->Shared->Prop}(D:w6 z TI TO i1 i2 i3)(O1:Off z TO i1 i2 i3 l1)(O2:Off z TO i1 i2 i3 l2)(O3:Off z TO i1 i2 i3 l3)
  (hz:IsZip s.heap z TI TO .none) (hTI:d7 s.heap TI (.ref i1) (.ref i2) (.ref i3)) (hTO:d7 s.heap TO a b c)
  (h1:s.heap.IsListIter i1 l1 k) (h2:s.heap.IsListIter i2 l2 k) (h3:s.heap.IsListIter i3 l3 k) (hl1:s.heap.IsList l1 xs) (hl2:s.heap.IsList l2 ys) (hl3:s.heap.IsList l3 zs) (hx:xs[k]? =some x) (hy:ys[k]? =some y) (hu:zs[k]? =some u)
  (hQ:∀h',IsZip h' z TI TO (rawInt s.heap.objs.size)->d7 h' TO x y u->h'.IsListIter i1 l1 (k+1)->h'.IsListIter i2 l2 (k+1)->h'.IsListIter i3 l3 (k+1)->d7 h' s.heap.objs.size x y u->h'.objs.size=s.heap.objs.size+1→
   (∀c o,c≠z->c≠TO->c≠i1->c≠i2->c≠i3->s.heap.get? c=some o->h'.get? c=some o)->Q (some (.ref s.heap.objs.size)) {s with heap:=h'}):
  wpAny (model prog w) A (pyNext (.ref z)) Q E s:=by
 have hT:s.TypeIs (.ref z) "zip" :=⟨_,hz,rfl⟩;unfold pyNext
 exact wpAny_bind (wpAny_attempt (wpAny_callSpecial?_slot hT o7
  (wpAny_call_entry o7 hT Bj
   (Wi D O1 O2 O3 hz hTI hTO h1 h2 h3 hl1 hl2 hl3 hx hy hu λh' a1 a2 a3 a4 a5 a6 a7 a8=>wpAny_pure (hQ h' a1 a2 a3 a4 a5 a6 a7 a8)) (zG _))))
def Pf{z TI TO i1 i2 i3 l1:Addr}{k:Nat}{xs:Array Value}{Q:Option Value->Shared->Prop}(hh:A.handled=none)(D:w6 z TI TO i1 i2 i3)(O1:l1≠z)
  (hz:IsZip s.heap z TI TO .none) (hTI:d7 s.heap TI (.ref i1) (.ref i2) (.ref i3)) (h1:s.heap.IsListIter i1 l1 k) (hl1:s.heap.IsList l1 xs) (hx:xs[k]? =none)
  (hQ:∀h',(∀c o,c≠z->c≠i1->s.heap.get? c=some o->h'.get? c=some o)->Q none {s with heap:=h'}):wpAny (model prog w) A (pyNext (.ref z)) Q E s:=by
 have hT:s.TypeIs (.ref z) "zip" :=⟨_,hz,rfl⟩;unfold pyNext
 refine wpAny_bind (wpAny_attempt (wpAny_callSpecial?_slot hT o7
  (wpAny_call_entry o7 hT Bj (V7 hh D O1 hz hTI h1 hl1 hx λh' e hk he=>?_) (zG _))))
 obtain⟨o,ho,hc⟩:=he;refine wpAny_bind (wpAny_isInstance ⟨o,ho,hc⟩ isSubtype_stop ?_);exact wpAny_pure (hQ _ hk)
end
noncomputable abbrev zA(h:Heap)(l1:Addr):Heap:=h.push {cls:= .type "list_iterator",data:= .fields #[.ref l1,.int 0 0]}
abbrev zB(h:Heap)(l1 l2:Addr):Heap:=(zA h l1).push {cls:= .type "list_iterator",data:= .fields #[.ref l2,.int 0 0]}
abbrev zC(h:Heap)(l1 l2 l3:Addr):Heap:=(zB h l1 l2).push {cls:= .type "list_iterator",data:= .fields #[.ref l3,.int 0 0]}
abbrev zD(h:Heap)(l1 l2 l3:Addr):Heap:=(zC h l1 l2 l3).push {cls:= .type "tuple",data:= .seq #[.ref h.objs.size,.ref (zA h l1).objs.size,.ref (zB h l1 l2).objs.size]}
abbrev zE(h:Heap)(l1 l2 l3:Addr):Heap:=(zD h l1 l2 l3).push {cls:= .type "tuple",data:= .seq #[.none,.none,.none]}
abbrev zF(h:Heap)(l1 l2 l3:Addr):Heap:=(zE h l1 l2 l3).push {cls:= .type "zip",data:= .fields #[.none,.bool false,.bool false,.ref (zC h l1 l2 l3).objs.size,.ref (zD h l1 l2 l3).objs.size]}
def Û(l1 l2 l3:Addr)(xs ys zs:Array Value):
  Meets (Builtin.«zip.__new__» ⟨[.type "zip",.ref l1,.ref l2,.ref l3],[]⟩) (λ_ R s=>s.heap.IsList l1 xs/\s.heap.IsList l2 ys/\s.heap.IsList l3 zs∧
   R (.ok (.ret (.ref (zE s.heap l1 l2 l3).objs.size))) {s with heap:=zF s.heap l1 l2 l3}):=
 .of_wp λprog w A R s h=>by
  obtain⟨hp,g,d,tk,os⟩:=s;obtain⟨hl1,hl2,hl3,h⟩:=h;have hsub:=sub_zip;have hL1:Heap.IsList (Shared.heap ⟨hp,g,d,tk,os⟩) l1 xs:=hl1;have hL2:Heap.IsList (Shared.heap ⟨hp.push {cls:= .type "list_iterator",data:= .fields #[.ref l1,.int 0 0]},g,d,tk,os⟩) l2 ys:=Ae hl2 _;have hL3:Heap.IsList (Shared.heap ⟨(hp.push {cls:= .type "list_iterator",data:= .fields #[.ref l1,.int 0 0]}).push {cls:= .type "list_iterator",data:= .fields #[.ref l2,.int 0 0]},g,d,tk,os⟩) l3 zs:=Ae (Ae hl3 _) _
  wp_walk using wpAny_pyIter_list hL1,wpAny_pyIter_list hL2,wpAny_pyIter_list hL3
  exact⟨_,rfl,h⟩
section
variable {prog:Program}{w:World}{A:Around}{E:Value->Shared->Prop}{s:Shared}
def Ya(hl1:s.heap.IsList l1 xs)(hl2:s.heap.IsList l2 ys)(hl3:s.heap.IsList l3 zs)
  (h:∀h',IsZip h' (s.heap.objs.size+5) (s.heap.objs.size+3) (s.heap.objs.size+4) .none->d7 h' (s.heap.objs.size+3) (.ref s.heap.objs.size) (.ref (s.heap.objs.size+1)) (.ref (s.heap.objs.size+2))→
   d7 h' (s.heap.objs.size+4) .none .none .none->h'.IsListIter s.heap.objs.size l1 0->h'.IsListIter (s.heap.objs.size+1) l2 0->h'.IsListIter (s.heap.objs.size+2) l3 0→
   (∀c o,s.heap.get? c=some o->h'.get? c=some o)->Q (.ref (s.heap.objs.size+5)) {s with heap:=h'}):
  wpAny (model prog w) A (call (.type "zip") [.ref l1,.ref l2,.ref l3]) Q E s:=by
 refine callType_new F.called_zip ∅ (Um _ _ _) (YC _ _ _) (λobj=>đ obj _ _ _) F.entry_zip_new
  (Û l1 l2 l3 xs ys zs) ⟨hl1,hl2,hl3,?_⟩
 have z1:(zA s.heap l1).objs.size=s.heap.objs.size+1:=ZF ..;have z2:(zB s.heap l1 l2).objs.size=s.heap.objs.size+2:=by rw[ZF,z1]
 have z3:(zC s.heap l1 l2 l3).objs.size=s.heap.objs.size+3:=by rw[ZF,z2]
 have z4:(zD s.heap l1 l2 l3).objs.size=s.heap.objs.size+4:=by rw[ZF,z3]
 have z5:(zE s.heap l1 l2 l3).objs.size=s.heap.objs.size+5:=by rw[ZF,z4]
 have g6:(zF s.heap l1 l2 l3).get? (zE s.heap l1 l2 l3).objs.size=some _:=Zi _ rfl;have g5:(zF s.heap l1 l2 l3).get? (zD s.heap l1 l2 l3).objs.size=some _:=Zb _ (Zi _ rfl);have g4:(zF s.heap l1 l2 l3).get? (zC s.heap l1 l2 l3).objs.size=some _:=Zb _ (Zb _ (Zi _ rfl));have g3:(zF s.heap l1 l2 l3).get? (zB s.heap l1 l2).objs.size=some _:=Zb _ (Zb _ (Zb _ (Zi _ rfl)));have g2:(zF s.heap l1 l2 l3).get? (zA s.heap l1).objs.size=some _:=Zb _ (Zb _ (Zb _ (Zb _ (Zi _ rfl))));have g1:(zF s.heap l1 l2 l3).get? s.heap.objs.size=some _:=Zb _ (Zb _ (Zb _ (Zb _ (Zb _ (Zi _ rfl)))));show _/\_;rw[z3,z4,z5]at g6;rw[z1,z2,z3]at g4;rw[z4]at g5;rw[z2]at g3;rw[z1]at g2;rw[z5];exact⟨⟨_,g6,rfl⟩,h _ g6 g4 g5 ⟨_,g1,rfl,rfl⟩ ⟨_,g2,rfl,rfl⟩ ⟨_,g3,rfl,rfl⟩ λc o x=>
  Zb _ (Zb _ (Zb _ (Zb _ (Zb _ (Zb _ x)))))⟩
end
open PyProof.Rows
end L2
namespace HS
open PySem PySem.Spec PyProof.Rows L2
inductive Ob where
 | ins (x:Str) (ns:List Str) | pin (a:Addr) | pair
 | dic (ks:List Str)
inductive D where
 | aT | bl (b:Bool) | int (i:Int) | str (x:Str) | tup (xs:List D) | lst (xs:List D) | exc (x:Str) | dk (ks:List (List Int))
 | obj (o:Ob) (xs:List D)
mutual
noncomputable def D.flat:D->Bool
 | .lst _=>false
 | .tup xs=>QU xs
 | .aT=>true
 | .bl _=>true
 | .int _=>true
 | .str _=>true
 | .exc _=>true
 | .dk _=>false
 | .obj _ _=>false
noncomputable def QU:List D->Bool
 | []=>true
 | d::ds=>d.flat && QU ds
end
def oS(a C:Addr)(h:Heap):Prop:=∃o vs,h.get? a=some o/\o.cls= .ref C/\o.data= .fields vs
end HS
namespace HS
open PySem PySem.Spec L2
noncomputable abbrev En:=List (Option (D×Bool))
noncomputable abbrev aA(d:D):Option (D×Bool):=some (d,true)
noncomputable abbrev aP(d:D):Option (D×Bool):=some (d,false)
noncomputable abbrev aI(i:Int):Option (D×Bool):=some (.int i,true)
def nn{α:Type}{x:α}{C:Prop}(h:(none:Option α)=some x):C:=nomatch h
structure R where
 d:D
 fr:Bool
 M:List Nat
noncomputable abbrev aO(d:D):R:=⟨d,true,[]⟩
noncomputable abbrev cU(d:D):R:=⟨d,false,[]⟩
noncomputable abbrev aY(i:Int):R:=⟨.int i,true,[]⟩
structure RA where
 ds:List D
 fr:Bool
 M:List Nat
abbrev DE:=En->Option R
abbrev DA:=En->Option RA
abbrev DT:=En->Option Bool
section
def R.norm(r:R):R:=if r.d.flat then⟨r.d,true,[]⟩else r
end
def Qd(i:Nat):DE:=λU=>match U[i]? with
 | some (some (d,b))=>if d.flat then some ⟨d,true,[]⟩else if b then some ⟨d,true,[i]⟩else some ⟨d,false,[]⟩
 | _=>none
noncomputable def dC(d:D):DE:=λ_=>some ⟨d,true,[]⟩
abbrev dS(s:Str):DE:=dC (.str s)
abbrev aL:DE:=Qd 0
abbrev aF:DE:=Qd 1
abbrev aK:DE:=Qd 2
abbrev aU:DE:=Qd 3
abbrev bJ:DE:=Qd 4
abbrev bI:DE:=Qd 5
abbrev dJ:DE:=Qd 6
abbrev jW:DE:=Qd 7
abbrev t8:DE:=Qd 8
abbrev uG:DE:=Qd 9
abbrev PI:DE:=Qd 10
abbrev Nj:DE:=Qd 11
abbrev Tc:DE:=Qd 12
abbrev aZ:DE:=dC (.int 0)
abbrev bA:DE:=dC (.int 1)
abbrev bR:DE:=dC (.int 2)
abbrev kB:DE:=dC (.int 3)
abbrev wQ:DE:=dC (.int 4)
abbrev rL:DE:=dC (.int 5)
abbrev Lq:DE:=dC (.int 6)
abbrev tG:DE:=dC (.int 7)
abbrev kJ:DE:=dC (.int 8)
abbrev Ay:DE:=dC (.int 9)
abbrev GB:DE:=dC (.int 11)
abbrev H7:DE:=dC (.int 12)
abbrev W9:DE:=dC (.int 13)
abbrev VQ:DE:=dC (.int 14)
abbrev WC:DE:=dC (.int 15)
abbrev KW:DE:=dC (.int 16)
abbrev Ò:DE:=dC (.int 17)
abbrev MF:DE:=dC (.int 18)
abbrev Ud:DE:=dC (.int 24)
abbrev A9:DE:=dC (.int 26)
abbrev Jd:DE:=dC (.int 27)
abbrev Iq:DE:=dC (.int 30)
abbrev WG:DE:=dC (.int 31)
abbrev qK:DE:=dC (.int 40)
abbrev ÿ:DE:=dC (.int 64)
abbrev NY:DE:=dC (.int 100)
abbrev CO:DE:=dC (.int 300)
abbrev UO:DE:=dC (.int 1000)
abbrev RI:DE:=dC (.int 48271)
abbrev Hi:DE:=dC (.int 69621)
abbrev Uq:DE:=dC (.int 1000003)
abbrev YE:DE:=dC (.int 2147483629)
abbrev Mx:DE:=dC (.int 2147483647)
section
noncomputable def aB(g:D->D->Option D)(fa fb:DE):DE:=λU=>(fa U).bind λra=>(fb U).bind λrb=>(g ra.d rb.d).map λd=>⟨d,true,[]⟩
end
noncomputable def uR(i j:Int):Int:=if 0<=j then i / j else i.fdiv j
noncomputable def sW(i j:Int):Int:=if 0<=j then i % j else i.fmod j
def VA(i j:Int):uR i j=i.fdiv j:=by
 unfold uR;split
 .rw[Jf _ (by assumption)]
 .rfl
def PG(i j:Int):sW i j=i.fmod j:=by
 unfold sW;split
 .rw[Int.fmod_eq_emod_of_nonneg _ (by assumption)]
 .rfl
noncomputable def oU(i j:Int):Bool:=decide (i.natAbs<2^64) || decide (j.natAbs<2^64) || (decide (Builtin.Int.intBits i<=2^20) && decide (Builtin.Int.intBits j<=2^20))
noncomputable def xU(j:Int):Bool:=decide (j≠0) && decide (j.natAbs<2^8000)
noncomputable def gI(f:Int->Int->Option D)(a b:D):Option D:=match a,b with
 | .int i,.int j=>f i j
 | _,_=>none
def hH:=gI λi j=>some (.int (i-j))
def eJ:=gI λi j=>if xU j then some (.int (uR i j))else none
def QX:=gI λi j=>if j≠0 then some (.int (sW i j))else none
def EU:=gI λi j=>if 0<=j then some (.int (i / 2^j.toNat))else none
noncomputable def D.Il:D->Option Int
 | .int i=>some i
 | _=>none
def kO:List D->Option (List Int)
 | []=>some []
 | d::ds=>(d.Il).bind λi=>(kO ds).map λr=>i::r
def bZ:=gI λi j=>some (.bl (decide (i<j)))
def LK:=gI λi j=>some (.bl (decide (i<=j)))
def cS:=gI λi j=>some (.bl (decide (j<i)))
def mL:=gI λi j=>some (.bl (decide (j<=i)))
def B3(h:gI f a b=some d):∃i j,a= .int i/\b= .int j/\f i j=some d:=by
 unfold gI at h;split at h
 .exact⟨_,_,rfl,rfl,h⟩
 .cases h
def GN:∀(xs ys:List D),QU (xs++ys)=(QU xs && QU ys)
 | [],ys=>by simp[QU]
 | x::xs,ys=>by simp[QU,GN xs ys,Bool.and_assoc]
def eE(ds:List D)(M:List Nat):R:=if QU ds then⟨.lst ds,true,[]⟩else⟨.lst ds,false,M⟩
def Qk(fa fb:DE):DE:=λU=>(fa U).bind λra=>(fb U).bind λrb=>match ra.d,rb.d with
 | .int i,.int j=>some ⟨.int (i+j),true,[]⟩
 | .lst xs,.lst ys=>if xs.length+ys.length<=sizeLine then some (eE (xs++ys) (ra.M++rb.M))else none
 | .str x,.str y=>if x.length+y.length<=sizeLine then some ⟨.str (x++y),true,[]⟩else none
 | _,_=>none
def bS(fa fb:DE):DE:=λU=>(fa U).bind λra=>(fb U).bind λrb=>match ra.d,rb.d with
 | .int i,.int j=>if oU i j then some ⟨.int (i*j),true,[]⟩else none
 | .lst xs,.int j=>if xs.length*j.toNat<=sizeLine/\ -(2^63)<=j/\j<2^63/\QU xs=true then some ⟨.lst (List.replicate j.toNat xs).flatten,true,[]⟩else none
 | _,_=>none
def bind1{α β:Type}{x:Option α}{k:α->Option β}{r:β}(e:x.bind k=some r):∃a,x=some a/\k a=some r:=by
 cases x with
 | none=>cases e
 | some a=>exact⟨a,rfl,e⟩
section
def Ql{α β:Type}{x:Option α}{k:α->Option β}{r:β}{G:Prop}(e:x.bind k=some r)(g:∀a,x=some a->k a=some r->G):G:=let ⟨a,h1,h2⟩:=bind1 e;g a h1 h2
end
noncomputable def Qq:DA:=λ_=>some ⟨[],true,[]⟩
noncomputable def Qb(fa:DE)(fr:DA):DA:=λU=>(fa U).bind λr=>(fr U).bind λrs=>some ⟨r.d::rs.ds,r.fr && rs.fr,r.M++rs.M⟩
abbrev aG(a:DE):DA:=Qb a Qq
abbrev bB(a b:DE):DA:=Qb a (aG b)
abbrev bL(a b c:DE):DA:=Qb a (bB b c)
noncomputable def cJ(fa:DA):DE:=λU=>(fa U).bind λr=>if r.ds.length<=64 then some ⟨.tup r.ds,r.fr,r.M⟩else none
noncomputable def Qx(fa:DA):DE:=λU=>(fa U).bind λr=>if r.ds.length<=64 then some ⟨.lst r.ds,r.fr,r.M⟩else none
section
variable {fa fb:DE}{fs:DA}
noncomputable def D.items:D->Option (List D)
 | .lst xs=>some xs
 | .tup xs=>some xs
 | _=>none
def Qg(fa fb:DE):DE:=λU=>(fa U).bind λra=>(fb U).bind λrb=>match rb.d with
 | .int i=>match ra.d with
  | .str x=>if 0<=i/\i<2^63/\i<x.length then(x.cps[i.toNat]?).map λc=>⟨.str ⟨#[c]⟩,true,[]⟩else none
  | _=>(ra.d.items).bind λxs=>(eU xs i).map λd=>(R.norm ⟨d,ra.fr,ra.M⟩)
 | _=>none
abbrev DO:=En->Option (Option Int)
noncomputable def Q3:DO:=λ_=>some none
noncomputable def QL(f:DE):DO:=λU=>(f U).bind λr=>match r.d with
 | .int i=>some (some i)
 | _=>none
def cutD(xs:List D)(lo hi:Option Int):List D:=(xs.drop (HT.gV xs.length 0 lo)).take (HT.gV xs.length xs.length hi-HT.gV xs.length 0 lo)
def Q6(fa:DE)(lo hi:DO):DE:=λU=>(fa U).bind λra=>(lo U).bind λl=>(hi U).bind λh=>match ra.d with
 | .lst xs=>some (eE (cutD xs l h) ra.M)
 | .str x=>if x.length<=sizeLine then some ⟨.str (Txt.slice x l h),true,[]⟩else none
 | _=>none
noncomputable def aS(g:List D->Option D)(fs:DA):DE:=λU=>(fs U).bind λr=>(g r.ds).map λd=>⟨d,true,[]⟩
noncomputable def QN:List D->Option D
 | [.lst xs]=>some (.int xs.length)
 | [.tup xs]=>some (.int xs.length)
 | [.str x]=>if x.length<=sizeLine then some (.int x.length)else none
 | _=>none
noncomputable def gM:List D->Option D
 | [.int i,.int j]=>some (.int (if j<i then j else i))
 | _=>none
noncomputable def gD:List D->Option D
 | [.int i,.int j]=>some (.int (if j>i then j else i))
 | _=>none
noncomputable def y6:List D->Option D
 | [.int i]=>some (.int (if i<0 then-i else i))
 | _=>none
def dList(fs:DA):DE:=λU=>(fs U).bind λr=>match r.ds with
 | [.lst xs]=>some (eE xs r.M)
 | [.tup xs]=>if xs.length<=sizeLine then some (eE xs r.M)else none
 | _=>none
end
end HS
namespace HS
open PySem PySem.Spec L2
mutual
noncomputable def D.py:D->PyData
 | .aT=> .none
 | .bl b=> .bool b
 | .int i=> .int i
 | .str x=> .str x
 | .tup xs=> .tuple (iS xs)
 | .lst xs=> .list (iS xs)
 | .exc _=> .none
 | .dk _=> .none
 | .obj _ _=> .none
noncomputable def iS:List D->List PyData
 | []=>[]
 | d::ds=>d.py::iS ds
end
def Gu:∀ds:List D,iS ds=ds.map D.py
 | []=>rfl
 | d::ds=>by simp[iS,Gu ds]
noncomputable def D.sim:Nat->D->Bool
 | _,.aT=>true
 | _,.bl _=>true
 | _,.int _=>true
 | _,.str x=>PyData.canLay0 (.str x)
 | 0,.tup xs=>xs.isEmpty
 | 0,.lst xs=>xs.isEmpty
 | n+1,.tup xs=>xs.all (D.sim n)
 | n+1,.lst xs=>xs.all (D.sim n)
 | _,.exc _=>false
 | _,.dk _=>false
 | _,.obj _ _=>false
def DB:∀{ds:List D},(∀d∈ds,d.py.canLay0=true)->PyData.canLayAll0 (iS ds)=true
 | [],_=>rfl
 | d::ds,h=>by
  simp only[iS,PyData.canLayAll0,Ze];exact⟨h d Zs,DB λe he=>h e (Zl _ he)⟩
def Dm:∀{ds:List D},(∀d∈ds,d.py.depth<=n)->PyData.depthAll (iS ds)<=n
 | [],_=>sG _
 | d::ds,h=>by
  simp only[iS,PyData.depthAll];exact Nat.max_le.mpr ⟨h d Zs,Dm λe he=>h e (Zl _ he)⟩
def wF:∀(n:Nat) (d:D),d.sim n=true->d.py.canLay0=true/\d.py.depth<=n+1
 | n,.exc _,h=>by cases n<;>cases h
 | n,.dk _,h=>by cases n<;>cases h
 | n,.obj _ _,h=>by cases n<;>cases h
 | n,.aT,_=>by simp[D.py,PyData.canLay0,PyData.depth]
 | n,.bl _,_=>by simp[D.py,PyData.canLay0,PyData.depth]
 | n,.int _,_=>by simp[D.py,PyData.canLay0,PyData.depth]
 | n,.str x,h=>by
  simp only[D.py,PyData.depth];refine⟨?_,sG _⟩;cases n<;>exact h
 | 0,.tup xs,h=>by
  have:xs=[]:=by simpa[D.sim]using h
  subst this;simp[D.py,iS,PyData.canLay0,PyData.canLayAll0,PyData.depth,PyData.depthAll]
 | 0,.lst xs,h=>by
  have:xs=[]:=by simpa[D.sim]using h
  subst this;simp[D.py,iS,PyData.canLay0,PyData.canLayAll0,PyData.depth,PyData.depthAll]
 | n+1,.tup xs,h=>by
  simp only[D.sim,ZN]at h;simp only[D.py,PyData.canLay0,PyData.depth];exact⟨DB λd hd=>(wF n d (h d hd)).1,Nat.add_le_add_right (Dm λd hd=>(wF n d (h d hd)).2) 1⟩
 | n+1,.lst xs,h=>by
  simp only[D.sim,ZN]at h;simp only[D.py,PyData.canLay0,PyData.depth];exact⟨DB λd hd=>(wF n d (h d hd)).1,Nat.add_le_add_right (Dm λd hd=>(wF n d (h d hd)).2) 1⟩
def dI(a b:D):Bool:=PyData.eqv a.py b.py
mutual
noncomputable def D.oF:D->Bool
 | .exc _=>false
 | .dk _=>false
 | .obj _ _=>false
 | .tup xs=>jZ xs
 | .lst xs=>jZ xs
 | .aT=>true
 | .bl _=>true
 | .int _=>true
 | .str _=>true
noncomputable def jZ:List D->Bool
 | []=>true
 | d::ds=>d.oF && jZ ds
end
def DD:∀{ds:List D},(∀d∈ds,d.oF=true)->jZ ds=true
 | [],_=>rfl
 | d::ds,h=>by
  simp only[jZ,Ze];exact⟨h d Zs,DD λe he=>h e (Zl _ he)⟩
def Fd:∀(n:Nat) (d:D),d.sim n=true->d.oF=true
 | n,.exc _,h=>by cases n<;>cases h
 | n,.dk _,h=>by cases n<;>cases h
 | n,.obj _ _,h=>by cases n<;>cases h
 | n,.aT,_=>rfl
 | n,.bl _,_=>rfl
 | n,.int _,_=>rfl
 | n,.str x,_=>rfl
 | 0,.tup xs,h=>by
  have:xs=[]:=by simpa[D.sim]using h
  subst this;rfl
 | 0,.lst xs,h=>by
  have:xs=[]:=by simpa[D.sim]using h
  subst this;rfl
 | n+1,.tup xs,h=>by
  simp only[D.sim,ZN]at h;simp only[D.oF];exact DD λd hd=>Fd n d (h d hd)
 | n+1,.lst xs,h=>by
  simp only[D.sim,ZN]at h;simp only[D.oF];exact DD λd hd=>Fd n d (h d hd)
def aW(a b:D):Option D:=if a.sim 8 && b.sim 8 then some (.bl (dI a b))else none
def bX(a b:D):Option D:=if a.sim 8 && b.sim 8 then some (.bl (!dI a b))else none
noncomputable def Hp(neg:Bool)(a b:D):Option D:=match a,b with
 | .str x,.str y=>some (.bl (if neg then !(!(Builtin.Str.occurrences y x 0 y.length 1).isEmpty)else !(Builtin.Str.occurrences y x 0 y.length 1).isEmpty))
 | _,_=>none
def bQ(neg:Bool)(a b:D):Option D:=match b with
 | .lst xs=>if a.sim 8 && b.sim 8 then some (.bl (if neg then !(xs.any λy=>dI y a)else xs.any λy=>dI y a))else none
 | .tup xs=>if a.sim 8 && b.sim 8 then some (.bl (if neg then !(xs.any λy=>dI y a)else xs.any λy=>dI y a))else none
 | .str _=>Hp neg a b
 | _=>none
section
def Rz(xs:List D)(a:D):((iS xs).any λy=>PyData.eqv y a.py)=xs.any λy=>dI y a:=by
 rw[Gu,List.any_map];rfl
noncomputable def D.Es:D->Bool
 | .aT=>true
 | _=>false
noncomputable def D.D6:D->String
 | .aT=> "NoneType" | .bl _=> "bool" | .int _=> "int" | .str _=> "str" | .tup _=> "tuple" | .lst _=> "list" | .exc _=> "?" | .dk _=> "?"
 | .obj _ _=> "?"
noncomputable def D.LZ:D->Bool
 | .exc _=>true
 | .dk _=>true
 | .obj _ _=>true
 | _=>false
def D.A8(T:String)(d:D):Option Bool:=if(T == "int" || T == "bool" || T == "list" || T == "tuple" || T == "str") && !d.LZ then some (d.D6 == T || (d.D6 == "bool" && T == "int"))else none
def mM(T:String)(fa:DE):DE:=λU=>(fa U).bind λr=>(r.d.A8 T).map λb=>⟨.bl b,true,[]⟩
noncomputable def D.fO:D->Option Bool
 | .aT=>some false
 | .bl b=>some b
 | .int i=>some (i != 0)
 | .lst xs=>some (!xs.isEmpty)
 | .tup xs=>some (!xs.isEmpty)
 | .str x=>if x.length<=sizeLine then some ((x.length:Int) != 0)else none
 | .exc _=>none
 | .dk _=>none
 | .obj _ _=>none
def Qf(fa:DE):DT:=λU=>(fa U).bind λr=>r.d.fO
noncomputable def iN(f g:DT):DT:=λU=>(f U).bind λb=>if b=true then g U else some false
noncomputable def cL(f g:DT):DT:=λU=>(f U).bind λb=>if b=true then some true else g U
noncomputable def g8(f:DT):DT:=λU=>(f U).bind λb=>some (!b)
variable {b:Expr}{fa fb:DE}
def pK(fa fb:DE):DE:=λU=>(fa U).bind λra=>(ra.d.fO).bind λb=>if b=true then fb U else some ra
def nM(fa fb:DE):DE:=λU=>(fa U).bind λra=>(ra.d.fO).bind λb=>if b=true then some ra else fb U
def GY(fa:DE):DE:=λU=>(fa U).bind λra=>(ra.d.fO).bind λb=>some ⟨.bl (!b),true,[]⟩
noncomputable def jP(g:DT)(fa fb:DE):DE:=λU=>(g U).bind λb=>if b=true then fa U else fb U
noncomputable def wM(fa:DE):DE:=λU=>(fa U).bind λra=>match ra.d with
 | .int i=>some ⟨.int (-i),true,[]⟩
 | _=>none
end
end HS
namespace HS
open PySem PySem.Spec L2
section
def hX(U U':En):Prop:=U'.length=U.length/\∀(i:Nat) d b,U'[i]? =some (some (d,b))->∃b',U[i]? =some (some (d,b'))/\(b=true->b'=true)
def hX.refl:hX U U:=⟨rfl,λi d b h=>⟨b,h,id⟩⟩
def hX.trans(a:hX U U')(b:hX U' U''):hX U U'':=⟨b.1.trans a.1,λi d c h=>by
 obtain⟨c',h1,h2⟩:=b.2 i d c h;obtain⟨c'',h3,h4⟩:=a.2 i d c' h1;exact⟨c'',h3,λz=>h4 (h2 z)⟩⟩
noncomputable def kill:List Nat->En->En
 | [],U=>U
 | i::M,U=>kill M (U.set i none)
noncomputable def dH:List Nat->En->En
 | [],U=>U
 | i::M,U=>dH M (match U[i]? with
  | some (some (d,_))=>U.set i (some (d,false))
  | _=>U)
def Eu(i:Nat):hX U (U.set i none):=⟨⋯,λj d b h=>by
 by_cases hj:i=j
 .subst hj;by_cases hl:i<U.length
  .rw[ZS hl]at h;cases h
  .rw[qT (by simp;lia)]at h;cases h
 .rw[uF hj]at h;exact⟨b,h,id⟩⟩
def pH:∀(M:List Nat) (U:En),hX U (kill M U)
 | [],U=> .refl
 | i::M,U=>(Eu i).trans (pH M _)
def IZ:∀(M:List Nat) (U:En) (i:Nat) (d:D) (b:Bool),i∈M->(kill M U)[i]? =some (some (d,b))->False
 | [],U,i,d,b,h,_=>by simp at h
 | j::M,U,i,d,b,h,e=>by
  rcases Zj.mp h with rfl | h
  .obtain⟨b',e',_⟩:=(pH M (U.set i none)).2 i d b e;by_cases hl:i<U.length
   .rw[ZS hl]at e';cases e'
   .rw[qT (by simp;lia)]at e';cases e'
  .exact IZ M _ i d b h e
def Sj(i:Nat):hX U (match U[i]? with
  | some (some (d,_))=>U.set i (some (d,false))
  | _=>U):=by
 split
 .rename_i d b e;refine⟨⋯,λj d' b' h=>?_⟩;by_cases hj:i=j
  .subst hj;have hl:i<U.length:=(Zn.mp e).1;rw[ZS hl]at h;cases h;exact⟨b,e,λz=>by cases z⟩
  .rw[uF hj]at h;exact⟨b',h,id⟩
 .exact .refl
def iT:∀(M:List Nat) (U:En),hX U (dH M U)
 | [],U=> .refl
 | i::M,U=>(Sj i).trans (iT M _)
def Jb:∀(M:List Nat) (U:En) (i:Nat) (d:D),i∈M->(dH M U)[i]? =some (some (d,true))->False
 | [],U,i,d,h,_=>by simp at h
 | j::M,U,i,d,h,e=>by
  rcases Zj.mp h with rfl | h
  .obtain⟨b',e',hb⟩:=(iT M _).2 i d true e;have:b'=true:=hb rfl;subst this;split at e'
   .rename_i d' b e1;have hl:i<U.length:=(Zn.mp e1).1;rw[ZS hl]at e';cases e'
   .rename_i h1;exact h1 d true e'
  .exact Jb M _ i d h e
def asg(i:Nat)(r:R)(U:En):En:=
 if r.norm.fr && decide r.norm.M.Nodup then(kill r.norm.M U).set i (some (r.d,true))else(dH r.norm.M U).set i (some (r.d,r.d.flat))
end
noncomputable abbrev aC:=List D->Option (D×Bool)
def Qh(n:Nat)(den:aC)(dfl:List D)(fs:DA):DE:=λU=>(fs U).bind λr=>if r.ds.length+dfl.length=n then(den (r.ds++dfl)).map λq=>if q.2=true then⟨q.1,true,[]⟩else R.norm ⟨q.1,false,r.M⟩else none
structure IR where
 items:List D
 M:List Nat
abbrev DI:=En->Option IR
section
variable {fa fb:DE}
noncomputable def QD(fa:DE):DI:=λU=>(fa U).bind λr=>match r.d with
 | .lst xs=>some ⟨xs,r.M⟩
 | .tup xs=>if xs.length<=sizeLine then some ⟨xs,r.M⟩else none
 | .str x=>if x.cps.size<=sizeLine then some ⟨x.cps.toList.map λc=> .str ⟨#[c]⟩,[]⟩else none
 | _=>none
noncomputable def rE(lo:Int)(n:Nat):List D:=(List.range n).map λ(k:Nat)=> .int (lo+(k:Int))
def uQ:(rE lo n).length=n:=by simp[rE]
def DN(h:(rE lo n)[i]? =some d):i<n/\d= .int (lo+i):=by
 unfold rE at h;rw[Zy]at h;cases q:(List.range n)[i]? with
 | none=>rw[q]at h;cases h
 | some k=>
  rw[q]at h;obtain⟨h1,h2⟩:=Zn.mp q;simp at h1 h2;subst h2;exact⟨h1,(Option.some.inj h).symm⟩
def jD(fa:DE):DI:=λU=>(fa U).bind λr=>match r.d with
 | .int j=>if j<=16777216/\ -(2^62)<=j then some ⟨rE 0 j.toNat,[]⟩else none
 | _=>none
def oQ(fa fb:DE):DI:=λU=>(fa U).bind λr=>(fb U).bind λr'=>match r.d,r'.d with
 | .int i,.int j=>if j-i<=16777216/\ -(2^62)<=i/\i<2^62/\ -(2^62)<=j/\j<2^62 then some ⟨rE i (j-i).toNat,[]⟩else none
 | _,_=>none
def iI:(sizeLine:Nat)=16777216:=sizeLine_eq
noncomputable def pU(ds:List D):List D:=ds.zipIdx.map λq=> .tup [.int q.2,q.1]
def GS:(pU ds).length=ds.length:=by simp[pU]
def Ú{ds:List D}{i:Nat}{d:D}(h:(pU ds)[i]? =some d):∃e,ds[i]? =some e/\d= .tup [.int i,e]:=by
 unfold pU at h;rw[Zy,List.getElem?_zipIdx]at h;cases q:ds[i]? with
 | none=>rw[q]at h;cases h
 | some e=>rw[q]at h;simp at h;exact⟨e,rfl,h.symm⟩
def qS(fa:DE):DI:=λU=>(fa U).bind λr=>match r.d with
 | .lst xs=>some ⟨pU xs,r.M⟩
 | _=>none
noncomputable def mB(xs ys:List D):List D:=(xs.zip ys).map λq=> .tup [q.1,q.2]
def AQ:(mB xs ys).length=min xs.length ys.length:=by simp[mB]
def Hm{xs ys:List D}{i:Nat}{d:D}(h:(mB xs ys)[i]? =some d):∃e f,xs[i]? =some e/\ys[i]? =some f/\d= .tup [e,f]:=by
 unfold mB at h;rw[Zy]at h;cases q:(xs.zip ys)[i]? with
 | none=>rw[q]at h;cases h
 | some e=>
  rw[q]at h;obtain⟨h1,h2⟩:=C4.mp q;exact⟨e.1,e.2,h1,h2,(Option.some.inj h).symm⟩
def iC(fa fb:DE):DI:=λU=>(fa U).bind λr=>(fb U).bind λr'=>match r.d,r'.d with
 | .lst xs,.lst ys=>some ⟨mB xs ys,r.M++r'.M⟩
 | _,_=>none
end
end HS
namespace HS
open PySem L2
noncomputable def yK(xs ys zs:List D):List D:=(xs.zip (ys.zip zs)).map λq=> .tup [q.1,q.2.1,q.2.2]
def UM{xs ys zs:List D}{i:Nat}{d:D}(h:(yK xs ys zs)[i]? =some d):∃e f g,xs[i]? =some e/\ys[i]? =some f/\zs[i]? =some g/\d= .tup [e,f,g]:=by
 unfold yK at h;rw[Zy]at h;cases q:(xs.zip (ys.zip zs))[i]? with
 | none=>rw[q]at h;cases h
 | some e=>
  rw[q]at h;obtain⟨h1,h2⟩:=C4.mp q;obtain⟨h3,h4⟩:=C4.mp h2;exact⟨e.1,e.2.1,e.2.2,h1,h3,h4,(Option.some.inj h).symm⟩
def J5(h1:xs.length=ys.length)(h2:ys.length=zs.length):(yK xs ys zs).length=xs.length:=by
 simp[yK];lia
def FE(fa fb fc:DE):DI:=λU=>(fa U).bind λr=>(fb U).bind λr'=>(fc U).bind λr''=>match r.d,r'.d,r''.d with
 | .lst xs,.lst ys,.lst zs=>if xs.length=ys.length/\ys.length=zs.length then some ⟨yK xs ys zs,r.M++(r'.M++r''.M)⟩else none
 | _,_,_=>none
end HS
namespace HS
open PySem PySem.Spec L2
inductive Tg where
 | nm (i:Nat)
 | tp (is:List Nat)
noncomputable def Tg.slots:Tg->List Nat
 | .nm i=>[i]
 | .tp is=>is
def mY:List Nat->List D->En->En
 | i::is,d::ds,U=>mY is ds (U.set i (some (d,d.flat)))
 | _,_,U=>U
def gP:Tg->D->En->Option En
 | .nm i,d,U=>some (U.set i (some (d,d.flat)))
 | .tp is,.tup xs,U=>if xs.length=is.length then some (mY is xs U)else none
 | .tp is,.lst xs,U=>if xs.length=is.length then some (mY is xs U)else none
 | .tp _,_,_=>none
def iX(cap:List (Option Nat))(U:En):En:=cap.map λo=>o.bind λi=>match U[i]? with
 | some (some (d,_))=>some (d,d.flat)
 | _=>none
def vQ(cap:List (Option Nat))(U:En):List Nat:=cap.filterMap λo=>o.bind λi=>match U[i]? with
 | some (some (d,b))=>if b && !d.flat then some i else none
 | _=>none
def nV(t:Tg)(ft:DT)(fe:DE)(Uc:En)(acc:List D×Bool)(d:D):Option (List D×Bool):=
 (gP t d Uc).bind λU1=>(ft U1).bind λc=>if c=true then(fe U1).map λr=>(acc.1++[r.d],acc.2 && r.norm.fr)else some acc
def Qz(fi:DI)(t:Tg)(cap:List (Option Nat))(ft:DT)(fe:DE):DE:=λU=>(fi U).bind λir=>
 (ir.items.foldlM (nV t ft fe (iX cap U)) ([],true)).map λq=>if q.2=true then⟨.lst q.1,true,[]⟩else⟨.lst q.1,false,ir.M++vQ cap U⟩
def kN(U:En):Prop:=∀(j:Nat) d,U[j]? =some (some (d,true))->d.flat=true
def kN.set{U:En}(h:kN U)(i:Nat)(d:D):kN (U.set i (some (d,d.flat))):=λj d' e=>by
 by_cases hj:j=i
 .subst hj;have hl:j<U.length:=by
   by_cases hl:j<U.length
   .exact hl
   .rw[qT (by simp;lia)]at e;cases e
  rw[ZS hl]at e;have e1:=Option.some.inj (Option.some.inj e);have h1:d=d':=congrArg Prod.fst e1;have h2:d.flat=true:=congrArg Prod.snd e1;rw[← h1];exact h2
 .rw[uF (Ne.symm hj)]at e;exact h j d' e
def kN.mY:∀(is:List Nat) (ds:List D) {U:En},kN U->kN (mY is ds U)
 | [],_,_,h=>h
 | _::_,[],_,h=>h
 | i::is,d::ds,_,h=>kN.mY is ds (h.set i d)
def kN.bind{t:Tg}{d:D}{U U':En}(h:kN U)(e:gP t d U=some U'):kN U':=by
 cases t with
 | nm i=>cases e;exact h.set i d
 | tp is=>
  cases d with
  | tup xs=>
   simp only[gP]at e;split at e
   .cases e;exact h.mY is xs
   .cases e
  | lst xs=>
   simp only[gP]at e;split at e
   .cases e;exact h.mY is xs
   .cases e
  | _=>simp only[gP]at e;cases e
def AO(cap:List (Option Nat))(U:En):kN (iX cap U):=λj d e=>by
 unfold iX at e;rw[Zy]at e;cases q:cap[j]? with
 | none=>rw[q]at e;cases e
 | some o=>
  rw[q]at e;cases o with
  | none=>cases e
  | some i=>
   simp only[ZR,Option.bind_some,Option.some.injEq]at e;split at e
   .have e1:=Option.some.inj e;have h1:=congrArg Prod.fst e1;have h2:=congrArg Prod.snd e1;dsimp only at h1 h2;rw[← h1];exact h2
   .cases e
def Ie{cap:List (Option Nat)}{U:En}{j:Nat}{d:D}{b:Bool}(e:(iX cap U)[j]? =some (some (d,b))):∃i b',cap[j]? =some (some i)/\U[i]? =some (some (d,b')):=by
 unfold iX at e;rw[Zy]at e;cases q:cap[j]? with
 | none=>rw[q]at e;cases e
 | some o=>
  rw[q]at e;cases o with
  | none=>cases e
  | some i=>
   simp only[ZR,Option.bind_some,Option.some.injEq]at e;split at e
   .rename_i d' b' hi;have e1:=Option.some.inj e;have h1:d'=d:=congrArg Prod.fst e1;subst h1;exact⟨i,b',rfl,hi⟩
   .cases e
noncomputable def QJ:DT:=λ_=>some true
inductive Out where
 | nx (U:En)
 | bk (U:En)
 | ct (U:En)
 | rt (d:D) (fr:Bool)
abbrev DS:=En->Option Out
noncomputable def Qc:DS:=λU=>some (.nx U)
noncomputable def Qa(f g:DS):DS:=λU=>(f U).bind λo=>match o with
 | .nx U'=>g U'
 | .bk U'=>some (.bk U')
 | .ct U'=>some (.ct U')
 | .rt d fr=>some (.rt d fr)
noncomputable def Jn:DS:=λU=>some (.bk U)
noncomputable def KZ:DS:=λU=>some (.ct U)
def Qm(i:Nat)(fa:DE):DS:=λU=>(fa U).bind λr=>some (.nx (asg i r U))
noncomputable def QP(fa:DE):DE:=λU=>(fa U).map λr=>⟨r.d,false,r.M⟩
noncomputable def Qv(fa:DE):DS:=λU=>(fa U).bind λr=>some (.rt r.d (r.norm.fr && decide r.norm.M.Nodup))
noncomputable def xD:DS:=λ_=>some (.rt .aT true)
noncomputable def cP(fa:DE):DS:=λU=>(fa U).bind λ_=>some (.nx U)
noncomputable def aQ(g:DT)(f1 f2:DS):DS:=λU=>(g U).bind λb=>if b=true then f1 U else f2 U
def jC(t:Tg)(fb:DS):List D->DS
 | [],U=>some (.nx U)
 | d::ds,U=>(gP t d U).bind λU1=>(fb U1).bind λo=>match o with
  | .nx U2=>jC t fb ds U2
  | .ct U2=>jC t fb ds U2
  | .bk U2=>some (.nx U2)
  | .rt d fr=>some (.rt d fr)
def bV(fi:DI)(t:Tg)(fb:DS):DS:=λU=>(fi U).bind λir=>jC t fb ir.items (dH ir.M U)
noncomputable def i9(g:DT)(fb:DS):Nat->DS
 | 0,_=>none
 | n+1,U=>(g U).bind λb=>if b=true then(fb U).bind λo=>match o with
  | .nx U2=>i9 g fb n U2
  | .ct U2=>i9 g fb n U2
  | .bk U2=>some (.nx U2)
  | .rt d fr=>some (.rt d fr)
  else some (.nx U)
section
def eG:D->List Int->Option D
 | d,[]=>some d
 | d,i::is=>(d.items).bind λds=>(eU ds i).bind λd'=>eG d' is
def KH:∀{is:List Int}{d:D}{i:Int}{d':D},eG d (is++[i])=some d'->∃dm ds,eG d is=some dm/\dm.items=some ds/\eU ds i=some d'
 | [],d,i,d',h=>by
  refine Ql h λds h1 h=>?_;refine Ql h λd'' h2 h=>?_;cases h;exact⟨d,ds,rfl,h1,h2⟩
 | k::is,d,i,d',h=>by
  refine Ql h λds h1 h=>?_;refine Ql h λd'' h2 h=>?_;obtain⟨dm,es,h3,h4,h5⟩:=KH h;refine⟨dm,es,?_,h4,h5⟩;simp only[eG,h1,h2,Option.bind_some,h3]
def eW:List Int->D->D->D
 | [],_,new=>new
 | i::is,.lst ds,new=>match kI ds.length i with
  | some j=> .lst (ds.set j (eW is (ds.getD j .aT) new))
  | none=> .lst ds
 | i::is,.tup ds,new=>match kI ds.length i with
  | some j=> .tup (ds.set j (eW is (ds.getD j .aT) new))
  | none=> .tup ds
 | _::_,d,_=>d
end
abbrev DP:=En->Option (List Int)
noncomputable def cN:DP:=λ_=>some []
noncomputable def tR(p:DP)(fb:DE):DP:=λU=>(p U).bind λis=>(fb U).bind λr=>match r.d with
 | .int i=>some (is++[i])
 | _=>none
section
def gC(x:Nat)(pf:DP)(fi fa:DE):DS:=λU=>(fa U).bind λr0=>match U[x]? with
 | some (some (d,true))=>(pf U).bind λis=>(fi U).bind λri=>match ri.d,eG d is with
  | .int k,some (.lst ds)=>(kI ds.length k).bind λj=>if r0.norm.fr && decide r0.norm.M.Nodup && !r0.norm.M.contains x then some (.nx ((kill r0.norm.M U).set x (some (eW is d (.lst (ds.set j r0.d)),true))))else
   if is.isEmpty && !r0.norm.M.contains x then some (.nx ((dH r0.norm.M U).set x (some (.lst (ds.set j r0.d),false))))else
   none
  | _,_=>none
 | _=>none
def Gj:∀(M:List Nat) (U:En) (x:Nat),x∉M->(dH M U)[x]? =U[x]?
 | [],U,x,_=>rfl
 | i::M,U,x,h=>by
  have hi:i≠x:=λe=>h (e▸Zs);unfold dH
  rw[Gj M _ x λe=>h (Zl _ e)];split
  .rw[uF hi]
  .rfl
end
section
variable {fa:DE}{pf:DP}{x:Nat}
noncomputable def BF(r:R)(x:Nat):Bool:=r.norm.fr && decide r.norm.M.Nodup && !r.norm.M.contains x
def Xu(h:BF r x=true):r.norm.fr=true/\r.norm.M.Nodup/\x∉r.norm.M:=by
 unfold BF at h;simp only[Ze,decide_eq_true_eq,ZT]at h;exact⟨h.1.1,h.1.2,λz=>by rw[EM.mpr z]at h;cases h.2⟩
def lA(x:Nat)(pf:DP)(fa:DE):DS:=λU=>match U[x]? with
 | some (some (d,true))=>(pf U).bind λis=>(fa U).bind λr0=>match eG d is with
  | some (.lst ds)=>if BF r0 x && decide (ds.length<sizeLine)then some (.nx ((kill r0.norm.M U).set x (some (eW is d (.lst (ds++[r0.d])),true))))else none
  | _=>none
 | _=>none
def oI(x:Nat)(pf:DP)(fa:DE):DS:=λU=>match U[x]? with
 | some (some (d,true))=>(pf U).bind λis=>(fa U).bind λr0=>match eG d is,r0.d with
  | some (.lst ds),.lst es=>if QU es && decide (ds.length+es.length<=sizeLine)then some (.nx (U.set x (some (eW is d (.lst (ds++es)),true))))else none
  | _,_=>none
 | _=>none
def pM(g:D->D->Option D)(x:Nat)(pf:DP)(fi fa:DE):DS:=λU=>match U[x]? with
 | some (some (d,true))=>(pf U).bind λis=>(fi U).bind λri=>match ri.d,eG d is with
  | .int k,some (.lst ds)=>(kI ds.length k).bind λj=>(ds[j]?).bind λold=>(fa U).bind λr=>(g old r.d).map λnew=> .nx (U.set x (some (eW is d (.lst (ds.set j new)),true)))
  | _,_=>none
 | _=>none
end
end HS
namespace HS
open PySem PySem.Spec L2 PyProof.Rows
def JO:∀{ds:List D}{ns:List Int},kO ds=some ns->ds=ns.map .int
 | [],_,h=>by cases h;rfl
 | d::ds,ns,h=>by
  unfold kO at h;refine Ql h λi h1 h=>?_;obtain⟨r,h2,rfl⟩:=Zd.mp h;cases d with
  | int j=>cases h1;rw[JO h2];rfl
  | _=>cases h1
def CG:∀(ns:List Int),kO (ns.map D.int)=some ns
 | []=>rfl
 | n::ns=>by simp[kO,CG ns,D.Il]
noncomputable def nU:List D->Option (List Bool)
 | []=>some []
 | d::ds=>(match d with | .bl b=>some b | _=>none).bind λi=>(nU ds).map λr=>i::r
def Cp:∀{ds:List D}{ns:List Bool},nU ds=some ns->ds=ns.map .bl
 | [],_,h=>by cases h;rfl
 | d::ds,ns,h=>by
  unfold nU at h;refine Ql h λi h1 h=>?_;obtain⟨r,h2,rfl⟩:=Zd.mp h;cases d with
  | bl j=>cases h1;rw[Cp h2];rfl
  | _=>cases h1
section
variable {a b:Expr}{fa fb fc:DE}
def Eo(ns:List Int)(M:Int):Prop:=M∈ns/\∀a∈ns,M<=a
def isMax(ns:List Int)(M:Int):Prop:=M∈ns/\∀a∈ns,a<=M
noncomputable def pV:List Int->Option Int
 | []=>none
 | [n]=>some n
 | n::r=>(pV r).map λm=>if m<n then m else n
noncomputable def vB:List Int->Option Int
 | []=>none
 | [n]=>some n
 | n::r=>(vB r).map λm=>if n<m then m else n
def DW:∀{ns:List Int}{m:Int},pV ns=some m->Eo ns m
 | [],_,h=>by cases h
 | [n],_,h=>by cases h;exact⟨⋯,λa ha=>by simp at ha;lia⟩
 | n::k::r,m,h=>by
  simp only[pV]at h;obtain⟨m',h1,rfl⟩:=Zd.mp h;obtain⟨h2,h3⟩:=DW h1;constructor
  .split
   .exact Zl _ h2
   .exact Zs
  .intro a ha;rcases Zj.mp ha with rfl | ha
   .split<;>lia
   .have:=h3 a ha;split<;>lia
def G4:∀{ns:List Int}{m:Int},vB ns=some m->isMax ns m
 | [],_,h=>by cases h
 | [n],_,h=>by cases h;exact⟨⋯,λa ha=>by simp at ha;lia⟩
 | n::k::r,m,h=>by
  simp only[vB]at h;obtain⟨m',h1,rfl⟩:=Zd.mp h;obtain⟨h2,h3⟩:=G4 h1;constructor
  .split
   .exact Zl _ h2
   .exact Zs
  .intro a ha;rcases Zj.mp ha with rfl | ha
   .split<;>lia
   .have:=h3 a ha;split<;>lia
def Wu{ns:List Int}{a b:Int}(h:Eo ns a)(g:Eo ns b):a=b:=by have:=h.2 b g.1;have:=g.2 a h.1;lia
def SM{ns:List Int}{a b:Int}(h:isMax ns a)(g:isMax ns b):a=b:=by have:=h.2 b g.1;have:=g.2 a h.1;lia
def mP:List D->Option D
 | [.lst xs]=>(kO xs).bind λns=>(pV ns).map .int
 | [.tup xs]=>(kO xs).bind λns=>(pV ns).map .int
 | _=>none
def xM:List D->Option D
 | [.lst xs]=>(kO xs).bind λns=>(vB ns).map .int
 | [.tup xs]=>(kO xs).bind λns=>(vB ns).map .int
 | _=>none
def vK:List D->Option D
 | [.lst xs]=>(kO xs).map λns=> .int ns.sum
 | [.tup xs]=>(kO xs).map λns=> .int ns.sum
 | _=>none
def sZ:List D->Option D
 | [.lst xs]=>(nU xs).map λns=> .bl (ns.all id)
 | _=>none
def oN:List D->Option D
 | [.lst xs]=>(nU xs).map λns=> .bl (ns.any id)
 | _=>none
def gJ(neg:Bool)(a b:D):Option D:=match a,b with
 | a,.aT=>some (.bl (if neg then !a.Es else a.Es))
 | .bl x,.bl y=>some (.bl (if neg then !(x == y)else x == y))
 | _,_=>none
noncomputable def n9:List D->Option D
 | [.int i]=>some (.int i)
 | [.bl k]=>some (.int (if k then 1 else 0))
 | [.str z]=>if z.length<=640 then(PySem.intText? z).map .int else none
 | _=>none
noncomputable def f9:List D->Option D
 | [.int i]=>if i.natAbs.log2<1920 then some (.str (toString i))else none
 | _=>none
noncomputable def u9(fa:DE):DE:=λU=>(fa U).bind λr=>match r.d with
 | .int j=>if 0<=j/\j<=1000000 then some ⟨.lst ((List.range j.toNat).map λ(k:Nat)=> .int (k:Int)),true,[]⟩else none
 | _=>none
def Lx(lo hi:Int):Builtin.Range.rangeSize lo hi (-1)=if lo>hi then lo-hi else 0:=by
 unfold Builtin.Range.rangeSize;rw[if_neg ∅];split
 .rw[show(- -1:Int)=1 by decide,Int.ediv_one];lia
 .rfl
def small_down{lo hi:Int}(h1: -(2^62)<=lo)(h2:lo<2^62)(h3: -(2^62)<=hi)(h4:hi<2^62):Builtin.Range.small lo hi (-1)=true:=by
 unfold Builtin.Range.small;rw[Lx];simp only[Builtin.Range.rangeFitsLong,Ze,xZ,decide_eq_true_eq,beq_iff_eq,show ¬((-1:Int)>0) by decide,if_false];split<;>lia
noncomputable def v9(hi:Int)(n:Nat):List D:=(List.range n).map λ(k:Nat)=> .int (hi-(k:Int))
def Rr{lo:Int}{n i:Nat}{d:D}(h:(v9 lo n)[i]? =some d):i<n/\d= .int (lo-i):=by
 unfold v9 at h;rw[Zy]at h;by_cases hi:i<n
 .rw[pW hi]at h;cases h;exact⟨hi,rfl⟩
 .rw[qT (by simp;lia)]at h;cases h
def FG(fa fb fc:DE):DI:=λU=>(fa U).bind λr=>(fb U).bind λr'=>(fc U).bind λr''=>match r.d,r'.d,r''.d with
 | .int i,.int j,.int (-1)=>if i-j<=16777216/\ -(2^62)<=i/\i<2^62/\ -(2^62)<=j/\j<2^62 then some ⟨v9 i (i-j).toNat,[]⟩else none
 | _,_,_=>none
def MW{lo:Int}{n:Nat}:(v9 lo n).length=n:=by simp[v9]
noncomputable def E7(fa:DE):DE:=λU=>(fa U).bind λr=>match r.d with
 | .int i=>some ⟨.int (Builtin.Int.intBits i),true,[]⟩
 | _=>none
end
noncomputable def qA:List D->Option (List Str)
 | []=>some []
 | d::ds=>match d with
  | .str x=>(qA ds).map λr=>x::r
  | _=>none
def IA:∀{ds:List D}{ts:List Str},qA ds=some ts->ds=ts.map .str
 | [],_,h=>by cases h;rfl
 | d::ds,ts,h=>by
  unfold qA at h;split at h
  .obtain⟨r,h2,rfl⟩:=Zd.mp h;rw[IA h2];rfl
  .cases h
def AX:∀ts:List Str,QU (ts.map .str)=true
 | []=>rfl
 | n::ns=>by simp[QU,D.flat,AX ns]
noncomputable def mV(a b:D):Option D:=match a with
 | .str z=>match b with
  | .str y=>some (.bl (Txt.startswith z y))
  | _=>none
 | _=>none
def iU(a b:D):Option D:=match a with
 | .str z=>match b with
  | .lst xs=>(qA xs).bind λts=>if JoinOk z ts=true then some (.str (Txt.join z ts))else none
  | _=>none
 | _=>none
noncomputable def nP(a b:D):Option D:=match a with
 | .str z=>match b with
  | .str y=>if((y.length == 0)=false/\z.length<=16000000)/\(Txt.split z y).length<=16000000 then some (.lst ((Txt.split z y).map .str))else none
  | _=>none
 | _=>none
noncomputable def eM(g:D->D->Option D)(fa:DE)(fs:DA):DE:=λU=>(fa U).bind λra=>(fs U).bind λr=>match r.ds with
 | [b]=>(g ra.d b).map λd=>⟨d,true,[]⟩
 | _=>none
noncomputable def sN(a b:D):Option D:=match a with
 | .str z=>match b with
  | .str y=>if(y.length == 0)=false/\z.length<=sizeLine then some (.tup [.str (Txt.partition z y).1,.str (Txt.partition z y).2.1,.str (Txt.partition z y).2.2])else none
  | _=>none
 | _=>none
section
variable {prog:Program}{w:World}{KT':Type} [DecidableEq KT'] {A:Around}{E:Value->Shared->Prop}{s:Shared}
def lX(h:Heap)(d:Addr)(es:Array DictEntry)(ep:Nat):Prop:=∃o,h.get? d=some o/\o.ExactDict/\o.data= .dict es ep
def lX.keep{h h':Heap}{d:Addr}{es:Array DictEntry}{ep:Nat}(x:lX h d es ep)(k:∀o,h.get? d=some o->h'.get? d=some o):lX h' d es ep:=let ⟨o,z,r⟩:=x;⟨o,k o z,r⟩
noncomputable abbrev iR(d:Addr)(i n ep:Nat):Obj:={cls:= .type "dict_keyiterator",data:= .fields #[.ref d,.int i 0,.int n 0,.int ep 0]}
def SD{d:Addr}{es:Array DictEntry}{ep:Nat}{Q:Value->Shared->Prop}(hd:(d == sysModules)=false)(hm:lX s.heap d es ep)(q:Q (.ref s.heap.objs.size) {s with heap:=s.heap.push (iR d 0 es.size ep)}):
  wpAny (model prog w) A (pyIter (.ref d)) Q E s:=by
 obtain⟨o,ho,hx,hdd⟩:=hm;have ty:s.TypeIs (.ref d) "dict" :=⟨o,ho,hx.1⟩;refine wpAny_pyIter_slot ty PySem.F.slot_dict_iter (wpAny_call_entry PySem.F.slot_dict_iter ty PySem.F.entry_dict_iter ?_ (PySem.F.args_dict_iter_1 _));unfold Builtin.«dict.__iter__» Builtin.Dict.dictSlotNone Builtin.Dict.showsAll;refine wpAny_bind (wpAny_bind (wpAny_notOrdered_dict ty (wpAny_pure ?_)));refine wpAny_bind (m:=Builtin.Dict.addrOf (.ref d)) (wpAny_pure ?_);rw[if_neg (by rw[hd];decide)];refine wpAny_bind (wpAny_pure (wpAny_bind (wpAny_dictEntries ho hdd (wpAny_bind (wpAny_dictEpoch ho hdd ?_)))));exact wpAny_bind (wpAny_newObj_type (wpAny_pure ⟨_,rfl,"dict_keyiterator",_,⟨_,Zi _ rfl,rfl⟩,PySem.F.slot_dict_keyiterator_next.lookup,q⟩))
def Xy{I d:Addr}{i ep:Nat}{es:Array DictEntry}{en:DictEntry}{Q:Option Value->Shared->Prop}(hi:s.heap.get? I=some (iR d i es.size ep))(hm:lX s.heap d es ep)(he:es[i]? =some en)
  (q:∀h',h'.get? I=some (iR d (i+1) es.size ep)->Heap.SameBut I s.heap h'->Q (some en.key) {s with heap:=h'}):wpAny (model prog w) A (pyNext (.ref I)) Q E s:=by
 have ty:s.TypeIs (.ref I) "dict_keyiterator" :=⟨_,hi,rfl⟩;obtain⟨od,hod,hx,hdd⟩:=hm;unfold pyNext;refine wpAny_bind (wpAny_attempt (wpAny_callSpecial?_slot (name:=Str.ofString "__next__") ty PySem.F.slot_dict_keyiterator_next (wpAny_call_entry PySem.F.slot_dict_keyiterator_next ty PySem.F.entry_dict_keyiterator_next ?_ (PySem.F.args_dict_keyiterator_next_1 _))));refine wpAny_bind (wpAny_pure (wpAny_bind (wpAny_bind ?_)))
 first | refine wpAny_bind (wpAny_typeNameOfWhole_keyiter ty (wpAny_pure ?_)) | refine wpAny_bind (wpAny_typeNameOf_keyiter ty (wpAny_pure ?_))
 refine wpAny_bind (wpAny_fieldsOf hi rfl ?_);simp only[show Builtin.Dict_items.ownsTuple "dict_keyiterator" =false by decide,xP,if_false];show wpAny _ _ (if(Value.ref d == Value.none)=true then _ else _) _ _ s;rw[if_neg (show ¬((Value.ref d == Value.none)=true)from ZL)];refine wpAny_bind (wpAny_pure (wpAny_bind (wpAny_dictEntries hod hdd ?_)));rw[if_neg ⋯];refine wpAny_bind (wpAny_pure (wpAny_bind (wpAny_dictEpoch hod hdd ?_)));rw[if_neg ⋯];refine wpAny_pure ?_;simp only[show ¬((i:Int)<0)from by lia,if_false,Zx,he];refine wpAny_bind ?_
 first | refine wpAny_bind (wpAny_typeNameOfWhole_keyiter ty (wpAny_pure ?_)) | refine wpAny_bind (wpAny_typeNameOf_keyiter ty (wpAny_pure ?_))
 refine wpAny_bind (wpAny_isOneOf_keyiter ty ?_);show wpAny _ _ (setField (.ref I) 1 (rawInt ((i:Int)+1)) >>= _) _ _ s;refine wpAny_bind (wpAny_setField_rec hi ⋯ λh1 z1 b1=>?_);have z2:h1.get? I=some (iR d (i+1) es.size ep):=by rw[z1];simp[rawInt]
 refine wpAny_bind (wpAny_holding ?_);refine wpAny_bind (wpAny_isOneOf_keyiter (s:={s with heap:=h1}) ⟨_,z2,rfl⟩ ?_);show wpAny _ _ (pure en.key) _ _ _;exact wpAny_pure (wpAny_pure ⟨_,rfl,wpAny_pure (q _ z2 b1)⟩)
def UH{I d:Addr}{ep:Nat}{es:Array DictEntry}{Q:Option Value->Shared->Prop}(hh:A.handled=none)(hi:s.heap.get? I=some (iR d es.size es.size ep))(hm:lX s.heap d es ep)
  (q:∀h',Heap.ExtBut I s.heap h'->Q none {s with heap:=h'}):wpAny (model prog w) A (pyNext (.ref I)) Q E s:=by
 have ty:s.TypeIs (.ref I) "dict_keyiterator" :=⟨_,hi,rfl⟩;obtain⟨od,hod,hx,hdd⟩:=hm;unfold pyNext;refine wpAny_bind (wpAny_attempt (wpAny_callSpecial?_slot (name:=Str.ofString "__next__") ty PySem.F.slot_dict_keyiterator_next (wpAny_call_entry PySem.F.slot_dict_keyiterator_next ty PySem.F.entry_dict_keyiterator_next ?_ (PySem.F.args_dict_keyiterator_next_1 _))));refine wpAny_bind (wpAny_pure (wpAny_bind (wpAny_bind ?_)))
 first | refine wpAny_bind (wpAny_typeNameOfWhole_keyiter ty (wpAny_pure ?_)) | refine wpAny_bind (wpAny_typeNameOf_keyiter ty (wpAny_pure ?_))
 refine wpAny_bind (wpAny_fieldsOf hi rfl ?_);simp only[show Builtin.Dict_items.ownsTuple "dict_keyiterator" =false by decide,xP,if_false];show wpAny _ _ (if(Value.ref d == Value.none)=true then _ else _) _ _ s;rw[if_neg (show ¬((Value.ref d == Value.none)=true)from ZL)];refine wpAny_bind (wpAny_pure (wpAny_bind (wpAny_dictEntries hod hdd ?_)));rw[if_neg ⋯];refine wpAny_bind (wpAny_pure (wpAny_bind (wpAny_dictEpoch hod hdd ?_)));rw[if_neg ⋯];refine wpAny_pure ?_;simp only[show ¬((es.size:Int)<0)from by lia,if_false,Zx,Array.getElem?_eq_none (Zu es.size)];refine wpAny_bind ?_
 first | refine wpAny_bind (wpAny_typeNameOfWhole_keyiter ty (wpAny_pure ?_)) | refine wpAny_bind (wpAny_typeNameOf_keyiter ty (wpAny_pure ?_))
 show wpAny _ _ (setField (.ref I) 0 .none >>= _) _ _ s;refine wpAny_bind (wpAny_setField hi rfl ⋯ ?_);show wpAny _ _ (newExc (.type "StopIteration") [] >>= _) _ _ _;refine wpAny_bind ?_;simp only[newExc,newTuple];refine wpAny_bind (wpAny_newObj_type ?_ (by size_fits));refine wpAny_bind (m:=firstArgMember _ _) (wpAny_of_eq (a:=Value.none) rfl ?_);refine wpAny_newObj_type ?_ (by size_fits);simp only[raiseNew];refine wpAny_bind (wpAny_handled ?_);rw[show A.in1.handled=none from hh];refine wpAny_bind (wpAny_pure (wpAny_throw ?_));refine wpAny_bind (wpAny_isInstance (T:= "StopIteration") (b:=true) ⟨_,Zi _ rfl,rfl⟩ isSubtype_stop ?_);exact wpAny_pure (q _ (((zS ..).extBut.push _).push _))
def NJ(hh:A.handled=none){I d:Addr}{es:Array DictEntry}{ep:Nat}(na:d≠I):
  Walks prog w A I [I,d] [I] es.size (λi v=>∃e,es[i]? =some e/\v=e.key) (λi h=>h.get? I=some (iR d i es.size ep)/\lX h d es ep) where
 sub:=λb hb=>by simp at hb;simp[hb]
 frame:=λ_ _ _ st k=>⟨k I ⋯ _ st.1,st.2.keep λo z=>k d ⋯ o z⟩
 item:=λi s Q E hi st q=>Xy st.1 st.2 (ZD hi) λh' z b=>q _ h' s.toks ⟨_,ZD hi,rfl⟩ ⟨z,st.2.keep λo z=>b.extBut d o na z⟩ λc o hc z=>b.extBut c o (λy=>hc (by simp[y])) z
 done:=λs Q E st q=>UH hh st.1 st.2 λh' b=>q h' s.toks λc o hc z=>b c o (λy=>hc (by simp[y])) z
 self:=λi s Q E st q=>wpAny_pyIter_keyiter (d:=d) (i:=i) (n:=es.size) (ep:=ep) ⟨_,st.1,rfl,rfl⟩ q
def Wh{a:Addr}{es:Array DictEntry}{ep:Nat}{Q:Bool->Shared->Prop}(hm:lX s.heap a es ep)(q:Q false s):wpAny (model prog w) A (Builtin.List.listLengthHint (.ref a)) Q E s:=by
 obtain⟨o,ho,hx,_⟩:=hm;have ty:s.TypeIs (.ref a) "dict" :=⟨o,ho,hx.1⟩;unfold Builtin.List.listLengthHint;refine wpAny_bind (wpAny_specialOf ty PySem.F.slot_dict_len.lookup ?_);generalize e:("dict.__len__" :String)=x
 wp_delta
 rw[show splitId x=some ("dict","__len__")from by subst e;decide+kernel];subst e;refine wpAny_bind (wpAny_isInstance (T:= "dict") (b:=true) ty (by rw[isSubtype_type];kernel_rfl) ?_);refine wpAny_ite_split (λz=>absurd z ∅) (λ_=>?_);refine wpAny_ite_split (λ_=>?_) (λz=>absurd 'd' z);exact wpAny_bind (wpAny_typeOf ty (wpAny_pure q))
def Fh{h:Heap}{S:Addr}{f g:Obj->Obj}(b:Addr)(o:Obj)(hb:b≠S)(z:h.get? b=some o):((h.update S f).update S g).get? b=some o:=(BN _ _ (Ne.symm hb)).trans ((BN _ _ (Ne.symm hb)).trans z)
end
end HS
namespace HS
open PySem PySem.Spec L2
noncomputable abbrev Cn:=Int ⊕ Str
noncomputable def MC:Cn->D
 | .inl i=> .int i
 | .inr x=> .str x
noncomputable def vX:Cn->Tok->Value
 | .inl i,t=> .int i t
 | .inr x,t=> .str x t
structure gN where
 n:Nat
 dfl:List D
 den:aC
structure Th where
 N:List Str
 sc:List (Str×NameKind)
 Γ:List (Str×gN)
 cs:List (Str×Cn)
 tr:Stmt->Option DS:=λ_=>none
 te:Expr->Option DE:=λ_=>none
 tt:Expr->Option DT:=λ_=>none
noncomputable def posOf(x:Str):List Str->Option Nat
 | []=>none
 | y::ys=>if x=y then some 0 else(posOf x ys).map (· +1)
def y9:∀{x:Str}{ys:List Str}{i:Nat},posOf x ys=some i->ys[i]? =some x
 | x,[],i,h=>by cases h
 | x,y::ys,i,h=>by
  unfold posOf at h;split at h
  .rename_i e;cases h;subst e;rfl
  .obtain⟨j,hj,rfl⟩:=Zd.mp h;simpa using y9 hj
noncomputable def look{α:Type}(x:Str):List (Str×α)->Option α
 | []=>none
 | (y,a)::r=>if x=y then some a else look x r
def j0{α:Type}:∀{x:Str}{l:List (Str×α)},look x l=l.lookup x
 | x,[]=>rfl
 | x,(y,a)::r=>by
  unfold look;rw[Zw];by_cases h:x=y
  .subst h;simp
  .rw[if_neg h,j0];have:(x == y)=false:=by simpa using h
   rw[this]
noncomputable def Li:NameKind->Bool
 | .local =>true | .cell=>true | .free=>true | _=>false
noncomputable def Ic:NameKind->Bool
 | .local =>true | .cell=>true | _=>false
noncomputable def À:NameKind->Bool
 | .globalImplicit=>true | _=>false
noncomputable def isFree:NameKind->Bool
 | .free=>true | _=>false
noncomputable def odd(x:Str):Bool:=decide (x= "__debug__") || decide (x= "__classdict__") || decide (x= "__name__")
def Th.slot(U:Th)(x:Str):Option Nat:=if((look x U.sc).map Li).getD false && !odd x then posOf x U.N else none
def Th.lQ(U:Th)(x:Str):Option Nat:=if((look x U.sc).map Ic).getD false && !odd x then posOf x U.N else none
def Th.gl(U:Th)(x:Str):Bool:=((look x U.sc).map À).getD false && !odd x
noncomputable def uH:List Str:=["range","enumerate","zip","len","list","min","max","sum","abs","isinstance","int","bool","tuple","str","divmod","sorted","any","all","set"]
section
def Fb(h:odd x=false):(x == ("__debug__" :Str))=false/\(x == ("__classdict__" :Str))=false/\x≠ "__name__" :=by
 unfold odd at h;simp only[Fy,decide_eq_false_iff_not]at h;exact⟨by simpa using h.1.1,by simpa using h.1.2,h.2⟩
end
noncomputable def rZ:Expr->Option Str
 | .Name x _=>some x
 | _=>none
noncomputable def A3(x:Str):Option String:=
 if x= "int" then some "int" else if x= "bool" then some "bool" else if x= "list" then some "list" else if x= "tuple" then some "tuple" else if x= "str" then some "str" else none
def inner(U:Th)(scope:Scope):Th:={N:=(scope.names.filter λy=>Li y.2).map (·.1),sc:=scope.names,Γ:=U.Γ,cs:=U.cs}
def r9(U:Th)(scope:Scope):List (Option Nat):=(inner U scope).N.map λx=>if((look x scope.names).map isFree).getD false then posOf x U.N else none
def w8(U:Th)(scope:Scope)(t:Tg):Bool:=(scope.kind == .function) && decide (inner U scope).N.Nodup &&
 (scope.names.all λy=>match y.2 with
  | .cell=>decide (look y.1 scope.names=some .cell)
  | .local =>decide (look y.1 scope.names=some .local)
  | .free=>match look y.1 U.sc with
   | some .cell=>true
   | some .free=>true
   | _=>false
  | _=>true) &&
 t.slots.all λj=>match (r9 U scope)[j]? with
  | some (some _)=>false
  | _=>true
def FZ(U:Th)(x:Str)(a:Expr):Option Expr:=match a with
 | .Call (.Name y _) [b] [] _=>if x= "list" /\y= "range" /\U.gl y=true/\(look y U.Γ).isNone=true then some b else none
 | _=>none
noncomputable def F9:List Expr->Bool
 | []=>true | [_]=>true | _=>false
section
noncomputable def Qn:DS:=λ_=>none
def C2:∀{n:Nat}{U:En}{o:Out},i9 g fb n U=some o->i9 g fb (n+1) U=some o
 | 0,_,_,h=>by cases h
 | n+1,U,o,h=>by
  unfold i9 at h ⊢;refine Ql h λb hb h=>?_;rw[hb];cases b with
  | false=>exact h
  | true=>
   rw[if_pos rfl]at h;refine Ql h λo1 ho h=>?_;rw[Option.bind_some,if_pos rfl,ho];cases o1 with
   | nx U2=>exact C2 h
   | ct U2=>exact C2 h
   | bk U2=>exact h
   | rt d fr=>exact h
def Kl(h:i9 g fb n U=some o)(hm:n<=m):i9 g fb m U=some o:=by
 induction hm with
 | refl=>exact h
 | step _ ih=>exact C2 ih
open Classical in
def Dy(g:DT)(fb:DS):DS:=λU=>if h:∃n,(i9 g fb n U).isSome=true then i9 g fb h.choose U else none
def HV:Dy g fb U=some o↔∃n,i9 g fb n U=some o:=by
 unfold Dy;constructor
 .intro h;split at h
  .exact⟨_,h⟩
  .cases h
 .rintro⟨n,h⟩;have hx:∃n,(i9 g fb n U).isSome=true:=⟨n,by rw[h];rfl⟩;rw[dif_pos hx];obtain⟨o',ho'⟩:=xV.mp hx.choose_spec;have h1:=Kl h (Nat.le_max_left n hx.choose);have h2:=Kl ho' (Nat.le_max_right n hx.choose);rw[h1]at h2;rw[ho',← h2]
end
end HS
namespace HS
open PySem PySem.Spec L2 PyProof.Rows
noncomputable def qE:Expr->Bool
 | .ListComp .. =>false
 | .SetComp .. =>false
 | .DictComp .. =>false
 | _=>true
def pQ(h:qE e=true):swapsWith e t l env=pure false:=by
 cases e<;>first | rfl | cases h
noncomputable def GC:Expr->Bool
 | .Name .. =>true
 | .Subscript _ (.Slice ..) _=>false
 | .Subscript (.Call ..) _ _=>false
 | .Subscript .. =>true
 | _=>false
noncomputable def Å:Expr->Bool
 | .Slice .. =>true
 | _=>false
end HS
namespace HS
open PySem PySem.Spec L2
section
variable {U:En}{gc:DT}{fe:DE}{w a b:Nat}
def mF(w a b:Nat)(gc:DT)(fe:DE):DS:=λU=>(gc U).bind λc=>if w<U.length/\w≠(if c=true then a else b)then oI (if c=true then a else b) cN fe (U.set w none)else none
def Ė{x:Nat}{o:Out}(h:oI x cN fe U=some o):(∃d,U[x]? =some (some (d,true)))/\∃U',o= .nx U':=by
 unfold oI at h;split at h
 .rename_i d hx;refine⟨⟨d,hx⟩,?_⟩;refine Ql h λis _ h=>?_;refine Ql h λr _ h=>?_;split at h
  .split at h
   .cases h;exact⟨_,rfl⟩
   .cases h
  .cases h
 .cases h
end
structure Hd where
 w:Str
 c:Expr
 a:Str
 b:Str
 e:Expr
 r:List Stmt
def EI:Stmt->Option (Str×Expr)
 | .Assign ts e _=>match ts with
  | [t]=>(rZ t).map λx=>(x,e)
  | _=>none
 | _=>none
def ET:Expr->Option (Expr×Str×Str)
 | .IfExp c a b _=>(rZ a).bind λx=>(rZ b).map λy=>(c,x,y)
 | _=>none
noncomputable def It:Expr->Option (Expr×Str×Pos)
 | .Attribute o m p=>some (o,m,p)
 | _=>none
def Cr:Expr->Option (Str×Expr)
 | .Call f args kws cpos=>match args with
  | [e]=>match kws with
   | []=>(It f).bind λz=>if z.2.1= "extend" /\(z.2.2.endLine == cpos.line)=true then(rZ z.1).map λw=>(w,e)else none
   | _=>none
  | _=>none
 | _=>none
noncomputable def Lp:Stmt->Option Expr
 | .Expr e _=>some e
 | _=>none
def BB:List Stmt->Option Hd
 | a::b::r=>(EI a).bind λz=>(ET z.2).bind λy=>(Lp b).bind λf=>(Cr f).bind λu=>if u.1=z.1 then some ⟨z.1,y.1,y.2.1,y.2.2,u.2,r⟩else none
 | _=>none
def zQ{e:Expr}{x:Str}(h:rZ e=some x):∃p,e= .Name x p:=by
 unfold rZ at h;split at h
 .cases h;exact⟨_,rfl⟩
 .cases h
def R8{st:Stmt}{x:Str}{e:Expr}(h:EI st=some (x,e)):∃p q,st= .Assign [.Name x p] e q:=by
 unfold EI at h;split at h
 .split at h
  .obtain⟨y,hy,h⟩:=Zd.mp h;cases h;obtain⟨p,rfl⟩:=zQ hy;exact⟨p,_,rfl⟩
  .cases h
 .cases h
def Nr{e c:Expr}{x y:Str}(h:ET e=some (c,x,y)):∃p q r,e= .IfExp c (.Name x p) (.Name y q) r:=by
 unfold ET at h;split at h
 .refine Ql h λx' h1 h=>?_;obtain⟨y',h2,h⟩:=Zd.mp h;cases h;obtain⟨p,rfl⟩:=zQ h1;obtain⟨q,rfl⟩:=zQ h2;exact⟨p,q,_,rfl⟩
 .cases h
def Wg{f e:Expr}{w:Str}(h:Cr f=some (w,e)):∃p apos cpos,f= .Call (.Attribute (.Name w p) "extend" apos) [e] [] cpos/\(apos.endLine == cpos.line)=true:=by
 unfold Cr at h;split at h
 .split at h
  .split at h
   .refine Ql h λz h1 h=>?_;split at h
    .rename_i hc;obtain⟨w',h2,h⟩:=Zd.mp h;cases h;unfold It at h1;split at h1
     .cases h1;obtain⟨p,rfl⟩:=zQ h2;obtain⟨rfl,hl⟩:=hc;exact⟨p,_,_,rfl,hl⟩
     .cases h1
    .cases h
   .cases h
  .cases h
 .cases h
def KI{sts:List Stmt}{q:Hd}(h:BB sts=some q):∃p1 p2 p3 p4 p5 p6 apos cpos p7,sts= .Assign [.Name q.w p1] (.IfExp q.c (.Name q.a p2) (.Name q.b p3) p4) p5:: .Expr (.Call (.Attribute (.Name q.w p6) "extend" apos) [q.e] [] cpos) p7::q.r/\(apos.endLine == cpos.line)=true:=by
 unfold BB at h;split at h
 .refine Ql h λz h1 h=>?_;refine Ql h λy h2 h=>?_;refine Ql h λf h3 h=>?_;refine Ql h λu h4 h=>?_;split at h
  .rename_i hc;cases h;obtain⟨z1,z2⟩:=z;obtain⟨y1,y2,y3⟩:=y;obtain⟨u1,u2⟩:=u;cases hc;obtain⟨p1,p5,rfl⟩:=R8 h1;obtain⟨p2,p3,p4,rfl⟩:=Nr h2;obtain⟨p6,apos,cpos,rfl,hl⟩:=Wg h4;unfold Lp at h3;split at h3
   .cases h3;exact⟨p1,p2,p3,p4,p5,p6,apos,cpos,_,rfl,hl⟩
   .cases h3
  .cases h
 .cases h
end HS
namespace HS
open PySem PySem.Spec L2 PyProof.Rows
def W0:swapsWithSole [.Subscript a i p] e l env=pure false:=by
 cases e<;>rfl
def Qy(k:Nat)(ds:List D):En:=ds.map (λd=>some (d,d.flat))++List.replicate (k-ds.length) none
noncomputable def outD:Out->Option (D×Bool)
 | .rt d fr=>some (d,fr)
 | .nx _=>some (.aT,true)
 | _=>none
def Qt(k:Nat)(f:DS):aC:=λds=>(f (Qy k ds)).bind outD
def ID{k:Nat}{ds:List D}{i:Nat}{d:D}{b:Bool}(h:(Qy k ds)[i]? =some (some (d,b))):ds[i]? =some d/\b=d.flat:=by
 unfold Qy at h;by_cases hi:i<ds.length
 .rw[Km (by simpa using hi),Zy]at h;cases e:ds[i]? with
  | none=>rw[e]at h;cases h
  | some a=>rw[e]at h;cases h;exact⟨rfl,rfl⟩
 .rw[List.getElem?_append_right (by simpa using hi),List.getElem?_replicate]at h;split at h<;>cases h
section
variable (mg:Str->Option Value)
structure Dv (cs:List (Str×Cn)):Prop where
 bn:∀x∈uH,mg x=none
 cs:∀x i,look x cs=some i->∃t,mg x=some (vX i t)
end
section
variable {P:Program}{K:bK}
def namesOf(sc:Scope):List Str:=(sc.names.filter λy=>Ic y.2).map (·.1)
def Đ(st:Stmt)(Γ:List (Str×gN))(cs:List (Str×Cn)):Th:=⟨namesOf (Qp st),(Qp st).names,Γ,cs,λ_=>none,λ_=>none
 ,λ_=>none
 ⟩
structure Fact (K:bK) (x:Str) (st:Stmt):Prop where
 ex:∃f fd,oW K x x st f fd/\PySem.W.nsIn K mainGlobals x=some (some (.ref f))
def fact_mk{x:Str}{st:Stmt}{f:Addr}{oc:Value}{od an:Option Addr}{osl:Array (Option Value)}{kV doc pm cdv ct:Value}(a:PySem.W.nsIn K mainGlobals x=some (some (.ref f)))(l:K.lookup f=some ⟨oc,od,.func (PySem.W.fnOf x x (jV st) (QE st) (Qp st) .none kV doc pm an cdv ct),osl⟩)
  (c:PySem.W.codeIn K cdv x=true) (k:PySem.W.keepIn K (.ref f)=true):Fact K x st:=⟨f,_,Hq l c k,a⟩
def l0{α:Type}{P:List α->Prop}(h:P []):∀l:List α,l.length=0->P l:=λl e=>(List.length_eq_zero_iff.mp e).symm▸h
def lc{α:Type}{n:Nat}{P:List α->Prop}(h:∀a,∀l:List α,l.length=n->P (a::l)):∀l:List α,l.length=n+1->P l
 | a::l,e=>h a l (Nat.succ.inj e)
def IS(x:Str)(st:Stmt)(ps:List Str):Prop:=∀(kV doc pm:Value) (an:Option Addr) (cdv ct:Value) (us:List Value),us.length=ps.length->bindArgs (PySem.W.fnOf x x (jV st) (QE st) (Qp st) .none kV doc pm an cdv ct) ⟨us,[]⟩=pure (ps.zip us)
end
def Ha:∀(ns:List Int) (n:Int),n∈ns->Builtin.Int.intBits n<=PySem.W.WData.weightAll (ns.map PySem.W.WData.int)
 | a::r,n,h=>by
  have e:PySem.W.WData.weight (.int a)=Builtin.Int.intBits a:=by simp only[PySem.W.WData.weight,Builtin.Int.intBits]
  simp only[Zp,PySem.W.WData.weightAll,e];rcases Zj.mp h with rfl | h
  .lia
  .have:=Ha r n h;lia
def PS{ns:List Int}(h:PySem.W.WData.layableAll [.list (ns.map .int)]=true)(k:Nat):Builtin.Int.intBits (ns.getD k 0)<=2^20:=by
 have h1:=(PySem.W.layW_cons h).1;simp only[PySem.W.WData.layable,Ze,decide_eq_true_eq,PySem.W.WData.weight]at h1;rw[Zz];cases e:ns[k]? with
 | none=>show Builtin.Int.intBits 0<=2^20;decide
 | some n=>exact ZE (Ha ns n (ZK e)) (of_decide_eq_true h1.2)
open PySem.W Att PySem.Calls in
def Xt{l:OpenLaw}{n:Nat}{q:Program}{loose:List Str}{XP:(Str->Option Value)->Heap->Prop}{YP:World->Heap->Prop}{d:DefRec}
  (hn:l.most=some n) (hdf:d.params.defaults=[])
  (call:∀(w:World) (s₀ s₁:Shared) (mg mb:Str->Option Value) (fa:Addr) (o:Obj) (pm cd doc:Value) (a:Addr) (vs:List Value) (ns:List Int),
   Ground q loose [] XP w s₀ mg mb s₁.heap->YP w s₁.heap→
   s₁.heap.get? fa=some o->o.data= .func (docDef d.name d.params d.body d.scope pm cd doc)->s₁.heap.CodeRec cd d.name->mg d.name=some (.ref fa)→
   s₁.heap.get? a=some {cls:= .type "list",data:= .seq vs.toArray}->IntsAre vs ns->ns.length<=n->WData.layableAll [.list (ns.map .int)]=true->s₁.gens= #[]→
   codeAny (model l.prog w) callerA (.call (.ref fa) ⟨[.ref a],[]⟩) (λr s'=>r= .ok (.ret (.bool true))/\OldK s₁.heap s'.heap/\s'.os=s₁.os/\AllBare s'.gens) s₁):
  WalkO q loose XP YP l.row.toRowW d [] (λf vs=>PySem.call f vs):=by
 intro w s₀ s₁ mg mb G Y fa o pm cd doc dV kV ho hd hcd hD hmg hg args vals as hpre hlay hrd hwl hlo;obtain rfl:dV= .none:=Dflts.none hD hdf;obtain rfl:kV= .none:=Dflts.noKw hD;obtain⟨a,vs,ns,rfl,rfl,hobj,hints,hlen⟩:=YS hn hpre hwl;refine enter_call (codeAny_mono (call w s₀ s₁ mg mb fa o pm cd doc a vs ns G Y ho (fd_plain hd) hcd hmg hobj hints hlen hlay hg) λr s' hq=>?_);obtain⟨rfl,h2,h3,h4⟩:=hq;exact⟨.inl ⟨.bool true,.bool true,[],rfl,λ_=>rfl,.bool true,Rd l _,λ_=>⟨List.Pairwise.nil,λ_ hm=>(nomatch hm)⟩⟩,h2,h3,h4⟩
end HS
namespace HN
open PySem PySem.Spec PyProof.Rows HS
structure Ex (s s':Shared):Prop where
 hp:∀a o,s.heap.get? a=some o->s'.heap.get? a=some o
 os:s'.os=s.os
 br:AllBare s.gens->AllBare s'.gens
def Ex.refl:Ex s s:=⟨λ_ _ h=>h,rfl,id⟩
def Ex.trans(a:Ex s s1)(b:Ex s1 s2):Ex s s2:=⟨λc o h=>b.hp c o (a.hp c o h),b.os.trans a.os,λh=>b.br (a.br h)⟩
def Ex.of{s:Shared}(k:∀a o,s.heap.get? a=some o->h'.get? a=some o):Ex s {s with heap:=h',toks:=t'}:=⟨k,rfl,id⟩
def Ex.tok{s:Shared}:Ex s {s with toks:=t'}:=⟨λ_ _ h=>h,rfl,id⟩
def Ex.push{s:Shared}:Ex s {s with heap:=s.heap.push o,toks:=t'}:= .of λ_ _ e=>Zb _ e
def Ex.no(x:Ex s s')(h:s'.heap.get? a=none):s.heap.get? a=none:=by
 cases e:s.heap.get? a with
 | none=>rfl
 | some o=>rw[x.hp a o e]at h;cases h
def Q2{h:Heap}:h.get? h.objs.size=none:=Zv (Zu _)
structure Gb where
 P:Program
 w:World
 K:PySem.W.Frag
 mg:Str->Option Value
 base:Heap
noncomputable abbrev LA:=List Addr
noncomputable abbrev dN(its:List Value)(n:Nat):Obj:={cls:= .type "list",data:= .seq its.toArray n}
def At:D->Value->Prop
 | .aT,v=>v= .none
 | .bl b,v=>v= .bool b
 | .int i,v=>∃t,v= .int i t
 | .str x,v=>∃t,v= .str x t
 | _,_=>False
mutual
noncomputable def bD:D->Bool
 | .obj _ _=>false
 | .dk _=>false
 | .lst xs=>Qu xs
 | .tup xs=>Qu xs
 | _=>true
noncomputable def Qu:List D->Bool
 | []=>true
 | d::ds=>bD d && Qu ds
end
abbrev tJ(o:Obj):Prop:=(o.cls= .type "tuple" /\∃xs n,o.data= .seq xs n)∨∃C vs,o.cls= .ref C/\o.data= .fields vs
structure dU (g:Gb) (h:Heap) (a dx dd:Addr) (ks:List Str) (its:List Value):Prop where
 cls:∃C,PySem.W.nsIn g.K mainGlobals "Desk" =some (some (.ref C))/\L2.kC h a dx C λy=>if y= "heaps" then some (.ref dd)else if y= "net" then its.head? else none
 len:its.length=ks.length+1
 sys:(dd == sysModules)=false
 dic:h.DictOf (PySem.strKind g.P g.w) dd (ks.zip its.tail)
 ne:dd≠a/\dd≠dx
 nb:∀b,b=a∨b=dx∨b=dd->g.base.get? b=none
def dU.keep{h h':Heap}(r:dU g h a dx dd ks its)(k:∀b o,b=a∨b=dx∨b=dd->h.get? b=some o->h'.get? b=some o):dU g h' a dx dd ks its:=
 {r with
  cls:=let ⟨C,e,m⟩:=r.cls;⟨C,e,k _ _ (.inl rfl) m.obj,m.ns.at λo=>k _ o (.inr (.inl rfl)),m.ne⟩
  dic:=r.dic.at λo=>k _ o (.inr (.inr rfl))}
def dU.there{h:Heap}(r:dU g h a dx dd ks its)(m:b=a∨b=dx∨b=dd):∃o,h.get? b=some o/\(∀xs n,o.data≠ .seq xs n)/\∀vs,o.data≠ .fields vs:=by
 obtain⟨⟨C,_,m1⟩,_,_,⟨o,es,ep,e,_,d,_⟩,_,_⟩:=r;obtain⟨o2,es2,ep2,e2,d2,_⟩:=m1.ns;rcases m with rfl | rfl | rfl
 .exact⟨_,m1.obj,nofun,nofun⟩
 .exact⟨o2,e2,λxs n q=>(by rw[d2]at q;cases q),λvs q=>by rw[d2]at q;cases q⟩
 .exact⟨o,e,λxs n q=>(by rw[d]at q;cases q),λvs q=>by rw[d]at q;cases q⟩
def ExcAt(g:Gb)(h:Heap)(a:Addr)(c:Str):Prop:=∃C o vs,PySem.W.nsIn g.K mainGlobals c=some (some (.ref C))/\h.get? a=some o/\o.cls= .ref C/\o.data= .fields vs/\vs[2]? =some .none
inductive aM (g:Gb) (ex:LA) (h:Heap):List D->List Value->LA->Prop
 | nil:aM g ex h [] [] []
 | atm:At d v->aM g ex h ds vs F->aM g ex h (d::ds) (v::vs) F
 | lst:a∉ex->es.length<=sizeLine->h.get? a=some (dN its n)->aM g ex h es its G->aM g ex h ds vs F->aM g ex h (.lst es::ds) (.ref a::vs) (a::(G++F))
 | tup:a∉ex->es.length<=sizeLine->IsTup h a its.toArray->aM g ex h es its G->aM g ex h ds vs F->aM g ex h (.tup es::ds) (.ref a::vs) (G++F)
 | bC:(∀b,b=a∨b=dx∨b=dd->b∉ex)->dU g h a dx dd ks its->aM g ex h es its G->aM g ex h ds vs F->aM g ex h (.obj (.ins "Desk" ks) es::ds) (.ref a::vs) (a::dx::dd::(G++F))
 | exc:a∉ex->ExcAt g h a c->aM g ex h ds vs F->aM g ex h (.exc c::ds) (.ref a::vs) F
noncomputable abbrev Rp(g:Gb)(ex:LA)(h:Heap)(d:D)(v:Value)(F:LA):=aM g ex h [d] [v] F
section
variable {g:Gb}{ex:LA}{h h':Heap}
def eX{α:Type}{b x y z:α}{l:List α}(m:b=x∨b=y∨b=z):b∈x::y::z::l:=by
 rcases m with rfl | rfl | rfl
 .exact .head _
 .exact .tail _ (.head _)
 .exact .tail _ (.tail _ (.head _))
def Aw{α:Type}{b x y z:α}{l:List α}(m:b∈x::y::z::l):(b=x∨b=y∨b=z)∨b∈l:=by
 rcases m with _ | ⟨_,_ | ⟨_,_ | ⟨_,m⟩⟩⟩
 .exact .inl (.inl rfl)
 .exact .inl (.inr (.inl rfl))
 .exact .inl (.inr (.inr rfl))
 .exact .inr m
def aM.keep(r:aM g ex h ds vs F)(k:∀a o,a∉ex->a∈F∨tJ o->h.get? a=some o->h'.get? a=some o):aM g ex h' ds vs F:=by
 induction r with
 | nil=>exact .nil
 | atm x _ i=>exact .atm x (i k)
 | lst x z e _ _ i j=>exact .lst x z (k _ _ x (.inl (.head _)) e) (i λa o n m=>k a o n (m.imp (λm=> .tail _ (Zc _ m)) id)) (j λa o n m=>k a o n (m.imp (λm=> .tail _ (Za _ m)) id))
 | tup x z e _ _ i j=>
  obtain⟨o,e,c,d⟩:=e;exact .tup x z ⟨o,k _ _ x (.inr (.inl ⟨c,_,d⟩)) e,c,d⟩ (i λa o n m=>k a o n (m.imp (Zc _) id)) (j λa o n m=>k a o n (m.imp (Za _) id))
 | bC x r _ _ i j=>exact .bC x (r.keep λb o m=>k b o (x b m) (.inl (eX m))) (i λa o n m=>k a o n (m.imp (λm=> .tail _ (.tail _ (.tail _ (Zc _ m)))) id)) (j λa o n m=>k a o n (m.imp (λm=> .tail _ (.tail _ (.tail _ (Za _ m)))) id))
 | exc x r _ j=>
  obtain⟨C,o,vs,h1,h2,h3,h4,h5⟩:=r;exact .exc x ⟨C,o,vs,h1,k _ o x (.inr (.inr ⟨C,vs,h3,h4⟩)) h2,h3,h4,h5⟩ (j k)
def aM.ext{s s':Shared}(r:aM g ex s.heap ds vs F)(x:Ex s s'):aM g ex s'.heap ds vs F:=r.keep λa o _ _=>x.hp a o
def aM.mem(r:aM g ex h ds vs F):∀a∈F,a∉ex/\∃o,h.get? a=some o:=by
 induction r with
 | nil=>exact λ_ h=>nomatch h
 | atm _ _ i=>exact i
 | lst x _ e _ _ i j=>
  intro a m;rcases Zj.mp m with rfl | m
  .exact⟨x,_,e⟩
  .exact(Zf.mp m).elim (i a) (j a)
 | tup _ _ _ _ _ i j=>exact λa m=>(Zf.mp m).elim (i a) (j a)
 | bC x r _ _ i j=>
  intro a m;rcases Aw m with m | m
  .obtain⟨o,e,_⟩:=r.there m;exact⟨x a m,o,e⟩
  .exact(Zf.mp m).elim (i a) (j a)
 | exc _ _ _ j=>exact j
def aM.len(r:aM g ex h ds vs F):ds.length=vs.length:=by
 induction r with
 | nil=>rfl
 | atm _ _ i=>exact congrArg (· +1) i
 | lst _ _ _ _ _ _ j=>exact congrArg (· +1) j
 | tup _ _ _ _ _ _ j=>exact congrArg (· +1) j
 | bC _ _ _ _ _ j=>exact congrArg (· +1) j
 | exc _ _ _ j=>exact congrArg (· +1) j
def aM.jE(r:aM g ex h ds vs F):QU ds=true->F=[]:=by
 induction r with
 | nil=>exact λ_=>rfl
 | atm _ _ i=>intro h;simp only[QU,Ze]at h;exact i h.2
 | lst=>intro h;simp[QU,D.flat]at h
 | tup _ _ _ _ _ i j=>intro h;simp only[QU,D.flat,Ze]at h;rw[i h.1,j h.2];rfl
 | bC=>intro h;simp[QU,D.flat]at h
 | exc _ _ _ j=>intro h;simp only[QU,D.flat,AP]at h;exact j h
def aM.app(r:aM g ex h ds vs F)(q:aM g ex h ds' vs' F'):aM g ex h (ds++ds') (vs++vs') (F++F'):=by
 induction r with
 | nil=>exact q
 | atm x _ i=>exact .atm x i
 | lst x z e t _ _ j=>simp only[rB,ZX];exact .lst x z e t j
 | tup x z e t _ _ j=>rw[ZX];exact .tup x z e t j
 | bC x r t _ _ j=>simp only[rB,ZX];exact .bC x r t j
 | exc x r _ j=>exact .exc x r j
def aM.inv(r:aM g ex h (d::ds) us F):∃v vs G F',us=v::vs/\F=G++F'/\Rp g ex h d v G/\aM g ex h ds vs F':=by
 cases r with
 | atm x t=>exact⟨_,_,[],_,rfl,rfl,.atm x .nil,t⟩
 | lst x z e q t=>exact⟨_,_,_::(_++[]),_,rfl,by rw[Zo];rfl,.lst x z e q .nil,t⟩
 | tup x z e q t=>exact⟨_,_,_++[],_,rfl,by rw[Zo],.tup x z e q .nil,t⟩
 | bC x r q t=>exact⟨_,_,_::_::_::(_++[]),_,rfl,by rw[Zo];rfl,.bC x r q .nil,t⟩
 | exc x r t=>exact⟨_,_,[],_,rfl,rfl,.exc x r .nil,t⟩
def aM.lst_inv(r:Rp g ex h (.lst es) v F):∃a its n G,v= .ref a/\F=a::G/\a∉ex/\es.length<=sizeLine/\h.get? a=some (dN its n)/\aM g ex h es its G:=by
 cases r with
 | atm x=>cases x
 | lst x z e q t=>cases t;exact⟨_,_,_,_,rfl,by rw[Zo],x,z,e,q⟩
def aM.qP(r:Rp g ex h (.tup es) v F):∃a its,v= .ref a/\a∉ex/\es.length<=sizeLine/\IsTup h a its.toArray/\aM g ex h es its F:=by
 cases r with
 | atm x=>cases x
 | tup x z e q t=>cases t;exact⟨_,_,rfl,x,z,e,by rw[Zo];exact q⟩
def aM.oY(x:a∉ex)(z:es.length<=sizeLine)(e:h.get? a=some (dN its n))(q:aM g ex h es its G):Rp g ex h (.lst es) (.ref a) (a::G):=by
 have:=aM.lst x z e q .nil;rwa[Zo]at this
def aM.Bs(x:a∉ex)(z:es.length<=sizeLine)(e:IsTup h a its.toArray)(q:aM g ex h es its G):Rp g ex h (.tup es) (.ref a) G:=by
 have:=aM.tup x z e q .nil;rwa[Zo]at this
def aM.BC{d:D}(r:Rp g ex h d v F)(hd:At d u):At d v/\F=[]:=by
 cases r with
 | atm x t=>cases t;exact⟨x,rfl⟩
 | lst=>cases hd
 | tup=>cases hd
 | bC=>cases hd
 | exc=>cases hd
def aM.Kt(x:∀b,b=a∨b=dx∨b=dd->b∉ex)(r:dU g h a dx dd ks its)(q:aM g ex h es its G):Rp g ex h (.obj (.ins "Desk" ks) es) (.ref a) (a::dx::dd::G):=by
 have:=aM.bC x r q .nil;rwa[Zo]at this
def aM.int_inv(r:Rp g ex h (.int i) v F):∃t,v= .int i t:=(r.BC ⟨0,rfl⟩).1
def aM.oX(r:Rp g ex h (.bl i) v F):v= .bool i:=(r.BC (u:= .bool i) rfl).1
def aM.By(r:Rp g ex h .aT v F):v= .none:=(r.BC (u:= .none) rfl).1
def aM.str_inv(r:Rp g ex h (.str i) v F):∃t,v= .str i t:=(r.BC ⟨0,rfl⟩).1
def aM.int:Rp g ex h (.int i) (.int i t) []:= .atm ⟨_,rfl⟩ .nil
def aM.bl:Rp g ex h (.bl i) (.bool i) []:= .atm rfl .nil
def aM.aT:Rp g ex h .aT .none []:= .atm rfl .nil
def aM.str:Rp g ex h (.str i) (.str i t) []:= .atm ⟨_,rfl⟩ .nil
def aM.split:∀{ds:List D}{vs F i d},aM g ex h ds vs F->ds[i]? =some d→
  ∃F1 G F2 v,F=F1++(G++F2)/\vs[i]? =some v/\aM g ex h (ds.take i) (vs.take i) F1/\Rp g ex h d v G/\aM g ex h (ds.drop (i+1)) (vs.drop (i+1)) F2
 | d::ds,_,_,0,_,r,e=>by
  obtain⟨v,vs,G,F',rfl,rfl,p,q⟩:=r.inv;cases e;exact⟨[],G,F',v,rfl,rfl,.nil,p,q⟩
 | d::ds,_,_,i+1,_,r,e=>by
  obtain⟨v,vs,G,F',rfl,rfl,p,q⟩:=r.inv;obtain⟨F1,G',F2,u,rfl,e1,h1,h2,h3⟩:=q.split (i:=i) e;exact⟨G++F1,G',F2,u,by rw[ZX],e1,p.app h1,h2,h3⟩
def aM.join{i:Nat}{ds:List D}{vs:List Value}(h1:aM g ex h (ds.take i) (vs.take i) F1)(p:Rp g ex h d v G)(h2:aM g ex h (ds.drop (i+1)) (vs.drop (i+1)) F2)(hd:i<ds.length)(hv:i<vs.length):aM g ex h (ds.set i d) (vs.set i v) (F1++(G++F2)):=by
 rw[J4,if_pos hd,J4,if_pos hv];exact h1.app (p.app h2)
end
end HN
namespace HN
open PySem PySem.Spec PyProof.Rows HS
structure Cx where
 g:Gb
 A:Around
 N:List Str
 h0:Heap
 A0:Addr->Prop
 env:Env
 fn:Str->Bool
 calm:Bool
 io:Bool
 pin:Option (Nat×Addr)
 fs:LA
noncomputable abbrev Cx.M(X:Cx):Model:=model X.g.P X.g.w
abbrev Cx.Nw(X:Cx)(a:Addr):Prop:=X.h0.get? a=none
def Cx.Ch(X:Cx)(a:Addr)(o:Obj):Prop:=X.Nw a∨X.io=true/\X.A0 a/\(∀xs n,o.data≠ .seq xs n)∨a∈X.fs
def Cx.Pn(X:Cx)(i:Nat)(v:Value):Prop:=∀a,X.pin=some (i,a)->v= .ref a
structure Cx.Ok (X:Cx):Prop where
 mod:L2.Mod X.g.K X.g.mg X.g.base
 nd:X.N.Nodup
 kind:X.env.scope.kind= .function
 glob:X.env.globals=mainGlobals
 blt:X.env.builtins=builtinsNs
 inj:∀x y c,X.env.cells.lookup x=some c->X.env.cells.lookup y=some c->x=y
 has:∀x,X.env.kindOf x=some .cell∨X.env.kindOf x=some .free->∃c,X.env.cells.lookup x=some c
 hd:X.calm=true->X.A.handled=none
 b0:∀a,X.Nw a->X.g.base.get? a=none
 fo:∀a∈X.fs,¬X.Nw a
 new:X.Nw X.env.locals/\∀x c,X.fn x=true->X.env.cells.lookup x=some c->X.Nw c
abbrev Hs:=List (D×Value×LA)
abbrev Ft:=Nat->LA
structure Ow (X:Cx) (hs:Hs) (U:En) (F:Ft):Prop where
 own:∀(i:Nat) d,U[i]? =some (some (d,true))->(F i).Nodup/\∀a∈F i,X.Nw a/\(∀(j:Nat) d' b',j≠i->U[j]? =some (some (d',b'))->a∉F j)/\∀t∈hs,a∉t.2.2
 src:∀(i:Nat) d b,U[i]? =some (some (d,b))->∀a∈F i,X.Nw a∨X.A0 a
structure Rel (X:Cx) (ex:LA) (hs:Hs) (U:En) (F:Ft) (s:Shared):Prop where
 ok:X.Ok
 bk:∀a o,X.g.base.get? a=some o->s.heap.get? a=some o
 br:AllBare s.gens
 nw:∀a,s.heap.get? a=none->X.Nw a
 ns:∃m,s.heap.Ns X.env.locals m/\∀(i:Nat) d b,U[i]? =some (some (d,b))->∃x v,X.N[i]? =some x/\L2.Look X.env s.heap m x v/\Rp X.g ex s.heap d v (F i)/\X.Pn i v
 fsl:∀b∈X.fs,b∈ex/\∃o es ep,s.heap.get? b=some o/\o.data= .dict es ep
 cell:∀x c,X.env.cells.lookup x=some c->c∈ex/\∃v,s.heap.IsCell c v
 loc:X.env.locals∈ex
 exl:∀b∈ex,∃o,s.heap.get? b=some o
 exb:∀b∈ex,X.g.base.get? b=none
 len:U.length=X.N.length
 ow:Ow X hs U F
 hnb:X.io=true->∀t∈hs,bD t.1=true
 held:∀t∈hs,Rp X.g ex s.heap t.1 t.2.1 t.2.2/\∀a∈t.2.2,X.Nw a∨X.A0 a
section
variable {X:Cx}{ex:LA}{hs:Hs}{U U1:En}{F:Ft}{s s1 s2 s':Shared}
def nm{α:Type}{P:α->Prop}:∀a∈([]:List α),P a:=λ_ h=>nomatch h
def oZ{h h':Heap}(l:L2.Look env h m x u)(k:∀c v,env.cells.lookup x=some c->h.IsCell c v->h'.IsCell c v):L2.Look env h' m x u:=l.imp id λ⟨a,c,e,z⟩=>⟨a,c,e,k c _ e z⟩
def Rel.ext(r:Rel X ex hs U F s)(x:Ex s s'):Rel X ex hs U F s':=
 {r with
  bk:=λa o e=>x.hp a o (r.bk a o e)
  br:=x.br r.br
  nw:=λa h=>r.nw a (x.no h)
  ns:=let ⟨m,n,q⟩:=r.ns;⟨m,n.keeps x.hp,λi d b e=>let ⟨y,v,e1,l,p,n⟩:=q i d b e;⟨y,v,e1,oZ l λ_ _ _ z=>z.keeps x.hp,p.ext x,n⟩⟩
  fsl:=λb m=>let ⟨h,o,es,ep,e,d⟩:=r.fsl b m;⟨h,o,es,ep,x.hp b o e,d⟩
  cell:=λy c e=>let ⟨m,v,z⟩:=r.cell y c e;⟨m,v,z.keeps x.hp⟩
  exl:=λb m=>let ⟨o,e⟩:=r.exl b m;⟨o,x.hp b o e⟩
  held:=λt m=>⟨(r.held t m).1.ext x,(r.held t m).2⟩}
def Rel.val(r:Rel X ex hs U F s)(e:U[i]? =some (some (d,b))):∃x v m,X.N[i]? =some x/\s.heap.Ns X.env.locals m/\L2.Look X.env s.heap m x v/\Rp X.g ex s.heap d v (F i):=
 let ⟨m,n,q⟩:=r.ns;let ⟨y,v,e1,l,p,_⟩:=q i d b e;⟨y,v,m,e1,n,l,p⟩
def Rel.has(r:Rel X ex hs U F s)(e:U[i]? =some (some (d,b)))(h:a∈F i)(z:s.heap.get? a=none):False:=by
 obtain⟨_,_,_,_,_,_,p⟩:=r.val e;obtain⟨_,_,q⟩:=p.mem a h;rw[z]at q;cases q
def Rel.tF(r:Rel X ex hs U F s)(h:s.heap.get? a=none):X.g.base.get? a=none:=r.ok.b0 a (r.nw a h)
def Rel.iO(r:Rel X ex hs U F s)(h:s.heap.get? a=none):a∉ex:=λm=>by
 obtain⟨o,e⟩:=r.exl a m;rw[h]at e;cases e
abbrev Src(U:En)(F:Ft)(s:Shared)(M:List Nat)(G:LA):Prop:=∀a∈G,s.heap.get? a=none∨∃i d b,U[i]? =some (some (d,b))/\a∈F i/\(b=true->i∈M)
def Nd(F:Ft)(M:List Nat):Prop:=∀i a,a∈F i->M.count i<=1
def Nd.of(h:M.Nodup):Nd F M:=λi _ _=>List.nodup_iff_count.mp h i
structure Q9 (X:Cx) (ex:LA) (U:En) (F:Ft) (s s':Shared) (ds:List D) (fr:Bool) (M:List Nat) (vs:List Value) (G:LA):Prop where
 ext:Ex s s'
 rp:aM X.g ex s'.heap ds vs G
 src:Src U F s M G
 fW:fr=true->Nd F M->G.Nodup/\∀a∈G,s.heap.get? a=none∨∃i∈M,a∈F i
 own:∀i∈M,∃d,U[i]? =some (some (d,true))
abbrev eH(X:Cx)(ex:LA)(U:En)(F:Ft)(s s':Shared)(r:R)(v:Value)(G:LA):Prop:=Q9 X ex U F s s' [r.d] r.fr r.M [v] G
def Q9.app(r:Rel X ex hs U F s)(p:Q9 X ex U F s s1 ds fr M vs G)(q:Q9 X ex U F s1 s2 ds' fr' M' vs' G'):Q9 X ex U F s s2 (ds++ds') (fr && fr') (M++M') (vs++vs') (G++G') where
 ext:=p.ext.trans q.ext
 rp:=(p.rp.ext q.ext).app q.rp
 src:=λa m=>(Zf.mp m).elim (λm=>(p.src a m).imp id λ⟨i,d,b,e,h,k⟩=>⟨i,d,b,e,h,λz=>Zc _ (k z)⟩)
  λm=>(q.src a m).imp p.ext.no λ⟨i,d,b,e,h,k⟩=>⟨i,d,b,e,h,λz=>Za _ (k z)⟩
 fW:=λf n=>by
  rw[Ze]at f;have n3:∀i a,a∈F i->M.count i+M'.count i<=1:=λi a h=>by rw[← List.count_append];exact n i a h
  obtain⟨a1,a2⟩:=p.fW f.1 λi a h=>ZE (Nat.le_add_right _ _) (n3 i a h);obtain⟨b1,b2⟩:=q.fW f.2 λi a h=>ZE (Nat.le_add_left _ _) (n3 i a h);refine⟨ZU.mpr ⟨a1,b1,λa ha b hb e=>?_⟩,λa m=>(Zf.mp m).elim (λm=>(a2 a m).imp id λ⟨i,h,k⟩=>⟨i,Zc _ h,k⟩) λm=>(b2 a m).imp p.ext.no λ⟨i,h,k⟩=>⟨i,Za _ h,k⟩⟩;subst e;rcases b2 a hb with z | ⟨j,hj,kj⟩
  .obtain⟨_,_,w⟩:=p.rp.mem a ha;rw[z]at w;cases w
  .obtain⟨d,ej⟩:=q.own j hj;rcases a2 a ha with z | ⟨i,hi,ki⟩
   .exact r.has ej kj z
   .obtain⟨d',ei⟩:=p.own i hi;exact((r.ow.own i d' ei).2 a ki).2.1 j d true (λz=>by subst z;have:=n3 j a kj;have:=List.count_pos_iff.mpr hi;have:=List.count_pos_iff.mpr hj;lia) ej kj
 own:=λi m=>(Zf.mp m).elim (p.own i) (q.own i)
def Q9.nil:Q9 X ex U F s s [] true [] [] []:=⟨.refl,.nil,nm,λ_ _=>⟨.nil,nm⟩,nm⟩
def Q9.flat(x:Ex s s')(p:aM X.g ex s'.heap ds vs []):Q9 X ex U F s s' ds true [] vs []:=⟨x,p,nm,λ_ _=>⟨.nil,nm⟩,nm⟩
def Q9.sub(p:Q9 X ex U F s s1 ds fr M vs G)(x:Ex s1 s')(q:aM X.g ex s'.heap ds' vs' G')(m:∀a∈G',a∈G∨s1.heap.get? a=none)(n:fr'=true->fr=true/\(G.Nodup->G'.Nodup)):Q9 X ex U F s s' ds' fr' M vs' G' where
 ext:=p.ext.trans x
 rp:=q
 src:=λa h=>(m a h).elim (p.src a) λz=> .inl (p.ext.no z)
 fW:=λf d=>let ⟨u,v⟩:=n f;let ⟨a,b⟩:=p.fW u d;⟨v a,λc h=>(m c h).elim (b c) λz=> .inl (p.ext.no z)⟩
 own:=p.own
def Q9.more(p:Q9 X ex U F s s1 ds fr M vs G)(x:Ex s1 s'):Q9 X ex U F s s' ds fr M vs G:=⟨p.ext.trans x,p.rp.ext x,p.src,p.fW,p.own⟩
def Q9.norm{r:R}(p:eH X ex U F s s' r v G):eH X ex U F s s' r.norm v G:=by
 unfold R.norm;split
 .rename_i h;have:G=[]:=p.rp.jE (by simp[QU,h]);subst this;exact .flat p.ext p.rp
 .exact p
def Q9.wO{p:Addr}(x:Ex s s1)(y:Ex s1 s')(hn:s1.heap.get? p=none)(hx:p∉ex)(e:s'.heap.get? p=some (dN its n))(z:ds.length<=sizeLine)(r:aM X.g ex s'.heap ds its []):eH X ex U F s s' ⟨.lst ds,true,[]⟩ (.ref p) [p]:=
 ⟨x.trans y,.oY hx z e r,λa h=> .inl (by rw[Zg.mp h];exact x.no hn),λ_ _=>⟨⋯,λa h=> .inl (by rw[Zg.mp h];exact x.no hn)⟩,nm⟩
def Q9.eE{p:Addr}(q:Q9 X ex U F s s1 ds0 fr M vs0 G)(x:Ex s1 s')(hn:s1.heap.get? p=none)(hx:p∉ex)(e:s'.heap.get? p=some (dN its n))(z:ds.length<=sizeLine)(r:aM X.g ex s'.heap ds its G')(m:∀a∈G',a∈G):∃G,eH X ex U F s s' (eE ds M) (.ref p) G:=by
 unfold HS.eE;split
 .rename_i f;have:G'=[]:=r.jE f;subst this;exact⟨[p],.wO q.ext x hn hx e z r⟩
 .exact⟨p::G',q.sub x (.oY hx z e r) (λa h=>(Zj.mp h).elim (λh=> .inr (h▸hn)) λh=> .inl (m a h)) λh=>nomatch h⟩
def SE(X:Cx)(e:Expr)(f:DE):Prop:=∀ ⦃ex hs U F s r⦄,Rel X ex hs U F s->f U=some r->wpAny X.M X.A (eval e X.env) (λv s'=>∃G,eH X ex U F s s' r v G) (λ_ _=>False) s
def SA(X:Cx)(es:List Expr)(f:DA):Prop:=∀ ⦃ex hs U F s r⦄ (pos:Pos),Rel X ex hs U F s->f U=some r->wpAny X.M X.A (spliced (backTo pos (starEach es X.env))) (λvs s'=>∃G,Q9 X ex U F s s' r.ds r.fr r.M vs G) (λ_ _=>False) s
def ST(X:Cx)(e:Expr)(f:DT):Prop:=∀ ⦃ex hs U F s b⦄,Rel X ex hs U F s->f U=some b->wpAny X.M X.A (isTrue e X.env (eval e X.env)) (λc s'=>c=b/\Ex s s') (λ_ _=>False) s
def aN(h:wpAny M A t Q E s)(k:∀a s,Q a s->Q' a s):wpAny M A t Q' E s:=wpAny_mono h k λ_ _ x=>x
def any(h:wpAny M A t Q (λ_ _=>False) s):wpAny M A t Q E s:=wpAny_mono h (λ_ _ x=>x) λ_ _ x=>x.elim
def set_inv{U:En}{x:Option (D×Bool)}(e:(U.set i x)[j]? =some (some y)):(j=i/\x=some y)∨(j≠i/\U[j]? =some (some y)):=by
 by_cases h:j=i
 .subst h;rw[List.getElem?_set]at e;simp only[if_true]at e;split at e
  .exact .inl ⟨rfl,Option.some.inj e⟩
  .cases e
 .rw[uF (Ne.symm h)]at e;exact .inr ⟨h,e⟩
noncomputable abbrev put(F:Ft)(i:Nat)(G:LA):Ft:=λj=>if j=i then G else F j
def pL:put F i G i=G:=if_pos rfl
def oH(h:j≠i):put F i G j=F j:=if_neg h
abbrev D2(X:Cx)(hs:Hs)(U:En)(F:Ft)(i:Nat)(a:Addr):Prop:=X.Nw a/\(∀(j:Nat) d' b',j≠i->U[j]? =some (some (d',b'))->a∉F j)/\∀t∈hs,a∉t.2.2
def Ow.weak(o:Ow X hs U F)(w:hX U U1):Ow X hs U1 F where
 own:=λi d e=>by
  obtain⟨b,h,k⟩:=w.2 i d true e;obtain⟨n,q⟩:=o.own i d (by rw[h,k rfl]);exact⟨n,λa m=>⟨(q a m).1,λj d' b' z e'=>let ⟨c,h',_⟩:=w.2 j d' b' e';(q a m).2.1 j d' c z h',(q a m).2.2⟩⟩
 src:=λi d b e=>let ⟨c,h,_⟩:=w.2 i d b e;o.src i d c h
def Ow.set(o:Ow X hs U F)(sr:∀a∈G,X.Nw a∨X.A0 a)(ap:∀(j:Nat) d',j≠i->U[j]? =some (some (d',true))->∀a∈F j,a∉G)(hb:b=true->G.Nodup/\∀a∈G,D2 X hs U F i a):Ow X hs (U.set i (some (d,b))) (put F i G) where
 own:=λj d' e=>by
  rcases set_inv e with⟨rfl,e1⟩ | ⟨z,e1⟩
  .cases e1;obtain⟨n,q⟩:=hb rfl;rw[pL];refine⟨n,λa m=>⟨(q a m).1,λk d'' b'' h e=>?_,(q a m).2.2⟩⟩;rw[oH h];exact(q a m).2.1 k d'' b'' h ((set_inv e).elim (λz=>absurd z.1 h) (·.2))
  .obtain⟨n,q⟩:=o.own j d' e1;rw[oH z];refine⟨n,λa m=>⟨(q a m).1,λk d'' b'' h e'=>?_,(q a m).2.2⟩⟩;rcases set_inv e' with⟨rfl,_⟩ | ⟨h',e2⟩
   .rw[pL];exact ap j d' z e1 a m
   .rw[oH h'];exact(q a m).2.1 k d'' b'' h e2
 src:=λj d' b' e=>by
  rcases set_inv e with⟨rfl,e⟩ | ⟨z,e⟩
  .rw[pL];exact sr
  .rw[oH z];exact o.src j d' b' e
def Rel.tN(r:Rel X ex hs U F s)(p:Src U F s M G):∀a∈G,X.Nw a∨X.A0 a:=λa m=>(p a m).elim (λz=> .inl (r.nw a z)) λ⟨i,d,b,e,h,_⟩=>r.ow.src i d b e a h
def Rel.shr(r:Rel X ex hs U F s)(p:Src U F s M G){j:Nat}(e:(dH M U)[j]? =some (some (d,true))):∀a∈F j,a∉G:=λa h m=>by
 obtain⟨b,e2,k⟩:=(iT M U).2 j d true e;cases k rfl;rcases p a m with z | ⟨i,d',b,e',m',hb⟩
 .exact r.has e2 h z
 .by_cases hij:i=j
  .subst hij;rw[e']at e2;cases e2;exact Jb M U i _ (hb rfl) e
  .exact((r.ow.own j d e2).2 a h).2.1 i d' b hij e' m'
def Q9.qU(r:Rel X ex hs U F s)(p:Q9 X e' U F s s' ds fr M vs G)(f:fr=true)(n:M.Nodup):G.Nodup/\∀a∈G,D2 X hs (kill M U) F i a/\∀(j:Nat) d b,(kill M U)[j]? =some (some (d,b))->a∉F j:=by
 obtain⟨g1,g2⟩:=p.fW f (.of n);refine⟨g1,λa m=>?_⟩;have ap:∀(j:Nat) d b,(kill M U)[j]? =some (some (d,b))->a∉F j:=λj d b e h=>by
  obtain⟨b',e',_⟩:=(pH M U).2 j d b e;rcases g2 a m with z | ⟨k,hk,ak⟩
  .exact r.has e' h z
  .obtain⟨d',ek⟩:=p.own k hk;exact((r.ow.own k d' ek).2 a ak).2.1 j d b' (λz=>IZ M U j d b (z▸hk) e) e' h
 refine⟨⟨?_,λj d b _=>ap j d b,λt ht h=>?_⟩,ap⟩
 .rcases g2 a m with z | ⟨k,hk,ak⟩
  .exact r.nw a z
  .obtain⟨d',ek⟩:=p.own k hk;exact((r.ow.own k d' ek).2 a ak).1
 .rcases g2 a m with z | ⟨k,hk,ak⟩
  .obtain⟨_,_,q⟩:=(r.held t ht).1.mem a h;rw[z]at q;cases q
  .obtain⟨d',ek⟩:=p.own k hk;exact((r.ow.own k d' ek).2 a ak).2.2 t ht h
def Q9.asg{r:R}(rel:Rel X ex hs U F s)(p:eH X e' U F s s' r v G):∃U1 b,asg i r U=U1.set i (some (r.d,b))/\hX U U1/\Ow X hs (U1.set i (some (r.d,b))) (put F i G):=by
 have p':=p.norm;unfold HS.asg;split
 .rename_i h;simp only[Ze,decide_eq_true_eq]at h;obtain⟨n,q⟩:=p'.qU (i:=i) rel h.1 h.2;exact⟨_,_,rfl,pH _ _,(rel.ow.weak (pH _ _)).set (rel.tN p'.src) (λj d' z e a m g=>(q a g).2 j d' true e m) λ_=>⟨n,λa m=>(q a m).1⟩⟩
 .refine⟨_,_,rfl,iT _ _,(rel.ow.weak (iT _ _)).set (rel.tN p'.src) (λj d' z e=>rel.shr p'.src e) λh=>?_⟩;have:G=[]:=p.rp.jE (by simp[QU,h]);subst this;exact⟨.nil,nm⟩
def iA(o:Obj):Prop:=(∀es ep,o.data≠ .dict es ep)/\(∀v,o.data≠ .cell v)/\o.cls≠ .type "list" /\∀C,o.cls= .ref C->∃vs,o.data= .fields vs
structure Fx (X:Cx) (hs:Hs) (s s':Shared):Prop where
 hp:∀a o,s.heap.get? a=some o->(X.Ch a o->iA o∨∃t∈hs,a∈t.2.2)->s'.heap.get? a=some o
 os:s'.os=s.os
 br:AllBare s.gens->AllBare s'.gens
 fr:∀a∈X.fs,∀o,s.heap.get? a=some o->∃sl,s'.heap.get? a=some {o with slots:=sl}
def Fx.refl:Fx X hs s s:=⟨λ_ _ h _=>h,rfl,id,λ_ _ o e=>⟨o.slots,e⟩⟩
def Fx.trans(a:Fx X hs s s1)(b:Fx X hs s1 s2):Fx X hs s s2:=⟨λc o h i=>b.hp c o (a.hp c o h i) i,b.os.trans a.os,λh=>b.br (a.br h),λc m o e=>let ⟨sl,e1⟩:=a.fr c m o e;let ⟨sl',e2⟩:=b.fr c m {o with slots:=sl} e1;⟨sl',e2⟩⟩
def Fx.of(x:Ex s s'):Fx X hs s s':=⟨λa o h _=>x.hp a o h,x.os,x.br,λa _ o e=>⟨o.slots,x.hp a o e⟩⟩
def Fx.less(x:Fx X (ts++hs) s s'):Fx X hs s s':=⟨λa o h i=>x.hp a o h λn=>(i n).imp id λ⟨t,m,k⟩=>⟨t,Za _ m,k⟩,x.os,x.br,x.fr⟩
def Fx.ą{h':Heap}(b:Heap.SameBut p s.heap h')(n:X.Ch p o)(e:s.heap.get? p=some o)(i:¬iA o)(hh:∀t∈hs,p∉t.2.2)(nf:p∉X.fs):Fx X hs s {s with heap:=h',toks:=t}:=
 ⟨λa o' h k=>by
  by_cases z:a=p
  .subst z;rw[e]at h;cases h;exact((k n).elim i λ⟨t,m,k⟩=>hh t m k).elim
  .rw[b.2 a z];exact h,rfl,id,λa m o e=>⟨o.slots,(b.2 a λz=>nf (z▸m)).trans e⟩⟩
def Fx.one{h':Heap}(ok:X.Ok)(b:Heap.SameBut p s.heap h')(n:X.Nw p)(e:s.heap.get? p=some o)(i:¬iA o)(hh:∀t∈hs,p∉t.2.2):Fx X hs s {s with heap:=h',toks:=t}:= .ą b (.inl n) e i hh λm=>ok.fo p m n
def aM.but{h h':Heap}{F:LA}(r:aM g ex h ds vs F)(b:Heap.SameBut p h h')(hp:p∈ex∨p∉F/\∀o,h.get? p=some o->¬tJ o):aM g ex h' ds vs F:=r.keep λa o x m e=>by
 rw[b.2 a (λz=>by subst z;rcases hp with y | ⟨y,y'⟩;exact x y;exact m.elim y (y' o e))];exact e
def Sl(X:Cx)(x:Str)(i:Nat):Prop:=X.N[i]? =some x/\L2.Loc X.env.scope x/\(X.fn x=true∨X.env.scope.names.lookup x=some .local)/\∀a,X.pin≠some (i,a)
def Rel.K9{U2:En}{F2:Ft}(r:Rel X ex hs U F s)(hi:X.N[i]? =some x)(hx:L2.Loc X.env.scope x)(hf:X.fn x=true∨X.env.scope.names.lookup x=some .local)(hlen:U2.length=U.length)(o:Ow X hs U2 F2)(hq:∀(j:Nat) d b,U2[j]? =some (some (d,b))->(j=i/\X.Pn i v/\Rp X.g ex s.heap d v (F2 i))∨(j≠i/\F2 j=F j/\∃b2,U[j]? =some (some (d,b2))))
  (k:∀s' m m',s.heap.Ns X.env.locals m->s'.heap.Ns X.env.locals m'->L2.Look X.env s'.heap m' x v->(∀y u,y≠x->L2.Look X.env s.heap m y u->L2.Look X.env s'.heap m' y u)->Fx X hs s s'->Rel X ex hs U2 F2 s'->(∃q∈ex,(q=X.env.locals∨∃y,X.env.cells.lookup y=some q)/\Heap.SameBut q s.heap s'.heap)->Q () s'):wpAny M A (storeName X.env x v) Q E s:=by
 obtain⟨m,hn,hv⟩:=r.ns
 have fin:∀{a h' m' t},Heap.SameBut a s.heap h'->a∈ex->X.Nw a->(∃q,h'.get? a=some q)->h'.Ns X.env.locals m'->(∀y c,X.env.cells.lookup y=some c->∃v,h'.IsCell c v)->L2.Look X.env h' m' x v->(∀y u,y≠x->L2.Look X.env s.heap m y u->L2.Look X.env h' m' y u)→
   Rel X ex hs U2 F2 {s with heap:=h',toks:=t}:=λ{a h' m' t} sb hx hw he hn' hc hl ho=>
  {ok:=r.ok
   bk:=λc q e=>(sb.2 c (λz=>by subst z;rw[r.ok.b0 c hw]at e;cases e)).trans (r.bk c q e)
   br:=r.br
   nw:=λc e=>by
    by_cases z:c=a
    .exact z▸hw
    .exact r.nw c ((sb.2 c z).symm.trans e)
   ns:=⟨m',hn',λj d' b' e=>by
    rcases hq j d' b' e with⟨rfl,hpn,p⟩ | ⟨z,ef,b2,e2⟩
    .exact⟨x,v,hi,hl,p.but sb (.inl hx),hpn⟩
    .obtain⟨y,u,h1,h2,h3,h4⟩:=hv j d' b2 e2;rw[ef];exact⟨y,u,h1,ho y u (λe=>z (L2.JL r.ok.nd (e▸h1) hi)) h2,h3.but sb (.inl hx),h4⟩⟩
   fsl:=λb m=>let ⟨h,o,es,ep,e,d⟩:=r.fsl b m;⟨h,o,es,ep,(sb.2 b λz=>r.ok.fo b m (z▸hw)).trans e,d⟩
   cell:=λy c e=>⟨(r.cell y c e).1,hc y c e⟩
   loc:=r.loc
   exl:=λc e=>by
    by_cases z:c=a
    .exact z▸he
    .obtain⟨q,h⟩:=r.exl c e;exact⟨q,(sb.2 c z).trans h⟩
   exb:=r.exb
   hnb:=r.hnb
   len:=hlen.trans r.len
   ow:=o
   held:=λt e=>⟨(r.held t e).1.but sb (.inl hx),(r.held t e).2⟩}
 have hh:∀a∈ex,∀t∈hs,a∉t.2.2:=λa m t ht h=>((r.held t ht).1.mem a h).1 m;have cne:∀y c,X.env.cells.lookup y=some c->c≠X.env.locals:=λy c e z=>by
  obtain⟨_,_,q,h1,h2⟩:=r.cell y c e;obtain⟨q',_,_,h3,h4,_⟩:=hn;rw[z,h3]at h1;cases h1;rw[h4]at h2;cases h2
 rcases hx with hk | hk
 .refine wpAny_storeName_local hk hn (λh' hn' sb=>?_) (by rw[r.ok.kind];rfl);obtain⟨q,es,ep,h1,h2,_⟩:=id hn;obtain⟨q',_,_,h1',_⟩:=id hn';have oth:∀y u,y≠x->L2.Look X.env s.heap m y u->L2.Look X.env h' (λz=>if z=x then some v else m z) y u:=λy u hy l=>?oth;refine k _ m _ hn hn' (.inl ⟨hk,if_pos rfl⟩) oth (.one r.ok sb r.ok.new.1 h1 (λz=>z.1 _ _ h2) (hh _ r.loc)) (fin sb r.loc r.ok.new.1 ⟨q',h1'⟩ hn' (λy c e=>let ⟨_,u,z⟩:=r.cell y c e;⟨u,z.sameBut sb (cne y c e)⟩) (.inl ⟨hk,if_pos rfl⟩) oth) ⟨_,r.loc,.inl rfl,sb⟩;exact l.imp (λ⟨a,e⟩=>⟨a,(if_neg hy).trans e⟩) λ⟨a,c,e,z⟩=>⟨a,c,e,z.sameBut sb (cne y c e)⟩
 .obtain⟨c,hc⟩:=r.ok.has x (.inl hk);obtain⟨hcx,u,q,h1,h2⟩:=r.cell x c hc;refine wpAny_storeName_cell r.ok.kind hk hc ⟨q,h1,h2⟩ λh' hc' sb=>?_;have hw:=r.ok.new.2 x c (hf.elim id λz=>by rw[z]at hk;cases hk) hc;obtain⟨q',h1',_⟩:=id hc';have oth:∀y u,y≠x->L2.Look X.env s.heap m y u->L2.Look X.env h' m y u:=λy u hy l=>l.imp id λ⟨a,c',e,z⟩=>⟨a,c',e,z.sameBut sb λe'=>hy (r.ok.inj _ _ _ (e'▸e) hc)⟩;have hn':=hn.sameBut sb (Ne.symm (cne x c hc));refine k _ m m hn hn' (.inr ⟨.inl hk,c,hc,hc'⟩) oth (.one (t:=s.toks) r.ok sb hw h1 (λz=>z.2.1 _ h2) (hh _ hcx)) (fin sb hcx hw ⟨q',h1'⟩ hn' (λy c' e=>?_) (.inr ⟨.inl hk,c,hc,hc'⟩) oth) ⟨_,hcx,.inr ⟨x,hc⟩,sb⟩
  .by_cases z:c'=c
   .exact⟨_,z▸hc'⟩
   .obtain⟨_,u',z'⟩:=r.cell y c' e;exact⟨u',z'.sameBut sb z⟩
def Rel.GF(r:Rel X ex hs U F s)(w:hX U U1)(hi:X.N[i]? =some x)(hx:L2.Loc X.env.scope x)(hf:X.fn x=true∨X.env.scope.names.lookup x=some .local)(hpn:X.Pn i v)(p:Rp X.g ex s.heap d v G)(o:Ow X hs (U1.set i (some (d,b))) (put F i G))
  (k:∀s',Fx X hs s s'->Rel X ex hs (U1.set i (some (d,b))) (put F i G) s'->(∃q∈ex,(q=X.env.locals∨∃y,X.env.cells.lookup y=some q)/\Heap.SameBut q s.heap s'.heap)->Q () s'):wpAny M A (storeName X.env x v) Q E s:=
 r.K9 hi hx hf (by rw[pD,w.1]) o (λj d' b' e=>by
  rcases set_inv e with⟨rfl,e1⟩ | ⟨z,e1⟩
  .cases e1;exact .inl ⟨rfl,hpn,by rw[pL];exact p⟩
  .obtain⟨b2,e2,_⟩:=w.2 j d' b' e1;exact .inr ⟨z,oH z,b2,e2⟩) λs' _ _ _ _ _ _=>k s'
def Rel.store(r:Rel X ex hs U F s)(w:hX U U1)(sl:Sl X x i)(p:Rp X.g ex s.heap d v G)(o:Ow X hs (U1.set i (some (d,b))) (put F i G))
  (k:∀s',Fx X hs s s'->Rel X ex hs (U1.set i (some (d,b))) (put F i G) s'->(∃q∈ex,(q=X.env.locals∨∃y,X.env.cells.lookup y=some q)/\Heap.SameBut q s.heap s'.heap)->Q () s'):wpAny M A (storeName X.env x v) Q E s:=
 r.GF w sl.1 sl.2.1 sl.2.2.1 (λa e=>absurd e (sl.2.2.2 a)) p o k
end
section
variable {X:Cx}{ex:LA}{hs:Hs}{U:En}{F:Ft}{s s':Shared}{a b:Expr}{fa fb:DE}{pos:Pos}
def oM{d:D}(h:d.flat=true):QU [d]=true:=by simp[QU,h]
def Val(X:Cx)(s:Shared)(i:Nat)(v:Value):Prop:=∃y m,X.N[i]? =some y/\s.heap.Ns X.env.locals m/\L2.Look X.env s.heap m y v
def Rel.lH{Q:Value->Shared->Prop}{b:Bool}(rel:Rel X ex hs U F s)(q:U[i]? =some (some (d,b)))(hN:X.N[i]? =some x)(h2:(x == ("__classdict__" :Str))=false)(k:∀v,Val X s i v->Rp X.g ex s.heap d v (F i)->Q v s):wpAny X.M A (loadName X.env x) Q E s:=by
 obtain⟨y,v,m,e1,hn,l,p⟩:=rel.val q;have k:=k v ⟨y,m,e1,hn,l⟩ p;rw[hN]at e1;cases e1;rcases l with⟨hk,hm⟩ | ⟨hk | hk,c,hc,z⟩
 .exact wpAny_loadName_local rel.ok.kind hk hn hm k
 .exact wpAny_loadName_cell rel.ok.kind hk hc z k
 .exact wpAny_loadName_free rel.ok.kind hk hc z k h2
def Rf(hN:X.N[i]? =some x)(h1:(x == ("__debug__" :Str))=false)(h2:(x == ("__classdict__" :Str))=false):SE X (.Name x pos) (Qd i):=λex hs U F s r rel e=>by
 unfold Qd at e;split at e
 .rename_i d b q;refine wpAny_Name (rel.lH q hN h2 λv _ p=>?_) h1;split at e
  .rename_i h;cases e;have:=p.jE (oM h);rw[this]at p;exact⟨[],.flat .refl p⟩
  .split at e
   .rename_i h;cases e;cases h;exact⟨F i,.refl,p,λa m=> .inr ⟨i,d,true,q,m,λ_=>List.mem_singleton_self i⟩,λ_ _=>⟨(rel.ow.own i d q).1,λa m=> .inr ⟨i,List.mem_singleton_self i,m⟩⟩,λj m=>⟨d,Zg.mp m▸q⟩⟩
   .rename_i h;cases e;exact⟨F i,.refl,p,λa m=> .inr ⟨i,d,b,q,m,λz=>absurd z h⟩,(nomatch ·),nm⟩
 .cases e
def Nl:SE X (.Constant (.int i) j pos) (dC (.int i)):=λ_ _ _ _ _ _ _ e=>by cases e;exact wpAny_Constant_int ⟨[],.flat .tok .int⟩
def Uv:SE X (.Constant (.bool i) j pos) (dC (.bl i)):=λ_ _ _ _ _ _ _ e=>by cases e;exact Constant_bool ⟨[],.flat .refl .bl⟩
def OH:SE X (.Constant .none j pos) (dC .aT):=λ_ _ _ _ _ _ _ e=>by cases e;exact Constant_none ⟨[],.flat .refl .aT⟩
def My:SE X (.Constant (.str i) j pos) (dC (.str i)):=λ_ _ _ _ _ _ _ e=>by cases e;exact Calls.Constant_str ⟨[],.flat .tok .str⟩
def Gl(X:Cx)(x:Str):Prop:=X.env.kindOf x=some .globalImplicit
def Rel.glob{Q:Value->Shared->Prop}(r:Rel X ex hs U F s)(hg:Gl X x)(hm:X.g.mg x=some u)(q:Q u s)(hd:(x == ("__debug__" :Str))=false):wpAny X.M X.A (eval (.Name x pos) X.env) Q E s:=
 Calls.Name_function_global r.ok.kind hg (Calls.loadGlobal_global (by rw[r.ok.glob];exact r.ok.mod.glob.keeps r.bk) hm q) hd
def Rel.Bi{Q:Value->Shared->Prop}(r:Rel X ex hs U F s)(hg:Gl X x)(hm:X.g.mg x=none)(hv:bootBuiltins x=some u)(q:Q u s)(hn:x≠ "__name__" :=by decide)(hd:(x == ("__debug__" :Str))=false:=by decide):wpAny X.M X.A (eval (.Name x pos) X.env) Q E s:=by
 obtain⟨mb,h1,h2⟩:=r.ok.mod.blt;exact Calls.Name_function_global r.ok.kind hg (Calls.loadGlobal_builtin (by rw[r.ok.glob];exact r.ok.mod.glob.keeps r.bk) hm (by rw[r.ok.blt];exact h1.keeps r.bk) (by rw[h2 x hn];exact hv) q) hd
def Y1(hg:Gl X x)(hm:X.g.mg x=some u)(h:At d u)(hd:(x == ("__debug__" :Str))=false):SE X (.Name x pos) (dC d):=λ_ _ _ _ _ _ rel e=>by cases e;exact rel.glob hg hm ⟨[],.flat .refl (.atm h .nil)⟩ hd
def jT:SA X [] Qq:=λ_ _ _ _ _ _ _ rel e=>by cases e;exact ZY ⟨[],.nil⟩
def fA(ha:SE X a fa)(hb:SA X es fs)(hs:starEach (a::es) X.env=(false,eval a X.env)::starEach es X.env):SA X (a::es) (Qb fa fs):=λex hs' U F s r pos rel e=>by
 refine Ql e λra ea e=>Ql e λrs es' e=>?_;cases e;rw[hs];exact ZJ (aN (ha rel ea) λv s1 ⟨G,p⟩=>aN (hb pos (rel.ext p.ext) es') λvs s2 ⟨G',q⟩=>⟨_,p.app rel q⟩)
def two{Q:Value->Value->Shared->Prop}(ha:SE X a fa)(hb:SE X b fb)(rel:Rel X ex hs U F s)(ea:fa U=some ra)(eb:fb U=some rb)
  (k:∀x y s1 s' G G',eH X ex U F s s1 ra x G->eH X ex U F s1 s' rb y G'->Rel X ex hs U F s'->Rp X.g ex s'.heap ra.d x G->Q x y s'):
  wpAny X.M X.A (eval a X.env) (λx s1=>wpAny X.M X.A (eval b X.env) (λy s2=>Q x y s2) (λ_ _=>False) s1) (λ_ _=>False) s:=
 aN (ha rel ea) λx s1 ⟨G,p⟩=>aN (hb (rel.ext p.ext) eb) λy s2 ⟨G',q⟩=>k x y s1 s2 G G' p q ((rel.ext p.ext).ext q.ext) (p.rp.ext q.ext)
def Op(X:Cx)(c:Value->Value->Sem Value)(g:D->D->Option D):Prop:=∀ ⦃ex hs U F s a b d x y G G'⦄,Rel X ex hs U F s->g a b=some d->Rp X.g ex s.heap a x G->Rp X.g ex s.heap b y G'→
 wpAny X.M X.A (c x y) (λv s'=>Ex s s'/\Rp X.g ex s'.heap d v []) (λ_ _=>False) s
def Dq{ra rb:R}(rel:Rel X ex hs U F s)(ho:Op X c g)(e:((g ra.d rb.d).map λd=>(⟨d,true,[]⟩:R))=some r)(x:Ex s0 s)(p:Rp X.g ex s.heap ra.d v G)(q:Rp X.g ex s.heap rb.d u G'):wpAny X.M X.A (c v u) (λv s'=>∃G,eH X ex U F s0 s' r v G) (λ_ _=>False) s:=by
 obtain⟨d,e1,rfl⟩:=Zd.mp e;exact aN (ho rel e1 p q) λv s' ⟨y,q⟩=>⟨[],.flat (x.trans y) q⟩
def yZ(ho:Op X (binaryOp op) g)(ha:SE X a fa)(hb:SE X b fb):SE X (.BinOp a op b pos) (aB g fa fb):=λex hs U F s r rel e=>by
 refine Ql e λra ea e=>Ql e λrb eb e=>?_;exact wpAny_BinOp (two ha hb rel ea eb λx y s1 s' G G' p q rel' p'=>Dq rel' ho e (p.ext.trans q.ext) p' q.rp)
def SN(ho:Op X (compareOp op) g)(ha:SE X a fa)(hb:SE X b fb)(hm:behindInMarks op b=false):SE X (.Compare a [op] [b] pos) (aB g fa fb):=λex hs U F s r rel e=>by
 refine Ql e λra ea e=>Ql e λrb eb e=>?_;exact wpAny_Compare1 (two ha hb rel ea eb λx y s1 s' G G' p q rel' p'=>Dq rel' ho e (p.ext.trans q.ext) p' q.rp) hm
def mC(rule:∀i j d s t u,f i j=some d->wpAny X.M X.A (c (.int i t) (.int j u)) (λv s'=>Ex s s'/\At d v) (λ_ _=>False) s):Op X c (gI f):=λex hs U F s a b d x y G G' rel e p q=>by
 obtain⟨i,j,rfl,rfl,e⟩:=B3 e;obtain⟨t,rfl⟩:=p.int_inv;obtain⟨u,rfl⟩:=q.int_inv;exact aN (rule i j d s t u e) λv s' ⟨x,z⟩=>⟨x,.atm z .nil⟩
def Z9:Op X (binaryOp .Sub) hH:=mC λi j d s t u e=>by cases e;exact sub_int ⟨.tok,_,rfl⟩
def PW:Op X (binaryOp .FloorDiv) eJ:=mC λi j d s t u e=>by
 split at e
 .rename_i h;cases e;simp only[xU,Ze,decide_eq_true_eq]at h;refine floordiv_int h.1 ⟨.tok,_,by rw[VA]⟩ (.inl (ML ?_));exact Nat.lt_trans ((Nat.log2_lt ⋯).mpr h.2) ∅
 .cases e
def PO:Op X (binaryOp .Mod) QX:=mC λi j d s t u e=>by
 split at e
 .cases e;exact mod_int' (by assumption) ⟨.tok,_,by rw[PG]⟩
 .cases e
def bits_le{i:Int}{n:Nat}(h:i.natAbs<2^n):Builtin.Int.intBits i<=n:=by
 unfold Builtin.Int.intBits;split
 .lia
 .rename_i h0;have h0':i.natAbs≠0:=λz=>by simp_all
  have:=(Nat.log2_lt h0').mpr h;lia
def TH:Op X (binaryOp .RShift) EU:=mC λi j d s t u e=>by
 split at e
 .cases e;exact rshift_int (by assumption) ⟨.tok,_,by rw[Jf i (L2.Xw _)]⟩
 .cases e
def Tf:Op X (compareOp .Lt) (gI λi j=>some (.bl (decide (i<j)))):=mC λi j d s t u e=>by cases e;exact lt_int ⟨.refl,rfl⟩
def T7:Op X (compareOp .LtE) LK:=mC λi j d s t u e=>by cases e;exact le_int ⟨.refl,rfl⟩
def ă:Op X (compareOp .Gt) cS:=mC λi j d s t u e=>by cases e;exact gt_int ⟨.refl,rfl⟩
def RB:Op X (compareOp .GtE) mL:=mC λi j d s t u e=>by cases e;exact ge_int ⟨.refl,rfl⟩
def S2:Op X (inplaceOp .Add) (gI λi j=>some (.int (i+j))):=mC λi j d s t u e=>by cases e;exact iadd_int ⟨.tok,_,rfl⟩
def Ď:Op X (inplaceOp .Sub) hH:=mC λi j d s t u e=>by cases e;exact isub_int ⟨.tok,_,rfl⟩
def PX(h:oU i j=true):IntMulOk i j:=by
 simp only[oU,xZ,Ze,decide_eq_true_eq]at h;exact h.elim (λh=>h.elim (λh=> .of_left (bits_le h)) λh=> .of_right (bits_le h)) λh=> .of_bits h.1 h.2
def Rel.push(r:Rel X ex hs U F s):s.heap.objs.size∉ex:=r.iO Q2
def Q9.lay{its:List Value}(rel:Rel X ex hs U F s)(p:Q9 X ex U F s0 s ds0 fr M vs G)(z:ds.length<=sizeLine)(q:aM X.g ex s.heap ds its G')(m:∀a∈G',a∈G)(n:Nat)(t:Nat):∃L,eH X ex U F s0 {s with heap:=s.heap.push (dN its n),toks:=t} (HS.eE ds M) (.ref s.heap.objs.size) L:=
 p.eE .push Q2 rel.push (Zi _ rfl) z (q.ext .push) m
def UR(ha:SE X a fa)(hb:SE X b fb):SE X (.BinOp a .Add b pos) (Qk fa fb):=λex hs U F s r rel e=>by
 refine Ql e λra ea e=>Ql e λrb eb e=>?_;refine wpAny_BinOp (two ha hb rel ea eb λx y s1 s' G1 G2 p q rel' p1=>?_);have p2:=q.rp;have x:=p.ext.trans q.ext;split at e
 .rename_i i j h1 h2;rw[h1]at p1;rw[h2]at p2;cases e;obtain⟨t,rfl⟩:=p1.int_inv;obtain⟨u,rfl⟩:=p2.int_inv;exact add_int ⟨[],.flat (x.trans .tok) .int⟩
 .rename_i xs ys h1 h2;rw[h1]at p1;rw[h2]at p2;split at e
  .rename_i hz;cases e;obtain⟨l,its,n,L,rfl,rfl,_,z1,e1,q1⟩:=p1.lst_inv;obtain⟨l2,its2,n2,L2,rfl,rfl,_,z2,e2,q2⟩:=p2.lst_inv;refine PySem.P.add_list e1 e2 ?_ (by rw[Zk,Zk,← q1.len,← q2.len];exact hz);rw[show its.toArray++its2.toArray=(its++its2).toArray by simp];exact(p.app rel q).lay rel' (by rw[Zm];exact hz) (q1.app q2) (λa m=>(Zf.mp m).elim (λm=>Zc _ (.tail _ m)) λm=>Za _ (.tail _ m)) _ s'.toks
  .cases e
 .rename_i _ _ h1 h2;rw[h1]at p1;rw[h2]at p2;split at e
  .cases e;obtain⟨t,rfl⟩:=p1.str_inv;obtain⟨u,rfl⟩:=p2.str_inv;exact add_str (λt' tk=>⟨[],.flat (x.trans .tok) .str⟩) (by assumption)
  .cases e
 .cases e
def L9(r:aM g ex h ds vs []):∀n,aM g ex h (List.replicate n ds).flatten (List.replicate n vs).flatten []
 | 0=> .nil
 | n+1=>by rw[qN,qN,vO,vO];exact r.app (L9 r n)
def XR(ha:SE X a fa)(hb:SE X b fb):SE X (.BinOp a .Mult b pos) (bS fa fb):=λex hs U F s r rel e=>by
 refine Ql e λra ea e=>Ql e λrb eb e=>?_;refine wpAny_BinOp (two ha hb rel ea eb λx y s1 s' G1 G2 p q rel' p1=>?_);have p2:=q.rp;have x:=p.ext.trans q.ext;split at e
 .rename_i i j h1 h2;rw[h1]at p1;rw[h2]at p2;split at e
  .cases e;obtain⟨t,rfl⟩:=p1.int_inv;obtain⟨u,rfl⟩:=p2.int_inv;exact mul_int ⟨[],.flat (x.trans .tok) .int⟩ (PX (by assumption))
  .cases e
 .rename_i xs k h1 h2;rw[h1]at p1;rw[h2]at p2;split at e
  .rename_i hc;cases e;obtain⟨hz,c1,c2,hf⟩:=hc;obtain⟨l,its,n,L,rfl,rfl,_,z1,e1,q1⟩:=p1.lst_inv;obtain⟨t,rfl⟩:=p2.int_inv;have hlen:its.toArray.size*k.toNat<=sizeLine:=by rw[Zk,← q1.len];exact hz
   have hnew:List.foldl (λx1 x2=>x1++x2) #[] (List.replicate (if its.toArray.isEmpty=true then 0 else k.toNat) its.toArray)=(List.replicate k.toNat its).flatten.toArray:=by
    have f0:∀m:Nat,List.foldl (λx1 x2=>x1++x2) #[] (List.replicate m its.toArray)=(List.replicate m its).flatten.toArray:=λm=>by
     have:=L2.foldl_rep its m [];rwa[Ax]at this
    rw[f0];cases its with
    | nil=>simp
    | cons a r'=>rw[if_neg ⋯]
   refine wpAny_binaryOp_repeat_ref ∅ ⟨_,e1,rfl⟩ (λs'=>typeIs_int s' k t) noFill_list_mul PySem.F.fills_int_mul PySem.F.slot_int_rmul repeat_list PySem.F.slot_int_index.lookup
    (call_meets PySem.F.slot_int_rmul (typeIs_int s' k t) PySem.F.entry_int_rmul (PySem.F.args_int_rmul_2 _ _) (int___rmul___int_list k t l its.toArray n)
     ⟨e1,rfl,⟨_,e1,rfl⟩,call_meets PySem.F.slot_list_mul ⟨_,e1,rfl⟩ PySem.F.entry_list_mul (PySem.F.args_list_mul_2 _ _) (AutoListH.list___mul___list_int_3 l its.toArray n k t (by rw[fitsIndex_both c1 c2];decide) (by have:(sizeLine:Nat)<=(2^63-1) / 8:=∅;lia) (by rw[L2.GD hlen];decide)) ⟨e1,?_⟩⟩)
   rw[hnew];have:L=[]:=q1.jE hf;subst this;exact⟨_,.wO x .push Q2 rel'.push (Zi _ rfl) (by rw[L2.len_rep,Nat.mul_comm];exact hz) ((L9 q1 k.toNat).ext .push)⟩
  .cases e
 .cases e
end
section
variable {X:Cx}{ex:LA}{hs:Hs}{U:En}{F:Ft}{s s':Shared}{a b:Expr}{fa fb:DE}{pos:Pos}{es:List Expr}{fs:DA}
def Z5(h:SA X es fs):SE X (.Tuple es k pos) (cJ fs):=λex hs U F s r rel e=>by
 refine Ql e λrs e1 e=>?_;split at e
 .cases e;refine wpAny_Tuple_spliced (aN (h pos rel e1) λvs s1 ⟨G,p⟩=>?_);have z:rs.ds.length<=sizeLine:=ZE (by assumption) ∅;exact⟨by rw[← p.rp.len];exact z,G,p.sub .push (.Bs (rel.ext p.ext).push z ⟨_,Zi _ rfl,rfl,_,rfl⟩ (p.rp.ext .push)) (λ_=> .inl) λh=>⟨h,id⟩⟩
 .cases e
def UJ(h:SA X es fs):SE X (.List es pos) (Qx fs):=λex hs U F s r rel e=>by
 refine Ql e λrs e1 e=>?_;split at e
 .cases e;refine wpAny_List_spliced (aN (h pos rel e1) λvs s1 ⟨G,p⟩=>?_);have z:rs.ds.length<=sizeLine:=ZE (by assumption) ∅;refine⟨by rw[← p.rp.len];exact z,s1.heap.objs.size::G,p.sub .push (.oY (rel.ext p.ext).push z (Zi _ rfl) (p.rp.ext .push)) (λa h=>(Zj.mp h).elim (λh=> .inr (h▸Q2)) .inl) λh=>⟨h,λn=>ZZ.mpr ⟨λm=>?_,n⟩⟩⟩;obtain⟨_,_,q⟩:=p.rp.mem _ m;rw[Q2]at q;cases q
 .cases e
def aM.seq{d:D}{h:Heap}(r:Rp g ex h d v G)(e:d.items=some ds):∃p its G',v= .ref p/\aM g ex h ds its G'/\(∀a∈G',a∈G)/\(G.Nodup->G'.Nodup)/\ds.length<=sizeLine/\((d= .lst ds/\∃n,h.get? p=some (dN its n))∨(d= .tup ds/\IsTup h p its.toArray)):=by
 unfold D.items at e;split at e
 .cases e;obtain⟨p,its,n,G',e1,rfl,_,z,e2,q⟩:=r.lst_inv;exact⟨p,its,G',e1,q,λ_ h=> .tail _ h,λh=>(ZZ.mp h).2,z,.inl ⟨rfl,n,e2⟩⟩
 .cases e;obtain⟨p,its,e1,_,z,e2,q⟩:=r.qP;exact⟨p,its,_,e1,q,λ_ h=>h,id,z,.inr ⟨rfl,e2⟩⟩
 .cases e
def eA{h:Heap}(e:h.get? p=some (dN its n)):h.IsList p its.toArray:=⟨_,e,rfl,n,rfl⟩
def rS:(sizeLine:Int)<2^63:= ∅
def item{ds:List D}{its:List Value}{h:Heap}(r:aM g ex h ds its G)(e:L2.eU ds i=some d):∃j v G',seqIndex? i its.length=some j/\its[j]? =some v/\ -(its.length:Int)<=i/\i<its.length/\Rp g ex h d v G'/\(∀a∈G',a∈G)/\(G.Nodup->G'.Nodup):=by
 obtain⟨j,h1,h2,_,h4,h5⟩:=L2.Rx e;obtain⟨F1,G',F2,v,rfl,h6,_,q,_⟩:=r.split h2;rw[r.len]at h1 h4 h5;exact⟨j,v,G',h1,h6,h4,h5,q,λa m=>Za _ (Zc _ m),λn=>(ZU.mp (ZU.mp n).2.1).1⟩
def AR{w:List Value}(z:((w.length:Nat):Int)<2^63)(h:s.heap.IsList l w.toArray∨IsTup s.heap l w.toArray)(h1:seqIndex? i w.length=some j)(h2:w[j]? =some v)(h4: -(w.length:Int)<=i)(h5:i<w.length)(q:Q v s):wpAny (model P w') A (getItem (.ref l) (.int i t)) Q E s:=by
 rcases h with h | h
 .by_cases h0:0<=i
  .refine wpAny_getItem_list h h0 ⋯ (x:=v) ?_ q;rw[seqIndex_of h0 h5]at h1;rw[Option.some.inj h1];simpa using h2
  .refine wpAny_getItem_list_neg h ⋯ (by rw[Zk];exact h4) ⋯ (x:=v) ?_ q;rw[seqIndex_neg ⋯ h4]at h1;rw[Zk,Option.some.inj h1];simpa using h2
 .exact getItem_tuple (j:=j) h ⋯ ⋯ (by rw[Zk];exact h1) (by simpa using h2) q
def Yg(ha:SE X a fa)(hb:SE X b fb)(hp:L2.wI b):SE X (.Subscript a b pos) (Qg fa fb):=λex hs U F s r rel e=>by
 refine Ql e λra ea e=>Ql e λrb eb e=>?_;refine Subscript_ (two ha hb rel ea eb λx y s1 s' G1 G2 p q rel' p1=>?_);have p2:=q.rp;have main:∀i,rb.d= .int i->((ra.d.items).bind λxs=>(L2.eU xs i).map λd=>(R.norm ⟨d,ra.fr,ra.M⟩))=some r->wpAny X.M X.A (subscriptTail a b x y) (λv s'=>∃G,eH X ex U F s s' r v G) (λ_ _=>False) s':=λi h2 e=>by
  rw[h2]at p2;obtain⟨t,rfl⟩:=p2.int_inv;refine Ql e λds e1 e=>?_;obtain⟨d,e2,rfl⟩:=Zd.mp e;obtain⟨l,its,G',rfl,r1,m,n,z,k⟩:=p1.seq e1;obtain⟨j,v,G3,h3,h4,h5,h6,r3,m3,n3⟩:=item r1 e2;have z:((its.length:Nat):Int)<2^63:=by rw[← r1.len];have:=rS;lia
  have fin:∃G,eH X ex U F s s' (R.norm ⟨d,ra.fr,ra.M⟩) v G:=⟨G3,Q9.norm (r:=⟨d,ra.fr,ra.M⟩) (p.sub q.ext r3 (λa h=> .inl (m a (m3 a h))) λh=>⟨h,λw=>n3 (n w)⟩)⟩;rcases k with⟨_,_,k⟩ | ⟨_,k⟩
  .exact tail_any (eA k).typeIs slot_list_getitem.lookup (AR z (.inl (eA k)) h3 h4 h5 h6 fin) (hp _ _)
  .exact tail_any k.typeIs slot_tuple_getitem.lookup (AR z (.inr k) h3 h4 h5 h6 fin) (hp _ _)
 split at e
 .rename_i i h2;split at e
  .rename_i x h1;rw[h2]at p2;rw[h1]at p1;obtain⟨t,rfl⟩:=p1.str_inv;obtain⟨u,rfl⟩:=p2.int_inv;split at e
   .rename_i hc;obtain⟨c,hc',rfl⟩:=Zd.mp e;exact tail_any (typeIs_str _ _ _) slot_str_getitem.lookup (getItem_str (c:=c) (by rw[decide_eq_false ⋯,decide_eq_false ⋯];rfl) (by rw[seqIndex_of hc.1 hc.2.2];exact hc') ⟨[],.flat ((p.ext.trans q.ext).trans .tok) .str⟩) (hp _ _)
   .cases e
  .exact main i h2 e
 .cases e
abbrev SO(X:Cx)(e:Option Expr)(f:DO):Prop:=∀ ⦃ex hs U F s o⦄,Rel X ex hs U F s->f U=some o->wpAny X.M X.A (evalPart e X.env) (λv s'=>IsPart v o/\Ex s s') (λ_ _=>False) s
def Wy:SO X none Q3:=λex hs U F s o rel e=>by cases e;rw[evalPart_none];exact wpAny_pure ⟨.none,.refl⟩
def Uu(h:SE X a fa):SO X (some a) (QL fa):=λex hs U F s o rel e=>by
 rw[evalPart_some];refine Ql e λr e1 e=>aN (h rel e1) λv s' ⟨G,p⟩=>?_;have q:=p.rp;split at e
 .rename_i i h;cases e;rw[h]at q;obtain⟨t,rfl⟩:=q.int_inv;exact⟨.int i t,p.ext⟩
 .cases e
def aM.take{h:Heap}:∀(n:Nat) {ds vs G},aM g ex h ds vs G->∃G',aM g ex h (ds.take n) (vs.take n) G'/\∀a∈G',a∈G
 | 0,_,_,_,r=>⟨[],.nil,nm⟩
 | n+1,[],_,_,r=>by cases r;exact⟨[],.nil,nm⟩
 | n+1,d::ds,_,_,r=>by
  obtain⟨v,vs,G,F',rfl,rfl,p,q⟩:=r.inv;obtain⟨G',h1,h2⟩:=q.take n;exact⟨G++G',p.app h1,λa m=>Zf.mpr ((Zf.mp m).imp id (h2 a))⟩
def aM.drop{h:Heap}:∀(n:Nat) {ds vs G},aM g ex h ds vs G->∃G',aM g ex h (ds.drop n) (vs.drop n) G'/\∀a∈G',a∈G
 | 0,_,_,_,r=>⟨_,r,λ_ h=>h⟩
 | n+1,[],_,_,r=>by cases r;exact⟨[],.nil,nm⟩
 | n+1,d::ds,_,_,r=>by
  obtain⟨v,vs,G,F',rfl,rfl,p,q⟩:=r.inv;obtain⟨G',h1,h2⟩:=q.drop n;exact⟨G',h1,λa m=>Za _ (h2 a m)⟩
def Xx{lo hi:Option Expr}{fl fh:DO}{p2:Pos}(ha:SE X a fa)(hl:SO X lo fl)(hh:SO X hi fh):SE X (.Subscript a (.Slice lo hi none p2) pos) (Q6 fa fl fh):=λex hs U F s r rel e=>by
 refine Ql e λra ea e=>Ql e λl el e=>Ql e λu eu e=>?_;refine Subscript_ (aN (ha rel ea) λx s1 ⟨G,p⟩=>wpAny_Slice (aN (hl (rel.ext p.ext) el) λvl s2 ⟨pl,x2⟩=>aN (hh ((rel.ext p.ext).ext x2) eu) λvu s3 ⟨pu,x3⟩=>?_));rw[evalPart_none];refine wpAny_pure ?_;have xx:Ex s1 {s3 with heap:=s3.heap.push {cls:= .type "slice",data:= .fields #[vl,vu,.none]}}:=(x2.trans x3).trans .push;have q:=p.rp.ext xx;have rel':=(rel.ext p.ext).ext xx;split at e
 .rename_i xs h;cases e;rw[h]at q;obtain⟨l',its,n,L,rfl,rfl,_,z,e1,q1⟩:=q.lst_inv;refine tail_any (ops:=[.ref s3.heap.objs.size,.ref l']) (eA e1).typeIs slot_list_getitem.lookup (wpAny_getItem_list_slice (eA e1) (Heap.IsSliceOf.new ..) pl pu .none ⋯ ?_ (by rw[Zk,← q1.len];exact z)) (by with_unfolding_all rfl);rw[L2.Y4,← q1.len];obtain⟨G1,r1,m1⟩:=q1.drop (HT.gV xs.length 0 l);obtain⟨G2,r2,m2⟩:=r1.take (HT.gV xs.length xs.length u-HT.gV xs.length 0 l);exact(p.more xx).lay rel' (by rw[pP,mS];lia) r2 (λa m=> .tail _ (m1 a (m2 a m))) _ _
 .rename_i z h;rw[h]at q;obtain⟨t,rfl⟩:=q.str_inv;split at e
  .rename_i hz;cases e;obtain⟨l',rfl,rfl⟩:=Im pl;obtain⟨u',rfl,rfl⟩:=Im pu;exact tail_any (ops:=[.ref s3.heap.objs.size,.str z t]) (typeIs_str _ _ _) PySem.F.slot_str_getitem.lookup (wpAny_getItem_str_slice (l:=l') (u:=u') (st:=none) (Heap.IsSliceOf.new ..) rfl (post_val_or_str ⟨ZE (Txt.slice_le z _ _) hz,λt' k=>⟨[],.flat ((p.ext.trans xx).trans .tok) .str⟩⟩)) (by with_unfolding_all rfl)
  .cases e
 .cases e
def Bf(X:Cx)(f:Value)(g:List D->Option D):Prop:=∀ ⦃ex hs U F s ds vs d G⦄,Rel X ex hs U F s->g ds=some d->aM X.g ex s.heap ds vs G->wpAny X.M X.A (call f vs) (λv s'=>Ex s s'/\Rp X.g ex s'.heap d v []) (λ_ _=>False) s
end
section
variable {X:Cx}{ex:LA}{hs:Hs}{U:En}{F:Ft}{s s':Shared}{a b:Expr}{pos p:Pos}{es:List Expr}{fs:DA}{x:Str}
structure Cb (X:Cx) (x:Str) (f:Value) (a:Expr) (es:List Expr) (pos:Pos):Prop where
 g:Gl X x
 m:X.g.mg x=none
 v:bootBuiltins x=some f
 k:∃k,f= .builtin k∨f= .type k
 n:x≠ "__name__"
 d:(x == ("__debug__" :Str))=false
 e:starEach (a::es) X.env=(false,eval a X.env)::starEach es X.env
 l:(backTo pos (starEach es X.env)).any (·.1)=false
def Cb.call{Q:Value->Shared->Prop}(c:Cb X x f a es pos)(rel:Rel X ex hs U F s)(h:wpAny X.M X.A (spliced (backTo pos (starEach (a::es) X.env))) (λvs s'=>wpAny X.M X.A (call f vs) Q E s') E s):wpAny X.M X.A (eval (.Call (.Name x p) (a::es) [] pos) X.env) Q E s:=by
 obtain⟨k,hk⟩:=c.k;refine wpAny_Call_Name_kw (rel.Bi c.g c.m c.v ?_ c.n c.d);rcases hk with rfl | rfl
 .exact PyProof.Rows.callWith_builtin1 h c.e c.l
 .exact PyProof.Rows.callWith_type1 h c.e c.l
def Jq(c:Cb X x f a es pos)(hb:Bf X f g)(ha:SA X (a::es) fs):SE X (.Call (.Name x p) (a::es) [] pos) (aS g fs):=λex hs U F s r rel e=>by
 refine Ql e λrs e1 e=>?_;obtain⟨d,e2,rfl⟩:=Zd.mp e;exact c.call rel (aN (ha pos rel e1) λvs s1 ⟨G,q⟩=>aN (hb (rel.ext q.ext) e2 q.rp) λv s2 ⟨x,r⟩=>⟨[],.flat (q.ext.trans x) r⟩)
def aM.one{h:Heap}(r:aM g ex h [d] vs G):∃v,vs=[v]/\Rp g ex h d v G:=by
 obtain⟨v,vs,G,F',rfl,rfl,p,q⟩:=r.inv;cases q;exact⟨v,rfl,by rwa[Zo]⟩
def aM.two{h:Heap}(r:aM g ex h [d,d'] vs G):∃v v' G' G'',vs=[v,v']/\Rp g ex h d v G'/\Rp g ex h d' v' G'':=by
 obtain⟨v,vs,G,F',rfl,rfl,p,q⟩:=r.inv;obtain⟨v',rfl,q⟩:=q.one;exact⟨v,v',_,_,rfl,p,q⟩
def ē:Bf X (.builtin "abs") y6:=λex hs U F s ds vs d G rel e r=>by
 unfold y6 at e;split at e<;>cases e;obtain⟨v,rfl,q⟩:=r.one;obtain⟨t,rfl⟩:=q.int_inv;exact call_abs_int λu tk=>⟨.tok,.int⟩
def TG(hc:X.calm=true):Bf X (.builtin "min") gM:=λex hs U F s ds vs d G rel e r=>by
 unfold gM at e;split at e<;>cases e;obtain⟨v,v',_,_,rfl,q,q'⟩:=r.two;obtain⟨t,rfl⟩:=q.int_inv;obtain⟨u,rfl⟩:=q'.int_inv;refine min_two_ints (rel.ok.hd hc) λh' tk k=>⟨.of k,?_⟩;split<;>exact .int
def ê(hc:X.calm=true):Bf X (.builtin "max") gD:=λex hs U F s ds vs d G rel e r=>by
 unfold gD at e;split at e<;>cases e;obtain⟨v,v',_,_,rfl,q,q'⟩:=r.two;obtain⟨t,rfl⟩:=q.int_inv;obtain⟨u,rfl⟩:=q'.int_inv;refine max_two_ints (rel.ok.hd hc) λh' tk k=>⟨.of k,?_⟩;split<;>exact .int
abbrev Sq(h:Heap)(l:Addr)(its:List Value):Prop:=h.IsList l its.toArray∨IsTup h l its.toArray
def aM.sq{d:D}{h:Heap}(r:Rp g ex h d v G)(e:d.items=some ds):∃l its G',v= .ref l/\aM g ex h ds its G'/\(∀a∈G',a∈G)/\its.length<=sizeLine/\Sq h l its:=by
 obtain⟨l,its,G',e1,q,m,_,z,k⟩:=r.seq e;exact⟨l,its,G',e1,q,m,q.len▸z,k.imp (λ⟨_,_,k⟩=>eA k) (·.2)⟩
def To:Bf X (.builtin "len") QN:=λex hs U F s ds vs d G rel e r=>by
 have main:∀c xs,ds=[c]->c.items=some xs->wpAny X.M X.A (call (.builtin "len") vs) (λv s'=>Ex s s'/\Rp X.g ex s'.heap (.int xs.length) v []) (λ_ _=>False) s:=λc xs h1 h2=>by
  subst h1;obtain⟨v,rfl,q⟩:=r.one;obtain⟨l,its,G',rfl,q,_,z,k⟩:=q.sq h2;have:=rS;rw[q.len];rcases k with k | k
  .exact Calls.call_len_list k (by rw[Zk];lia) ⟨.tok,.int⟩
  .exact len_tuple k (by rw[Zk];lia) ⟨.tok,.int⟩
 unfold QN at e;split at e
 .cases e;exact main _ _ rfl rfl
 .cases e;exact main _ _ rfl rfl
 .split at e
  .cases e;obtain⟨v,rfl,q⟩:=r.one;obtain⟨t,rfl⟩:=q.str_inv;have:=rS;exact len_str ⋯ ⟨.tok,.int⟩
  .cases e
 .cases e
noncomputable abbrev EG:List String:=["list_iterator","tuple_iterator","range_iterator","str_ascii_iterator","str_iterator"]
def Pl(h:Heap)(I:Addr):Prop:=∃o n vs,h.get? I=some o/\o.cls= .type n/\o.data= .fields vs/\n∈EG
def Pl.FW{h:Heap}:Pl h I->∃o,h.get? I=some o/\iA o:=λ⟨o,n,vs,e,c,d,m⟩=>⟨o,e,by rw[iA,c,d];exact⟨⋯,⋯,λz=>by cases z;revert m;decide,⋯⟩⟩
def Pl.go{tg:Expr}(p:Pl s.heap I)(q:Q () s):wpAny (model P w) A (letOwnedTupleGo tg (.ref I) v) Q E s:=by
  obtain⟨o,n,vs,e,c,d,m⟩:=p;unfold letOwnedTupleGo;have:["enumerate","zip","dict_itemiterator","dict_reverseitemiterator","odict_iterator","itertools.zip_longest","itertools.pairwise"].contains n=false:=by
    simp only[EG,Zj,q6,or_false]at m;rcases m with rfl | rfl | rfl | rfl | rfl<;>rfl
  cases tg<;>first
    | exact wpAny_pure q
    | (cases v<;>first
        | exact wpAny_pure q
        | (refine wpAny_bind (wpAny_load e ?_)
           simp only[c,d,this,Bh];exact wpAny_pure q))
abbrev Sw(s:Shared)(h:Heap)(l:Addr)(its:List Value):Prop:=(s.heap.IsList l its.toArray/\h.IsList l its.toArray)∨IsTup h l its.toArray
def tX{its:List Value}(hh:A.handled=none)(k:Sq s.heap l its)
  (q:∀h' I St,Walks P w A I [I,l] [I] its.toArray.size (λi v=>its.toArray[i]? =some v) St->St 0 h'->(∀b∈[I,l],b<h'.objs.size)->(∀b o,s.heap.get? b=some o->h'.get? b=some o/\b∉[I])->s.heap.get? I=none->(∀i h,St i h->Pl h I/\Sw s h l its)->Q (.ref I) {s with heap:=h'}):wpAny (model P w) A (pyIter (.ref l)) Q E s:=by
 have lt:l<s.heap.objs.size:=by rcases k with⟨_,e,_⟩ | ⟨_,e,_⟩<;>exact ZC e
 have fin:∀o St,o.isFreed=false->Walks P w A s.heap.objs.size [s.heap.objs.size,l] [s.heap.objs.size] its.toArray.size (λi v=>its.toArray[i]? =some v) St->St 0 (s.heap.push o)->(∀i h,St i h->Pl h s.heap.objs.size/\Sw s h l its)->Q (.ref s.heap.objs.size) {s with heap:=s.heap.push o}:=λo St ho W st im=>
  q _ _ St W st (λb hb=>by
   rw[ZF];simp only[Zj,q6,or_false]at hb;rcases hb with rfl | rfl
   .exact ZW _
   .exact vH lt) (λb o' e=>⟨Zb _ e,λz=>absurd (Zg.mp z▸ZC e) (Ak _)⟩) Q2 im
 rcases k with k | k
 .have k0:=k;refine wpAny_pyIter_list k (fin _ _ rfl (Walks.list hh s.heap.objs.size l (kR lt) its.toArray) ⟨⟨_,Zi _ rfl,rfl,rfl⟩,k.push _⟩ λi h st=>?_)
  .obtain⟨⟨o,e,c,d⟩,k⟩:=st;exact⟨⟨o,_,_,e,c,d,∅⟩,.inl ⟨k0,k⟩⟩
 .refine wpAny_pyIter_tuple k (fin _ _ rfl (Walks.tuple hh s.heap.objs.size l (kR lt) its.toArray) ⟨⟨_,Zi _ rfl,rfl,rfl⟩,Heap.IsTuple.push k _⟩ λi h st=>?_)
  .obtain⟨⟨o,e,c,d⟩,k⟩:=st;exact⟨⟨o,_,_,e,c,d,∅⟩,.inr k⟩
def I8{h:Heap}:∀{ns:List Int}{vs G},aM g ex h (ns.map .int) vs G->∀(i:Nat) v,vs[i]? =some v->∃t,v= .int (ns.getD i 0) t
 | [],_,_,r,i,v,e=>by cases r;cases e
 | n::ns,_,_,r,i,v,e=>by
  obtain⟨u,vs,G,F',rfl,rfl,p,q⟩:=r.inv;cases i with
  | zero=>cases e;exact p.int_inv
  | succ i=>exact I8 q i v e
def row{d:D}{h:Heap}(r:Rp g ex h d v G)(e:d.items=some xs)(e2:kO xs=some ns):∃l its,v= .ref l/\Sq h l its/\its.toArray.size=ns.length/\∀(i:Nat) v,its.toArray[i]? =some v->∃t,v= .int (ns.getD i 0) t:=by
 obtain⟨l,its,G',e1,q,_,_,k⟩:=r.sq e;rw[JO e2]at q;exact⟨l,its,e1,k,by rw[Zk,← q.len,Zh],λi v e=>I8 q i v (by simpa using e)⟩
def XX(hh:X.A.handled=none){its:List Value}(k:Sq s.heap l its)(hl:its.toArray.size=ns.length)(hi:∀(i:Nat) v,its.toArray[i]? =some v->∃t,v= .int (ns.getD i 0) t)(hm:pV ns=some m):wpAny X.M X.A (call (.builtin "min") [.ref l]) (λv s'=>Ex s s'/\Rp X.g ex s'.heap (.int m) v []) (λ_ _=>False) s:=by
 have hp:0<ns.length:=by cases ns with | nil=>cases hm | cons=>exact Nat.succ_pos _
 refine call_min_walk (tX (A:=X.A.in1) hh k λh' I St W st lt kp _ _=>⟨I,_,_,_,_,_,_,rfl,W,st,lt,hl▸hp,CmpOf.ints_lt (λi=>ns.getD i 0) hi,λv h'' tk hv hk=>?_⟩);obtain⟨t,rfl⟩:=hi _ v hv;obtain⟨h1,h2⟩:=argBest_lt (λi=>ns.getD i 0) (its.toArray.size-1);generalize argBest _ _=j at h1 h2 hv ⊢;rw[Wu (DW hm) (b:=ns.getD j 0) ⟨PySem.getD_mem ⋯,λa ha=>?_⟩]
 .exact⟨.of λb o e=>hk b o (kp b o e).2 (kp b o e).1,.int⟩
 .obtain⟨i,hj,rfl⟩:=mem_getD ha;exact h2 i ⋯
def Oi(hh:X.A.handled=none){its:List Value}(k:Sq s.heap l its)(hl:its.toArray.size=ns.length)(hi:∀(i:Nat) v,its.toArray[i]? =some v->∃t,v= .int (ns.getD i 0) t)(hm:vB ns=some m):wpAny X.M X.A (call (.builtin "max") [.ref l]) (λv s'=>Ex s s'/\Rp X.g ex s'.heap (.int m) v []) (λ_ _=>False) s:=by
 have hp:0<ns.length:=by cases ns with | nil=>cases hm | cons=>exact Nat.succ_pos _
 refine call_max_walk (tX (A:=X.A.in1) hh k λh' I St W st lt kp _ _=>⟨I,_,_,_,_,_,_,rfl,W,st,lt,hl▸hp,CmpOf.ints_gt (λi=>ns.getD i 0) hi,λv h'' tk hv hk=>?_⟩);obtain⟨t,rfl⟩:=hi _ v hv;obtain⟨h1,h2⟩:=argBest_gt (λi=>ns.getD i 0) (its.toArray.size-1);generalize argBest _ _=j at h1 h2 hv ⊢;rw[SM (G4 hm) (b:=ns.getD j 0) ⟨PySem.getD_mem ⋯,λa ha=>?_⟩]
 .exact⟨.of λb o e=>hk b o (kp b o e).2 (kp b o e).1,.int⟩
 .obtain⟨i,hj,rfl⟩:=mem_getD ha;exact h2 i ⋯
def Pc(hc:X.calm=true):Bf X (.builtin "min") mP:=λex hs U F s ds vs d G rel e r=>by
 unfold mP at e;split at e
 iterate 2
  .refine Ql e λns h1 e=>?_;obtain⟨m,h2,rfl⟩:=Zd.mp e;obtain⟨v,rfl,q⟩:=r.one;obtain⟨l,its,rfl,k,hl,hi⟩:=row q rfl h1;exact XX (rel.ok.hd hc) k hl hi h2
 .cases e
def Y2(hc:X.calm=true):Bf X (.builtin "max") xM:=λex hs U F s ds vs d G rel e r=>by
 unfold xM at e;split at e
 iterate 2
  .refine Ql e λns h1 e=>?_;obtain⟨m,h2,rfl⟩:=Zd.mp e;obtain⟨v,rfl,q⟩:=r.one;obtain⟨l,its,rfl,k,hl,hi⟩:=row q rfl h1;exact Oi (rel.ok.hd hc) k hl hi h2
 .cases e
def Va(hc:X.calm=true):Bf X (.builtin "sum") vK:=λex hs U F s ds vs d G rel e r=>by
 unfold vK at e;split at e
 iterate 2
  .obtain⟨ns,h1,rfl⟩:=Zd.mp e;obtain⟨v,rfl,q⟩:=r.one;obtain⟨l,its,rfl,k,hl,hi⟩:=row q rfl h1;refine call_sum_walkG (tX (A:=X.A.in1) (rel.ok.hd hc) k λh' I St W st lt kp _ _=>⟨I,_,_,_,_,_,λi=>ns.getD i 0,rfl,W,st,lt,hi,λh'' tk t' hk=>⟨.of λb o e=>hk b o (kp b o e).2 (kp b o e).1,?_⟩⟩);rw[hl,preSum_getD,pE];exact .int
 .cases e
end
section
variable {X:Cx}{ex:LA}{hs:Hs}{U:En}{F:Ft}{s s':Shared}{a b c:Expr}{fa fb:DE}{ga gb gc:DT}{pos p p' pos' apos cpos:Pos}{rest es:List Expr}{x:Str}{fs:DA}
def Ra{h:Heap}:∀{d v},At d v->∃as,Reads h v d.py as
 | .aT,_,rfl=>⟨_,.none⟩
 | .bl b,_,rfl=>⟨_,.bool b⟩
 | .int i,_,⟨t,rfl⟩=>⟨_,.int i t⟩
 | .str i,_,⟨t,rfl⟩=>⟨_,.str i t⟩
def aM.YZ{h:Heap}(r:aM g ex h ds vs L):jZ ds=true->∃as,ReadsAll h vs (iS ds) as:=by
 induction r with
 | nil=>exact λ_=>⟨_,.nil⟩
 | atm x _ i=>
  intro n;simp only[jZ,Ze]at n;obtain⟨as,q⟩:=Ra x;obtain⟨bs,q'⟩:=i n.2;exact⟨_,.cons q q'⟩
 | lst _ _ e _ _ i j=>
  intro n;simp only[jZ,D.oF,Ze]at n;obtain⟨as,q⟩:=i n.1;obtain⟨bs,q'⟩:=j n.2;exact⟨_,.cons (.list e rfl rfl (by simpa using q)) q'⟩
 | tup _ _ e _ _ i j=>
  intro n;simp only[jZ,D.oF,Ze]at n;obtain⟨as,q⟩:=i n.1;obtain⟨bs,q'⟩:=j n.2;obtain⟨o,h1,h2,m,h3⟩:=e;exact⟨_,.cons (.tuple h1 h2 h3 (by simpa using q)) q'⟩
 | bC=>intro n;simp[jZ,D.oF]at n
 | exc=>intro n;simp[jZ,D.oF]at n
def aM.reads{d:D}{h:Heap}(r:Rp g ex h d v L)(n:d.sim 8=true):(∃as,Reads h v d.py as)/\d.py.canLay0=true/\d.py.depth<=9:=by
 obtain⟨as,q⟩:=r.YZ (by simp only[jZ,Fd 8 d n,lC]);cases q with
 | cons q _=>exact⟨⟨_,q⟩,wF 8 d n⟩
def S8(hu:X.A.units+64<cLine):Op X (compareOp .Eq) aW:=λex hs U F s a b d x y G G' rel e p q=>by
 unfold aW at e;split at e
 .rename_i h;simp only[Ze]at h;cases e;obtain⟨⟨_,ra⟩,a1,a2⟩:=p.reads h.1;obtain⟨⟨_,rb⟩,b1,b2⟩:=q.reads h.2;exact SeqAt.compareEq_reads ra rb a1 b1 (by have:=Nat.min_le_left a.py.depth b.py.depth;lia) ⟨.refl,.bl⟩
 .cases e
def Ô(hu:X.A.units+64<cLine):Op X (compareOp .NotEq) bX:=λex hs U F s a b d x y G G' rel e p q=>by
 unfold bX at e;split at e
 .rename_i h;simp only[Ze]at h;cases e;obtain⟨⟨_,ra⟩,a1,a2⟩:=p.reads h.1;obtain⟨⟨_,rb⟩,b1,b2⟩:=q.reads h.2;exact SeqAt.compareNe_reads ra rb a1 b1 (by have:=Nat.min_le_left a.py.depth b.py.depth;lia) ⟨.refl,.bl⟩
 .cases e
noncomputable def UG(neg:Bool):CmpOp:=if neg then .NotIn else .In
def HW(neg:Bool)(hu:X.A.units+64<cLine):Op X (compareOp (UG neg)) (bQ neg):=λex hs U F s a b d x y G G' rel e p q=>by
 unfold bQ at e;split at e
 iterate 2
  .rename_i xs;split at e
   .rename_i h;simp only[Ze]at h;cases e;obtain⟨⟨_,ra⟩,a1,a2⟩:=p.reads h.1;obtain⟨⟨_,rb⟩,b1,b2⟩:=q.reads h.2;have hu:X.A.units+1+min (PyData.depthAll (iS xs)) a.py.depth<cLine:=by have:=Nat.min_le_right (PyData.depthAll (iS xs)) a.py.depth;lia
    rw[← Rz];cases neg
    .first | exact SeqAt.in_list_reads rb ra b1 a1 hu ⟨.refl,.bl⟩ | exact SeqAt.in_tuple_reads rb ra b1 a1 hu ⟨.refl,.bl⟩
    .first | exact SeqAt.notIn_list_reads rb ra b1 a1 hu ⟨.refl,.bl⟩ | exact SeqAt.notIn_tuple_reads rb ra b1 a1 hu ⟨.refl,.bl⟩
   .cases e
 .unfold Hp at e;split at e
  .rename_i e2;cases e;cases e2;obtain⟨t,rfl⟩:=p.str_inv;obtain⟨u,rfl⟩:=q.str_inv;cases neg
   .exact in_str ⟨.refl,.bl⟩
   .exact notIn_str ⟨.refl,.bl⟩
  .cases e
 .cases e
def Ko{d:D}(r:Rp g ex h d v L):(v == Value.none)=d.Es:=by
 cases r with
 | atm x=>cases d<;>first | (cases x;done) | (cases x;rfl) | (obtain⟨t,rfl⟩:=x;rfl)
 | lst=>rfl
 | tup=>rfl
 | bC=>rfl
 | exc=>rfl
def YN:Op X (compareOp .Is) (gJ false):=λex hs U F s a b d x y G G' rel e p q=>by
 unfold gJ at e;split at e
 .cases e;rw[q.By];exact is_none ⟨.refl,by rw[Ko p];exact .bl⟩
 .cases e;rw[p.oX,q.oX];exact is_bool ⟨.refl,.bl⟩
 .cases e
def Yh:Op X (compareOp .IsNot) (gJ true):=λex hs U F s a b d x y G G' rel e p q=>by
 unfold gJ at e;split at e
 .cases e;rw[q.By];exact isNot_none ⟨.refl,by rw[Ko p];exact .bl⟩
 .cases e;rw[p.oX,q.oX];exact isnot_bool ⟨.refl,.bl⟩
 .cases e
def aM.fO{d:D}(r:Rp X.g ex s.heap d v L)(e:d.fO=some k):wpAny X.M X.A (truthy v) (λc s'=>c=k/\Ex s s') (λ_ _=>False) s:=by
 have z:=rS;have emp:∀{ds vs G},aM X.g ex s.heap ds vs G->(!vs.toArray.isEmpty)= !ds.isEmpty:=λ{ds vs G} r=>by
  have:=r.len;cases ds<;>cases vs<;>simp_all
 cases d with
 | aT=>cases e;rw[r.By];exact truthy_none ⟨rfl,.refl⟩
 | bl=>cases e;rw[r.oX];exact wpAny_truthy_bool ⟨rfl,.refl⟩
 | int=>cases e;obtain⟨t,rfl⟩:=r.int_inv;exact PySem.P.truthy_int ⟨rfl,.refl⟩
 | lst ds=>
  cases e;obtain⟨l,its,n,G,rfl,_,_,z1,e1,q⟩:=r.lst_inv;exact wpAny_truthy_list (eA e1) (by rw[Zk,← q.len];lia) ⟨emp q,.tok⟩
 | tup ds=>
  cases e;obtain⟨l,its,rfl,_,z1,e1,q⟩:=r.qP;exact truthy_tuple e1 (by rw[Zk,← q.len];lia) ⟨emp q,.tok⟩
 | str i=>
  obtain⟨t,rfl⟩:=r.str_inv;have e:(if i.length<=sizeLine then some ((i.length:Int) != 0)else none)=some k:=e;split at e
  .cases e;exact PySem.P.truthy_str ⋯ ⟨rfl,.tok⟩
  .cases e
 | _=>cases e
def NN(ha:SE X a fa)(he:∀whole,isTrue a X.env whole=(do let v ← whole;standAt a.pos;holding [v] (truthy v))):ST X a (Qf fa):=λex hs U F s b rel e=>by
 refine Ql e λr e1 e=>?_;exact isTrue_plain (aN (ha rel e1) λv s1 ⟨G,p⟩=>aN (p.rp.fO e) λc s2 ⟨h,x⟩=>⟨h,p.ext.trans x⟩) (he _)
def KU(ho:Op X (compareOp op) g)(ha:SE X a fa)(hb:SE X b fb)(hm:behindInMarks op b=false):ST X (.Compare a [op] [b] pos) (Qf (aB g fa fb)):=λex hs U F s k rel e=>by
 refine Ql e λr e0 e=>Ql e0 λra ea e0=>Ql e0 λrb eb e0=>?_;exact wpAny_isTrue_Compare1 (two ha hb rel ea eb λx y s1 s' G G' p q rel' p'=>aN (Dq rel' ho e0 (p.ext.trans q.ext) p' q.rp) λv s3 ⟨G3,p3⟩=>aN (p3.rp.fO e) λc s4 ⟨h,x⟩=>⟨h,p3.ext.trans x⟩) hm
def R1(ha:ST X a ga):ST X (.UnaryOp .Not a pos) (g8 ga):=λex hs U F s k rel e=>by
 refine Ql e λc e1 e=>?_;cases e;exact isTrue_not (aN (ha rel e1) λd s1 ⟨h,x⟩=>⟨congrArg (!·) h,x⟩)
def Rk(ha:ST X a ga):ST X (.BoolOp .And [a] pos) ga:=λex hs U F s k rel e=>by
 refine isTrue_and (aN (ha rel e) λd s1 h=>?_);cases d with
 | true=>exact isTrue_and_nil h
 | false=>exact h
def VD(ha:ST X a ga):ST X (.BoolOp .Or [a] pos) ga:=λex hs U F s k rel e=>by
 refine isTrue_or (aN (ha rel e) λd s1 h=>?_);cases d with
 | true=>exact h
 | false=>exact isTrue_or_nil h
def US(ha:ST X a ga)(hb:ST X (.BoolOp .And (b::rest) pos) gb):ST X (.BoolOp .And (a::b::rest) pos) (iN ga gb):=λex hs U F s k rel e=>by
 refine Ql e λc e1 e=>isTrue_and (aN (ha rel e1) λd s1 ⟨h,x⟩=>?_);subst h;cases d with
 | true=>exact aN (hb (rel.ext x) e) λc s2 ⟨h,y⟩=>⟨h,x.trans y⟩
 | false=>cases e;exact⟨rfl,x⟩
def YW(ha:ST X a ga)(hb:ST X (.BoolOp .Or (b::rest) pos) gb):ST X (.BoolOp .Or (a::b::rest) pos) (cL ga gb):=λex hs U F s k rel e=>by
 refine Ql e λc e1 e=>isTrue_or (aN (ha rel e1) λd s1 ⟨h,x⟩=>?_);subst h;cases d with
 | true=>cases e;exact⟨rfl,x⟩
 | false=>exact aN (hb (rel.ext x) e) λc s2 ⟨h,y⟩=>⟨h,x.trans y⟩
def Q9.back(x:Ex s s1)(p:Q9 X ex U F s1 s' ds fr M vs G):Q9 X ex U F s s' ds fr M vs G:=
 ⟨x.trans p.ext,p.rp,λa m=>(p.src a m).imp x.no id,λf n=>let ⟨a,b⟩:=p.fW f n;⟨a,λc m=>(b c m).imp x.no id⟩,p.own⟩
def HY{op}(h:SE X a fa):SE X (.BoolOp op [a] pos) fa:=λex hs U F s r rel e=>BoolOp_one (h rel e)
def Yn(ha:SE X a fa)(hb:SE X (.BoolOp .And (b::rest) pos) fb):SE X (.BoolOp .And (a::b::rest) pos) (pK fa fb):=λex hs U F s r rel e=>by
 refine Ql e λra e1 e=>Ql e λc e2 e=>?_;refine BoolOp_and (aN (ha rel e1) λv s1 ⟨G,p⟩=>aN (p.rp.fO e2) λk s2 ⟨h,x⟩=>?_);subst h;cases k with
 | true=>exact aN (hb ((rel.ext p.ext).ext x) e) λw s3 ⟨G3,q⟩=>⟨G3,q.back (p.ext.trans x)⟩
 | false=>cases e;exact⟨G,p.more x⟩
def ď(ha:SE X a fa)(hb:SE X (.BoolOp .Or (b::rest) pos) fb):SE X (.BoolOp .Or (a::b::rest) pos) (nM fa fb):=λex hs U F s r rel e=>by
 refine Ql e λra e1 e=>Ql e λc e2 e=>?_;refine BoolOp_or (aN (ha rel e1) λv s1 ⟨G,p⟩=>aN (p.rp.fO e2) λk s2 ⟨h,x⟩=>?_);subst h;cases k with
 | true=>cases e;exact⟨G,p.more x⟩
 | false=>exact aN (hb ((rel.ext p.ext).ext x) e) λw s3 ⟨G3,q⟩=>⟨G3,q.back (p.ext.trans x)⟩
def Rh(ha:SE X a fa):SE X (.UnaryOp .Not a pos) (GY fa):=λex hs U F s r rel e=>by
 refine Ql e λra e1 e=>Ql e λc e2 e=>?_;cases e;exact UnaryOp_ (aN (ha rel e1) λv s1 ⟨G,p⟩=>not_of <| aN (p.rp.fO e2) λk s2 ⟨h,x⟩=>⟨[],.flat (p.ext.trans x) (h▸ .bl)⟩)
def Sn(hc:ST X c gc)(ha:SE X a fa)(hb:SE X b fb):SE X (.IfExp c a b pos) (jP gc fa fb):=λex hs U F s r rel e=>by
 refine Ql e λk e1 e=>wpAny_IfExp (aN (hc rel e1) λd s1 ⟨h,x⟩=>?_);subst h;cases d with
 | true=>exact aN (ha (rel.ext x) e) λw s3 ⟨G3,q⟩=>⟨G3,q.back x⟩
 | false=>exact aN (hb (rel.ext x) e) λw s3 ⟨G3,q⟩=>⟨G3,q.back x⟩
def YR(ha:SE X a fa):SE X (.UnaryOp .USub a pos) (wM fa):=λex hs U F s r rel e=>by
 refine Ql e λra e1 e=>UnaryOp_ (aN (ha rel e1) λv s1 ⟨G,p⟩=>?_);have q:=p.rp;split at e
 .rename_i h;cases e;rw[h]at q;obtain⟨t,rfl⟩:=q.int_inv;exact neg_int ⟨[],.flat (p.ext.trans .tok) .int⟩
 .cases e
def HD{h:Heap}:∀{ns:List Int}{vs:List Value},vs.length=ns.length->(∀(i:Nat) v,vs[i]? =some v->∃t,v= .int (ns.getD i 0) t)->aM g ex h (ns.map .int) vs []
 | [],[],_,_=> .nil
 | n::ns,v::vs,l,k=> .atm (k 0 v rfl) (HD (Nat.succ.inj l) λi u e=>k (i+1) u e)
def ý(c:Cb X x (.type "list") a es pos)(ha:SA X (a::es) fs):SE X (.Call (.Name x p) (a::es) [] pos) (dList fs):=λex hs U F s r rel e=>by
 refine Ql e λrs e1 e=>c.call rel (aN (ha pos rel e1) λvs s1 ⟨G,q⟩=>?_);have main:∀d xs,rs.ds=[d]->d.items=some xs->some (eE xs rs.M)=some r->wpAny X.M X.A (call (.type "list") vs) (λv s'=>∃G,eH X ex U F s s' r v G) (λ_ _=>False) s1:=λd xs h1 h2 h3=>by
  cases h3;have t:=q.rp;rw[h1]at t;obtain⟨v,rfl,t⟩:=t.one;obtain⟨l,its,G',rfl,t,m,_,z,k⟩:=t.seq h2;have z':its.toArray.size<=sizeLine:=by rw[Zk,← t.len];exact z
  have fin:∀h' c',(∀b o,s1.heap.get? b=some o->h'.get? b=some o)->h'.get? s1.heap.objs.size=some (dN its c')->∃L,eH X ex U F s {s1 with heap:=h'} (eE xs rs.M) (.ref s1.heap.objs.size) L:=λh' c' kp e=>q.eE (.of (t':=s1.toks) kp) Q2 (rel.ext q.ext).push e z (t.ext (.of (t':=s1.toks) kp)) m;rcases k with⟨_,n,k⟩ | ⟨_,o,k1,k2,n,k3⟩
  .exact call_list_seq l (.inl rfl) k rfl rfl fin z'
  .exact call_list_seq l (.inr rfl) k1 k2 k3 fin z'
 split at e
 .rename_i xs h;exact main _ xs h rfl e
 .rename_i xs h;split at e
  .exact main _ xs h rfl e
  .cases e
 .cases e
def VN{d:D}(rel:Rel X ex hs U F s)(r:Rp X.g ex s.heap d v L)(e:d.A8 T=some k)(q:∀tk,Q (.bool k) {s with toks:=tk}):wpAny X.M X.A (call (.builtin "isinstance") [v,.type T]) Q E s:=by
 have kit:PySem.W.kitOne X.g.K (.type d.D6) (.type T)=some k:=by
  unfold D.A8 at e;split at e
  .rename_i hT;cases e;simp only[Ze,xZ,beq_iff_eq]at hT;obtain⟨hT,hE⟩:=hT;rcases hT with(((rfl | rfl) | rfl) | rfl) | rfl<;>cases d<;>first | rfl | (cases hE)
  .cases e
 have K:=rel.ok.mod.bH.keeps rel.bk;have bad:d.LZ=true->False:=λh=>by unfold D.A8 at e;rw[h]at e;simp at e
 cases d with
 | aT=>rw[r.By];exact sH PySem.W.kitx_none K True.intro kit (λz=>nomatch z) q
 | bl y=>rw[r.oX];exact sH PySem.W.kitx_bool K True.intro kit (λz=>nomatch z) q
 | int i=>obtain⟨t,rfl⟩:=r.int_inv;exact sH PySem.W.kitx_int K True.intro kit (λz=>nomatch z) q
 | str i=>obtain⟨t,rfl⟩:=r.str_inv;exact sH PySem.W.kitx_str K True.intro kit (λz=>nomatch z) q
 | tup ds=>obtain⟨l,its,rfl,_,_,⟨o,h1,h2,_⟩,_⟩:=r.qP;exact sH PySem.W.kitx_tuple K ⟨o,h1,h2⟩ kit (λz=>nomatch z) q
 | lst ds=>obtain⟨l,its,n,G,rfl,_,_,_,e1,_⟩:=r.lst_inv;exact sH PySem.W.kitx_list K ⟨_,e1,rfl⟩ kit (λz=>nomatch z) q
 | _=>exact(bad rfl).elim
def Ă(c:Cb X x (.builtin "isinstance") a [.Name y p'] pos)(hT:bootBuiltins y=some (.type T))(hg:Gl X y)(hm:X.g.mg y=none)(hn:y≠ "__name__")(hd:(y == ("__debug__" :Str))=false)(ha:SE X a fa):SE X (.Call (.Name x p) [a,.Name y p'] [] pos) (mM T fa):=λex hs U F s r rel e=>by
 refine Ql e λra e1 e=>c.call rel ?_;obtain⟨k,e2,rfl⟩:=Zd.mp e;rw[c.e];refine ZJ (aN (ha rel e1) λv s1 ⟨G,q⟩=>ZJ ((rel.ext q.ext).Bi hg hm hT (ZY ?_) hn hd));exact VN (rel.ext q.ext) q.rp e2 λtk=>⟨[],.flat (q.ext.trans .tok) .bl⟩
def Æ(ha:SE X a fa)(hb:attributeBase a "bit_length" X.env (eval a X.env)=eval a X.env)(hl:(apos.endLine == cpos.line)=true):SE X (.Call (.Attribute a "bit_length" apos) [] [] cpos) (E7 fa):=λex hs U F s r rel e=>by
 refine Ql e λra e1 e=>wpAny_Call_method0_late hb hl (aN (ha rel e1) λv s1 ⟨G,q⟩=>?_);have t:=q.rp;split at e
 .rename_i i h;cases e;rw[h]at t;obtain⟨t,rfl⟩:=t.int_inv;exact⟨"int",_,PySem.F.plainAttrs_int,PySem.F.slot_int_bit_length,PySem.F.type_int_bit_length,typeIs_int _ _ _,(λ_ z=>nomatch z),tU rfl (PySem.evalArgs_none (call_int_bit_length ⟨[],.flat (q.ext.trans .tok) .int⟩))⟩
 .cases e
def ā(hc:X.calm=true)(c:Cb X x (.type "list") (.Call (.Name y p') [a] [] pos') [] pos)(c':Cb X y (.type "range") a [] pos')(ha:SE X a fa):SE X (.Call (.Name x p) [.Call (.Name y p') [a] [] pos'] [] pos) (u9 fa):=λex hs U F s r rel e=>by
 refine Ql e λra e1 e=>c.call rel ?_;rw[c.e];refine ZJ (c'.call rel (aN (fA ha jT c'.e pos' rel (r:=⟨[ra.d],ra.fr && true,ra.M++[]⟩) (by simp[Qb,e1,Qq])) λvs s1 ⟨G,q⟩=>?_));have t:=q.rp;split at e
 .rename_i j h;rw[h]at t;split at e
  .rename_i hj;cases e;obtain⟨v,rfl,t⟩:=t.one;obtain⟨u,rfl⟩:=t.int_inv;refine call_range_1 (ZY (call_list_range (n:=j.toNat) (rel.ok.hd hc) (IsRange.new ..) (small_one ⋯ ⋯ ⋯ ⋯) (by rw[rangeSize_one];split<;>lia) ⋯ λh' tk' acc' c' hk hS hacc=>?_));have y:Ex s1 {s1 with heap:=h',toks:=tk'}:= .of λb o e=>hk b o (Zb _ e);refine⟨_,.wO (q.ext.trans .push) (.of hk) Q2 ((rel.ext q.ext).ext .push).push (its:=acc'.toList) (by simpa using hS) (by simp[iI];lia) ?_⟩;have:=HD (g:=X.g) (ex:=ex) (h:=h') (ns:=(List.range j.toNat).map λ(k:Nat)=>(k:Int)) (vs:=acc'.toList) (by simp[hacc.1]) λi v e=>by
    rw[wA]at e;obtain⟨t,rfl⟩:=hacc.2 i v e;have:i<j.toNat:=by rw[← hacc.1];exact(Array.getElem?_eq_some_iff.mp e).1
    exact⟨t,by simp[Zz,this]⟩
   rwa[ZG]at this
  .cases e
 .cases e
def DG{h:Heap}:∀{ns:List Bool}{vs G},aM g ex h (ns.map .bl) vs G->∀(i:Nat) v,vs[i]? =some v->∃k,ns[i]? =some k/\v= .bool k
 | [],_,_,r,i,v,e=>by cases r;cases e
 | n::ns,_,_,r,i,v,e=>by
  obtain⟨u,vs,G,F',rfl,rfl,p,q⟩:=r.inv;cases i with
  | zero=>cases e;exact⟨n,rfl,p.oX⟩
  | succ i=>exact DG q i v e
def range_all(ns:List Bool):(List.range ns.length).all (λi=>(ns[i]?).getD true)=ns.all id:=by
 rw[Bool.eq_iff_iff];simp only[ZN,Zr,id];constructor
 .intro h k m;obtain⟨i,hi,rfl⟩:=List.getElem_of_mem m;simpa[hi]using h i hi
 .intro h i hi;simpa[hi]using h _ (DV hi)
def range_any(ns:List Bool):(List.range ns.length).any (λi=>(ns[i]?).getD false)=ns.any id:=by
 rw[Bool.eq_iff_iff];simp only[List.any_eq_true,Zr,id];constructor
 .rintro⟨i,hi,h⟩;exact⟨ns[i],DV hi,by simpa[hi]using h⟩
 .rintro⟨k,m,rfl⟩;obtain⟨i,hi,h⟩:=List.getElem_of_mem m;exact⟨i,hi,by simpa[hi]using h⟩
def Z0(hc:X.calm=true):Bf X (.builtin "all") sZ:=λex hs U F s ds vs d G rel e r=>by
 unfold sZ at e;split at e
 .obtain⟨ns,h1,rfl⟩:=Zd.mp e;obtain⟨v,rfl,q⟩:=r.one;obtain⟨l,its,G',rfl,q,_,z,k⟩:=q.sq rfl;rw[Cp h1]at q;refine call_all_walk (tX (A:=X.A.in1) (rel.ok.hd hc) k λh' I St W st lt kp _ _=>⟨I,_,_,_,_,_,λi=>(ns[i]?).getD true,rfl,W,st,λi v s' Q' E' hP hQ=>?_,λh'' tk hk=>⟨.of λb o e=>hk b o (kp b o e).2 (kp b o e).1,?_⟩⟩)
  .obtain⟨b,e,rfl⟩:=DG q i v (by simpa using hP);simp only[e,Option.getD_some]at hQ;exact wpAny_truthy_bool hQ
  .rw[Zk,← q.len,Zh,range_all];exact .bl
 .cases e
def Pp(hc:X.calm=true):Bf X (.builtin "any") oN:=λex hs U F s ds vs d G rel e r=>by
 unfold oN at e;split at e
 .obtain⟨ns,h1,rfl⟩:=Zd.mp e;obtain⟨v,rfl,q⟩:=r.one;obtain⟨l,its,G',rfl,q,_,z,k⟩:=q.sq rfl;rw[Cp h1]at q;refine call_any_walk (tX (A:=X.A.in1) (rel.ok.hd hc) k λh' I St W st lt kp _ _=>⟨I,_,_,_,_,_,λi=>(ns[i]?).getD false,rfl,W,st,λi v s' Q' E' hP hQ=>?_,λh'' tk hk=>⟨.of λb o e=>hk b o (kp b o e).2 (kp b o e).1,?_⟩⟩)
  .obtain⟨b,e,rfl⟩:=DG q i v (by simpa using hP);simp only[e,Option.getD_some]at hQ;exact wpAny_truthy_bool hQ
  .rw[Zk,← q.len,Zh,range_any];exact .bl
 .cases e
end
abbrev E0:Value->Shared->Prop:=λ_ _=>False
structure nH (X:Cx) (tg:Expr) (I:Addr) (fp wr T:LA) (n:Nat) (P:Nat->Value->Shared->Heap->Prop) (St:Nat->Heap->Prop):Prop where
 sub:∀b∈wr,b∈fp
 frame:∀i h h',St i h->(∀b∈fp,∀o,h.get? b=some o->h'.get? b=some o)->St i h'
 obj:∀i h,St i h->∀b∈fp,∃o,h.get? b=some o/\(iA o∨b∈T)
 turn:∀i s (Q:Value->Shared->Prop),i<n->St i s.heap->(∀v h' tk,P i v s h'->St (i+1) h'->(∀b o,b∉wr->s.heap.get? b=some o->h'.get? b=some o)->Q v {s with heap:=h',toks:=tk})→
  wpAny X.M X.A (pyNext (.ref I)) (λr s1=>∃v,r=some v/\wpAny X.M X.A (letOwnedTupleGo tg (.ref I) v) (λ_ s2=>Q v s2) E0 s1) E0 s
 done:∀s (Q:Shared->Prop),St n s.heap->(∀h' tk,(∀b o,b∉wr->s.heap.get? b=some o->h'.get? b=some o)->Q {s with heap:=h',toks:=tk})->wpAny X.M X.A (pyNext (.ref I)) (λr s1=>r=none/\Q s1) E0 s
 self:∀i s (Q:Value->Shared->Prop),St i s.heap->Q (.ref I) s->wpAny X.M X.A (pyIter (.ref I)) Q E0 s
section
variable {X:Cx}{ex fp wr T:LA}{hs:Hs}{U:En}{F:Ft}{s:Shared}{a b c tg:Expr}{fa fb fc:DE}{pos p:Pos}{es:List Expr}{fs:DA}{x:Str}{I:Addr}{n:Nat}{St:Nat->Heap->Prop}
def nH.w{P:Nat->Value->Prop}(W:Walks X.g.P X.g.w X.A I fp wr n P St)(go:∀i h,St i h->Pl h I)(obj:∀i h,St i h->∀b∈fp,∃o,h.get? b=some o/\(iA o∨b∈T)):nH X tg I fp wr T n (λi v _ _=>P i v) St:=
 ⟨W.sub,W.frame,obj,λi s Q hi st k=>W.item i s _ _ hi st λv h' tk q st' kp=>⟨v,rfl,(go _ _ st').go (k v h' tk q st' kp)⟩,λs Q st k=>W.done s _ _ st λh' tk kp=>⟨rfl,k h' tk kp⟩,λi s Q st q=>W.self i s Q _ st q⟩
def nH.t{Pt:Nat->Array Value->Prop}{Mid:Nat->Addr->Heap->Prop}(W:WalksT X.g.P X.g.w X.A I fp wr n Pt St Mid)(obj:∀i h,St i h->∀b∈fp,∃o,h.get? b=some o/\(iA o∨b∈T)):nH X (.Tuple es k pos) I fp wr T n (λi v s h'=>∃a vals,v= .ref a/\Pt i vals/\h'.IsTuple a vals/\s.heap.get? a=none) St:=
 ⟨W.sub,W.frame,obj,λi s Q hi st k=>W.item i s _ _ hi st λa vals h' tk q lt it m kp=>⟨_,rfl,W.go _ _ _ _ _ _ _ _ m λh'' st' kp'=>k _ h'' tk ⟨a,vals,rfl,q,it.at λo e=>kp' a o (W.apart _ _ _ m) e,Zv lt⟩ st' λb o n e=>kp' b o n (kp b o n e)⟩,λs Q st k=>W.done s _ _ st λh' tk kp=>⟨rfl,k h' tk kp⟩,λi s Q st q=>W.self i s Q _ st q⟩
def iQ(X:Cx)(ex:LA)(U:En)(F:Ft)(tg:Expr)(s s2:Shared)(it:Value)(ir:IR):Prop:=∃I fp wr T P St,∃ts:Hs,it= .ref I/\Ex s s2/\nH X tg I fp wr T ir.items.length P St/\St 0 s2.heap/\(∀b∈wr,s.heap.get? b=none)/\(∀a∈T,∃t∈ts,a∈t.2.2)∧
 (∀t∈ts,Rp X.g (wr++ex) s2.heap t.1 t.2.1 t.2.2/\Src U F s ir.M t.2.2)/\(∀i∈ir.M,∃d,U[i]? =some (some (d,true)))/\ir.items.length<=sizeLine∧
 (∀e' i v s3 h' d,P i v s3 h'->St (i+1) h'->(∀b∈e',∃o,s3.heap.get? b=some o)->(∀t∈ts,Rp X.g e' h' t.1 t.2.1 t.2.2)->ir.items[i]? =some d->∃G,Rp X.g e' h' d v G/\∀a∈G,∃t∈ts,a∈t.2.2)/\(X.io=true->∀t∈ts,bD t.1=true)
def SI(X:Cx)(tg e:Expr)(f:DI):Prop:=∀ ⦃ex hs U F s ir⦄,Rel X ex hs U F s->f U=some ir->wpAny X.M X.A (eval e X.env) (λv s1=>wpAny X.M X.A (pyIter v) (λit s2=>iQ X ex U F tg s s2 it ir) E0 s1) E0 s
def aM.grow{h:Heap}(r:aM g ex h ds vs L)(n:∀b∈w,h.get? b=none):aM g (w++ex) h ds vs L:=by
 have ne:∀a o,h.get? a=some o->a∉w:=λa o e m=>by rw[n a m]at e;cases e
 have no:∀a o,h.get? a=some o->a∉ex->a∉w++ex:=λa o e x m=>(Zf.mp m).elim (ne a o e) x
 induction r with
 | nil=>exact .nil
 | atm x _ i=>exact .atm x i
 | lst x z e _ _ i j=>exact .lst (no _ _ e x) z e i j
 | tup x z e _ _ i j=>obtain⟨o,e',_⟩:=id e;exact .tup (no _ _ e' x) z e i j
 | bC x r _ _ i j=>exact .bC (λb m=>let ⟨o,e,_⟩:=r.there m;no _ _ e (x b m)) r i j
 | exc x r _ j=>exact .exc (let ⟨_,_,_,_,e,_⟩:=r;no _ _ e x) r j
def aM.less{h:Heap}(r:aM g ex h ds vs L)(n:∀b∈ex',b∈ex):aM g ex' h ds vs L:=by
 induction r with
 | nil=>exact .nil
 | atm x _ i=>exact .atm x i
 | lst x z e _ _ i j=>exact .lst (λm=>x (n _ m)) z e i j
 | tup x z e _ _ i j=>exact .tup (λm=>x (n _ m)) z e i j
 | bC x r _ _ i j=>exact .bC (λb m m'=>x b m (n _ m')) r i j
 | exc x r _ j=>exact .exc (λm=>x (n _ m)) r j
def L6{h:Heap}{its its':List Value}(a:Sq h l its)(b:Sq h l its'):its=its':=by
 have:its.toArray=its'.toArray:=by
  rcases a with⟨o,e,c,n,d⟩ | ⟨o,e,c,n,d⟩<;>rcases b with⟨o',e',c',n',d'⟩ | ⟨o',e',c',n',d'⟩<;>rw[e]at e'<;>cases e'<;>first | (rw[d]at d';cases d';rfl) | (rw[c]at c';cases c')
 exact congrArg Array.toList this
def Ib{h:Heap}(e:IsTup h l its):∃o,h.get? l=some o/\iA o:=by
 obtain⟨o,h1,h2,n,h3⟩:=e;exact⟨o,h1,by rw[iA,h2,h3];simp⟩
def JX{d:D}(hc:X.calm=true)(hio:X.io=true->bD d=true)(rel:Rel X ex hs U F s)(p:Q9 X ex U F s s1 [d] fr M [v] G)(e:d.items=some ds):wpAny X.M X.A (pyIter v) (λit s2=>iQ X ex U F tg s s2 it ⟨ds,M⟩) E0 s1:=by
 obtain⟨l,its,G',rfl,r,m,_,z,k⟩:=p.rp.seq e;have hl:its.toArray.size=ds.length:=by rw[Zk,r.len]
 refine tX (rel.ok.hd hc) (k.imp (λ⟨_,_,k⟩=>eA k) (·.2)) λh' I St W st lt kp fr im=>?_;have y:Ex s1 {s1 with heap:=h'}:= .of (t':=s1.toks) λb o e=>(kp b o e).1;have mt:∀i h,St i h->∀b∈[I,l],∃o,h.get? b=some o/\(iA o∨b∈G):=λi h st b hb=>by
  obtain⟨pl,q⟩:=im i h st;rcases Zj.mp hb with rfl | hb
  .obtain⟨o,e,i⟩:=pl.FW;exact⟨o,e,.inl i⟩
  .cases Zg.mp hb;rcases q with⟨⟨o1,e1,c1,_⟩,o,e,_⟩ | q
   .rcases k with⟨rfl,n,k⟩ | ⟨_,o2,e2,c2,_⟩
    .obtain⟨_,_,_,_,e',rfl,_⟩:=p.rp.lst_inv;cases e';exact⟨o,by assumption,.inr (.head _)⟩
    .rw[e1]at e2;cases e2;rw[c1]at c2;exact absurd c2 ∅
   .obtain⟨o,e,i⟩:=Ib q;exact⟨o,e,.inl i⟩
 have r2:=(p.rp.grow (w:=[I]) λb hb=>Zg.mp hb▸fr).ext y;refine⟨I,_,_,G,_,St,[(d,.ref l,G)],rfl,p.ext.trans y,hl▸nH.w W (λi h st=>(im i h st).1) mt,st,λb hb=>Zg.mp hb▸p.ext.no fr,λa h=>⟨_,.head _,h⟩,λt ht=>?_,p.own,z,λ_ i v s3 h' d' pi st _ hh e'=>?_,λh t ht=>(by cases Zg.mp ht;exact hio h)⟩
 .cases Zg.mp ht;exact⟨r2,p.src⟩
 .obtain⟨l',its',G2,e1,r',m',_,_,k'⟩:=(hh _ (.head _)).seq e;cases e1;have:its'=its:=L6 (k'.imp (λ⟨_,_,k⟩=>eA k) (·.2)) ((im _ _ st).2.imp (·.2) id);subst this;obtain⟨F1,G3,F2,u,rfl,e3,_,r3,_⟩:=r'.split e';simp only[List.getElem?_toArray]at pi;rw[pi]at e3;cases e3;exact⟨G3,r3,λa h=>⟨_,.head _,m' a (Za _ (Zc _ h))⟩⟩
def iQ.flat{P:Nat->Value->Prop}{h':Heap}(W:Walks X.g.P X.g.w X.A I [I] [I] n P St)(pl:∀i h,St i h->Pl h I)(st:St 0 h')(x:Ex s s1)(sh:s1.heap=h')(no:s.heap.get? I=none)(hn:n=ds.length)(z:ds.length<=sizeLine)(k:∀i v d,ds[i]? =some d->P i v->At d v):iQ X ex U F tg s s1 (.ref I) ⟨ds,[]⟩:=
 ⟨I,_,_,[],_,St,[],rfl,x,hn▸nH.w W pl λi h st b hb=>(by obtain⟨o,e,q⟩:=(pl i h st).FW;exact⟨o,Zg.mp hb▸e,.inl q⟩),sh▸st,λb hb=>Zg.mp hb▸no,nm,nm,nm,z,λ_ i v s3 h' d p _ _ _ e=>⟨[],.atm (k i v d e p) .nil,nm⟩,λ_=>nm⟩
def Et{lo hi c:Int}(hc:X.calm=true)(rel:Rel X ex hs U F s)(x:Ex s s1)(hs:Builtin.Range.small lo hi c=true)(hn:((ds.length:Nat):Int)=Builtin.Range.rangeSize lo hi c)(z:ds.length<=sizeLine)(k:∀(i:Nat) d,ds[i]? =some d->d= .int (lo+i*c)):
  wpAny X.M X.A (pyIter (.ref s1.heap.objs.size)) (λit s2=>iQ X ex U F tg s s2 it ⟨ds,[]⟩) E0 {s1 with heap:=s1.heap.push {cls:= .type "range",data:= .fields #[.int lo t,.int hi u,.int c v]},toks:=tk}:=by
 refine wpAny_pyIter_range (IsRange.new ..) hs (iQ.flat (n:=ds.length) (Walks.range (rel.ok.hd hc) _ lo c _) (λi h e=>⟨_,_,_,e,rfl,rfl,∅⟩) (by
  show Heap.get? _ _=_;rw[hn];simp only[Int.natCast_zero,Int.zero_mul,BV,Int.sub_zero];exact Zi _ rfl) ((x.trans .push).trans .push) rfl ((x.trans .push).no Q2) rfl z λi v d e ⟨t,q⟩=>?_)
 rw[k i d e];exact⟨t,q⟩
def dc(h:fa U=some r)(k:fs U=some rs):Qb fa fs U=some ⟨r.d::rs.ds,r.fr && rs.fr,r.M++rs.M⟩:=by simp[Qb,h,k]
def Ni(hc:X.calm=true)(cb:Cb X x (.type "range") a [] pos)(ha:SE X a fa):SI X tg (.Call (.Name x p) [a] [] pos) (jD fa):=λex hs U F s ir rel e=>by
 refine Ql e λr e1 e=>?_;refine cb.call rel (aN (fA ha jT cb.e pos rel (dc e1 rfl)) λvs s1 ⟨G,p⟩=>?_);obtain⟨v,rfl,q⟩:=p.rp.one;split at e
 .rename_i j h;rw[h]at q;obtain⟨t,rfl⟩:=q.int_inv;split at e
  .cases e;have:=iI;exact call_range_1 (Et hc rel p.ext (small_one ⋯ ⋯ ⋯ ⋯) (by rw[uQ,rangeSize_one];split<;>lia) (by rw[uQ];lia) λi d e=>by rw[(DN e).2];simp)
  .cases e
 .cases e
def Yf(hc:X.calm=true)(cb:Cb X x (.type "range") a [b] pos)(hb':starEach [b] X.env=(false,eval b X.env)::starEach [] X.env)(ha:SE X a fa)(hb:SE X b fb):SI X tg (.Call (.Name x p) [a,b] [] pos) (oQ fa fb):=λex hs U F s ir rel e=>by
 refine Ql e λr e1 e=>Ql e λr' e2 e=>?_;refine cb.call rel (aN (fA ha (fA hb jT hb') cb.e pos rel (dc e1 (dc e2 rfl))) λvs s1 ⟨G,p⟩=>?_);obtain⟨v,v',_,_,rfl,q,q'⟩:=p.rp.two;split at e
 .rename_i i j h h';rw[h]at q;rw[h']at q';obtain⟨t,rfl⟩:=q.int_inv;obtain⟨u,rfl⟩:=q'.int_inv;split at e
  .cases e;have:=iI;exact call_range_2 (Et hc rel p.ext (small_one ⋯ ⋯ ⋯ ⋯) (by rw[uQ,rangeSize_one];split<;>lia) (by rw[uQ];lia) λi d e=>by rw[(DN e).2,Int.mul_one])
  .cases e
 .cases e
def SV(hc:X.calm=true)(cb:Cb X x (.type "range") a [b,c] pos)(hb':starEach [b,c] X.env=(false,eval b X.env)::starEach [c] X.env)(hc':starEach [c] X.env=(false,eval c X.env)::starEach [] X.env)(ha:SE X a fa)(hb:SE X b fb)(hc:SE X c fc):SI X tg (.Call (.Name x p) [a,b,c] [] pos) (FG fa fb fc):=λex hs U F s ir rel e=>by
 refine Ql e λr e1 e=>Ql e λr' e2 e=>Ql e λr'' e3 e=>?_;refine cb.call rel (aN (fA ha (fA hb (fA hc jT hc') hb') cb.e pos rel (dc e1 (dc e2 (dc e3 rfl)))) λvs s1 ⟨G,p⟩=>?_);obtain⟨v,vs,_,_,rfl,_,q,qs⟩:=p.rp.inv;obtain⟨v',v'',_,_,rfl,q',q''⟩:=qs.two;split at e
 .rename_i i j h h' h'';rw[h]at q;rw[h']at q';rw[h'']at q'';obtain⟨t,rfl⟩:=q.int_inv;obtain⟨u,rfl⟩:=q'.int_inv;obtain⟨w,rfl⟩:=q''.int_inv;split at e
  .cases e;have:=iI;exact call_range_3 ∅ (Et ‹_› rel p.ext (small_down ⋯ ⋯ ⋯ ⋯) (by rw[MW,Lx];split<;>lia) (by rw[MW];lia) λi d e=>by rw[(Rr e).2,Int.mul_neg_one,Int.sub_eq_add_neg]) (.inl (ML 'd'))
  .cases e
 .cases e
def uZ(hc:X.calm=true)(hio:X.io=false)(ha:SE X a fa):SI X tg a (QD fa):=λex hs U F s ir rel e=>by
 refine Ql e λr e1 e=>aN (ha rel e1) λv s1 ⟨G,p⟩=>?_;split at e
 .rename_i xs h;cases e;exact JX hc (λh=>by rw[hio]at h;cases h) rel p (by rw[h];rfl)
 .rename_i xs h;split at e
  .cases e;exact JX hc (λh=>by rw[hio]at h;cases h) rel p (by rw[h];rfl)
  .cases e
 .rename_i x h;have q:=p.rp;rw[h]at q;obtain⟨t,rfl⟩:=q.str_inv;split at e
  .cases e
   have fin:∀T,Walks X.g.P X.g.w X.A s1.heap.objs.size [s1.heap.objs.size] [s1.heap.objs.size] x.cps.size (SignAt x) (λi h=>h.IsStrIter s1.heap.objs.size T x t i)->T∈EG→
     iQ X ex U F tg s {s1 with heap:=s1.heap.push {cls:= .type T,data:= .fields #[.str x t,.int 0 0]}} (.ref s1.heap.objs.size) ⟨x.cps.toList.map λc=> .str ⟨#[c]⟩,[]⟩:=λT W m=>
    iQ.flat W (λi h ⟨o,e,c,d⟩=>⟨o,T,_,e,c,d,m⟩) ⟨_,Zi _ rfl,rfl,rfl⟩ (p.ext.trans .push) rfl (p.ext.no Q2) ⋯ (by simpa) λi v d e ⟨c,tt,h1,h2⟩=>by
     rw[Zy,wA,h1]at e;cases e;exact⟨tt,h2⟩
   cases ha:x.cps.all (· <128)
   .exact wpAny_pyIter_wide ha (fin _ (Walks.strWide (rel.ok.hd hc) _ _ _) ∅)
   .exact wpAny_pyIter_ascii ha (fin _ (Walks.strAscii (rel.ok.hd hc) _ _ _) ∅)
  .cases e
 .cases e
def iQ.tup{Pt:Nat->Array Value->Prop}{Mid:Nat->Addr->Heap->Prop}{ts:Hs}(hio:X.io=true->∀t∈ts,bD t.1=true)(W:WalksT X.g.P X.g.w X.A I fp wr n Pt St Mid)(obj:∀i h,St i h->∀b∈fp,∃o,h.get? b=some o/\(iA o∨b∈T))(st:St 0 s1.heap)(x:Ex s s1)(no:∀b∈wr,s.heap.get? b=none)(hn:n=ds.length)(z:ds.length<=sizeLine)(hT:∀a∈T,∃t∈ts,a∈t.2.2)(ht:∀t∈ts,Rp X.g ex s.heap t.1 t.2.1 t.2.2/\Src U F s0 M t.2.2)
  (x0:Ex s0 s) (hM:∀i∈M,∃d,U[i]? =some (some (d,true))) (k:∀e' (i:Nat) vals h' d,Pt i vals->St (i+1) h'->(∀t∈ts,Rp X.g e' h' t.1 t.2.1 t.2.2)->ds[i]? =some d->∃es G,d= .tup es/\es.length<=64/\aM X.g e' h' es vals.toList G/\∀a∈G,∃t∈ts,a∈t.2.2):iQ X ex U F (.Tuple es kk pos) s0 s1 (.ref I) ⟨ds,M⟩:=
 ⟨I,_,_,T,_,St,ts,rfl,x0.trans x,hn▸nH.t W obj,st,λb hb=>x0.no (no b hb),hT,λt m=>⟨((ht t m).1.grow no).ext x,(ht t m).2⟩,hM,z,(λ_ i v s3 h' d ⟨a,vals,e,p,it,na⟩ st' al hh e'=>by
  obtain⟨es,G,rfl,l,r,m⟩:=k _ i vals h' d p st' hh e';subst e;exact⟨G,.Bs (λh=>by obtain⟨o,q⟩:=al a h;rw[na]at q;cases q) (ZE l ∅) it r,m⟩),hio⟩
def CD{ts:Hs}(hio:X.io=false):X.io=true->∀t∈ts,bD t.1=true:=λh=>by rw[hio]at h;cases h
def aM.at{h:Heap}{i:Nat}(r:Rp g ex h (.lst xs) (.ref l) G)(k:h.IsList l its)(e:xs[i]? =some d)(q:its[i]? =some v):∃G',Rp g ex h d v G'/\∀a∈G',a∈G:=by
 obtain⟨_,its',n,G',e1,rfl,_,_,e2,r'⟩:=r.lst_inv;cases e1;have:its'=its.toList:=L6 (l:=l) (.inl (eA e2)) (.inl k);subst this;obtain⟨F1,G3,F2,u,rfl,e3,_,r3,_⟩:=r'.split e;rw[wA,q]at e3;cases e3;exact⟨G3,r3,λa h=> .tail _ (Za _ (Zc _ h))⟩
def bF{α:Type}{P:α->Prop}{a:α}{l:List α}(h:P a)(k:∀b∈l,P b):∀b∈a::l,P b:=λb m=>(Zj.mp m).elim (λe=>e▸h) (k b)
def kD{h:Heap}{b:Addr}{nm:String}(e:h.get? b=some o)(c:o.cls= .type nm)(d:(∀es ep,o.data≠ .dict es ep)/\∀v,o.data≠ .cell v)(n:nm≠ "list"):∃o,h.get? b=some o/\(iA o∨b∈T):=⟨o,e,.inl ⟨d.1,d.2,by rw[c];simpa,by simp[c]⟩⟩
def sD{h:Heap}{b:Addr}(k:h.IsListIter b l i):∃o,h.get? b=some o/\(iA o∨b∈T):=by obtain⟨o,e,c,d⟩:=k;exact kD e c (by simp[d]) ∅
def sM{h:Heap}{b:Addr}(k:h.IsList b its)(m:b∈T):∃o,h.get? b=some o/\(iA o∨b∈T):=by obtain⟨o,e,_⟩:=k;exact⟨o,e,.inr m⟩
def Vj(hc:X.calm=true)(hio:X.io=false)(cb:Cb X x (.type "enumerate") a [] pos)(ha:SE X a fa):SI X (.Tuple es kk pos') (.Call (.Name x p) [a] [] pos) (qS fa):=λex hs U F s ir rel e=>by
 refine Ql e λr e1 e=>?_;refine cb.call rel (aN (fA ha jT cb.e pos rel (dc e1 rfl)) λvs s1 ⟨G,p⟩=>?_);obtain⟨v,rfl,q⟩:=p.rp.one;split at e
 .rename_i xs h;rw[h]at q;cases e;obtain⟨l,its,n,G',rfl,rfl,_,z,k,r'⟩:=q.lst_inv;have lt:=ZC k
  refine call_enumerate_list (eA k) λh' he hi _ hk=>wpAny_pyIter_enum he (iQ.tup (CD hio) (T:=[l]) (ts:=[(.lst xs,.ref l,l::G')]) (s:=s1)
   (WalksT.enumerate (rel.ok.hd hc) _ _ l ⋯ ⋯ ⋯ its.toArray) (λi h ⟨⟨_,a⟩,b,c⟩=>bF (kD a rfl ⋯ ∅) (bF (sD b) (bF (sM c (.head _)) nm))) ⟨⟨_,he⟩,hi,(eA k).at λo e=>hk _ o e⟩ (.of (t':=s1.toks) hk) (bF (Zv ⋯) (bF Q2 nm))
   (by rw[GS,Zk,r'.len]) (by rw[GS];exact z) (λa m=>⟨_,.head _,Zg.mp m▸ .head _⟩) (λt m=>by cases Zg.mp m;exact⟨q,λa m=>by have:=p.src a m;simpa using this⟩) p.ext (by have:=p.own;simpa using this) λ_ i vals h' d ⟨t,y,e1,e2⟩ ⟨_,_,kl⟩ hh e=>?_)
  obtain⟨d',e3,rfl⟩:=Ú e;obtain⟨G2,r2,m⟩:=(hh _ (.head _)).at kl e3 e1;subst e2;exact⟨_,_,rfl,Bc rfl,aM.int.app r2,λa h=>⟨_,.head _,m a h⟩⟩
 .cases e
def RO(hc:X.calm=true)(hio:X.io=false)(cb:Cb X x (.type "zip") a [b] pos)(hb':starEach [b] X.env=(false,eval b X.env)::starEach [] X.env)(ha:SE X a fa)(hb:SE X b fb):SI X (.Tuple es kk pos') (.Call (.Name x p) [a,b] [] pos) (iC fa fb):=λex hs U F s ir rel e=>by
 refine Ql e λr e1 e=>Ql e λr' e2 e=>?_;refine cb.call rel (aN (fA ha (fA hb jT hb') cb.e pos rel (dc e1 (dc e2 rfl))) λvs s1 ⟨G,p⟩=>?_);obtain⟨v,vs,G1,G2,rfl,rfl,q,qs⟩:=p.rp.inv;obtain⟨v',rfl,q'⟩:=qs.one;split at e
 .rename_i xs ys h h';rw[h]at q;rw[h']at q';cases e;obtain⟨l,its,n,G1',rfl,rfl,_,z,k,r'⟩:=q.lst_inv;obtain⟨l',its',n',G2',rfl,rfl,_,z',k',r''⟩:=q'.lst_inv;have lt:=ZC k;have lt':=ZC k'
  refine call_zip_2 (eA k) (eA k') λh' hz h1 h2 i1 i2 _ hk=>wpAny_pyIter_zip hz (iQ.tup (CD hio) (T:=[l,l']) (ts:=[(.lst xs,.ref l,l::G1'),(.lst ys,.ref l',l'::G2')]) (s:=s1)
   (WalksT.zip2 (rel.ok.hd hc) _ _ _ _ _ l l' (by constructor<;>lia) its.toArray its'.toArray) (λi h ⟨a,b,⟨_,_,c⟩,d,d',e,e'⟩=>bF (kD a rfl ⋯ ∅) (bF (kD b rfl ⋯ ∅) (bF (kD c rfl ⋯ ∅) (bF (sD d) (bF (sD d') (bF (sM e (.head _)) (bF (sM e' (.tail _ (.head _))) nm)))))))
   ⟨hz,h1,⟨_,_,h2⟩,i1,i2,(eA k).at λo e=>hk _ o e,(eA k').at λo e=>hk _ o e⟩ (.of (t':=s1.toks) hk) (bF (Zv ⋯) (bF (Zv ⋯) (bF Q2 (bF (Zv ⋯) nm))))
   (by rw[AQ,Zk,Zk,r'.len,r''.len]) (by rw[AQ];lia) (bF ⟨_,.head _,.head _⟩ (bF ⟨_,.tail _ (.head _),.head _⟩ nm)) (bF ⟨q,λa m=>?_⟩ (bF ⟨q',λa m=>?_⟩ nm)) p.ext (by have:=p.own;simpa using this) λ_ i vals h' d ⟨y,y',e1,e1',e2⟩ ⟨_,_,_,_,_,kl,kl'⟩ hh e=>?_)
  .have:=p.src a (Zc _ m);simpa using this
  .have:=p.src a (Za _ m);simpa using this
  .obtain⟨d',d'',e3,e3',rfl⟩:=Hm e;obtain⟨G2,r2,m⟩:=(hh _ (.head _)).at kl e3 e1;obtain⟨G2',r2',m'⟩:=(hh _ (.tail _ (.head _))).at kl' e3' e1';subst e2;exact⟨_,_,rfl,Bc rfl,r2.app r2',λa h=>(Zf.mp h).elim (λh=>⟨_,.head _,m a h⟩) λh=>⟨_,.tail _ (.head _),m' a h⟩⟩
 .cases e
end
inductive pR (X:Cx):List Expr->List Nat->Prop
 | nil:pR X [] []
 | cons:Sl X x i->pR X es is->pR X (.Name x p::es) (i::is)
section
variable {X:Cx}{ex w:LA}{hs ts:Hs}{U U':En}{F:Ft}{s s' s1 s2:Shared}{a b c e tg iter:Expr}{fa:DE}{f g:DS}{gc:DT}{pos p:Pos}{es:List Expr}{st:Stmt}{sts body:List Stmt}{x:Str}{d:D}
def vU(X:Cx)(U:En)(F:Ft)(G:LA):Prop:=∀a∈G,(X.Nw a∨X.A0 a)/\∀(j:Nat) d,U[j]? =some (some (d,true))->a∉F j
def SG(X:Cx)(tg:Expr)(t:Tg):Prop:=∀ ⦃ex hs U F s d v G U'⦄,Rel X ex hs U F s->Rp X.g ex s.heap d v G->vU X U F G->gP t d U=some U'→
 wpAny X.M X.A (assign tg X.env v) (λ_ s'=>Fx X hs s s'/\∃F',Rel X ex hs U' F' s'/\(∀j a,a∈F' j->a∈F j∨a∈G)/\∀a o,a∉ex->s.heap.get? a=some o->s'.heap.get? a=some o) E0 s
def Rel.slot(r:Rel X ex hs U F s)(sl:Sl X x i)(p:Rp X.g ex s.heap d v G)(h:vU X U F G)(k:∀s',Fx X hs s s'->Rel X ex hs (U.set i (some (d,d.flat))) (put F i G) s'->(∃q∈ex,(q=X.env.locals∨∃y,X.env.cells.lookup y=some q)/\Heap.SameBut q s.heap s'.heap)->Q () s'):wpAny M A (storeName X.env x v) Q E s:=
 r.store .refl sl p (r.ow.set (λa m=>(h a m).1) (λj d' _ e a m g=>(h a g).2 j d' e m) λf=>by rw[p.jE (oM f)];exact⟨.nil,nm⟩) k
def Lm{j:Nat}{a:Addr}(h:a∈put F i G j):a∈F j∨a∈G:=by
 by_cases hj:j=i
 .exact .inr (by rwa[hj,pL]at h)
 .exact .inl (by rwa[oH hj]at h)
def Í(sl:Sl X x i):SG X (.Name x pos) (.nm i):=λex hs U F s d v G U' rel p h e=>by
 cases e;exact wpAny_assign_Name (rel.slot sl p h λs' x r ⟨_,k,_,sb⟩=>⟨x,_,r,λj a=>Lm,λa o n e=>(sb.2 a λz=>n (z▸k)).trans e⟩)
def pR.len(t:pR X es is):(assignEach es X.env).length=is.length/\(assignEach es X.env).findIdx? (·.1)=none:=by
 induction t with
 | nil=>exact⟨rfl,rfl⟩
 | cons _ _ ih=>exact⟨congrArg (· +1) ih.1,by
   show List.findIdx? _ ((false,_)::assignEach _ X.env)=none;rw[List.findIdx?_cons,ih.2];rfl⟩
def pR.asg(t:pR X es is):∀{U F s ds vs G},Rel X ex hs U F s->aM X.g ex s.heap ds vs G->vU X U F G->ds.length=is.length→
  wpAny X.M X.A (assignInOrder ((assignEach es X.env).map (·.2)) vs) (λ_ s'=>Fx X hs s s'/\∃F',Rel X ex hs (mY is ds U) F' s'/\(∀j a,a∈F' j->a∈F j∨a∈G)/\∀a o,a∉ex->s.heap.get? a=some o->s'.heap.get? a=some o) E0 s:=by
 induction t with
 | nil=>
  intro U F s ds vs G rel p h l;cases List.length_eq_zero_iff.mp l;cases p;exact assignInOrder_nil ⟨.refl,F,rel,λ_ _=> .inl,λ_ _ _ e=>e⟩
 | @cons x i es is _ sl t ih=>
  intro U F s ds vs G rel p h l;cases ds with
  | nil=>cases l
  | cons d ds=>
   obtain⟨v,vs,G1,G2,rfl,rfl,p1,p2⟩:=p.inv;refine assignInOrder_cons (wpAny_assign_Name (rel.slot sl p1 (λa m=>h a (Zc _ m)) λs' x' r ⟨_,k,_,sb⟩=>aN (ih r (p2.but sb (.inl k)) (λa m=>⟨(h a (Za _ m)).1,λj d' e m'=>?_⟩) (Nat.succ.inj l)) λ_ s2 ⟨x2,F2,r2,m2,k2⟩=>⟨x'.trans x2,F2,r2,λj a m=>?_,λa o n e=>k2 a o n ((sb.2 a λz=>n (z▸k)).trans e)⟩))
   .rcases set_inv e with⟨rfl,e1⟩ | ⟨z,e1⟩
    .have:d.flat=true:=congrArg Prod.snd (Option.some.inj e1);rw[pL,p1.jE (oM this)]at m';cases m'
    .rw[oH z]at m';exact(h a (Za _ m)).2 j d' e1 m'
   .exact(m2 j a m).elim (λm=>(Lm m).imp id (Zc _)) λm=> .inr (Za _ m)
def Tw(hc:X.calm=true)(t:pR X es is):SG X (.Tuple es k pos) (.tp is):=λex hs U F s d v G U' rel p h e=>by
 unfold gP at e;split at e
 .cases ‹Tg.tp _=_›
 .split at e
  .cases e;rename_i q l;cases q;obtain⟨a,its,rfl,_,_,k,r⟩:=p.qP;refine assign_Tuple_tuple (rel.ok.hd hc) k (by rw[t.len.1,Zk,← r.len,l]) t.len.2 λh' hx=>?_;have x:Ex s {s with heap:=h'}:= .of (t':=s.toks) λb o e=>hx b o (kR (ZC e)) e;exact aN (t.asg (rel.ext x) (r.ext x) h l) λ_ s' ⟨x',F',r',m,k⟩=>⟨(Fx.of x).trans x',F',r',m,λa o n e=>k a o n (x.hp a o e)⟩
  .cases e
 .split at e
  .cases e;rename_i q l;cases q;obtain⟨a,its,n,G',rfl,rfl,_,_,k,r⟩:=p.lst_inv;rw[PyProof.Rows.assign_Tuple];refine wpAny_bind (wpAny_standAt ?_);unfold unpack;rw[t.len.1,t.len.2,← l,r.len,← Zk];refine wpAny_bind (wpAny_holding (PySem.W.kun_itemsOf (rel.ok.hd hc) (eA k) λh' hx=>?_));have x:Ex s {s with heap:=h'}:= .of (t':=s.toks) λb o e=>hx b o (kR (ZC e)) e;exact aN (t.asg (rel.ext x) (r.ext x) (λa m=>h a (.tail _ m)) l) λ_ s' ⟨x',F',r',m,k⟩=>⟨(Fx.of x).trans x',F',r',λj a h=>(m j a h).imp id (.tail _),λa o n e=>k a o n (x.hp a o e)⟩
  .cases e
 .cases e
structure Hk (X:Cx) (ex:LA) (s':Shared) (d:D) (fr:Bool) (v:Value) (G:LA):Prop where
 rp:Rp X.g ex s'.heap d v G
 src:∀a∈G,X.Nw a∨X.A0 a
 fW:fr=true->G.Nodup/\∀a∈G,X.Nw a
def N1(X:Cx)(ex:LA)(s':Shared)(d:D)(v:Value)(G:LA):Prop:=∃d1 bC i a,d= .obj .pair [d1,bC]/\At d1 v/\X.pin=some (i,a)/\Rp X.g ex s'.heap bC (.ref a) G/\(∀b∈G,X.Nw b∨X.A0 b)/\∀b,s'.heap.get? b=none->X.Nw b
abbrev Ph(X:Cx)(ex:LA)(s':Shared)(d:D)(fr:Bool)(v:Value)(G:LA):Prop:=Hk X ex s' d fr v G∨N1 X ex s' d v G
def Fl(X:Cx)(ex:LA)(hs:Hs)(s:Shared)(o:Out)(f:Flow)(s':Shared):Prop:=Fx X hs s s'/\match o with
 | .nx U=>f= .next/\∃F,Rel X ex hs U F s'
 | .bk U=>f= .brk/\∃F,Rel X ex hs U F s'
 | .ct U=>f= .cont/\∃F,Rel X ex hs U F s'
 | .rt d fr=>∃v G,f= .ret v/\Ph X ex s' d fr v G
def S1(X:Cx)(st:Stmt)(f:DS):Prop:=∀ ⦃ex hs U F s o⦄,Rel X ex hs U F s->f U=some o->wpAny X.M X.A (exec st X.env) (Fl X ex hs s o) E0 s
def SS(X:Cx)(st:List Stmt)(f:DS):Prop:=∀ ⦃ex hs U F s o⦄,Rel X ex hs U F s->f U=some o->wpAny X.M X.A (execs st X.env) (Fl X ex hs s o) E0 s
def GI:SS X [] Qc:=λex hs U F s o rel e=>by cases e;exact wpAny_execs_nil ⟨.refl,rfl,F,rel⟩
def A2(h1:S1 X st f)(h2:SS X sts g):SS X (st::sts) (Qa f g):=λex hs U F s o rel e=>by
 refine Ql e λo1 e1 e=>wpAny_execs_cons (aN (h1 rel e1) λfl s1 ⟨x,q⟩=>?_);cases o1 with
 | nx U'=>obtain⟨rfl,F',r'⟩:=q;exact aN (h2 r' e) λ_ _ ⟨y,q⟩=>⟨x.trans y,q⟩
 | bk U'=>cases e;obtain⟨rfl,q⟩:=q;exact⟨x,rfl,q⟩
 | ct U'=>cases e;obtain⟨rfl,q⟩:=q;exact⟨x,rfl,q⟩
 | rt d fr=>cases e;obtain⟨v,G,rfl,q⟩:=q;exact⟨x,v,G,rfl,q⟩
def Yl:S1 X (.Pass pos) Qc:=λex hs U F s o rel e=>by cases e;exact wpAny_Pass ⟨.refl,rfl,F,rel⟩
def RX:S1 X (.Break pos) Jn:=λex hs U F s o rel e=>by cases e;exact wpAny_Break ⟨.refl,rfl,F,rel⟩
def Te:S1 X (.Continue pos) KZ:=λex hs U F s o rel e=>by cases e;exact wpAny_Continue ⟨.refl,rfl,F,rel⟩
def zV:S1 X st Qn:=λ_ _ _ _ _ _ _ e=>nomatch e
def UC(h:SE X a fa):SE X a (QP fa):=λex hs U F s r rel e=>by
 obtain⟨r',e1,rfl⟩:=Zd.mp e;exact aN (h rel e1) λv s' ⟨G,p⟩=>⟨G,{p with fW:=nofun}⟩
def Rel.asg{r:R}(rel:Rel X ex hs U F s)(p:eH X ex U F s s1 r v G)(sl:Sl X x i)(k:∀s' F',Fx X hs s s'->Rel X ex hs (asg i r U) F' s'->Q () s'):wpAny M A (storeName X.env x v) Q E s1:=by
 obtain⟨U1,b,e,w,o⟩:=p.asg (i:=i) rel;rw[e]at k;exact(rel.ext p.ext).store w sl p.rp o λs' x r _=>k s' _ ((Fx.of p.ext).trans x) r
def Ea(h:SE X e fa)(sl:Sl X x i)(hs:swapsWith e (some (.Name x p)) pos.line X.env=pure false):S1 X (.Assign [.Name x p] e pos) (Qm i fa):=λex hs' U F s o rel e=>by
 refine Ql e λr e1 e=>?_;cases e;exact wpAny_Assign_Name (aN (h rel e1) λv s1 ⟨G,p⟩=>rel.asg p sl λs' F' x r=>⟨x,rfl,F',r⟩) hs
def Rel.weak(r:Rel X ex hs U F s)(w:hX U U'):Rel X ex hs U' F s:={r with
 ns:=let ⟨m,n,q⟩:=r.ns;⟨m,n,λi d b e=>let ⟨c,e1,_⟩:=w.2 i d b e;q i d c e1⟩
 len:=w.1.trans r.len
 ow:=r.ow.weak w}
def Rel.quiet(r:Rel X ex hs U F s):interactive X.env=false:=by simp[interactive,r.ok.kind]
def SQ(h:SE X e fa)(hs:swapsWith e none pos.line X.env=pure false):S1 X (.Expr e pos) (cP fa):=λex hs' U F s o rel e=>by
 refine Ql e λr e1 e=>?_;cases e;exact wpAny_Expr_any (aN (h rel e1) λv s1 ⟨G,p⟩=>⟨.of p.ext,rfl,F,rel.ext p.ext⟩) rel.quiet hs
def Rel.ret{r:R}(rel:Rel X ex hs U F s)(p:eH X ex U F s s1 r v G):Hk X ex s1 r.d (r.norm.fr && decide r.norm.M.Nodup) v G where
 rp:=p.rp
 src:=rel.tN p.src
 fW:=λh=>by
  simp only[Ze,decide_eq_true_eq]at h;obtain⟨n,q⟩:=p.norm.qU (i:=0) rel h.1 h.2;exact⟨n,λa m=>(q a m).1.1⟩
def W4(h:SE X e fa):S1 X (.Return (some e) pos) (Qv fa):=λex hs U F s o rel e=>by
 refine Ql e λr e1 e=>?_;cases e;exact wpAny_Return_some (aN (h rel e1) λv s1 ⟨G,p⟩=>⟨.of p.ext,v,G,rfl,.inl (rel.ret p)⟩)
def TQ:S1 X (.Return none pos) xD:=λex hs U F s o rel e=>by cases e;exact wpAny_Return_none ⟨.refl,_,[],rfl,.inl ⟨.aT,nm,λ_=>⟨.nil,nm⟩⟩⟩
def L8(hc:ST X c gc)(ha:SS X sts f)(hb:SS X body g):S1 X (.If c sts body pos) (aQ gc f g):=λex hs U F s o rel e=>by
 refine Ql e λk e1 e=>wpAny_If (aN (hc rel e1) λk' s1 ⟨q,x⟩=>?_);subst q;cases k'
 .exact aN (hb (rel.ext x) e) λ_ _ ⟨y,q⟩=>⟨(Fx.of x).trans y,q⟩
 .exact aN (ha (rel.ext x) e) λ_ _ ⟨y,q⟩=>⟨(Fx.of x).trans y,q⟩
def Rel.into(r:Rel X ex hs U F s)(x:Ex s s1)(no:∀b∈w,s.heap.get? b=none)(li:∀b∈w,∃o,s1.heap.get? b=some o)(ht:∀t∈ts,Rp X.g (w++ex) s1.heap t.1 t.2.1 t.2.2/\Src U F s M t.2.2)(hn:X.io=true->∀t∈ts,bD t.1=true):Rel X (w++ex) (ts++hs) (dH M U) F s1:=
 let r1:=(r.ext x).weak (iT M U)
 {r1 with
  ns:=let ⟨m,n,q⟩:=r.ns;⟨m,n.keeps x.hp,λi d b e=>let ⟨c,e1,_⟩:=(iT M U).2 i d b e;let ⟨y,v,e2,l,p,pn⟩:=q i d c e1;⟨y,v,e2,oZ l λ_ _ _ z=>z.keeps x.hp,(p.grow no).ext x,pn⟩⟩
  fsl:=λb m=>let ⟨h,q⟩:=r1.fsl b m;⟨Za _ h,q⟩
  cell:=λy c e=>⟨Za _ (r1.cell y c e).1,(r1.cell y c e).2⟩
  loc:=Za _ r.loc
  exl:=λb m=>(Zf.mp m).elim (li b) (r1.exl b)
  exb:=λb m=>(Zf.mp m).elim (λm=>r.tF (no b m)) (r.exb b)
  hnb:=λh t m=>(Zf.mp m).elim (hn h t) (r.hnb h t)
  ow:=⟨λi d e=>let ⟨n,q⟩:=r1.ow.own i d e;⟨n,λa m=>⟨(q a m).1,(q a m).2.1,λt h=>(Zf.mp h).elim (λh=>r.shr (ht t h).2 e a m) ((q a m).2.2 t)⟩⟩,r1.ow.src⟩
  held:=λt h=>(Zf.mp h).elim (λh=>⟨(ht t h).1,r.tN (ht t h).2⟩) λh=>⟨((r.held t h).1.grow no).ext x,(r.held t h).2⟩}
def Rel.out(r0:Rel X ex hs U' F' s')(r:Rel X (w++ex) (ts++hs) U F s):Rel X ex hs U F s:=
 {r with
  ns:=let ⟨m,n,q⟩:=r.ns;⟨m,n,λi d b e=>let ⟨y,v,e2,l,p,pn⟩:=q i d b e;⟨y,v,e2,l,p.less λ_=>Za _,pn⟩⟩
  fsl:=λb m=>⟨(r0.fsl b m).1,(r.fsl b m).2⟩
  cell:=λy c e=>⟨(r0.cell y c e).1,(r.cell y c e).2⟩
  loc:=r0.loc
  exl:=λb m=>r.exl b (Za _ m)
  exb:=λb m=>r.exb b (Za _ m)
  hnb:=λh t m=>r.hnb h t (Za _ m)
  ow:=⟨λi d e=>let ⟨n,q⟩:=r.ow.own i d e;⟨n,λa m=>⟨(q a m).1,(q a m).2.1,λt h=>(q a m).2.2 t (Za _ h)⟩⟩,r.ow.src⟩
  held:=λt h=>let ⟨p,q⟩:=r.held t (Za _ h);⟨p.less λ_=>Za _,q⟩}
def Rel.turn{h':Heap}(r0:Rel X ex hs U' F' s')(no:∀b∈w,s'.heap.get? b=none)(r:Rel X (w++ex) ts U F s)(k:∀b o,b∉w->s.heap.get? b=some o->h'.get? b=some o)(li:∀b∈w',b∈w/\∃o,h'.get? b=some o):Rel X (w'++ex) ts U F {s with heap:=h',toks:=tk}:=by
 have ne:∀b∈ex,b∉w:=λb m h=>r0.iO (no b h) m;have dk:∀{ds vs G},aM X.g (w++ex) s.heap ds vs G->aM X.g (w'++ex) h' ds vs G:=λp=>(p.keep λa o n _=>k a o λh=>n (Zc _ h)).less λb m=>(Zf.mp m).elim (λm=>Zc _ (li b m).1) (Za _);have ck:∀{c v},c∈ex->s.heap.IsCell c v->h'.IsCell c v:=λm ⟨o,e,d⟩=>⟨o,k _ o (ne _ m) e,d⟩
 exact{r with
  bk:=λa o e=>k a o (λm=>by rw[r.ok.b0 a (r0.nw a (no a m))]at e;cases e) (r.bk a o e)
  nw:=λa e=>by
   by_cases m:a∈w
   .exact r0.nw a (no a m)
   .cases q:s.heap.get? a with
    | none=>exact r.nw a q
    | some o=>rw[k a o m q]at e;cases e
  ns:=let ⟨m,n,q⟩:=r.ns;⟨m,n.at λo e=>k _ o (ne _ r0.loc) e,λi d b e=>let ⟨y,v,e2,l,p,pn⟩:=q i d b e;⟨y,v,e2,oZ l λc v e=>ck (r0.cell _ c e).1,dk p,pn⟩⟩
  fsl:=λb m=>let ⟨_,o,es,ep,e,d⟩:=r.fsl b m;let h:=(r0.fsl b m).1;⟨Za _ h,o,es,ep,k b o (ne b h) e,d⟩
  cell:=λy c e=>let ⟨_,v,z⟩:=r.cell y c e;let m:=(r0.cell y c e).1;⟨Za _ m,v,ck m z⟩
  loc:=Za _ r0.loc
  exb:=λb m=>(Zf.mp m).elim (λm=>r0.tF (no b (li b m).1)) (r0.exb b)
  exl:=λb m=>(Zf.mp m).elim (λm=>(li b m).2) λm=>let ⟨o,e⟩:=r.exl b (Za _ m);⟨o,k b o (ne b m) e⟩
  held:=λt m=>⟨dk (r.held t m).1,(r.held t m).2⟩}
def Ir(hi:SI X tg iter fi)(hg:SG X tg t)(hb:SS X body f)(hf:∀x,foldedSetIterable iter X.env x=pure x):S1 X (.For tg iter body [] pos) (bV fi t f):=λex hs U F s o rel e=>by
 refine Ql e λir e1 e=>wpAny_For (aN (hi rel e1) λv s1 h=>aN h λit s2 ⟨I,fp,wr,T,P,St,ts,e2,x,tr,st,no,hT,ht,own,z,yld,hn⟩=>?_) hf;subst e2;have ob:∀i h,St i h->∀b∈wr,∃o,h.get? b=some o:=λi h st b m=>let ⟨o,e,_⟩:=tr.obj i h st b (tr.sub b m);⟨o,e⟩;refine codeAny_forLoop_any (λn s'=>∃i U F,n+i=ir.items.length/\Fx X hs s s'/\St i s'.heap/\Rel X (wr++ex) (ts++hs) U F s'/\jC t f (ir.items.drop i) U=some o) ?_ _ ⟨0,_,F,rfl,.of x,st,rel.into x no (ob _ _ st) ht hn,e⟩;rintro n s3 ⟨i,U3,F3,hn,x3,st3,r3,e3⟩;have next:∀{h' tk},(∀b o,b∉wr->s3.heap.get? b=some o->h'.get? b=some o)->Fx X hs s {s3 with heap:=h',toks:=tk}:=λk=>⟨λa o h i=>k a o (λm=>by rw[no a m]at h;cases h) (x3.hp a o h i),x3.os,x3.br,λa m o e=>let ⟨sl,e1⟩:=x3.fr a m o e;⟨sl,k a _ (λz=>r3.ok.fo a m (rel.nw a (no a z))) e1⟩⟩;cases n with
 | zero=>
  rw[show ir.items.drop i=[]from Be ⋯]at e3;cases e3;have:i=ir.items.length:= ⋯
  subst this;exact any (aN (tr.done s3 (λs4=>Fx X hs s s4/\Rel X ex hs U3 F3 s4) st3 λh' tk k=>⟨next k,rel.out (w:=[]) (rel.turn no r3 k nm)⟩) λr s4 ⟨q,x,r'⟩=>by subst q;exact wpAny_execs_nil ⟨x,rfl,F3,r'⟩)
 | succ n=>
  have lt:i<ir.items.length:= ⋯
  rw[uT lt]at e3;unfold jC at e3;refine Ql e3 λU4 e4 e3=>Ql e3 λo1 eo e3=>?_;refine any (aN (tr.turn i s3 (λv s4=>∃G,Fx X hs s s4/\St (i+1) s4.heap/\Rel X (wr++ex) (ts++hs) U3 F3 s4/\Rp X.g (wr++ex) s4.heap ir.items[i] v G/\vU X U3 F3 G) lt st3 λv h' tk p st4 k=>?_) λr s4 ⟨v,q,h⟩=>?_)
  .have r4:=rel.turn (tk:=tk) no r3 k λb m=>⟨m,ob _ _ st4 b m⟩;obtain⟨G,p,m⟩:=yld _ i v s3 h' _ p st4 r3.exl (λt m=>(r4.held t (Zc _ m)).1) (Zt lt);refine⟨G,next k,st4,r4,p,λa h=>?_⟩;obtain⟨t,ht,h⟩:=m a h;exact⟨(r4.held t (Zc _ ht)).2 a h,λj d e h'=>((r4.ow.own j d e).2 a h').2.2 t (Zc _ ht) h⟩
  .subst q;refine any (aN h λ_ s5 ⟨G,x5,st5,r5,p,sh⟩=>any (aN (hg r5 p sh e4) λ_ s6 ⟨x6,F6,r6,_⟩=>any (aN (hb r6 eo) λfl s7 ⟨x7,q⟩=>?_)));have x8:Fx X (ts++hs) s5 s7:=x6.trans x7;have x9:Fx X hs s s7:=x5.trans x8.less;have again:∀{U7 F7},Rel X (wr++ex) (ts++hs) U7 F7 s7->jC t f (ir.items.drop (i+1)) U7=some o->∃m,m<n+1/\∃i U F,m+i=ir.items.length/\Fx X hs s s7/\St i s7.heap/\Rel X (wr++ex) (ts++hs) U F s7/\jC t f (ir.items.drop i) U=some o:=λ{U7 F7} r7 e7=>
    ⟨n,ZW n,i+1,U7,F7,⋯,x9,tr.frame _ _ _ st5 λb m o e=>x8.hp b o e λ_=>by
     obtain⟨o',e',q⟩:=tr.obj _ _ st5 b m;rw[e]at e';cases e';exact q.imp id λm=>let ⟨t,h,k⟩:=hT b m;⟨t,Zc _ h,k⟩,r7,e7⟩
   cases o1 with
   | nx U7=>obtain⟨rfl,F7,r7⟩:=q;exact again r7 e3
   | ct U7=>obtain⟨rfl,F7,r7⟩:=q;exact again r7 e3
   | bk U7=>obtain⟨rfl,F7,r7⟩:=q;cases e3;exact⟨x9,rfl,F7,rel.out r7⟩
   | rt d fr=>obtain⟨v,G,rfl,q⟩:=q;cases e3;exact⟨x9,v,G,rfl,q.imp (λq=>{q with rp:=q.rp.less λ_=>Za _}) λ⟨d1,k,i,a,h1,h2,h3,h4,h5⟩=>⟨d1,k,i,a,h1,h2,h3,h4.less λ_=>Za _,h5⟩⟩
def TU(hc:ST X c gc)(hb:SS X body f):S1 X (.While c body [] pos) (Dy gc f):=λex hs U F s o rel e=>by
 obtain⟨n,hn⟩:=HV.mp e;refine wpAny_While (codeAny_whileLoop (λn s'=>∃U F,Fx X hs s s'/\Rel X ex hs U F s'/\i9 gc f n U=some o) ?_ n ⟨U,F,.refl,rel,hn⟩);rintro n s3 ⟨U3,F3,x3,r3,e3⟩;cases n with
 | zero=>cases e3
 | succ n=>
  unfold i9 at e3;refine Ql e3 λk e4 e3=>any (aN (hc r3 e4) λk' s4 ⟨q,x4⟩=>?_);subst q;have x5:=x3.trans (.of x4);cases k' with
  | false=>cases e3;exact any (wpAny_execs_nil ⟨x5,rfl,F3,r3.ext x4⟩)
  | true=>
   refine Ql e3 λo1 eo e3=>any (aN (hb (r3.ext x4) eo) λfl s7 ⟨x7,q⟩=>?_);have x9:=x5.trans x7;cases o1 with
   | nx U7=>obtain⟨rfl,F7,r7⟩:=q;exact⟨n,ZW n,U7,F7,x9,r7,e3⟩
   | ct U7=>obtain⟨rfl,F7,r7⟩:=q;exact⟨n,ZW n,U7,F7,x9,r7,e3⟩
   | bk U7=>obtain⟨rfl,F7,r7⟩:=q;cases e3;exact⟨x9,rfl,F7,r7⟩
   | rt d fr=>obtain⟨v,G,rfl,q⟩:=q;cases e3;exact⟨x9,v,G,rfl,q⟩
end
section
variable {X:Cx}{ex w:LA}{hs:Hs}{U U':En}{F:Ft}{s s' s0 s1 s2:Shared}{a b c e:Expr}{fb:DE}{f g:DS}{pos p:Pos}{es:List Expr}{x:Nat}{d dm d':D}{is:List Int}{h:Heap}
def ED{e:D}:∀{is:List Int}{d:D},eG d is=some dm->eW (is++[i]) d e=eW is d (eW [i] dm e)
 | [],d,h=>by cases h;rfl
 | k::is,d,h=>by
  refine Ql h λds h1 h=>Ql h λd' h2 h=>?_;refine Ql h2 λj h3 h2=>?_;have ih:=ED (i:=i) (e:=e) h;have e1:ds.getD j .aT=d':=by simp[Zz,h2]
  unfold D.items at h1;split at h1
  iterate 2
   .cases h1;simp only[rB,eW,h3,e1,ih]
  .cases h1
abbrev Kp(ex:LA)(h h':Heap)(L:LA):Prop:=∀a o,a∉ex->a∈L∨tJ o->h.get? a=some o->h'.get? a=some o
def Kp.sub{L L':LA}(k:Kp ex h h' L)(m:∀a∈L',a∈L):Kp ex h h' L':=λa o n z=>k a o n (z.imp (m a) id)
def fP(g:Gb)(ex:LA)(h:Heap)(is:List Int)(d:D)(v:Value)(F:LA)(dm:D)(w:Value)(Gm:LA):Prop:=(eG d is=some dm/\(is=[]->v=w))/\∃F1 F2,F=F1++(Gm++F2)/\Rp g ex h dm w Gm∧
 ∀h' dm' Gm',Rp g ex h' dm' w Gm'->Kp ex h h' (F1++F2)->Rp g ex h' (eW is d dm') v (F1++(Gm'++F2))
def fP.ext{g:Gb}(H:fP g ex s.heap is d v L dm w' Gm)(x:Ex s s'):fP g ex s'.heap is d v L dm w' Gm:=
 let ⟨q,F1,F2,e,p,k⟩:=H;⟨q,F1,F2,e,p.ext x,λh' dm' Gm' r m=>k h' dm' Gm' r λa o n z e=>m a o n z (x.hp a o e)⟩
def fP.nil{g:Gb}(r:Rp g ex h d v L):fP g ex h [] d v L d v L:=⟨⟨rfl,λ_=>rfl⟩,[],[],⋯,r,λh' dm' Gm' r m=>by simpa[eW]using r⟩
def GX:∀{is:List Int}{d:D},eG d is=some dm->eG d (is++js)=eG dm js
 | [],d,h=>by cases h;rfl
 | k::is,d,h=>by
  refine Ql h λds h1 h=>Ql h λd' h2 h=>?_;simp only[rB,eG,h1,h2,Option.bind_some];exact GX h
def fP.snoc{g:Gb}(H:fP g ex h is d v L dm w' Gm)(e:dm.items=some ds)(hd:L2.eU ds i=some d'):∃l its j u G,w'= .ref l/\Sq h l its/\ds.length<=sizeLine/\ds.length=its.length/\seqIndex? i its.length=some j/\its[j]? =some u/\ -(its.length:Int)<=i/\i<its.length/\fP g ex h (is++[i]) d v L d' u G:=by
 obtain⟨⟨q,_⟩,F1,F2,rfl,p,k⟩:=H;refine Ql hd λj h1 h2=>?_;obtain⟨h3,h4,h5,h6⟩:=L2.tV h1;have hp:∀u,eG d (is++[i])=some d'/\(is++[i]=[]->v=u):=λu=>⟨by rw[GX q];simp[eG,e,hd],⋯⟩
 have fin:∀{its:List Value}{l G0},Sq h l its->ds.length<=sizeLine->aM g ex h ds its G0→
   (∀A G B u,G0=A++(G++B)->its[j]? =some u->aM g ex h (ds.take j) (its.take j) A->Rp g ex h d' u G->aM g ex h (ds.drop (j+1)) (its.drop (j+1)) B->fP g ex h (is++[i]) d v (F1++(Gm++F2)) d' u G)->w'= .ref l→
   ∃l its j u G,w'= .ref l/\Sq h l its/\ds.length<=sizeLine/\ds.length=its.length/\seqIndex? i its.length=some j/\its[j]? =some u/\ -(its.length:Int)<=i/\i<its.length/\fP g ex h (is++[i]) d v (F1++(Gm++F2)) d' u G:=λ{its l G0} sq z r hh ew=>by
  obtain⟨A,G,B,u,e0,e1,r1,r2,r3⟩:=r.split h2;have hl:=r.len;exact⟨l,its,j,u,G,ew,sq,z,hl,hl▸h3,e1,hl▸h5,hl▸h6,hh A G B u e0 e1 r1 r2 r3⟩
 have join:∀{its:List Value}{h':Heap}{A B u G1 d1},its[j]? =some u->aM g ex h' (ds.take j) (its.take j) A->Rp g ex h' d1 u G1->aM g ex h' (ds.drop (j+1)) (its.drop (j+1)) B->aM g ex h' (ds.set j d1) its (A++(G1++B)):=λ{its h' A B u G1 d1} e r1 r2 r3=>by
  obtain⟨hj,rfl⟩:=Zn.mp e;have:=aM.join r1 r2 r3 h4 hj;rwa[List.set_getElem_self]at this
 unfold D.items at e;split at e
 .cases e;obtain⟨l,its,n,G0,rfl,rfl,na,z,kk,r⟩:=p.lst_inv;refine fin (.inl (eA kk)) z r (λA G B u e0 e1 r1 r2 r3=>?_) rfl;subst e0;refine⟨hp u,F1++l::A,B++F2,⋯,r2,λh' d1 G1 q1 m=>?_⟩;have:=k h' (.lst (ds.set j d1)) (l::(A++(G1++B))) (.oY na (by rwa[pD]) (m _ _ na ⋯ kk) (join e1 (r1.keep (m.sub λa h=>by simp[h])) q1 (r3.keep (m.sub λa h=>by simp[h])))) (m.sub λa h=>by simp at h;rcases h with h | h<;>simp[h]);rw[ED q];simpa[eW,h1]using this
 .cases e;obtain⟨l,its,rfl,na,z,kk,r⟩:=p.qP;refine fin (.inr kk) z r (λA G B u e0 e1 r1 r2 r3=>?_) rfl;subst e0;refine⟨hp u,F1++A,B++F2,⋯,r2,λh' d1 G1 q1 m=>?_⟩;obtain⟨o,ko,kc,kk⟩:=kk;have:=k h' (.tup (ds.set j d1)) (A++(G1++B)) (.Bs na (by rwa[pD]) ⟨o,m _ _ na (.inr (.inl ⟨kc,_,kk⟩)) ko,kc,kk⟩ (join e1 (r1.keep (m.sub λa h=>by simp[h])) q1 (r3.keep (m.sub λa h=>by simp[h])))) (m.sub λa h=>by simp at h;rcases h with h | h<;>simp[h]);rw[ED q];simpa[eW,h1]using this
 .cases e
def Val.ext(v:Val X s i u)(x:Ex s s'):Val X s' i u:=let ⟨y,m,e,n,l⟩:=v;⟨y,m,e,n.keeps x.hp,oZ l λ_ _ _ z=>z.keeps x.hp⟩
def Val.inj(v:Val X s i u)(v':Val X s i u'):u=u':=by
 obtain⟨y,m,e,n,l⟩:=v;obtain⟨y',m',e',n',l'⟩:=v';rw[e]at e';cases e';rcases l with⟨k,l⟩ | ⟨k,c,ec,o,l1,l2⟩<;>rcases l' with⟨k',l'⟩ | ⟨k',c',ec',o',l1',l2'⟩
 .rw[n.agree n' y,l']at l;cases l;rfl
 .rw[k]at k';rcases k' with k' | k'<;>cases k'
 .rw[k']at k;rcases k with k | k<;>cases k
 .rw[ec]at ec';cases ec';rw[l1]at l1';cases l1';rw[l2]at l2';cases l2';rfl
def qH(X:Cx)(e:Expr)(x:Nat)(pf:DP):Prop:=∀ ⦃ex hs U F s d b is dm⦄,Rel X ex hs U F s->U[x]? =some (some (d,b))->pf U=some is->eG d is=some dm->wpAny X.M X.A (eval e X.env) (λw s'=>∃v Gm,Ex s s'/\Val X s' x v/\fP X.g ex s'.heap is d v (F x) dm w Gm) E0 s
def Ĕ{y:Str}(hN:X.N[x]? =some y)(h1:(y == ("__debug__" :Str))=false)(h2:(y == ("__classdict__" :Str))=false):qH X (.Name y pos) x cN:=λex hs U F s d b is dm rel q e1 e2=>by
 cases e1;cases e2;exact wpAny_Name (rel.lH q hN h2 λv hv p=>⟨v,_,.refl,hv,.nil p⟩) h1
def S0(ha:qH X a x pf)(hb:SE X b fb)(hp:L2.wI b):qH X (.Subscript a b pos) x (tR pf fb):=λex hs U F s d b' is dm rel q e1 e2=>by
 refine Ql e1 λis' e3 e1=>Ql e1 λr e4 e1=>?_;split at e1
 .rename_i i hr;cases e1;obtain⟨dn,ds,g1,g2,g3⟩:=KH e2;refine Subscript_ (aN (ha rel q e3 g1) λw s1 ⟨v,Gm,x1,val,H⟩=>aN (hb (rel.ext x1) e4) λu s2 ⟨G,p⟩=>?_);have rp:=p.rp;rw[hr]at rp;obtain⟨t,rfl⟩:=rp.int_inv;obtain⟨l,its,j,u,G',rfl,sq,z,hl,h1,h2,h3,h4,H'⟩:=(H.ext p.ext).snoc g2 g3;have z:((its.length:Nat):Int)<2^63:=by have:=rS;lia
  have fin:=AR (P:=X.g.P) (w':=X.g.w) (A:=X.A) (E:=E0) (t:=t) z sq h1 h2 h3 h4 (Q:=λw s'=>∃v Gm,Ex s s'/\Val X s' x v/\fP X.g ex s'.heap (is'++[i]) d v (F x) dm w Gm) ⟨v,G',x1.trans p.ext,val.ext p.ext,H'⟩;rcases sq with sq | sq
  .exact tail_any sq.typeIs slot_list_getitem.lookup fin (hp _ _)
  .exact tail_any sq.typeIs slot_tuple_getitem.lookup fin (hp _ _)
 .cases e1
def Rel.chg{l:Addr}{b:Bool}{h':Heap}(r:Rel X ex hs U F s)(w:hX U U')(hx:U[x]? =some (some (d,true)))(hl:l∈F x)(sb:Heap.SameBut l s.heap h')(he:∃o,h'.get? l=some o)(nt:∀o,s.heap.get? l=some o->¬tJ o)(hv:Val X s x v0)(p:Rp X.g ex h' dn v0 G)(o:Ow X hs (U'.set x (some (dn,b))) (put F x G)):Rel X ex hs (U'.set x (some (dn,b))) (put F x G) {s with heap:=h',toks:=tk}:=by
 obtain⟨nw,ap,ah⟩:=(r.ow.own x d hx).2 l hl;obtain⟨m,n,q⟩:=r.ns;have nx:l∉ex:=by obtain⟨_,_,_,_,_,_,q⟩:=r.val hx;exact(q.mem l hl).1
 have ne:∀b∈ex,b≠l:=λb m z=>nx (z▸m);have ck:∀{c v},c∈ex->s.heap.IsCell c v->h'.IsCell c v:=λm z=>z.sameBut sb (ne _ m)
 exact{r with
  bk:=λc o e=>(sb.2 c (λz=>by rw[z,r.ok.b0 l nw]at e;cases e)).trans (r.bk c o e)
  nw:=λc e=>by
   by_cases z:c=l
   .exact z▸nw
   .exact r.nw c ((sb.2 c z).symm.trans e)
  ns:=⟨m,n.sameBut sb (ne _ r.loc),λj d' b' e=>by
   rcases set_inv e with⟨rfl,e1⟩ | ⟨z,e1⟩
   .cases e1;obtain⟨y,v,h1,h2,_,pn⟩:=q j d true hx;have:v=v0:=Val.inj ⟨y,m,h1,n,h2⟩ hv;subst this;rw[pL];exact⟨y,v,h1,oZ h2 λc _ e=>ck (r.cell _ c e).1,p,pn⟩
   .obtain⟨b2,e2,_⟩:=w.2 j d' b' e1;obtain⟨y,u,h1,h2,h3,pn⟩:=q j d' b2 e2;rw[oH z];exact⟨y,u,h1,oZ h2 λc _ e=>ck (r.cell _ c e).1,h3.but sb (.inr ⟨ap j d' b2 z e2,nt⟩),pn⟩⟩
  fsl:=λb m=>let ⟨h,o,es,ep,e,d⟩:=r.fsl b m;⟨h,o,es,ep,(sb.2 b (ne b h)).trans e,d⟩
  cell:=λy c e=>let ⟨m,v,z⟩:=r.cell y c e;⟨m,v,ck m z⟩
  exl:=λb m=>let ⟨o,e⟩:=r.exl b m;⟨o,(sb.2 b (ne b m)).trans e⟩
  len:=by rw[pD,w.1,r.len]
  ow:=o
  held:=λt e=>⟨(r.held t e).1.but sb (.inr ⟨ah t e,nt⟩),(r.held t e).2⟩}
def Wn{F1 F2 Gp Gn G':LA}{l:Addr}(fn:(F1++(l::Gp++F2)).Nodup)(gn:Gn.Nodup)(dj:∀a∈Gn,a∉F1++(l::Gp++F2))(n':(Gp++Gn).Nodup->G'.Nodup)(m':∀a∈G',a∈Gp∨a∈Gn):
  (F1++(l::G'++F2)).Nodup/\l∉G'/\l∉F1++F2/\∀a∈F1++(l::G'++F2),a∈F1++(l::Gp++F2)∨a∈Gn:=by
 obtain⟨a1,a2,a3⟩:=ZU.mp fn;obtain⟨b1,b2⟩:=ZZ.mp a2;obtain⟨c1,c2,c3⟩:=ZU.mp b2;have key:∀a∈G',a∉F1/\a≠l/\a∉F2:=λa m=>(m' a m).elim (λm=>⟨λh=>a3 a h a (.tail _ (Zc _ m)) rfl,λz=>b1 (z▸Zc _ m),λh=>c3 a m a h rfl⟩) λm=>⟨λh=>dj a m (Zc _ h),λh=>dj a m (Za _ (h▸ .head _)),λh=>dj a m (Za _ (.tail _ (Za _ h)))⟩;have hn:=n' (ZU.mpr ⟨c1,gn,λa h b hb z=>dj a (z▸hb) (Za _ (.tail _ (Zc _ h)))⟩);have nl:l∉G':=λh=>(key l h).2.1 rfl;have n2:l∉F2:=λh=>b1 (Za _ h);refine⟨ZU.mpr ⟨a1,ZZ.mpr ⟨λh=>(Zf.mp h).elim nl n2,ZU.mpr ⟨hn,c2,λa h b hb z=>(key a h).2.2 (z▸hb)⟩⟩,λa h b hb z=>?_⟩,nl,λh=>(Zf.mp h).elim (λh=>a3 l h l (.head _) rfl) n2,λa h=>?_⟩
 .subst z;rcases Zj.mp hb with rfl | hb
  .exact a3 a h a (.head _) rfl
  .exact(Zf.mp hb).elim (λhb=>(key a hb).1 h) λhb=>a3 a h a (.tail _ (Za _ hb)) rfl
 .rcases Zf.mp h with h | h
  .exact .inl (Zc _ h)
  .rcases Zj.mp h with rfl | h
   .exact .inl (Za _ (.head _))
   .rcases Zf.mp h with h | h
    .exact(m' a h).imp (λh=>Za _ (.tail _ (Zc _ h))) id
    .exact .inl (Za _ (.tail _ (Za _ h)))
def Rel.write(r0:Rel X ex hs U F s0)(p:Q9 X ex U F s0 s ds1 fr M vs1 Gn)(hf:fr=true)(nd:M.Nodup)(hx:U[x]? =some (some (d,true)))(hM:x∉M)(hv:Val X s x v0)(H:fP X.g ex s.heap is d v0 (F x) (.lst ds) w' Gm):
  ∃l its n Gp,w'= .ref l/\s.heap.get? l=some (dN its n)/\ds.length<=sizeLine/\aM X.g ex s.heap ds its Gp/\∀{ds' its' G' f tk},f its.toArray=its'.toArray->ds'.length<=sizeLine->aM X.g ex s.heap ds' its' G'->((Gp++Gn).Nodup->G'.Nodup)->(∀a∈G',a∈Gp∨a∈Gn)→
   Fl X ex hs s0 (.nx ((kill M U).set x (some (eW is d (.lst ds'),true)))) .next {s with heap:=s.heap.update l (Obj.mapSeq f),toks:=tk}:=by
 obtain⟨_,F1,F2,eF,q,k⟩:=H;obtain⟨l,its,n,Gp,rfl,rfl,na,z,e,r⟩:=q.lst_inv;obtain⟨fn,fo⟩:=r0.ow.own x d hx;obtain⟨gn,gm⟩:=p.qU (i:=x) r0 hf nd;have dj:∀a∈Gn,a∉F x:=λa m h=>by
  rcases(p.fW hf (.of nd)).2 a m with z | ⟨i,hi,ai⟩
  .exact r0.has hx h z
  .obtain⟨d',ei⟩:=p.own i hi;exact((r0.ow.own i d' ei).2 a ai).2.1 x d true (λz=>hM (z▸hi)) hx h
 have hl:l∈F x:=by rw[eF];simp
 refine⟨l,its,n,Gp,rfl,e,z,r,λ{ds' its' G' f tk} hf' z' r' n' m'=>?_⟩;rw[eF]at fn dj;have e':(s.heap.update l (Obj.mapSeq f)).get? l=some (dN its' _):=hf'▸zW e f;have sb:Heap.SameBut l s.heap (s.heap.update l (Obj.mapSeq f)):= .update ..;have nt:∀o,s.heap.get? l=some o->¬tJ o:=λo h=>by rw[e]at h;cases h;simp
 obtain⟨nd',nl,nf,all⟩:=Wn fn gn dj n' m';rw[← eF]at all;have qU:∀a∈F1++(l::G'++F2),D2 X hs (kill M U) F x a:=λa m=>(all a m).elim (λm=>⟨(fo a m).1,λj d' b' h e=>let ⟨c,h',_⟩:=(pH M U).2 j d' b' e;(fo a m).2.1 j d' c h h',(fo a m).2.2⟩) λm=>(gm a m).1;have rN:=k _ (.lst ds') (l::G') (.oY na z' e' (r'.but sb (.inr ⟨nl,nt⟩))) λa o _ m h=>(sb.2 a λz=>by
  subst z;exact m.elim nf (nt o h)).trans h
 exact⟨(Fx.of p.ext).trans (.one r0.ok sb (fo l hl).1 e (λi=>i.2.2.1 rfl) (fo l hl).2.2),rfl,_,(r0.ext p.ext).chg (pH M U) hx hl sb ⟨_,e'⟩ nt hv rN ((r0.ow.weak (pH M U)).set (λa m=> .inl (qU a m).1) (λj d' h e a m m'=>(qU a m').2.1 j d' true h e m) λ_=>⟨nd',qU⟩)⟩
def Rel.UT(r0:Rel X ex hs U F s0)(p:Q9 X ex U F s0 s ds1 fr M vs1 Gn)(hx:U[x]? =some (some (.lst ds,true)))(hM:x∉M)(hv:Val X s x v0)(H:fP X.g ex s.heap [] (.lst ds) v0 (F x) (.lst ds) w' Gm):
  ∃l its n Gp,w'= .ref l/\s.heap.get? l=some (dN its n)/\ds.length<=sizeLine/\aM X.g ex s.heap ds its Gp/\∀{ds' its' G' f tk},f its.toArray=its'.toArray->ds'.length<=sizeLine->aM X.g ex s.heap ds' its' G'->(∀a∈G',a∈Gp∨a∈Gn)→
   Fl X ex hs s0 (.nx ((dH M U).set x (some (.lst ds',false)))) .next {s with heap:=s.heap.update l (Obj.mapSeq f),toks:=tk}:=by
 obtain⟨⟨_,hw⟩,F1,F2,eF,q,k⟩:=H;obtain⟨l,its,n,Gp,rfl,rfl,na,z,e,r⟩:=q.lst_inv;obtain⟨fn,fo⟩:=r0.ow.own x _ hx;have hl:l∈F x:=by rw[eF];simp
 refine⟨l,its,n,Gp,rfl,e,z,r,λ{ds' its' G' f tk} hf' z' r' m'=>?_⟩;have sh:=λ{j:Nat}{d} (e:(dH M U)[j]? =some (some (d,true)))=>r0.shr p.src e;have nl:l∉G':=λh=>(m' l h).elim (λh=>by rw[eF]at fn;exact(ZZ.mp (ZU.mp fn).2.1).1 (Zc _ h)) (sh ((Gj M U x hM).trans hx) l hl);have mem:∀a∈l::G',a∈F x∨a∈Gn:=λa m=>(Zj.mp m).elim (λh=> .inl (h▸hl)) λh=>(m' a h).imp (λh=>by rw[eF];exact Za _ (.tail _ (Zc _ h))) id;have e':(s.heap.update l (Obj.mapSeq f)).get? l=some (dN its' _):=hf'▸zW e f;have sb:Heap.SameBut l s.heap (s.heap.update l (Obj.mapSeq f)):= .update ..;have nt:∀o,s.heap.get? l=some o->¬tJ o:=λo h=>by rw[e]at h;cases h;simp
 cases hw rfl;exact⟨(Fx.of p.ext).trans (.one r0.ok sb (fo l hl).1 e (λi=>i.2.2.1 rfl) (fo l hl).2.2),rfl,_,(r0.ext p.ext).chg (iT M U) hx hl sb ⟨_,e'⟩ nt hv (.oY na z' e' (r'.but sb (.inr ⟨nl,nt⟩))) ((r0.ow.weak (iT M U)).set (λa m=>(mem a m).elim (λm=> .inl (fo a m).1) (r0.tN p.src a)) (λj d' h e a m m'=>(mem a m').elim (λm'=>let ⟨c,h',k⟩:=(iT M U).2 j d' true e;((r0.ow.own j d' (k rfl▸h')).2 a m).2.1 x _ true (Ne.symm h) hx m') (sh e a m)) nofun)⟩
end
abbrev One(X:Cx)(a:Expr)(es:List Expr):Prop:=starEach (a::es) X.env=(false,eval a X.env)::starEach es X.env
structure Mc (X:Cx) (o:Expr) (m:Str) (apos:Pos) (args:List Expr) (cpos:Pos) (id:String):Prop where
 s:Slot "list" m id
 t:typeOf (.builtin id)=pure (.type "method_descriptor")
 b:attributeBase o m X.env (eval o X.env)=eval o X.env
 f:((backTo cpos (starEach args X.env)).all (λx=> !x.1) && (backToKw cpos (keywordEach [] X.env)).all (λx=>x.1.isSome) && decide (args.length+([]:List Keyword).length+(if([]:List Keyword).isEmpty then 0 else 1)<30))=true
 l:(apos.endLine == cpos.line)=true
 p:(backTo cpos (starEach args X.env)).any (·.1)=false
 e:∀a es,args=a::es->One X a es
def Sp(X:Cx)(cpos:Pos):List Expr->(List Value->Shared->Prop)->Shared->Prop
 | [],Q,s=>Q [] s
 | a::es,Q,s=>wpAny X.M X.A (spliced (backTo cpos (starEach (a::es) X.env))) Q E0 s
section
variable {X:Cx}{ex w:LA}{hs:Hs}{U:En}{F:Ft}{s s' s1 s2:Shared}{a b c e o:Expr}{fa fi:DE}{f g:DS}{pos p apos cpos:Pos}{es args:List Expr}{x y:Nat}{d dm:D}{is:List Int}{h:Heap}{pf:DP}{i':String}
def Sp.mono(h:Sp X cpos args Q s)(k:∀vs s,Q vs s->Q' vs s):Sp X cpos args Q' s:=by
 cases args with
 | nil=>exact k _ _ h
 | cons=>exact aN h k
def Sp.cons(hs:One X a es)(h:wpAny X.M X.A (spliced (backTo cpos ((false,eval a X.env)::starEach es X.env))) Q E0 s):Sp X cpos (a::es) Q s:=by rw[← hs]at h;exact h
def Mc.call{Q:Value->Shared->Prop}(c:Mc X o m apos args cpos i')(hw:wpAny X.M X.A (eval o X.env) (λw s'=>∃v Gm,Ex s s'/\Val X s' x v/\fP X.g ex s'.heap is d v (F x) (.lst ds) w Gm) E0 s)
  (kk:∀w s1 v Gm,Ex s s1->Val X s1 x v->fP X.g ex s1.heap is d v (F x) (.lst ds) w Gm->Sp X cpos args (λvs s2=>wpAny X.M X.A (PySem.call (.builtin i') (w::vs)) Q E0 s2) s1):wpAny X.M X.A (eval (.Call (.Attribute o m apos) args [] cpos) X.env) Q E0 s:=by
 refine wpAny_Call_method_late c.b c.f c.l rfl (aN hw λw s1 ⟨v,Gm,x1,val,H⟩=>?_);obtain⟨l,its,n,G,rfl,_,_,_,e,_⟩:=H.2.choose_spec.choose_spec.2.1.lst_inv;refine⟨"list",i',K6,c.s,c.t,⟨_,e,rfl⟩,λa z=>by cases z;exact⟨_,e,rfl⟩,tU c.p ?_⟩;have q:=kk _ s1 v Gm x1 val H;cases args with
 | nil=>exact PySem.evalArgs_none q
 | cons a es=>replace q:wpAny _ _ (spliced (backTo cpos (starEach (a::es) X.env))) _ _ _:=q;rw[c.e a es rfl]at q ⊢;exact u4 q
def Mc.stmt{o':Out}(c:Mc X o m apos args cpos i')(rel:Rel X ex hs U F s)(hw:wpAny X.M X.A (eval o X.env) (λw s'=>∃v Gm,Ex s s'/\Val X s' x v/\fP X.g ex s'.heap is d v (F x) (.lst ds) w Gm) E0 s)
  (kk:∀w s1 v Gm,Ex s s1->Rel X ex hs U F s1->Val X s1 x v->fP X.g ex s1.heap is d v (F x) (.lst ds) w Gm->Sp X cpos args (λvs s2=>wpAny X.M X.A (PySem.call (.builtin i') (w::vs)) (λ_=>Fl X ex hs s1 o' .next) E0 s2) s1):wpAny X.M X.A (exec (.Expr (.Call (.Attribute o m apos) args [] cpos) pos) X.env) (Fl X ex hs s o') E0 s:=
 wpAny_Expr_any (c.call hw λw s1 v Gm x1 val H=>(kk w s1 v Gm x1 (rel.ext x1) val H).mono λvs s2 q=>aN q λ_ s3 ⟨y,q⟩=>⟨(Fx.of x1).trans y,q⟩) rel.quiet rfl
def Yp(c:Mc X o "append" apos [a] cpos "list.append")(ho:qH X o x pf)(ha:SE X a fa)(hs:One X a []):S1 X (.Expr (.Call (.Attribute o "append" apos) [a] [] cpos) pos) (lA x pf fa):=λex hs' U F s o rel e=>by
 unfold lA at e;split at e
 .rename_i d hx;refine Ql e λis e2 e=>Ql e λr0 e1 e=>?_;split at e
  .rename_i ds hp;split at e
   .rename_i hc;simp only[Ze,decide_eq_true_eq]at hc;obtain⟨c1,c2,c3⟩:=Xu hc.1;cases e;refine c.stmt rel (ho rel hx e2 hp) λw s1 v Gm x1 r1 val H=>?_;refine Sp.cons hs (ZJ (aN (ha r1 e1) λvn s2 ⟨Gn,p⟩=>ZY ?_));obtain⟨l,its,n,Gp,rfl,e,z,r,k⟩:=r1.write p.norm c1 c2 hx c3 (val.ext p.ext) (H.ext p.ext);exact call_meets c.s ⟨_,e,rfl⟩ PySem.F.entry_list_append (PySem.F.args_list_append_2 _ _) (Fk l its.toArray n vn (by rw[Zk,← r.len];exact z)) ⟨e,k (its':=its++[vn]) ⋯ (by rw[Zm];exact hc.2) (r.app p.rp) id λa m=>Zf.mp m⟩
   .cases e
  .cases e
 .cases e
def C5{its:List Value}(e:s.heap.get? l=some (dN its n))(z:its.length<=sizeLine)(h1:L2.kI its.length i=some j)(q:Q () {s with heap:=s.heap.update l (Obj.mapSeq (·.setIfInBounds j v))}):wpAny (model P w') A (setItem (.ref l) (.int i t) v) Q E s:=by
 obtain⟨h2,h3,h4,h5⟩:=L2.tV h1;have:=rS;by_cases h0:0<=i
 .rw[seqIndex_of h0 h5]at h2;exact PySem.W.ki_setAt e h0 ⋯ (by rw[Zk];exact h5) (by rw[Option.some.inj h2];exact q)
 .rw[seqIndex_neg ⋯ h4]at h2;exact PySem.W.ki_setBack e ⋯ (by rw[Zk];exact h4) ⋯ (by rw[Zk,Option.some.inj h2];exact q)
def aM.put{g:Gb}(r:aM g ex h ds vs Gp)(q:Rp g ex h d v Gn)(hj:j<ds.length):∃G',aM g ex h (ds.set j d) (vs.set j v) G'/\((Gp++Gn).Nodup->G'.Nodup)/\∀a∈G',a∈Gp∨a∈Gn:=by
 obtain⟨F1,G,F2,u,rfl,e1,r1,_,r3⟩:=r.split (Zt hj);refine⟨F1++(Gn++F2),.join r1 q r3 hj (r.len▸hj),λn=>?_,λa m=>?_⟩
 .simp only[ZU,Zf]at n ⊢
  grind
 .simp only[Zf]at m ⊢
  grind
def Y6(ha:SE X e fa)(ho:qH X o x pf)(hi:SE X i fi)(hs:swapsWithSole [.Subscript o i p] e pos.line X.env=pure false)(hw:swappedStores [.Subscript o i p] e X.env=pure none)
  (hA:∀v,assign (.Subscript o i p) X.env v=(do
   let ov ← holding [v] (eval o X.env)
   let iv ← holding [v,ov] (eval i X.env)
   standAt p
   holding [v,ov,iv] (setItem ov iv v)
   release [v,ov,iv] [])) (h1:(assignEach [.Subscript o i p] X.env).map (·.2)=[assign (.Subscript o i p) X.env]):S1 X (.Assign [.Subscript o i p] e pos) (gC x pf fi fa):=λex hs' U F s o rel e=>by
 refine Ql e λr0 e1 e=>?_;split at e
 .rename_i d hx;refine Ql e λis e2 e=>Ql e λri e3 e=>?_;split at e
  .rename_i k ds hk hp;refine Ql e λj e4 e=>?_;refine wpAny_Assign_stores (aN (ha rel e1) λvn s1 ⟨Gn,p⟩=>?_) hs hw;rw[h1];show wpAny _ _ (assign _ _ _) _ _ _;rw[hA];have r1:=rel.ext p.ext;refine wpAny_bind (wpAny_holding (aN (ho r1 hx e2 hp) λw s2 ⟨v,Gm,x2,val,H⟩=>wpAny_bind (wpAny_holding (aN (hi (r1.ext x2) e3) λiv s3 ⟨Gi,pi⟩=>wpAny_bind (wpAny_standAt (wpAny_bind (wpAny_holding ?_)))))));have x3:=x2.trans pi.ext;have ri':=pi.rp;rw[hk]at ri';obtain⟨t,rfl⟩:=ri'.int_inv;have p3:=p.more x3;split at e
   .rename_i hc;simp only[Ze,decide_eq_true_eq,ZT]at hc;cases e;obtain⟨l,its,n,Gp,rfl,e,z,r,k⟩:=rel.write p3.norm hc.1.1 hc.1.2 hx (λz=>by rw[EM.mpr z]at hc;cases hc.2) (val.ext pi.ext) (H.ext pi.ext);obtain⟨G',q1,q2,q3⟩:=r.put p3.rp (L2.tV e4).2.1;exact C5 e (r.len▸z) (r.len▸e4) (wpAny_release (k (its':=its.set j vn) ⋯ (by rwa[pD]) q1 q2 q3))
   .split at e
    .rename_i hc;simp only[Ze,ZT,FF]at hc;cases e;obtain⟨rfl,hc⟩:=hc;cases hp;obtain⟨l,its,n,Gp,rfl,e,z,r,k⟩:=rel.UT p3.norm hx (λz=>by rw[EM.mpr z]at hc;cases hc) (val.ext pi.ext) (H.ext pi.ext);obtain⟨G',q1,q2,q3⟩:=r.put p3.rp (L2.tV e4).2.1;exact C5 e (r.len▸z) (r.len▸e4) (wpAny_release (k (its':=its.set j vn) ⋯ (by rwa[pD]) q1 q3))
    .cases e
  .cases e
 .cases e
def Wf(ho':Op X (inplaceOp op) g')(ha:SE X e fa)(ho:qH X o x pf)(hi:SE X i fi)
  (hA:∀ov iv new,augStore i ov iv new=(do holding [new,ov,iv] (setItem ov iv new);release [new,ov,iv] [];pure .next)):S1 X (.AugAssign (.Subscript o i p) op e pos) (pM g' x pf fi fa):=λex hs U F s o rel e=>by
 unfold pM at e;split at e
 .rename_i d hx;refine Ql e λis e2 e=>Ql e λri e3 e=>?_;split at e
  .rename_i k ds hk hp;refine Ql e λj e4 e=>Ql e λold e5 e=>Ql e λrv e6 e=>?_;obtain⟨new,e7,rfl⟩:=Zd.mp e;refine wpAny_AugAssign_SubscriptAny (aN (ho rel hx e2 hp) λw s2 ⟨v,Gm,x2,val,H⟩=>aN (hi (rel.ext x2) e3) λiv s3 ⟨Gi,pi⟩=>?_) hA;have x3:=x2.trans pi.ext;have ri':=pi.rp;rw[hk]at ri';obtain⟨t,rfl⟩:=ri'.int_inv;have at3:L2.eU ds k=some old:=by unfold L2.eU;rw[e4];exact e5
   obtain⟨l,its,j',u,G,rfl,sq,z,hl,h1,h2,h3,h4,Ho⟩:=(H.ext pi.ext).snoc rfl at3;refine AR (by have:=rS;lia) sq h1 h2 h3 h4 (aN (ha (rel.ext x3) e6) λy s4 ⟨Gy,py⟩=>?_);have x4:=x3.trans py.ext;refine aN (ho' (rel.ext x4) e7 (Ho.2.choose_spec.choose_spec.2.1.ext py.ext) py.rp) λz s5 ⟨y5,pz⟩=>?_;have x5:=pi.ext.trans (py.ext.trans y5);obtain⟨l',its',n,Gp,el,e,z',r,k⟩:=rel.write (.flat (x2.trans x5) .nil) rfl .nil hx nofun (val.ext x5) (H.ext x5)
   cases el;obtain⟨G',q1,q2,q3⟩:=r.put pz (L2.tV e4).2.1;exact C5 e (r.len▸z') (r.len▸e4) (k (its':=its'.set j z) ⋯ (by rwa[pD]) q1 q2 q3)
  .cases e
 .cases e
def J0{o':Out}(c:Mc X o "extend" apos [a] cpos "list.extend")(ha:SE X a fa)(hs:One X a [])(rel:Rel X ex hs' U F s)(ho:∀{d b is dm},U[x]? =some (some (d,b))->pf U=some is->eG d is=some dm->wpAny X.M X.A (eval o X.env) (λw s'=>∃v Gm,Ex s s'/\Val X s' x v/\fP X.g ex s'.heap is d v (F x) dm w Gm) E0 s)(e:oI x pf fa U=some o'):wpAny X.M X.A (exec (.Expr (.Call (.Attribute o "extend" apos) [a] [] cpos) pos) X.env) (Fl X ex hs' s o') E0 s:=by
 unfold oI at e;split at e
 .rename_i d hx;refine Ql e λis e2 e=>Ql e λr0 e1 e=>?_;split at e
  .rename_i ds es hp hr;split at e
   .rename_i hc;simp only[Ze,decide_eq_true_eq]at hc;cases e;refine c.stmt rel (ho hx e2 hp) λw s1 v Gm x1 r1 val H=>Sp.cons hs (ZJ (aN (ha r1 e1) λvn s2 ⟨Gn,p⟩=>ZY ?_));have q:=p.rp;rw[hr]at q;obtain⟨b,its',n',G',rfl,rfl,_,_,eb,r'⟩:=q.lst_inv;have:G'=[]:=r'.jE hc.1;subst this;obtain⟨l,its,n,Gp,rfl,e,z,r,k⟩:=r1.write (.flat p.ext .nil) rfl .nil hx nofun (val.ext p.ext) (H.ext p.ext)
    have hl:=r.len;have hl':=r'.len;have hsz:its.toArray.size+its'.toArray.size<=sizeLine:=by rw[Zk,Zk];lia
    exact call_meets c.s ⟨_,e,rfl⟩ PySem.F.entry_list_extend (PySem.F.args_list_extend_2 _ _) (AutoSeq1.list_extend_list_list_0 l its.toArray n b its'.toArray n' (by rw[L2.GD hsz,Al];exact ZL) ⋯ ⋯)
     ⟨e,eb,k (its':=its++its') ⋯ (by rw[Zm];exact hc.2) (r.app r') id λa m=> .inl (by rwa[Zo]at m)⟩
   .cases e
  .cases e
 .cases e
def á(c:Mc X o "extend" apos [a] cpos "list.extend")(ho:qH X o x pf)(ha:SE X a fa)(hs:One X a []):S1 X (.Expr (.Call (.Attribute o "extend" apos) [a] [] cpos) pos) (oI x pf fa):=λex hs' U F s o rel e=>J0 c ha hs rel (λh1 h2 h3=>ho rel h1 h2 h3) e
end
noncomputable def dO(X:Cx)(N':List Str)(scope:Scope)(cl:List (Str×Addr))(C:Addr)(h:Heap):Cx:=
 {X with N:=N',h0:=h,A0:=λ_=>True,io:=false,pin:=none,fs:=[],env:=compEnvC scope cl C X.env,fn:=λx=>decide (scope.names.lookup x=some .cell)}
structure nR (X:Cx) (N':List Str) (scope:Scope):Prop where
 nd:N'.Nodup
 kind:scope.kind= .function
 own:∀y∈scope.names,y.2= .cell->scope.names.lookup y.1=some .cell
 loc:∀y∈scope.names,y.2= .local ->scope.names.lookup y.1=some .local
 free:∀y∈scope.names,y.2= .free->X.env.kindOf y.1=some .cell∨X.env.kindOf y.1=some .free
structure pA (X:Cx) (N':List Str) (scope:Scope) (cap:List (Option Nat)):Prop where
 len:cap.length=N'.length
 get:∀(j i:Nat),cap[j]? =some (some i)->∃x,N'[j]? =some x/\scope.names.lookup x=some .free/\X.N[i]? =some x/\(X.env.kindOf x=some .cell∨X.env.kindOf x=some .free)
def l5(X:Cx)(ifs:List Expr)(f:DT):Prop:=∀ ⦃ex hs U F s b⦄,Rel X ex hs U F s->f U=some b→
 wpAny X.M X.A (forIn ifs true λc r=>if r=true then do let ok ← isTrue c X.env (eval c X.env);pure (ForInStep.yield ok)else pure (ForInStep.yield r)) (λc s'=>c=b/\Ex s s') E0 s
structure Bk (wr:LA) (D C:Addr) (cs:List (Str×Addr)) (s2 s':Shared):Prop where
 k2:∀a o,a∉wr->s2.heap.get? a=some o->s'.heap.get? a=some o
 os:s'.os=s2.os
 br:AllBare s'.gens
 ns:∃m,s'.heap.Ns C m
 ce:∀x c,cs.lookup x=some c->∃v,s'.heap.IsCell c v
 wr:∀b∈wr,∃o,s'.heap.get? b=some o
 d:∃o,s'.heap.get? D=some o
section
variable {X:Cx}{ex wr:LA}{hs ts:Hs}{U:En}{F:Ft}{s s' s1 s2:Shared}{elt tg iter:Expr}{ifs:List Expr}{fe:DE}{ft:DT}{fi:DI}{pos p:Pos}{scope:Scope}{N':List Str}{cl:List (Str×Addr)}{cap:List (Option Nat)}{t:Tg}
def Om:l5 X [] QJ:=λex hs U F s b rel e=>by cases e;exact wpAny_tests_nil ⟨rfl,.refl⟩
def Y9(h:ST X c ft):l5 X [c] ft:=λex hs U F s b rel e=>wpAny_tests_one (h rel e)
noncomputable abbrev qB(cap:List (Option Nat))(U:En)(F:Ft):Ft:=λj=>match cap[j]? with
 | some (some i)=>(match U[i]? with
  | some (some _)=>F i
  | _=>[])
 | _=>[]
def JN{i b':_}(h1:cap[j]? =some (some i))(h2:U[i]? =some (some (d,b'))):qB cap U F j=F i:=by simp only[qB,h1,h2]
noncomputable abbrev lJ(names:List (Str×NameKind))(cs:List (Str×Addr))(C:Addr):LA:=(names.filterMap λy=>cs.lookup y.1).filter λc=>decide (C<c)
def block{D C:Addr}{h3:Heap}{cs:List (Str×Addr)}(rel:Rel X ex hs U F s)(S:nR X N' scope)(K:pA X N' scope cap)(hc1:∀x c,cl.lookup x=some c->X.env.cells.lookup x=some c)(hc2:∀y∈scope.names,y.2= .free->∃c,cl.lookup y.1=some c)
  (x:Ex s s2) (no:∀b∈wr,s.heap.get? b=none) (ht:∀t∈ts,Rp X.g (wr++ex) s2.heap t.1 t.2.1 t.2.2) (hD:D=s2.heap.objs.size) (hC:C=D+1) (hh:h3=s2.heap.push (dN [] 0)) (hcs:cs=cellsFrom (C+1) scope.names cl) (B:Bk wr D C cs s2 s'):
  Rel (dO X N' scope cs C h3) ((D::C::lJ scope.names cs C)++(wr++ex)) ts (iX cap U) (qB cap U F) s':=by
 have old:∀{a o},s.heap.get? a=some o->s'.heap.get? a=some o:=λ{a o} e=>B.k2 a o (λm=>by rw[no a m]at e;cases e) (x.hp a o e);have cl0:∀x c,cl.lookup x=some c->c∈ex/\c<D:=λx' c e=>let ⟨m,v,o,q,_⟩:=rel.cell x' c (hc1 x' c e);⟨m,hD▸ZC (x.hp c o q)⟩;have look:∀x c,cs.lookup x=some c->cl.lookup x=some c∨(C+1<=c/\(x,NameKind.cell)∈scope.names):=hcs▸L2.q7 scope.names _ cl;have big:∀{c:Nat},D<=c->s2.heap.get? c=none:=λh=>Zv (hD▸h);have nW:∀b∈D::C::lJ scope.names cs C,s2.heap.get? b=none:=bF (big (Zu _)) (bF (big ⋯) λb m=>big (by have:=of_decide_eq_true (mH.mp m).2;lia));have up:∀{ds vs G},aM X.g (wr++ex) s2.heap ds vs G->aM X.g ((D::C::lJ scope.names cs C)++(wr++ex)) s'.heap ds vs G:=λp=>(p.grow nW).keep λa o n _=>B.k2 a o λm=>n (Za _ (Zc _ m));have dat:∀{ds vs G},aM X.g ex s.heap ds vs G->aM X.g ((D::C::lJ scope.names cs C)++(wr++ex)) s'.heap ds vs G:=λp=>up ((p.grow no).ext x);have flat:∀(j:Nat) d,(iX cap U)[j]? =some (some (d,true))->qB cap U F j=[]:=λj d e=>by
  obtain⟨i,b',h1,h2⟩:=Ie e;obtain⟨_,_,_,_,_,_,p⟩:=rel.val h2;rw[JN h1 h2];exact p.jE (oM (AO cap U j d e))
 exact
  {ok:=
   {mod:=rel.ok.mod
    fo:=nm
    nd:=S.nd
    kind:=S.kind
    glob:=rel.ok.glob
    blt:=rel.ok.blt
    inj:=by
     show ∀x y c,cs.lookup x=some c->cs.lookup y=some c->x=y;rw[hcs];exact L2.Ef scope.names _ cl (λx y c h1 h2=>rel.ok.inj x y c (hc1 x c h1) (hc1 y c h2)) λx c e=>by have:=(cl0 x c e).2;lia
    has:=λy hy=>by
     show ∃c,cs.lookup y=some c;rw[hcs];obtain⟨k,hm,hk⟩:=L2.Hf hy;rcases hk with rfl | rfl
     .exact L2.yT scope.names _ cl y (hc2 _ hm rfl)
     .exact L2.DM scope.names _ cl y hm
    hd:=rel.ok.hd
    b0:=λa h=>by
     show X.g.base.get? a=none;cases e:X.g.base.get? a with
     | none=>rfl
     | some o=>
      have:h3.get? a=some o:=hh▸Zb _ (x.hp a o (rel.bk a o e));rw[show h3.get? a=none from h]at this;cases this
    new:=by
     have:∀c,C<=c->h3.get? c=none:=λc h=>Zv (by rw[hh,ZF];lia);refine⟨this C (Zu _),λy c e1 e2=>this c ?_⟩;have e2:cs.lookup y=some c:=e2;have:=L2.B7 scope.names _ cl y c (pY (of_decide_eq_true e1)) (hcs▸e2);lia}
   bk:=λa o e=>old (rel.bk a o e)
   br:=B.br
   nw:=λa e=>by
    show h3.get? a=none;cases q:h3.get? a with
    | none=>rfl
    | some o=>
     rw[hh]at q;by_cases z:a=D
     .obtain⟨o',q'⟩:=B.d;rw[z,q']at e;cases e
     .by_cases m:a∈wr
      .obtain⟨o',q'⟩:=B.wr a m;rw[q']at e;cases e
      .rcases Heap.get?_push_cases q with⟨q,_⟩ | q
       .exact absurd (q.trans hD.symm) z
       .rw[B.k2 a o m q]at e;cases e
   fsl:=nm
   ns:=by
    obtain⟨m,hm⟩:=B.ns;refine⟨m,hm,λj d b e=>?_⟩;obtain⟨i,b',h1,h2⟩:=Ie e;obtain⟨y,v,m',e1,n,l,p⟩:=rel.val h2;obtain⟨x',g1,g2,g3,g4⟩:=K.get j i h1;rw[g3]at e1;cases e1;refine⟨y,v,g1,.inr ⟨L2.Ep g2,?_⟩,by rw[JN h1 h2];exact⟨dat p,nofun⟩⟩;rcases l with⟨k,_⟩ | ⟨_,c,ec,o,oc,od⟩
    .rcases g4 with z | z<;>(rw[k]at z;cases z)
    .obtain⟨c',ec'⟩:=L2.yT scope.names (C+1) cl y (hc2 (y,.free) (pY g2) rfl);rw[← hcs]at ec';rcases look y c' ec' with q | ⟨_,q⟩
     .have:=hc1 y c' q;rw[ec]at this;cases this;exact⟨c,ec',o,old oc,od⟩
     .have:=S.own _ q rfl;rw[g2]at this;cases this
   cell:=λy c e=>by
    refine⟨?_,B.ce y c e⟩;rcases look y c e with q | ⟨q,h⟩
    .exact Za _ (Za _ (cl0 y c q).1)
    .exact Zc _ (.tail _ (.tail _ (mH.mpr ⟨ZV.mpr ⟨_,h,e⟩,decide_eq_true q⟩)))
   loc:= .tail _ (.head _)
   exl:=λb m=>(Zf.mp m).elim (bF (P:=λb=>∃o,s'.heap.get? b=some o) B.d (bF (let ⟨_,o,_,_,q,_⟩:=B.ns;⟨o,q⟩) λb m=>by
    obtain⟨y,_,e⟩:=ZV.mp (mH.mp m).1;obtain⟨_,o,q,_⟩:=B.ce y.1 b e;exact⟨o,q⟩) b) λm=>(Zf.mp m).elim (B.wr b) λm=>let ⟨o,e⟩:=rel.exl b m;⟨o,old e⟩
   exb:=λb m=>(Zf.mp m).elim (λm=>rel.tF (x.no (nW b m))) λm=>(Zf.mp m).elim (λm=>rel.tF (no b m)) (rel.exb b)
   len:=by rw[show(dO X N' scope cs C h3).N=N' from rfl,← K.len];exact Zh ..
   ow:=⟨λj d e=>by rw[flat j d e];exact⟨.nil,nm⟩,λ_ _ _ _ _ _=> .inr trivial⟩
   hnb:=nofun
   held:=λt m=>⟨up (ht t m),λ_ _=> .inr trivial⟩}
def Bk.mv{D C:Addr}{w:LA}{h':Heap}(B:Bk wr D C cs s2 s')(k:∀b o,b∉w->s'.heap.get? b=some o->h'.get? b=some o)(h1:C∉w)(h2:∀x c,cs.lookup x=some c->c∉w)(h3:∀a o,s2.heap.get? a=some o->a∈w->a∈wr)(h4:∀b∈wr,∃o,h'.get? b=some o)(h5:∃o,h'.get? D=some o):Bk wr D C cs s2 {s' with heap:=h',toks:=tk}:=
 ⟨λa o n e=>k a o (λm=>n (h3 a o e m)) (B.k2 a o n e),B.os,B.br,let ⟨m,q⟩:=B.ns;⟨m,q.at λo e=>k C o h1 e⟩,λx c e=>let ⟨v,o,q,r⟩:=B.ce x c e;⟨v,o,k c o (h2 x c e) q,r⟩,h4,h5⟩
def WU{i j:Nat}(h1:cap[j]? =some (some i))(h2:U[i]? =some (some (d,true)))(h3:d.flat=false):i∈vQ cap U:=
 ZV.mpr ⟨some i,ZK h1,by simp only[Option.bind_some,h2,h3];rfl⟩
def Pa{a:Addr}(rel:Rel X ex hs U F s)(h:a∈qB cap U F j):∃i d b,U[i]? =some (some (d,b))/\a∈F i/\(b=true->i∈M++vQ cap U):=by
 unfold qB at h;split at h
 .rename_i i hi;split at h
  .rename_i db hdb;obtain⟨d,b⟩:=db;refine⟨i,d,b,hdb,h,λhb=>Za _ ?_⟩;subst hb;obtain⟨_,_,_,_,_,_,p⟩:=rel.val hdb;refine WU hi hdb ?_;cases hf:d.flat with
   | false=>rfl
   | true=>rw[p.jE (oM hf)]at h;cases h
  .cases h
 .cases h
def Oq(h:i∈vQ cap U):∃d,U[i]? =some (some (d,true)):=by
 obtain⟨o,_,e⟩:=ZV.mp h;refine Ql e λi' e1 e=>?_;split at e
 .rename_i d b hd;split at e
  .rename_i hb;cases e;simp only[Ze]at hb;exact⟨d,hb.1▸hd⟩
  .cases e
 .cases e
def Kj{use:Option (Value->Sem Unit)}{QV:Value->Shared->Prop}{cp:Pos}(S:nR X N' scope)(K:pA X N' scope cap)(hi:SI X tg iter fi)(hin:∀cs C h,SG (dO X N' scope cs C h) tg t/\l5 (dO X N' scope cs C h) ifs ft/\SE (dO X N' scope cs C h) elt fe)(hf:∀x,foldedSetIterable iter X.env x=pure x)(rel:Rel X ex hs U F s)(e:Qz fi t cap ft fe U=some r)
  (fin:∀D C s' G,eH X ([C]++ex) U F s s' r (.ref D) G->s.heap.get? C=none->(∃m,s'.heap.Ns C m)->compPost X.M X.A E0 use QV (.ref D) C (.ok .next) s'):
  wpAny X.M X.A (comprehension (.ListComp elt [⟨tg,iter,ifs,0⟩] scope pos) scope X.env cp (newList []) false (eval iter X.env) use) QV E0 s:=by
 obtain⟨cl,hcl,hc1,hc2⟩:=L2.Dr λy hy hf=>rel.ok.has y.1 (S.free y hy hf);refine Ql e λir e1 e=>?_;obtain⟨⟨xs,f⟩,ef,er⟩:=Zd.mp e;refine wpAny_comprehension_free rfl hf hcl S.kind S.loc (aN (hi rel e1) λv s1 h=>aN h λit s2 ⟨I,fp,wr,T,P,St,ts,e2,x,tr,st,no,hT,ht,own,z,yld,_⟩=>?_);subst e2;refine wpAny_newObj_type (L2.Hn λh4 hns keep hown=>?_);generalize hh:s2.heap.push {cls:= .type "list",dict:=none,data:= .seq ([]:List Value).toArray}=h3 at hns keep hown ⊢;have hC:h3.objs.size=s2.heap.objs.size+1:=by rw[← hh,ZF]
 generalize hC':h3.objs.size=C at hC hns keep hown ⊢;generalize hD:s2.heap.objs.size=D at hC ⊢;generalize hcs:cellsFrom (C+1) scope.names cl=cs at hown ⊢;have blk:∀{s'},Bk wr D C cs s2 s'->Rel (dO X N' scope cs C h3) ((D::C::lJ scope.names cs C)++(wr++ex)) ts (iX cap U) (qB cap U F) s':=λB=>block rel S K hc1 hc2 x no (λt m=>(ht t m).1) hD.symm hC hh.symm hcs.symm B;obtain⟨hg,hts,he⟩:=hin cs C h3;have wl:∀i h,St i h->∀b∈wr,∃o,h.get? b=some o:=λi h st b m=>let ⟨o,e,_⟩:=tr.obj i h st b (tr.sub b m);⟨o,e⟩;have big:∀{c:Nat},D<=c->s2.heap.get? c=none:=λh=>Zv (hD▸h);have nwr:∀{c:Nat},D<=c->c∉wr:=λh m=>by obtain⟨o,e⟩:=wl 0 _ st _ m;rw[big h]at e;cases e
 have cl0:∀x c,cl.lookup x=some c->c∉wr/\c<D/\∃v,s2.heap.IsCell c v:=λx' c e=>let ⟨m,v,q⟩:=rel.cell x' c (hc1 x' c e);⟨λh=>rel.iO (no c h) m,let ⟨o,q,_⟩:=q;hD▸ZC (x.hp c o q),v,q.keeps x.hp⟩;have look:∀x c,cs.lookup x=some c->cl.lookup x=some c∨(C+1<=c/\(x,NameKind.cell)∈scope.names):=hcs▸L2.q7 scope.names _ cl;have cwr:∀x c,cs.lookup x=some c->c∉wr/\c≠D:=λx c e=>(look x c e).elim (λe=>⟨(cl0 x c e).1,kR (cl0 x c e).2.1⟩) λe=>⟨nwr ⋯,⋯⟩;have eX:∀{a o},s2.heap.get? a=some o->h3.get? a=some o:=λe=>hh▸Zb _ e;have d3:h3.get? D=some (dN [] 0):=by rw[← hh,← hD];exact Zi _ rfl
 have old:∀{s' a o},Bk wr D C cs s2 s'->s.heap.get? a=some o->s'.heap.get? a=some o:=λ{s' a o} B e=>B.k2 a o (λm=>by rw[no a m]at e;cases e) (x.hp a o e);have B4:Bk wr D C cs s2 {s2 with heap:=h4}:=⟨λa o _ e=>keep a o (eX e),rfl,x.br rel.br,⟨_,hns⟩,λx' c e=>(look x' c e).elim (λe=>let ⟨_,_,v,o,q,r⟩:=cl0 x' c e;⟨v,o,keep c o (eX q),r⟩) λq=>⟨none,hown (λx c e=>by have:=(cl0 x c e).2.1;lia) x' c e q.1⟩,λb m=>let ⟨o,e⟩:=wl 0 _ st b m;⟨o,keep b o (eX e)⟩,⟨_,keep D _ d3⟩⟩;have sDC:D∉[C]++ex:=λm=>(Zf.mp m).elim (λm=>by have:=Zg.mp m;lia) (rel.iO (x.no (big (Zu _))));have loop:codeAny X.M X.A (.compLoop (.ListComp elt [⟨tg,iter,ifs,0⟩] scope pos) 0 (.ref I) (.ref D) (compEnvC scope cs C X.env)) (compPost X.M X.A E0 use QV (.ref D) C) {s2 with heap:=h4}:=by
  refine L2.WB (λn s'=>∃i its nn ys g G,n+i=ir.items.length/\Bk wr D C cs s2 s'/\St i s'.heap/\s'.heap.get? D=some (dN its nn)/\(ir.items.drop i).foldlM (nV t ft fe (iX cap U)) (ys,g)=some (xs,f)/\ys.length<=i/\aM X.g ((D::C::lJ scope.names cs C)++(wr++ex)) s'.heap ys its G/\Src U F s (ir.M++vQ cap U) G/\(g=true->G.Nodup/\∀a∈G,s.heap.get? a=none)) ?_ _
   ⟨0,[],0,[],true,[],rfl,B4,tr.frame _ _ _ st λb _ o e=>keep b o (eX e),keep D _ d3,ef,Zu _,.nil,nm,λ_=>⟨.nil,nm⟩⟩
  rintro n s5 ⟨i,its,nn,ys,g,G,hn,B5,st5,d5,ef5,ly,p5,sr5,fr5⟩;cases n with
  | zero=>
   rw[show ir.items.drop i=[]from Be ⋯]at ef5;cases ef5;have:i=ir.items.length:= ⋯
   subst this;refine aN (tr.done s5 (compPost X.M X.A E0 use QV (.ref D) C (.ok .next)) st5 λh' tk k=>?_) λr s6 ⟨q,h⟩=>by subst q;exact h
   have x6:Ex s {s5 with heap:=h',toks:=tk}:=⟨λa o e=>k a o (λm=>by rw[no a m]at e;cases e) (old B5 e),B5.os.trans x.os,λ_=>B5.br⟩;have rp:Rp X.g ([C]++ex) h' (.lst xs) (.ref D) (D::G):= .oY sDC (ZE ly z) (k D _ (nwr (Zu _)) d5) ((p5.keep λa o n _=>k a o λm=>n (Za _ (Zc _ m))).less λb m=>(Zf.mp m).elim (λm=> .tail _ (Zg.mp m▸ .head _)) λm=>Za _ (Za _ m));have nD:s.heap.get? D=none:=x.no (big (Zu _));refine fin D C _ (D::G) ?_ (x.no (big ⋯)) (let ⟨m,q⟩:=B5.ns;⟨m,q.at λo e=>k C o (nwr ⋯) e⟩);cases f
   .cases er;exact⟨x6,rp,λa m=>(Zj.mp m).elim (λm=> .inl (m▸nD)) (sr5 a),nofun,λi m=>(Zf.mp m).elim (own i) Oq⟩
   .cases er;obtain⟨n1,n2⟩:=fr5 rfl;have nw:∀a∈D::G,s.heap.get? a=none:=bF nD n2;exact⟨x6,rp,λa m=> .inl (nw a m),λ_ _=>⟨ZZ.mpr ⟨λm=>(p5.mem D m).1 (.head _),n1⟩,λa m=> .inl (nw a m)⟩,nm⟩
  | succ n=>
   have lt:i<ir.items.length:= ⋯
   rw[uT lt,Ac]at ef5;refine Ql ef5 λacc1 hstep hrest=>Ql hstep λU1 eb hstep=>Ql hstep λc ec hstep=>?_;have sh1:kN U1:=(AO cap U).bind eb;refine aN (tr.turn i s5 (λv s6=>∃G0,Bk wr D C cs s2 s6/\St (i+1) s6.heap/\s6.heap.get? D=some (dN its nn)/\aM X.g ((D::C::lJ scope.names cs C)++(wr++ex)) s6.heap ys its G/\Rp X.g ((D::C::lJ scope.names cs C)++(wr++ex)) s6.heap ir.items[i] v G0/\∀a∈G0,∃t∈ts,a∈t.2.2) lt st5 λv h' tk p st6 k=>?_) λr s6 ⟨v,q,h⟩=>?_
   .have B6:=B5.mv (tk:=tk) k (nwr ⋯) (λx c e=>(cwr x c e).1) (λ_ _ _ m=>m) (wl _ _ st6) ⟨_,k D _ (nwr (Zu _)) d5⟩;obtain⟨G0,q0,m0⟩:=yld _ i v s5 h' _ p st6 (blk B5).exl (λt m=>((blk B6).held t m).1) (Zt lt);exact⟨G0,B6,st6,k D _ (nwr (Zu _)) d5,p5.keep λa o n _=>k a o λm=>n (Za _ (Zc _ m)),q0,m0⟩
   .subst q;refine aN h λ_ s6 ⟨G0,B6,st6,d6,p6,q0,m0⟩=>?_;have r6:=blk B6;refine aN (hg r6 q0 (λa m=>⟨.inr trivial,λj d e h=>?_⟩) eb) λ_ s7 ⟨x7,F7,r7,m7,k7⟩=>aN (hts r7 ec) λok s8 ⟨q,x8⟩=>?_
    .obtain⟨_,_,_,_,_,_,p⟩:=r6.val e;rw[p.jE (oM (AO cap U j d e))]at h;cases h
    subst q;have back:∀{s'},Ex s8 s'->Bk wr D C cs s2 s'/\St (i+1) s'.heap/\s'.heap.get? D=some (dN its nn)/\aM X.g ((D::C::lJ scope.names cs C)++(wr++ex)) s'.heap ys its G:=λ{s'} y=>by
     have y7:=x8.trans y;have r:=r7.ext y7;have kk:∀a o,(∃o',h3.get? a=some o')->s6.heap.get? a=some o->s'.heap.get? a=some o:=λa o ⟨o',e'⟩ e=>y7.hp a o (x7.hp a o e λn=>n.elim (λn=>by rw[show h3.get? a=none from n]at e';cases e') λn=>n.elim (λn=>nomatch n.1) nofun)
     exact⟨⟨λa o n e=>kk a o ⟨o,eX e⟩ (B6.k2 a o n e),y7.os.trans (x7.os.trans B6.os),r.br,let ⟨m,q,_⟩:=r.ns;⟨m,q⟩,λx c e=>(r.cell x c e).2,λb m=>r.exl b (Za _ (Zc _ m)),r.exl D (.head _)⟩,
      tr.frame _ _ _ st6 λb m o e=>kk b o (let ⟨o,e,_⟩:=tr.obj _ _ st b m;⟨o,eX e⟩) e,kk D _ ⟨_,d3⟩ d6,(p6.keep λa o n _=>k7 a o n).ext y7⟩
    cases ok with
    | false=>
     cases hstep;obtain⟨B8,st8,d8,p8⟩:=back .refl;exact⟨n,ZW n,i+1,its,nn,ys,g,G,⋯,B8,st8,d8,hrest,⋯,p8,sr5,fr5⟩
    | true=>
     obtain⟨rr,er',rfl⟩:=Zd.mp hstep;refine aN (he (r7.ext x8) er') λy s9 ⟨G1,p9⟩=>?_;obtain⟨B8,_,_,p8⟩:=back .refl;obtain⟨B9,st9,d9,q9⟩:=back p9.ext;have sb:Heap.SameBut D s9.heap (s9.heap.update D (Obj.mapSeq λxs=>xs.push y)):= .update ..;have e':(s9.heap.update D (Obj.mapSeq λxs=>xs.push y)).get? D=some (dN (its++[y]) _):=(List.push_toArray its y)▸zW d9 λxs=>xs.push y;have kd:∀b o,b≠D->s9.heap.get? b=some o->(s9.heap.update D (Obj.mapSeq λxs=>xs.push y)).get? b=some o:=λb o n e=>(sb.2 b n).trans e
     refine call_meets DC ⟨_,d9,rfl⟩ PySem.F.entry_list_append (PySem.F.args_list_append_2 _ _) (Fk D its.toArray nn y (by rw[Zk,← q9.len];lia)) ⟨d9,n,ZW n,i+1,its++[y],_,ys++[rr.d],g && rr.norm.fr,G++G1,⋯,
      B9.mv (w:=[D]) (tk:=s9.toks) (λb o m=>kd b o λz=>m (z▸ .head _)) (λm=>by have:=Zg.mp m;lia) (λx c e m=>(cwr x c e).2 (Zg.mp m)) (λa o e m=>by rw[Zg.mp m,big (Zu _)]at e;cases e) (λb m=>let ⟨o,e⟩:=B9.wr b m;⟨o,kd b o (λz=>nwr (Zu _) (z▸m)) e⟩) ⟨_,e'⟩,
      tr.frame _ _ _ st9 λb m o e=>kd b o (λz=>by obtain⟨o,e,_⟩:=tr.obj _ _ st b m;rw[z,big (Zu _)]at e;cases e) e,e',hrest,by rw[Zm];exact Nat.succ_le_succ ly,(q9.but sb (.inl (.head _))).app (p9.rp.but sb (.inl (.head _))),λa m=>(Zf.mp m).elim (sr5 a) λm=>?_,λhg=>?_⟩
     .rcases p9.src a m with z | ⟨j,d,b,_,hj,_⟩
      .refine .inl ?_;cases q:s.heap.get? a with
       | none=>rfl
       | some o=>rw[old B8 q]at z;cases z
      .rcases m7 j a hj with w | w
       .exact .inr (Pa rel w)
       .obtain⟨t,h1,h2⟩:=m0 a w;exact((ht t h1).2 a h2).imp id λ⟨i,d,b,e,m,k⟩=>⟨i,d,b,e,m,λh=>Zc _ (k h)⟩
     .rw[Ze]at hg;have none7:∀i∈rr.norm.M,∀a,a∉F7 i:=λi m a h=>by
       obtain⟨d,e⟩:=p9.norm.own i m;obtain⟨_,_,_,_,_,_,p⟩:=r7.val e;rw[p.jE (oM (sh1 i d e))]at h;cases h
      obtain⟨n1,n2⟩:=fr5 hg.1;obtain⟨n3,n4⟩:=p9.norm.fW hg.2 λi a h=>Nat.le_of_lt_succ (vH (by
       by_cases m:i∈rr.norm.M
       .exact absurd h (none7 i m a)
       .rw[List.count_eq_zero.mpr m];exact Nat.one_pos))
      have n5:∀a∈G1,s8.heap.get? a=none:=λa m=>(n4 a m).elim id λ⟨i,m,h⟩=>absurd h (none7 i m a);refine⟨ZU.mpr ⟨n1,n3,λa m b m' z=>?_⟩,λa m=>(Zf.mp m).elim (n2 a) λm=>?_⟩
      .subst z;obtain⟨_,o,q⟩:=p8.mem a m;rw[n5 a m']at q;cases q
      .cases q:s.heap.get? a with
       | none=>rfl
       | some o=>have:=n5 a m;rw[old B8 q]at this;cases this
 exact codeAny_compStart_list loop (any (tr.self 0 _ _ (tr.frame _ _ _ st λb _ o e=>keep b o (eX e)) loop))
def Fx.trans'{C:Addr}{h':Heap}(x:Fx X hs s s1)(nC:s.heap.get? C=none)(sb:Heap.SameBut C s1.heap h'):Fx X hs s {s1 with heap:=h'}:=⟨λa o e i=>(sb.2 a λz=>by rw[z,nC]at e;cases e).trans (x.hp a o e i),x.os,x.br,λa m o e=>let ⟨sl,e1⟩:=x.fr a m o e;⟨sl,(sb.2 a λz=>by rw[z,nC]at e;cases e).trans e1⟩⟩
def KO(S:nR X N' scope)(K:pA X N' scope cap)(hi:SI X tg iter fi)(hin:∀cs C h,SG (dO X N' scope cs C h) tg t/\l5 (dO X N' scope cs C h) ifs ft/\SE (dO X N' scope cs C h) elt fe)(hf:∀x,foldedSetIterable iter X.env x=pure x):SE X (.ListComp elt [⟨tg,iter,ifs,0⟩] scope pos) (Qz fi t cap ft fe):=λex hs U F s r rel e=>by
 rw[eval_ListComp];exact Kj S K hi hin hf rel e λD C s' G p nC ⟨m,hm⟩=>⟨m,hm,λh' sb=>⟨G,⟨λa o q=>(sb.2 a λz=>by rw[z,nC]at q;cases q).trans (p.ext.hp a o q),p.ext.os,p.ext.br⟩,(p.rp.but sb (.inl (.head _))).less λ_=> .tail _,p.src,p.fW,p.own⟩⟩
def Î{x:Str}{spos:Pos}(sl:Sl X x i)(S:nR X N' scope)(K:pA X N' scope cap)(hi:SI X tg iter fi)(hin:∀cs C h,SG (dO X N' scope cs C h) tg t/\l5 (dO X N' scope cs C h) ifs ft/\SE (dO X N' scope cs C h) elt fe)(hf:∀x,foldedSetIterable iter X.env x=pure x):S1 X (.Assign [.Name x p] (.ListComp elt [⟨tg,iter,ifs,0⟩] scope pos) spos) (Qm i (Qz fi t cap ft fe)):=by
 obtain⟨b,hb⟩:∃b,swapsWith (.ListComp elt [⟨tg,iter,ifs,0⟩] scope pos) (some (.Name x p)) spos.line X.env=pure b:=⟨_,rfl⟩;cases b with
 | false=>exact Ea (KO S K hi hin hf) sl hb
 | true=>
  intro ex hs U F s o rel e;refine Ql e λr e1 e=>?_;cases e;rw[exec_Assign_Name_used _ _ _ _ hb];refine wpAny_bind (wpAny_standAt (wpAny_bind ?_));show wpAny _ X.A (do let _ ← comprehension (.ListComp elt [⟨tg,iter,ifs,0⟩] scope pos) scope X.env _ (newList []) false (eval iter X.env) (some (assign (.Name x p) X.env))) _ _ s;refine wpAny_bind (aN (Kj S K hi hin hf rel e1 λD C s' G p nC ⟨m,hm⟩=>?_) λ_ s' hq=>wpAny_pure (wpAny_pure hq));obtain⟨U1,b,e,w,o⟩:=p.asg (i:=i) rel;have cl:∀c∈[C],s.heap.get? c=none:=λc m=>Zg.mp m▸nC;have li:∀c∈[C],∃o,s'.heap.get? c=some o:=λc m=>let ⟨o,_,_,q,_⟩:=hm;⟨o,Zg.mp m▸q⟩;have r1:Rel X ([C]++ex) hs U F s':=rel.into (w:=[C]) (ts:=[]) (M:=[]) p.ext cl li nm (λ_=>nm);refine wpAny_assign_Name (r1.store w sl p.rp o λs2 x2 r2 ⟨q,_,hq,sb⟩=>⟨m,hm.sameBut sb λz=>?_,λh' sb'=>⟨((Fx.of p.ext).trans x2).trans' nC sb',rfl,_,e▸rel.turn (tk:=s2.toks) (w':=[]) cl r2 (λb o n h=>(sb'.2 b λz=>n (z▸ .head _)).trans h) nm⟩⟩);rcases hq with hq | ⟨y,hq⟩
  .exact rel.iO nC (z▸hq▸rel.loc)
  .exact rel.iO nC (z▸(rel.cell y q hq).1)
end
structure q8 (g:Gb) (ex:LA) (s:Shared):Prop where
 mod:L2.Mod g.K g.mg g.base
 bk:∀a o,g.base.get? a=some o->s.heap.get? a=some o
 br:AllBare s.gens
 exl:∀b∈ex,∃o,s.heap.get? b=some o
 exb:∀b∈ex,g.base.get? b=none
structure jQ (K:bK) (x qual:Str) (st:Stmt) (f:Addr) (fd:FuncData):Prop where
 ex:∃(oc:Value) (od:Option Addr) (dV kV doc pm:Value) (an:Option Addr) (cdv ct:Value) (osl:Array (Option Value)),fd=PySem.W.fnOf x qual (L2.jV st) (L2.QE st) (L2.Qp st) dV kV doc pm an cdv ct/\K.lookup f=some ⟨oc,od,.func fd,osl⟩/\PySem.W.codeIn K cdv qual=true
def jQ.of{K:bK}{x qual:Str}{st:Stmt}{f:Addr}{fd:FuncData}(F:L2.oW K x qual st f fd):jQ K x qual st f fd:=let ⟨oc,od,kV,doc,pm,an,cdv,ct,osl,h⟩:=F.ex;⟨oc,od,.none,kV,doc,pm,an,cdv,ct,osl,h⟩
def Tells(g:Gb)(ex:LA)(s:Shared)(G:LA)(d:D)(fr:Bool)(v:Value)(s':Shared):Prop:=Ex s s'/\∃G',Rp g ex s'.heap d v G'/\(∀a∈G',s.heap.get? a=none∨a∈G)/\(fr=true->G'.Nodup/\∀a∈G',s.heap.get? a=none)
structure Rm (c:Bool) (k:Nat) (A:Around):Prop where
 hd:c=true->A.handled=none
 dp:A.depth+3*k+5<recursionLimit
 un:A.units+16*k+200<cLine
def Rm.of{A:Around}{c:Bool}(r:L2.cC k A):Rm c k A:=⟨λ_=>r.hd,r.dp,r.un⟩
def Rm.mono{j k:Nat}{A:Around}{c:Bool}(r:Rm c k A)(h:j<=k):Rm c j A:=⟨r.hd,by have:=r.dp;lia,by have:=r.un;lia⟩
def Rm.deeper{k:Nat}{A:Around}{c:Bool}(r:Rm c (k+1) A)(env:Env):Rm c k (A.deeper env):=
 ⟨r.hd,by have:=r.dp;show A.depth+1+3*k+5<_;lia,by have:=r.un;show A.units+3+16*k+200<_;lia⟩
def Rm.units{A:Around}{c:Bool}(r:Rm c k A):A.units+64<cLine:=by have:=r.un;lia
def Fn(g:Gb)(c:Bool)(k:Nat)(f:Addr)(fd:FuncData)(ps:List Str)(den:aC):Prop:=∀ ⦃A s ex args us ds G d fr⦄,Rm c k A->q8 g ex s->BindsTo s fd args (ps.zip us)->aM g ex s.heap ds us G->ds.length=ps.length->den ds=some (d,fr)→
 codeAny (model g.P g.w) A (.call (.ref f) args) (λr s'=>∃v,r= .ok (.ret v)/\Tells g ex s G d fr v s') s
def Kn(g:Gb)(c:Bool)(k:Nat)(x:Str)(r:gN):Prop:=∃f fd ps,Fn g c k f fd ps r.den/\ps.length=r.n/\g.mg x=some (.ref f)/\PySem.W.keepIn g.K (.ref f)=true/\∀m,m<=r.dfl.length->∃dvs,L2.Binds g.K fd ps dvs/\∀ex h,aM g ex h (r.dfl.drop (r.dfl.length-m)) dvs []
section
variable {X:Cx}{ex:LA}{hs:Hs}{U:En}{F:Ft}{s s' s1:Shared}{a:Expr}{es:List Expr}{fs:DA}{pos p:Pos}{x:Str}{g:Gb}{k n:Nat}{c:Bool}{f:Addr}{fd:FuncData}{ps:List Str}{den:aC}
def Rel.bM(r:Rel X ex hs U F s):q8 X.g ex s:=⟨r.ok.mod,r.bk,r.br,r.exl,r.exb⟩
def q8.bH(r:q8 g ex s):g.K.In s.heap:=r.mod.bH.keeps r.bk
def Fn.call{Q:Value->Shared->Prop}(hF:Fn X.g c k f fd ps den)(hr:Rm c k X.A)(rel:Rel X ex hs U F s)(hb:L2.Binds X.g.K fd ps dvs)(r:aM X.g ex s.heap ds us G)(rd:aM X.g ex s.heap dfl dvs [])(hl:(ds++dfl).length=ps.length)(hd:den (ds++dfl)=some (d,fr))
  (q:∀v s',Tells X.g ex s G d fr v s'->Q v s'):wpAny X.M X.A (call (.ref f) us) Q E0 s:=by
 have r2:=r.app rd;rw[Zo]at r2;refine wpAny_call (codeAny_mono (hF hr rel.bM (hb s us rel.bM.bH (by rw[← r2.len];exact hl)) r2 hl hd) λr s' ⟨v,e,t⟩=>?_);subst e;exact q v s' t
def Tells.post{ra:RA}(p:Q9 X ex U F s s1 ra.ds ra.fr ra.M us G)(t:Tells X.g ex s1 G d fr v s'):∃G',eH X ex U F s s' (if fr=true then⟨d,true,[]⟩else R.norm ⟨d,false,ra.M⟩) v G':=by
 obtain⟨x,G',r,m,n⟩:=t;refine⟨G',?_⟩;split
 .rename_i h;obtain⟨n1,n2⟩:=n h;exact⟨p.ext.trans x,r,λa h=> .inl (p.ext.no (n2 a h)),λ_ _=>⟨n1,λa h=> .inl (p.ext.no (n2 a h))⟩,nm⟩
 .exact Q9.norm (r:=⟨d,false,ra.M⟩) (p.sub x r (λa h=>(m a h).symm) nofun)
def Y3{r:gN}(K:Kn X.g c k x r)(hr:Rm c k X.A)(hg:Gl X x)(hd:(x == ("__debug__" :Str))=false)(hm:r.n<=es.length+r.dfl.length/\es.length<=r.n)(ha:SA X es fs)(he:∀a es',es=a::es'->One X a es'/\(backTo pos (starEach es' X.env)).any (·.1)=false)(h0:es=[]->fs=Qq):
  SE X (.Call (.Name x p) es [] pos) (Qh r.n r.den (r.dfl.drop (r.dfl.length-(r.n-es.length))) fs):=λex hs U F s rr rel e=>by
 obtain⟨f,fd,ps,hF,hn,hmg,hk,hb⟩:=K;obtain⟨dvs,hb,rd⟩:=hb (r.n-es.length) ⋯;refine Ql e λra e1 e=>?_;split at e
 .rename_i h1;obtain⟨⟨d,fr⟩,e2,rfl⟩:=Zd.mp e;have go:∀us s1,(∃G,Q9 X ex U F s s1 ra.ds ra.fr ra.M us G)->X.g.K.In s1.heap/\wpAny X.M X.A (call (.ref f) us) (λv s'=>∃G,eH X ex U F s s' (if(d,fr).2=true then⟨(d,fr).1,true,[]⟩else R.norm ⟨(d,fr).1,false,ra.M⟩) v G) E0 s1:=λus s1 ⟨G,p⟩=>
   ⟨(rel.ext p.ext).bM.bH,hF.call hr (rel.ext p.ext) hb p.rp (rd _ _) (by rw[Zm,hn];exact h1) e2 λv s' t=>t.post p⟩
  refine wpAny_Call_Name_kw (rel.glob hg hmg ?_ hd);cases es with
  | nil=>
   cases h0 rfl;cases e1;exact PySem.W.callWith_K0 rel.bM.bH hk (go [] s ⟨[],.nil⟩).2
  | cons a es=>exact pC (first:=[]) (h₀:=X.g.base) rel.ok.mod.bH hk (aN (ha pos rel e1) go) (he a es rfl).1 (he a es rfl).2
 .cases e
def aM.parts{h:Heap}:∀{ds:List D}{vs L},aM g ex h ds vs L->∃Fs:Ft,(∀i a,a∈Fs i->a∈L)/\∀(i:Nat) d,ds[i]? =some d->∃v,vs[i]? =some v/\Rp g ex h d v (Fs i)
 | [],_,_,r=>⟨λ_=>[],nofun,nofun⟩
 | d::ds,_,_,r=>by
  obtain⟨v,vs,G,F',rfl,rfl,p,q⟩:=r.inv;obtain⟨Fs,h1,h2⟩:=q.parts;refine⟨λ | 0=>G | i+1=>Fs i,λi a m=>?_,λi d' e=>?_⟩
  .cases i with
   | zero=>exact Zc _ m
   | succ i=>exact Za _ (h1 i a m)
  .cases i with
   | zero=>cases e;exact⟨v,rfl,p⟩
   | succ i=>exact h2 i d' e
noncomputable def mZ(g:Gb)(N:List Str)(qual:Str)(scope:Scope)(f:Addr)(cd:Value)(A:Around)(s:Shared)(G:LA)(io:Bool:=false)(pin:Option (Nat×Addr):=none)(fs:LA:=[]):Cx where
 g:=g
 A:=A.deeper (envOfC qual scope s.heap.objs.size f cd)
 N:=N
 h0:=s.heap
 A0:=(· ∈G)
 env:=envOfC qual scope s.heap.objs.size f cd
 fn:=λ_=>true
 calm:=decide (A.handled=none)
 io:=io
 pin:=pin
 fs:=fs
def enter{io:Bool}{pin:Option (Nat×Addr)}{fs:LA}{N:List Str}{qual:Str}{scope:Scope}{f:Addr}{cd:Value}{A:Around}(S:L2.mT N ps scope)(e0:q8 g ex s)(hl:ds.length=ps.length)(r:aM g ex s.heap ds us G)(hpn:∀i a,pin=some (i,a)->us[i]? =some (.ref a))(hfs:∀b∈fs,b∈ex/\∃o es ep,s.heap.get? b=some o/\o.data= .dict es ep)
  (x:InCallC s s.heap.objs.size (bindL (envOfC qual scope s.heap.objs.size f cd).kindOf (ps.zip us) λ_=>none) (cellsFrom (s.heap.objs.size+1) scope.names []) (bindC (envOfC qual scope s.heap.objs.size f cd).kindOf (ps.zip us) λ_=>none) s1):
  ∃F w,Rel (mZ g N qual scope f cd A s G io pin fs) (w++ex) [] (Qy N.length ds) F s1:=by
 obtain⟨h1,tk,rfl,hk⟩:=x.done;obtain⟨Fs,f1,f2⟩:=r.parts;have hpl:ps.length<=N.length:=by have:=congrArg List.length S.pre;rw[pP]at this;lia
 have ndP:ps.Nodup:=by rw[← S.pre];exact S.nd.sublist (List.take_sublist _ _)
 have big:∀{c:Nat},s.heap.objs.size<=c->s.heap.get? c=none:=λh=>Zv h;have cb:∀y c,(cellsFrom (s.heap.objs.size+1) scope.names []).lookup y=some c->s.heap.get? c=none:=λy c h=>big (Nat.le_of_lt (x.above y c (pY h)));have nW:∀b∈s.heap.objs.size::scope.names.filterMap λy=>(cellsFrom (s.heap.objs.size+1) scope.names []).lookup y.1,s.heap.get? b=none:=bF Q2 λb m=>let ⟨y,_,e⟩:=ZV.mp m;cb y.1 b e;have inN:∀y c,(cellsFrom (s.heap.objs.size+1) scope.names []).lookup y=some c->∃k,(y,k)∈scope.names:=λy c h=>by
  rcases L2.q7 scope.names _ [] y c h with z | ⟨_,z⟩
  .cases z
  .exact⟨_,z⟩
 exact⟨Fs,_,
  {ok:=
   {mod:=e0.mod
    fo:=λb m z=>by
     obtain⟨_,o,es,ep,e,_⟩:=hfs b m;rw[show s.heap.get? b=none from z]at e;cases e
    nd:=S.nd
    kind:=S.kind
    glob:=rfl
    blt:=rfl
    inj:=λy z c h1 h2=>name_of_addr x.apart (pY h1) (pY h2)
    has:=λy hy=>hy.elim L2.Ma λhy=>absurd rfl (S.nofree _ (pY hy))
    hd:=of_decide_eq_true
    b0:=λa h=>by
     show g.base.get? a=none;cases e:g.base.get? a with
     | none=>rfl
     | some o=>have:=e0.bk a o e;rw[show s.heap.get? a=none from h]at this;cases this
    new:=⟨Q2,λy c _ h=>cb y c h⟩}
   bk:=λa o e=>hk a o (e0.bk a o e)
   br:=e0.br
   nw:=λa e=>by
    show s.heap.get? a=none;cases q:s.heap.get? a with
    | none=>rfl
    | some o=>rw[hk a o q]at e;cases e
   ns:=⟨_,x.toInCall.ns,λi d b e=>by
    obtain⟨e1,_⟩:=ID e;obtain⟨v,e2,p⟩:=f2 i d e1;have hi:i<ps.length:=hl▸(Zn.mp e1).1;have hp:ps[i]? =some ps[i]:=Zt hi;refine⟨ps[i],v,?_,?_,(p.grow nW).keep λa o _ _=>hk a o,λa h=>by have:=hpn i a h;rw[e2]at this;cases this;rfl⟩
    .show N[i]? =_;rw[← hp];conv=>rhs;rw[← S.pre]
     rw[List.getElem?_take_of_lt hi]
    .rcases S.par _ (DV hi)with k | k
     .exact .inl ⟨k,L2.K7 ndP hp e2 k⟩
     .obtain⟨c,e⟩:=L2.Ma (n:=s.heap.objs.size+1) k;refine .inr ⟨.inl k,c,e,?_⟩;have q:=x.cell _ c e;rw[L2.Ll ndP hp e2 (by show scope.names.lookup _≠_;rw[k];decide)]at q;exact q⟩
   fsl:=λb m=>let ⟨h,o,es,ep,e,d⟩:=hfs b m;⟨Za _ h,o,es,ep,hk b o e,d⟩
   cell:=λy c e=>⟨Zc _ (.tail _ (let ⟨k,m⟩:=inN y c e;ZV.mpr ⟨(y,k),m,e⟩)),_,x.cell y c e⟩
   loc:= .head _
   exl:=λb m=>(Zf.mp m).elim (bF (P:=λb=>∃o,h1.get? b=some o) (let ⟨o,_,_,q,_⟩:=x.toInCall.ns;⟨o,q⟩) (λb m=>let ⟨y,_,e⟩:=ZV.mp m;let ⟨o,q,_⟩:=x.cell y.1 b e;⟨o,q⟩) b) λm=>let ⟨o,q⟩:=e0.exl b m;⟨o,hk b o q⟩
   exb:=λb m=>(Zf.mp m).elim (λm=>by
    show g.base.get? b=none;cases e:g.base.get? b with
    | none=>rfl
    | some o=>have:=e0.bk b o e;rw[nW b m]at this;cases this) (e0.exb b)
   len:=by show(Qy N.length ds).length=N.length;unfold Qy;simp;lia
   ow:=⟨λi d e=>by
    obtain⟨e1,e2⟩:=ID e;obtain⟨v,_,p⟩:=f2 i d e1;rw[p.jE (oM e2.symm)];exact⟨.nil,nm⟩,λi d b e a m=> .inr (f1 i a m)⟩
   hnb:=λ_=>nm
   held:=nm}⟩
def LR{x qual:Str}{st:Stmt}{gs:DS}(Fu:jQ g.K x qual st f fd)(S:L2.mT (namesOf (L2.Qp st)) ps (L2.Qp st))(hb:∀cdv A s G,Rm c k (A.deeper (envOfC qual (L2.Qp st) s.heap.objs.size f cdv))->SS (mZ g (namesOf (L2.Qp st)) qual (L2.Qp st) f cdv A s G) (L2.QE st) gs):
  Fn g c (k+1) f fd ps (Qt (namesOf (L2.Qp st)).length gs):=λA s ex args us ds G d fr hr e0 hbi r hl hd=>by
 obtain⟨oc,od,dV,kV,doc,pm,an,cdv,ct,osl,rfl,lk,hcd⟩:=Fu.ex;refine Ql hd λo ho hd=>?_;have hkind:∀y∈ps.zip us,(L2.Qp st).names.lookup y.1=some .local ∨((L2.Qp st).names.lookup y.1=some .cell/\((cellsFrom (s.heap.objs.size+1) (L2.Qp st).names []).lookup y.1).isSome=true):=λZ hy=>by
  obtain⟨n,v⟩:=Z;exact(S.par n (rW hy).1).imp id λq=>⟨q,t9 _ _ _ (.inl q)⟩
 refine codeAny_call_function (by have:=hr.dp;lia) (e0.bH _ _ lk) rfl S.co S.gen rfl (sY e0.bH hcd) (hbi _ _ _ _ (wpAny_newFunctionEnv_cells S.kind hkind λenv he s1 x=>?_));subst he;refine⟨(e0.mod.nolimit.keeps e0.bk).keeps x.toInCall.keep,codeAny_func ?_⟩;obtain⟨F,w,rel⟩:=enter (io:=false) (pin:=none) (fs:=[]) (A:=A) (qual:=qual) (f:=f) (cd:=cdv) S e0 hl r nofun nm x
 obtain⟨h1,tk,rfl,hk⟩:=x.done;refine any (aN (hb cdv A s G (hr.deeper _) rel ho) λfl s' ⟨y,q⟩=>?_);have ex':Ex s s':=⟨λa o e=>y.hp a o (hk a o e) λn=>n.elim (λn=>by rw[show s.heap.get? a=none from n]at e;cases e) λn=>n.elim (λn=>nomatch n.1) nofun,y.os,y.br⟩;cases o with
 | nx U=>cases hd;obtain⟨rfl,_⟩:=q;exact⟨_,rfl,ex',[],.aT,nm,λ_=>⟨.nil,nm⟩⟩
 | bk U=>cases hd
 | ct U=>cases hd
 | rt d' fr'=>cases hd;obtain⟨v,G',rfl,q | ⟨_,_,_,_,_,_,h,_⟩⟩:=q;exact⟨v,rfl,ex',G',q.rp.less λ_=>Za _,q.src,q.fW⟩;cases h
def Fn.mono{j:Nat}(h:Fn g c j f fd ps den)(hk:j<=k):Fn g c k f fd ps den:=λA s ex args us ds G d fr hr=>h (hr.mono hk)
def Kn.mono{j:Nat}{r:gN}(h:Kn g c j x r)(hk:j<=k):Kn g c k x r:=let ⟨f,fd,ps,q,m⟩:=h;⟨f,fd,ps,q.mono hk,m⟩
def Tab(g:Gb)(k:Nat)(Γ:List (Str×gN))(c:Bool:=true):Prop:=∀x r,look x Γ=some r->Kn g c k x r
end
section
variable {X:Cx}{ex:LA}{hs:Hs}{U:En}{F:Ft}{s:Shared}{a b c:Expr}{fa fb fc:DE}{pos p pos':Pos}{es:List Expr}{x:Str}
def Z3{P:Program}{w:World}{A:Around}(hh:A.handled=none)(z TI TO i1 i2 i3 l1 l2 l3:Addr)(D:L2.w6 z TI TO i1 i2 i3)(O1:L2.Off z TO i1 i2 i3 l1)(O2:L2.Off z TO i1 i2 i3 l2)(O3:L2.Off z TO i1 i2 i3 l3)(xs ys zs:Array Value)(h1:ys.size=xs.size)(h2:zs.size=xs.size):
  WalksT P w A z [z,TI,TO,i1,i2,i3,l1,l2,l3] [z,TO,i1,i2,i3] xs.size (λi vals=>∃x y u,xs[i]? =some x/\ys[i]? =some y/\zs[i]? =some u/\vals= #[x,y,u])
   (λi h=>IsZip h z TI TO .none/\L2.d7 h TI (.ref i1) (.ref i2) (.ref i3)/\(∃a b c,L2.d7 h TO a b c)/\h.IsListIter i1 l1 i/\h.IsListIter i2 l2 i/\h.IsListIter i3 l3 i/\h.IsList l1 xs/\h.IsList l2 ys/\h.IsList l3 zs)
   (λi T h=>(IsZip h z TI TO (rawInt T)/\L2.d7 h TI (.ref i1) (.ref i2) (.ref i3)/\(∃a b c,L2.d7 h TO a b c)/\h.IsListIter i1 l1 (i+1)/\h.IsListIter i2 l2 (i+1)/\h.IsListIter i3 l3 (i+1)/\h.IsList l1 xs/\h.IsList l2 ys/\h.IsList l3 zs)/\T∉[z,TO,i1,i2,i3]) where
 sub:= ⋯
 frame:=λi h h' ⟨a1,a2,⟨p,q,r,a3⟩,a4,a5,a6,a7,a8,a9⟩ k=>by
  simp only[List.forall_mem_cons]at k;obtain⟨k1,k2,k3,k4,k5,k6,k7,k8,k9,_⟩:=k;exact⟨k1 _ a1,k2 _ a2,⟨p,q,r,k3 _ a3⟩,a4.at k4,a5.at k5,a6.at k6,a7.at k7,a8.at k8,a9.at k9⟩
 item:=λi s Q E hi ⟨a1,a2,⟨p,q,r,a3⟩,a4,a5,a6,a7,a8,a9⟩ hQ=>by
  have lt:∀{c o},s.heap.get? c=some o->s.heap.objs.size≠c:=λe=>kU (ZC e);have li:∀{c l i},s.heap.IsListIter c l i->s.heap.objs.size≠c:=λ⟨_,e,_⟩=>lt e;refine L2.UZ D O1 O2 O3 a1 a2 a3 a4 a5 a6 a7 a8 a9 (ZD hi) (ZD (h1▸hi)) (ZD (h2▸hi)) λh' b1 b2 b3 b4 b5 b6 b7 k=>?_;have kl:∀{l its},L2.Off z TO i1 i2 i3 l->s.heap.IsList l its->h'.IsList l its:=λO y=>y.at λo e=>k _ o O.1 O.2.1 O.2.2.1 O.2.2.2.1 O.2.2.2.2 e;refine hQ _ _ h' s.toks ⟨_,_,_,ZD hi,ZD (h1▸hi),ZD (h2▸hi),rfl⟩ (Zu _) ⟨_,b6,rfl,_,rfl⟩ ⟨⟨b1,k _ _ D.TIz D.TITO D.TIi1 D.TIi2 D.TIi3 a2,⟨_,_,_,b2⟩,b3,b4,b5,kl O1 a7,kl O2 a8,kl O3 a9⟩,?_⟩ λc o hc e=>?_
  .simp only[Zj,q6,or_false,not_or];exact⟨lt a1,lt a3,li a4,li a5,li a6⟩
  .simp only[Zj,q6,or_false,not_or]at hc;exact k c o hc.1 hc.2.1 hc.2.2.1 hc.2.2.2.1 hc.2.2.2.2 e
 go:=λelts k pos i T s Q E ⟨⟨a1,a2,⟨p,q,r,a3⟩,a4,a5,a6,a7,a8,a9⟩,_⟩ hQ=>by
  refine wpAny_letOwnedTupleGo_zip a1 λh' hz hs'=>hQ h' ⟨hz,hs'.extBut _ _ D.TIz a2,⟨p,q,r,hs'.extBut _ _ D.TOz a3⟩,a4.extBut hs'.extBut D.i1z,a5.extBut hs'.extBut D.i2z,a6.extBut hs'.extBut D.i3z,a7.extBut hs'.extBut O1.1,a8.extBut hs'.extBut O2.1,a9.extBut hs'.extBut O3.1⟩ λc o hc e=>hs'.extBut _ _ (λx=>hc (x▸ .head _)) e
 apart:=λi T h hm=>hm.2
 done:=λs Q E ⟨a1,a2,_,a4,_,_,a7,_⟩ hQ=>L2.Pf hh D O1.1 a1 a2 a4 a7 (Array.getElem?_eq_none (Zu _)) λh' k=>hQ h' s.toks λc o hc e=>k c o (λx=>hc (x▸ .head _)) (λx=>hc (x▸ .tail _ (.tail _ (.head _)))) e
 self:=λi s Q E st hQ=>wpAny_pyIter_zip st.1 hQ
def NI(hc:X.calm=true)(hio:X.io=false)(cb:Cb X x (.type "zip") a [b,c] pos)(hb':One X b [c])(hc':One X c [])(ha:SE X a fa)(hb:SE X b fb)(hc3:SE X c fc):SI X (.Tuple es kk pos') (.Call (.Name x p) [a,b,c] [] pos) (FE fa fb fc):=λex hs U F s ir rel e=>by
 refine Ql e λr e1 e=>Ql e λr' e2 e=>Ql e λr'' e3 e=>?_;refine cb.call rel (aN (fA ha (fA hb (fA hc3 jT hc') hb') cb.e pos rel (dc e1 (dc e2 (dc e3 rfl)))) λvs s1 ⟨G,p⟩=>?_);obtain⟨v,vs,G1,G2,rfl,rfl,q,qs⟩:=p.rp.inv;obtain⟨v',vs,G2,G3,rfl,rfl,q',qs⟩:=qs.inv;obtain⟨v'',rfl,q''⟩:=qs.one;split at e
 .rename_i xs ys zs h h' h'';rw[h]at q;rw[h']at q';rw[h'']at q'';split at e
  .rename_i hn;cases e;obtain⟨l,its,n,L1,rfl,rfl,_,z,k,r1⟩:=q.lst_inv;obtain⟨l',its',n',L4,rfl,rfl,_,z',k',r2⟩:=q'.lst_inv;obtain⟨l'',its'',n'',L3,rfl,rfl,_,z'',k'',r3⟩:=q''.lst_inv;have lt:=ZC k;have lt':=ZC k';have lt'':=ZC k'';have n1:=r1.len;have n2:=r2.len;have n3:=r3.len;have off:∀l,l<s1.heap.objs.size->L2.Off (s1.heap.objs.size+5) (s1.heap.objs.size+4) s1.heap.objs.size (s1.heap.objs.size+1) (s1.heap.objs.size+2) l:=λl h=>by refine⟨?_,?_,?_,?_,?_⟩<;>lia
   have kl:∀{h':Heap}{l n} {its:List Value},s1.heap.get? l=some (dN its n)->(∀c o,s1.heap.get? c=some o->h'.get? c=some o)->h'.IsList l its.toArray:=λk hk=>(eA k).at λo e=>hk _ o e
   refine L2.Ya (eA k) (eA k') (eA k'') λh' hz h1 h2 i1 i2 i3 hk=>wpAny_pyIter_zip hz (iQ.tup (CD hio) (T:=[l,l',l'']) (ts:=[(.lst xs,.ref l,l::L1),(.lst ys,.ref l',l'::L4),(.lst zs,.ref l'',l''::L3)]) (s:=s1)
    (Z3 (rel.ok.hd hc) _ _ _ _ _ _ l l' l'' (by constructor<;>lia) (off l lt) (off l' lt') (off l'' lt'') its.toArray its'.toArray its''.toArray (by rw[Zk,Zk];lia) (by rw[Zk,Zk];lia))
    (λi h ⟨a,b,⟨_,_,_,c⟩,d,d',d'',e,e',e''⟩=>bF (kD a rfl ⋯ ∅) (bF (kD b rfl ⋯ ∅) (bF (kD c rfl ⋯ ∅) (bF (sD d) (bF (sD d') (bF (sD d'') (bF (sM e (.head _)) (bF (sM e' (.tail _ (.head _))) (bF (sM e'' (.tail _ (.tail _ (.head _)))) nm)))))))))
    ⟨hz,h1,⟨_,_,_,h2⟩,i1,i2,i3,kl k hk,kl k' hk,kl k'' hk⟩ (.of (t':=s1.toks) hk) (bF (Zv ⋯) (bF (Zv ⋯) (bF Q2 (bF (Zv ⋯) (bF (Zv ⋯) nm)))))
    (by rw[J5 hn.1 hn.2,Zk,n1]) (by rw[J5 hn.1 hn.2];exact z) (bF ⟨_,.head _,.head _⟩ (bF ⟨_,.tail _ (.head _),.head _⟩ (bF ⟨_,.tail _ (.tail _ (.head _)),.head _⟩ nm))) (bF ⟨q,λa m=>?_⟩ (bF ⟨q',λa m=>?_⟩ (bF ⟨q'',λa m=>?_⟩ nm))) p.ext (by have:=p.own;simpa using this) λ_ i vals h' d ⟨y,y',y'',e1,e1',e1'',e2⟩ ⟨_,_,_,_,_,_,kl,kl',kl''⟩ hh e=>?_)
   .have:=p.src a (Zc _ m);simpa using this
   .have:=p.src a (Za _ (Zc _ m));simpa using this
   .have:=p.src a (Za _ (Za _ m));simpa using this
   .obtain⟨d1,d2,d3,g1,g2,g3,rfl⟩:=UM e;obtain⟨M1,q1,m1⟩:=(hh _ (.head _)).at kl g1 e1;obtain⟨M2,q2,m2⟩:=(hh _ (.tail _ (.head _))).at kl' g2 e1';obtain⟨M3,q3,m3⟩:=(hh _ (.tail _ (.tail _ (.head _)))).at kl'' g3 e1'';subst e2;exact⟨_,_,rfl,Bc rfl,q1.app (q2.app q3),λa h=>(Zf.mp h).elim (λh=>⟨_,.head _,m1 a h⟩) λh=>(Zf.mp h).elim (λh=>⟨_,.tail _ (.head _),m2 a h⟩) λh=>⟨_,.tail _ (.tail _ (.head _)),m3 a h⟩⟩
  .cases e
 .cases e
def Jl{g:Gb}{h:Heap}:∀{vs:List Value}{ns:List Int},IntsAre vs ns->aM g ex h (ns.map .int) vs []
 | _,_,.nil=> .nil
 | _,_,.cons n t r=> .atm ⟨t,rfl⟩ (Jl r)
def Ē(hu:X.A.units+64<cLine):Op X (compareOp .Lt) bZ:=Tf
def Rel.big(r:Rel X ex hs U F s):(s.heap.objs.size == sysModules)=false:=by
 have h:mainGlobals<s.heap.objs.size:=(r.ok.mod.glob.keeps r.bk).lt;have:sysModules<s.heap.objs.size:=Nat.lt_trans ∅ h;simpa using kU this
end
end HN
namespace HS
open PySem PySem.Spec L2 PyProof.Rows
def FU{o:Expr}{m:Str}{apos cpos:Pos}{es:List Expr}{env:Env}(hb:attributeBase o m env (eval o env)=eval o env)(hl:(apos.endLine == cpos.line)=true)(ha:(backTo cpos (starEach es env)).all (λx=> !x.1)=true)(hn:es.length<29):
  eval (.Call (.Attribute o m apos) es [] cpos) env=(do
   let ov ← eval o env
   standAt apos.atName
   let (f,first) ← holding [ov] (getMethod ov m (do return (← importBound o env).getD true))
   callWith cpos f first (backTo cpos (starEach es env)) (backToKw cpos (keywordEach [] env))):=by
 rw[arm_eval_Call,hb];have hform:methodCallForm (es.length+([]:List Keyword).length) (backTo cpos (starEach es env)) (backToKw cpos (keywordEach [] env))=true:=by
  unfold methodCallForm;rw[ha];have:es.length+([]:List Keyword).length+(if(backToKw cpos (keywordEach [] env)).isEmpty=true then 0 else 1)<30:=by
   split<;>(simp only[List.length_nil];lia)
  simp only[AP,Ze,decide_eq_true_eq];exact⟨rfl,this⟩
 have hpos:methodCallPos true o env apos cpos=pure cpos:=by unfold methodCallPos;simp[hl]
 have key:∀ov,methodCall o m apos cpos env ov (es.length+([]:List Keyword).length) (backTo cpos (starEach es env)) (backToKw cpos (keywordEach [] env))=(do
   let (f,first) ← holding [ov] (getMethod ov m (do return (← importBound o env).getD true))
   callWith cpos f first (backTo cpos (starEach es env)) (backToKw cpos (keywordEach [] env))):=by
  intro ov;unfold methodCall;rw[hform,hpos];rfl
 simp only[key]
section
variable {K:bK}
structure xG (K:bK) (c m qual:Str) (st:Stmt):Prop where
 ex:∃C f fd,PySem.W.nsIn K mainGlobals c=some (some (.ref C))/\l6 K C/\wV K C m f/\oW K m qual st f fd
def NG{c m qual:Str}{st:Stmt}{C f:Addr}{oc:Value}{od an:Option Addr}{osl:Array (Option Value)}{kV doc pm cdv ct:Value}(a:PySem.W.nsIn K mainGlobals c=some (some (.ref C)))
  (c1:PySem.W.plainGet K C Str.empty=true) (c2:PySem.W.hasDictIn K C=true) (c3:PySem.W.plainOver K C=true) (c4:PySem.W.findIn K (.ref C) "__setattr__" =some (some (.builtin "object.__setattr__")))
  (m1:PySem.W.findIn K (.ref C) m=some (some (.ref f))) (m2:PySem.W.isFn K (.ref f)=true) (k:PySem.W.keepIn K (.ref f)=true)
  (l:K.lookup f=some ⟨oc,od,.func (PySem.W.fnOf m qual (jV st) (QE st) (Qp st) .none kV doc pm an cdv ct),osl⟩) (cd:PySem.W.codeIn K cdv qual=true):xG K c m qual st:=
 ⟨C,f,_,a,⟨c1,c2,c3,c4⟩,⟨m1,m2,k⟩,Hq l cd k⟩
end
section
variable (K:bK)
def FK(C:Addr):List Str->Prop
 | []=>True
 | f::r=>qW K C f/\FK C r
def H9(x:Str)(fs:List Str):Prop:=∃C,PySem.W.nsIn K mainGlobals x=some (some (.ref C))/\l6 K C/\FK K C fs
def Kg(x:Str):Prop:=∃C,PySem.W.nsIn K mainGlobals x=some (some (.ref C))/\PySem.W.makesIn K C=true/\PySem.W.keepIn K (.ref C)=true
def Bt(x qual:Str)(st:Stmt)(ps:List Str):Prop:=∀(kV doc pm:Value) (an:Option Addr) (cdv ct:Value) (us:List Value),us.length=ps.length->bindArgs (PySem.W.fnOf x qual (jV st) (QE st) (Qp st) .none kV doc pm an cdv ct) ⟨us,[]⟩=pure (ps.zip us)
end
section
variable {K:bK}
def Ut{x:Str}{fs:List Str}{C:Addr}(a:PySem.W.nsIn K mainGlobals x=some (some (.ref C)))(c1:PySem.W.plainGet K C Str.empty=true)(c2:PySem.W.hasDictIn K C=true)(c3:PySem.W.plainOver K C=true)(c4:PySem.W.findIn K (.ref C) "__setattr__" =some (some (.builtin "object.__setattr__")))(n:FK K C fs):H9 K x fs:=
 ⟨C,a,⟨c1,c2,c3,c4⟩,n⟩
def V0{x:Str}{C:Addr}(a:PySem.W.nsIn K mainGlobals x=some (some (.ref C)))(c1:PySem.W.makesIn K C=true)(c3:PySem.W.keepIn K (.ref C)=true):Kg K x:=⟨C,a,c1,c3⟩
end
noncomputable abbrev iF:=List (Str×List Str)
def StrsAre:List Value->List Str->Prop
 | [],[]=>True
 | v::vs,x::xs=>(∃t,v= .str x t)/\StrsAre vs xs
 | _,_=>False
def mD(K:bK)(P:Params):List DictEntry->iF->Prop
 | [],[]=>True
 | e::es,p::r=>(∃t b its m dd sl,e.key= .str p.1 t/\e.hash=PyData.keyHash P p.1/\e.val= .ref b/\K.lookup b=some ⟨.type "tuple",dd,.seq its m,sl⟩/\StrsAre its.toList p.2)/\mD K P es r
 | _,_=>False
def rC(w:World)(K:bK)(x:Str)(kvs:iF):Prop:=∃a es n,PySem.W.nsIn K mainGlobals x=some (some (.ref a))/\K.lookup a=some ⟨.type "dict",none,.dict es n,#[]⟩/\(a == sysModules)=false/\mD K w.params es.toList kvs/\kvs.all (λp=>decide (p.2.length<=100))=true
def Pd{w:World}{K:bK}{x:Str}{kvs:iF}{a:Addr}{es:Array DictEntry}{n:Nat}(h1:PySem.W.nsIn K mainGlobals x=some (some (.ref a)))(h2:K.lookup a=some ⟨.type "dict",none,.dict es n,#[]⟩)(h3:(a == sysModules)=false)(h4:mD K w.params es.toList kvs)(h5:kvs.all (λp=>decide (p.2.length<=100))=true):rC w K x kvs:=⟨a,es,n,h1,h2,h3,h4,h5⟩
def OM{K:bK}{P:Params}{x:Str}{t:Tok}{b:Addr}{its:Array Value}{m:Nat}{dd:Option Addr}{sl:Array (Option Value)}{es:List DictEntry}{ts:List Str}{r:iF}(l:K.lookup b=some ⟨.type "tuple",dd,.seq its m,sl⟩)(s:StrsAre its.toList ts)(q:mD K P es r):mD K P (⟨PyData.keyHash P x,.str x t,.ref b⟩::es) ((x,ts)::r):=
 ⟨⟨t,b,its,m,dd,sl,rfl,rfl,rfl,l,s⟩,q⟩
def mD.keys{K:bK}{P:Params}:∀{es:List DictEntry}{kvs:iF},mD K P es kvs->PySem.W.KeysLit P es
 | [],[],_=>True.intro
 | e::es,p::r,⟨⟨t,b,its,m,dd,sl,h1,h2,_⟩,q⟩=>⟨⟨p.1,t,h1,h2⟩,q.keys⟩
 | [],_::_,h=>h.elim
 | _::_,[],h=>h.elim
def Rq(k x:Str)(t:Tok):Value.isStrOf k (.str x t)=decide (k=x):=by
 by_cases h:k=x
 .subst h;simp[Value.isStrOf]
 .simp[Value.isStrOf,h,Ne.symm h]
def mD.find{K:bK}{P:Params}{k:Str}:∀{es:List DictEntry}{kvs:iF},mD K P es kvs->(look k kvs=none/\es.find? (λe=>Value.isStrOf k e.key)=none)∨∃ts e b its m dd sl,look k kvs=some ts/\es.find? (λe=>Value.isStrOf k e.key)=some e/\e.val= .ref b/\K.lookup b=some ⟨.type "tuple",dd,.seq its m,sl⟩/\StrsAre its.toList ts
 | [],[],_=> .inl ⟨rfl,rfl⟩
 | e::es,(x,ts)::r,⟨⟨t,b,its,m,dd,sl,h1,h2,h3,h4,h5⟩,q⟩=>by
  have e1:Value.isStrOf k e.key=decide (k=x):=by rw[h1];exact Rq k x t
  unfold look;by_cases hk:k=x
  .rw[if_pos hk];exact .inr ⟨ts,e,b,its,m,dd,sl,rfl,by rw[List.find?_cons,e1,decide_eq_true hk],h3,h4,h5⟩
  .rw[if_neg hk,List.find?_cons,e1,decide_eq_false hk];exact q.find
 | [],_::_,h=>h.elim
 | _::_,[],h=>h.elim
def mI(kvs:iF)(neg:Bool)(fa:DE):DT:=λU=>(fa U).bind λr=>match r.d with
 | .str k=>some ((look k kvs).isSome != neg)
 | _=>none
def eD(kvs:iF)(fa:DE):DE:=λU=>(fa U).bind λr=>match r.d with
 | .str k=>(look k kvs).map λts=>⟨.tup (ts.map .str),true,[]⟩
 | _=>none
abbrev DX:=En->Option (Str×En)
def ClsAt(K:bK)(x:Str)(C:Addr):Prop:=PySem.W.nsIn K mainGlobals x=some (some (.ref C))
noncomputable def aJ:DX:=λ_=>none
noncomputable def cR(x:Str)(fs:DA):DX:=λU=>(fs U).bind λr=>if r.ds.length<=1 then some (x,U)else none
noncomputable def cK(n:Nat)(xd:List D->Option Str)(fs:DA):DX:=λU=>(fs U).bind λr=>if r.ds.length=n then(xd r.ds).map λc=>(c,U)else none
noncomputable def bG(g:DT)(fa fb:DX):DX:=λU=>(g U).bind λb=>if b=true then fa U else fb U
noncomputable def Qo(f:DS)(fx fr:DX):DX:=λU=>match f U with
 | some (.nx U')=>fr U'
 | some _=>none
 | none=>fx U
def kG(t:Tg)(fb:DS)(fx:DX):List D->DX
 | [],_=>none
 | d::ds,U=>(gP t d U).bind λU1=>match fb U1 with
  | some (.nx U2)=>kG t fb fx ds U2
  | some (.ct U2)=>kG t fb fx ds U2
  | some _=>none
  | none=>fx U1
def iH(fi:DI)(t:Tg)(fb:DS)(fx:DX):DX:=λU=>(fi U).bind λir=>kG t fb fx ir.items (dH ir.M U)
noncomputable abbrev Y5:List Value:=[.type "ValueError",.type "Exception",.type "BaseException",.type "object"]
structure sE (K:bK) (x:Str):Prop where
 ex:∃C,ClsAt K x C/\PySem.W.excIn K C Y5 "ValueError.__new__" =true
def Vn{K:bK}{C:Addr}{bmB:List Value}{newId:String}(q:PySem.W.excIn K C bmB newId=true){h:Heap}(X:K.In h):∃bm N nm qn bs hdct sn sub ab col dd k0 k1 k2 k3 k5 mN,
  h.get? C=some (excClassObj nm qn C N bs bm hdct sn sub ab col dd k0 k1 k2 k3 k5 newId)/\h.Ns N mN/\mN "__init__" =none/\OwnTail h bmB bm:=by
 rw[PySem.W.excIn.eq_def]at q;split at q
 case h_2=>cases q
 rename_i dd cd sl ho;split at q
 case h_2=>cases q
 rename_i C1 bm k0 k1 k2 k3 nid k5 em es;simp only[Ze,beq_iff_eq,ZT]at q;obtain⟨⟨⟨⟨⟨z1,z2⟩,nodel⟩,tl⟩,okN⟩,noInit⟩:=q;subst z1 z2;have hget:=X _ _ ho;have hsl:sl= #[k0,k1,k2,k3,some (.builtin nid),k5]:=Array.ext' es;rw[hsl]at hget;refine⟨bm,cd.ns,cd.name,cd.qualname,cd.bases,cd.hasDict,cd.slotNames,cd.subclasses,cd.abstract,cd.collection,dd,k0,k1,k2,k3,k5,_,?_,.of_isNs (PySem.W.isNs_of_in X okN),PySem.W.nsMap_none_of_in X okN noInit,PySem.W.tail_of_in X tl⟩;rw[hget];cases cd with
 | mk c1 c2 c3 c4 c5 c6 c7 c8 c9 c10 c11=>
  dsimp only at em nodel;rw[em,nodel]
section
variable {B h h':Heap}{env:Env}{l:List Env}{L C:Addr}
def La(hs:Heap.SameBut C h h'):∀{l:List Env},(∀b∈fW l,b≠C)->h.FunFrames B l->h'.FunFrames (PySem.W.hideAll B [C]) l
 | [],_,_=>trivial
 | env::l,hn,⟨k,⟨L,o,f,n,ho,hd⟩,r⟩=>by
  have hL:L≠C:=hn L (ZV.mpr ⟨env,Zs,f⟩);refine⟨k,⟨L,o,f,?_,(hs.2 L hL).trans ho,hd⟩,La hs (λb hb=>hn b ?_) r⟩
  .cases q:(PySem.W.hideAll B [C]).get? L with
   | none=>rfl
   | some u=>have:=BD _ q;rw[n]at this;cases this
  .obtain⟨v,h1,h2⟩:=ZV.mp hb;exact ZV.mpr ⟨v,Zl _ h1,h2⟩
end
section
variable {prog:Program}{w:World}{A:Around}{env:Env}{it acc:Value}{tg iter elt:Expr}{ifs:List Expr}{scope:Scope}{pos:Pos}{R:Result->Shared->Prop}{s0:Shared}
def YM(J:Nat->Shared->Prop)
  (turn:∀n s,J n s->wpAny (model prog w) A (pyNext it) (λr s1=>∃v,r=some v/\wpAny (model prog w) A (letOwnedTupleGo tg it v) (λ_ s2=>wpAny (model prog w) A (assign tg env v) (λ_ s3=>
     wpAny (model prog w) A (forIn ifs true λc r=>if r=true then do let ok ← isTrue c env (eval c env);pure (ForInStep.yield ok)else pure (ForInStep.yield r)) (λok s4=>
      if ok=true then wpAny (model prog w) A (eval elt env) (λx s5=>wpAny (model prog w) A (call (.builtin "list.append") [acc,x]) (λ_ s6=>∃m,m<n/\J m s6) (λ_ _=>False) s5) (notedBy (model prog w) A env λx s=>R (.error x) s) s4
      else ∃m,m<n/\J m s4) (λ_ _=>False) s3) (λ_ _=>False) s2) (λ_ _=>False) s1) (λ_ _=>False) s)
  (n:Nat) (h:J n s0):codeAny (model prog w) A (.compLoop (.ListComp elt [⟨tg,iter,ifs,0⟩] scope pos) 0 it acc env) R s0:=by
 have up:∀{α:Type}{t:Sem α}{Q:α->Shared->Prop}{E:Value->Shared->Prop}{s:Shared},wpAny (model prog w) A t Q (λ_ _=>False) s->wpAny (model prog w) A t Q E s:=λh=>wpAny_mono h (λ_ _ q=>q) λ_ _ f=>f.elim;refine codeAny_loop (by rfl) J (λk sk hk=>?_) n h;show wpAny (model prog w) A ((compTurn (.ListComp elt [⟨tg,iter,ifs,0⟩] scope pos) 0 it acc env).onRaise (λx=>do noteFrame x env;theTreesLotGoes x)) _ _ sk;refine wpAny_noted ?_;rw[compTurn_list];refine wpAny_bind (wpAny_standAt (wpAny_bind (aN (up (turn k sk hk)) λr s1 h1=>?_)));obtain⟨v,rfl,h1⟩:=h1;refine wpAny_bind (aN (up h1) λ_ s2 h2=>wpAny_bind (aN (up h2) λ_ s3 h3=>wpAny_bind (aN (up h3) λok s4 h4=>?_)));cases ok with
 | false=>exact wpAny_pure ⟨rfl,h4⟩
 | true=>exact wpAny_bind (wpAny_bind (aN h4 λx s5 h5=>wpAny_bind (aN (up h5) λ_ s6 h6=>wpAny_pure (wpAny_pure ⟨rfl,h6⟩))))
end
def pB(t:Tg)(ft:DT)(fe:DE)(fx:DX)(Uc:En):List D->Option Str
 | []=>none
 | d::ds=>(gP t d Uc).bind λU1=>(ft U1).bind λc=>if c=true then(match fe U1 with
  | some _=>pB t ft fe fx Uc ds
  | none=>(fx U1).map (·.1))else pB t ft fe fx Uc ds
def o5(fi:DI)(t:Tg)(cap:List (Option Nat))(ft:DT)(fe:DE)(fx:DX):DX:=λU=>(fi U).bind λir=>(pB t ft fe fx (iX cap U) ir.items).map λc=>(c,U)
noncomputable def qO(f g:DX):DX:=λU=>match f U with
 | some q=>some q
 | none=>g U
noncomputable def A4(f:DE)(fx:DX):DX:=λU=>(f U).bind λ_=>fx U
noncomputable def EY(w a b:Nat)(gc:DT)(fx:DX):DX:=λU=>(gc U).bind λc=>match U[if c=true then a else b]? with
 | some (some (.lst _,true))=>if w<U.length/\w≠(if c=true then a else b)then fx (U.set w none)else none
 | _=>none
def Q8(k:Nat)(f:DX):List D->Option Str:=λds=>(f (Qy k ds)).map (·.1)
section
variable {C:Addr}
def EZ{K:bK}{x:Str}{C C':Addr}(a:ClsAt K x C)(b:ClsAt K x C'):C=C':=by
 unfold ClsAt at a b;rw[a]at b;exact Value.ref.inj (Option.some.inj (Option.some.inj b))
end
end HS
namespace HS
open PySem PySem.Spec L2 PyProof.Rows PySem.W
structure pG (K:Frag) (C:Addr):Prop where
 cl:(clsIn K C).isSome=true
 ga:findIn K (.ref C) "__getattribute__" =some (some (.builtin "BaseException.__getattribute__"))
 hk:findIn K (.ref C) "__getattr__" =some none
 ca:findIn K (.ref C) "__class__" =some (some (.builtin "object.__class__"))
 mo:mroIn K C (.type "object")=some true
 be:subIn K (.ref C) (.type "BaseException")=some true
section
variable {prog:Program}{w:World}{A:Around}{E:Value->Shared->Prop}{s:Shared}{K:Frag}{a C:Addr}
def vY{M:Model}{h:Heap}(x:oS a C h):Looks M h (typeOf (.ref a)) (.ref C):=by
 obtain⟨o,vs,e,c,_⟩:=x;exact c▸(Looks.ld e).andThen .now
def SR{R:Result->Shared->Prop}{tp:Value}(z:pG K C)(X:K.In s.heap)(x:oS a C s.heap)(h:R (.ok (.ret (.ref C))) s):
  codeAny (model prog w) A (.call (.builtin "getset_descriptor.__get__") ⟨[.builtin "object.__class__",.ref a,tp],[]⟩) R s:=by
 obtain⟨hh,g,dr,t,os⟩:=s;have T0:=vY (M:=model prog w) x;have T1:=looks_mroIn (M:=model prog w) X z.mo
 refine codeAny_call_builtin KF.slot_gs.plain KF.entry_gs
  (KF.slot_gs.check _ _ _ _ _ _ _ _ KF.type_class (KF.args_gs _ _ _) ?_)
 unfold Builtin.«getset_descriptor.__get__» Builtin.Getset_descriptor.descrGet;rw[dga_obj];refine wpAny_bind (wpAny_pure ?_)
 unfold Builtin.Getset_descriptor.descrGetter Builtin.Getset_descriptor.descrCheckInstance
  Builtin.Getset_descriptor.descrNameAndClass isInstance
 simp only[KF.owner_class]
 repeat lk
 refine⟨Code.quiet_builtin _ 'd',
  codeAny_builtin KF.entry_class ?_⟩
 unfold Builtin.«object.__class__» shownTypeOf;repeat lk
 exact h
def Ü{tk:Tok}{Q:Fin->Shared->Prop}(z:pG K C)(X:K.In s.heap)(x:oS a C s.heap)(h:Q (.done (.ret (.ref C))) s):
  wpAny (model prog w) A (Builtin.«object.__getattribute__» ⟨[.ref a,.str "__class__" tk],[]⟩) Q E s:=by
 obtain⟨hh,g,dr,t,os⟩:=s;have T0:=vY (M:=model prog w) x;have T1:=looks_findIn (M:=model prog w) X z.ca;have f5:=F.typeOf_object_class;have f6:=F.slot_gs_get.lookup;have f7:=F.slot_gs_set.lookup;obtain⟨o,vs,hx,hc,hd⟩:=id x;have hT5:(⟨hh,g,dr,t,os⟩:Shared).TypeIs (.builtin "object.__class__") "getset_descriptor" :=f5
 repeat (any_goals (first | assumption | (with_reducible refine wpAny_loadPart_at hx ?_;rw[hc]) | with_reducible refine T1.at ?_ | wp_step))
 refine SR z X x ?_
 repeat (any_goals (first | assumption | wp_step))
def Wx{M:Model}{nameV:Value}{Q:Unit->Shared->Prop}(z:pG K C)(X:K.In s.heap)(x:oS a C s.heap)(h:Q () s):wpAny M A (checkBuiltinCall "BaseException.__getattribute__" ⟨[.ref a,nameV],[]⟩) Q E s:=by
 obtain⟨hh,g,dr,t,os⟩:=s;have k1:builtinKind "BaseException.__getattribute__" =some .slot:=by decide+kernel
 have k2:splitId "BaseException.__getattribute__" =some ("BaseException","__getattribute__"):=by decide+kernel
 have T0:=vY (M:=M) x;have T1:=looks_subIn (M:=M) X z.be;have T2:Looks M hh (isInstance (.ref a) (.type "BaseException")) true:=T0.andThen T1;have k3:=F.args_bexc_ga (.ref a) nameV;simp only[checkBuiltinCall,k1,k2];refine wpAny_bind (T2.at ?_);rw[if_neg ∅];have k4:Q () ⟨hh,g,dr,t,os⟩:=h
 repeat (any_goals (first | assumption | wp_step))
def Õ{tk:Tok}{Q:Value->Shared->Prop}(z:pG K C)(X:K.In s.heap)(x:oS a C s.heap)(h:Q (.ref C) s):wpAny (model prog w) A (getAttrBy (.ref a) (.str "__class__" tk) false) Q E s:=by
 obtain⟨hh,g,dr,t,os⟩:=s;have T0:=vY (M:=model prog w) x;have T1:=looks_findIn (M:=model prog w) X z.ga;have T2:=looks_findIn (M:=model prog w) X z.hk;have f3:=PySem.F.attr_ValueError.ga.bind (.ref a);have n2:(Value.builtin "BaseException.__getattribute__" == Value.builtin "object.__getattribute__")=false:=by decide+kernel
 have n1:(onTheHeap (Value.ref C) && Value.builtin "BaseException.__getattribute__" == Value.builtin "object.__getattribute__")=false:=by rw[n2];rfl
 obtain⟨o,vs,hx,hc,hd⟩:=id x
 repeat (any_goals (first | assumption | (with_reducible refine wpAny_loadPart_at hx ?_;rw[hc]) | with_reducible refine T1.at ?_ | with_reducible refine T2.at ?_ | wp_step))
 refine codeAny_call_builtin PySem.F.attr_ValueError.ga.plain F.entry_bexc_ga (Wx z X x (Ü z X x ?_));have k4:Q (.ref C) ⟨hh,g,dr,t,os⟩:=h
 repeat (any_goals (first | assumption | wp_step))
def P4{Q:Option Value->Shared->Prop}(z:pG K C)(X:K.In s.heap)(x:oS a C s.heap)(h:Q (some (.ref C)) {s with toks:=s.toks+1}):wpAny (model prog w) A (getAttr? (.ref a) "__class__") Q E s:=by
 obtain⟨hh,g,dr,t,os⟩:=s;have k4:Q (some (.ref C)) ⟨hh,g,dr,t+1,os⟩:=h;have X':K.In (⟨hh,g,dr,t+1,os⟩:Shared).heap:=X;have x':oS a C (⟨hh,g,dr,t+1,os⟩:Shared).heap:=x;unfold getAttr? getAttrBy?
 repeat (any_goals (first | assumption | with_reducible apply Õ z X' x' | wp_step))
def S5(z:pG K C):KitX K (.ref a) (.ref C) (oS a C) where
 ty:=λ_ _ _ x=>vY x
 it:=λ_ _ X _=>by
  have h0:=z.cl;unfold clsIn at h0;split at h0
  .rename_i ho;intro A' Q' E' s' k q;unfold isType loadHead;refine wpAny_bind ?_;exact wpAny_loadPart (k _ _ (X _ _ ho)) (wpAny_pure q)
  .cases h0
 ne:=λh tp dd its n sl X htp=>by
  have h0:=z.cl;refine Bool.eq_false_iff.mpr λq=>?_;obtain rfl:C=tp:=Value.ref.inj (beq_iff_eq.mp q);unfold clsIn at h0;split at h0
  .rename_i ho;have e:=X _ _ ho;rw[htp]at e;cases e
  .cases h0
 ca:=λX x k=>P4 z X x k
end
end HS
namespace HS
open PySem PySem.Spec L2 PyProof.Rows
def SW(K:bK)(x y:Str)(b:Bool):Prop:=∃C c,ClsAt K x C/\PySem.W.KtsName K y c/\PySem.W.exmOne K (.ref C) c=some b/\PySem.W.kitOne K (.ref C) c=some b/\pG K C
def tD(K:bK)(sub:Str->Str->Option Bool):Prop:=∀x y b,sub x y=some b->SW K x y b
noncomputable def anyS(sub:Str->Str->Option Bool)(x:Str):List Str->Option Bool
 | []=>some false
 | y::r=>(sub x y).bind λb=>(anyS sub x r).map λd=>b || d
def kF(sub:Str->Str->Option Bool)(ys:List Str)(fa:DE):DE:=λU=>(fa U).bind λr=>match r.d with
 | .exc x=>(anyS sub x ys).map λb=>⟨.bl b,true,[]⟩
 | _=>none
section
variable {K:bK}{x y:Str}{C C':Addr}{v:Bool}
def Sx(a:PySem.W.nsIn K mainGlobals x=some (some (.ref C)))(b:PySem.W.excIn K C [.type "ValueError",.type "Exception",.type "BaseException",.type "object"] "ValueError.__new__" =true):sE K x:=⟨⟨C,a,b⟩⟩
def FV(K:bK)(x:Str):Prop:=∃C,ClsAt K x C/\pG K C
def Wl(a:PySem.W.nsIn K mainGlobals x=some (some (.ref C)))(h1:PySem.W.isClsIn K C=true)(h2:PySem.W.findIn K (.ref C) "__getattribute__" =some (some (.builtin "BaseException.__getattribute__")))(h3:PySem.W.findIn K (.ref C) "__getattr__" =some none)
  (h4:PySem.W.findIn K (.ref C) "__class__" =some (some (.builtin "object.__class__"))) (h5:PySem.W.mroIn K C (.type "object")=some true) (h6:PySem.W.subIn K (.ref C) (.type "BaseException")=some true):FV K x:=⟨C,a,h1,h2,h3,h4,h5,h6⟩
def BK(K:bK)(x y:Str)(b:Bool):Prop:=∃C c,ClsAt K x C/\PySem.W.KtsName K y c/\PySem.W.exmOne K (.ref C) c=some b/\PySem.W.kitOne K (.ref C) c=some b
def Ö(a:PySem.W.nsIn K mainGlobals x=some (some (.ref C)))(b:PySem.W.nsIn K mainGlobals y=some (some (.ref C')))(c:PySem.W.exmOne K (.ref C) (.ref C')=some v)(d:PySem.W.kitOne K (.ref C) (.ref C')=some v):BK K x y v:=⟨C,_,a,.inl b,c,d⟩
def PB(a:PySem.W.nsIn K mainGlobals x=some (some (.ref C)))(b:PySem.W.nsIn K mainGlobals "ValueError" =some none)(c:PySem.W.exmOne K (.ref C) (.type "ValueError")=some v)(d:PySem.W.kitOne K (.ref C) (.type "ValueError")=some v):BK K x "ValueError" v:=
 ⟨C,_,a,.inr ⟨b,PyProof.Rows.Boot.«ValueError»,∅⟩,c,d⟩
def vI(K:bK)(x:Str):List (Str×Bool)->Prop
 | []=>True
 | q::r=>BK K x q.1 q.2/\vI K x r
def SubL(K:bK):List (Str×List (Str×Bool))->Prop
 | []=>True
 | q::r=>(FV K q.1/\vI K q.1 q.2)/\SubL K r
def GJ(tab:List (Str×List (Str×Bool))):Str->Str->Option Bool:=λx y=>(look x tab).bind λr=>look y r
def Ct{α:Type}:∀{x:Str}{l:List (Str×α)}{a:α},look x l=some a->(x,a)∈l
 | x,[],a,h=>by cases h
 | x,(y,b)::r,a,h=>by
  unfold look at h;split at h
  .rename_i e;cases h;subst e;exact Zs
  .exact Zl _ (Ct h)
def vI.mem:∀{r:List (Str×Bool)},vI K x r->∀q∈r,BK K x q.1 q.2
 | [],_,q,h=>by simp at h
 | p::r,h,q,hq=>by
  rcases Zj.mp hq with rfl | hq
  .exact h.1
  .exact vI.mem h.2 q hq
def SubL.mem:∀{t:List (Str×List (Str×Bool))},SubL K t->∀q∈t,FV K q.1/\vI K q.1 q.2
 | [],_,q,h=>by simp at h
 | p::r,h,q,hq=>by
  rcases Zj.mp hq with rfl | hq
  .exact h.1
  .exact SubL.mem h.2 q hq
def WA{tab:List (Str×List (Str×Bool))}(h:SubL K tab):tD K (GJ tab):=λx y b e=>by
 refine Ql e λr h1 h2=>?_;obtain⟨⟨C,k1,k2⟩,k3⟩:=h.mem _ (Ct h1);obtain⟨C',c,m1,m2,m3,m4⟩:=k3.mem _ (Ct h2);cases EZ k1 m1;exact⟨C,c,k1,m2,m3,m4,k2⟩
def Mn(K:bK):List Str->Prop
 | []=>True
 | x::r=>sE K x/\Mn K r
def JE:∀{l:List Str},Mn K l->∀x∈l,sE K x
 | [],_,x,h=>by simp at h
 | y::l,h,x,hx=>by
  rcases Zj.mp hx with rfl | hx
  .exact h.1
  .exact JE h.2 x hx
end
noncomputable def rO(a:D)(ds:List D):Option D:=match a with
 | .str z=>match ds with
  | []=>none
  | b::ds=>match b with
   | .str y=>match ds with
    | []=>none
    | c::ds=>match c with
     | .int k=>if((ds.isEmpty && !(y.length == 0)) && !(decide (k< -(2^63:Int)) || decide (k≥2^63)) && decide (z.length<=16000000) && decide ((Txt.splitMax z y k).length<=16000000))=true then some (.lst ((Txt.splitMax z y k).map .str))else none
     | _=>none
   | _=>none
 | _=>none
def TJ{a d:D}{ds:List D}(h:rO a ds=some d):∃z y k,a= .str z/\ds=[.str y,.int k]/\(y.length == 0)=false/\(decide (k< -(2^63:Int)) || decide (k≥2^63))=false/\z.length<=16000000/\(Txt.splitMax z y k).length<=16000000/\d= .lst ((Txt.splitMax z y k).map .str):=by
 unfold rO at h;split at h
 case h_2=>cases h
 split at h
 case h_1=>cases h
 split at h
 case h_2=>cases h
 split at h
 case h_1=>cases h
 split at h
 case h_2=>cases h
 split at h
 case isFalse=>cases h
 rename_i hc;simp only[Ze,ZT,decide_eq_true_eq,FF]at hc;obtain⟨⟨⟨⟨rfl,h1⟩,h2⟩,h3⟩,h4⟩:=hc;cases h;exact⟨_,_,_,rfl,rfl,h1,h2,h3,h4,rfl⟩
def qG(fa:DE)(fs:DA):DE:=λU=>(fa U).bind λra=>(fs U).bind λr=>(rO ra.d r.ds).map λd=>⟨d,true,[]⟩
end HS
namespace HN
open PySem PySem.Spec PyProof.Rows HS
section
variable {X:Cx}{ex:LA}{hs:Hs}{U:En}{F:Ft}{s s':Shared}{o a b:Expr}{fa:DE}{p apos cpos:Pos}{es:List Expr}{fs:DA}{x m z:Str}{i':String}
def Wj:Bf X (.type "int") n9:=λex hs U F s ds vs d G rel e r=>by
 unfold n9 at e;split at e
 .cases e;obtain⟨v,rfl,q⟩:=r.one;obtain⟨t,rfl⟩:=q.int_inv;exact call_int_int ⟨.refl,.int⟩
 .cases e;obtain⟨v,rfl,q⟩:=r.one;cases q.oX;exact call_int_bool ⟨.tok,.int⟩
 .split at e
  .rename_i hz;obtain⟨n,hn,rfl⟩:=Zd.mp e;obtain⟨v,rfl,q⟩:=r.one;obtain⟨t,rfl⟩:=q.str_inv;exact PySem.W.KIN.call_text hn hz ⟨.tok,.int⟩
  .cases e
 .cases e
def XM:Bf X (.type "str") f9:=λex hs U F s ds vs d G rel e r=>by
 unfold f9 at e;split at e
 .split at e
  .rename_i hz;cases e;obtain⟨v,rfl,q⟩:=r.one;obtain⟨t,rfl⟩:=q.int_inv;exact PySem.P.str_of_int hz ⟨.tok,.str⟩
  .cases e
 .cases e
structure Ms (X:Cx) (o:Expr) (m:Str) (apos:Pos) (a:Expr) (es:List Expr) (cpos:Pos) (id:String):Prop where
 s:Slot "str" m id
 t:typeOf (.builtin id)=pure (.type "method_descriptor")
 b:attributeBase o m X.env (eval o X.env)=eval o X.env
 f:((backTo cpos (starEach (a::es) X.env)).all (λx=> !x.1) && (backToKw cpos (keywordEach [] X.env)).all (λx=>x.1.isSome) && decide ((a::es).length+([]:List Keyword).length+(if([]:List Keyword).isEmpty then 0 else 1)<30))=true
 l:(apos.endLine == cpos.line)=true
 p:(backTo cpos (starEach (a::es) X.env)).any (·.1)=false
 e:One X a es
def Ms.call{Q:Value->Shared->Prop}{ra:R}{rb:RA}(c:Ms X o m apos a es cpos i')(ho:SE X o fa)(ha:SA X (a::es) fs)(rel:Rel X ex hs U F s)(e1:fa U=some ra)(ez:ra.d= .str z)(e2:fs U=some rb)
  (k:∀t vs s1 G,Ex s s1->Rel X ex hs U F s1->aM X.g ex s1.heap rb.ds vs G->wpAny X.M X.A (PySem.call (.builtin i') (.str z t::vs)) Q E0 s1):wpAny X.M X.A (eval (.Call (.Attribute o m apos) (a::es) [] cpos) X.env) Q E0 s:=by
 refine wpAny_Call_method_late c.b c.f c.l rfl (aN (ho rel e1) λw s1 ⟨G1,p⟩=>?_);have q:=p.rp;rw[ez]at q;obtain⟨t,rfl⟩:=q.str_inv;refine⟨"str",i',PySem.F.plainAttrs_str,c.s,c.t,typeIs_str _ _ _,λa z=>(nomatch z),tU c.p ?_⟩;have r1:=rel.ext p.ext;have:=aN (ha cpos r1 e2) λvs s2 ⟨G2,p2⟩=>k t vs s2 G2 (p.ext.trans p2.ext) (r1.ext p2.ext) p2.rp;rw[c.e]at this ⊢;exact u4 this
def Mt(X:Cx)(id:String)(g:D->List D->Option D):Prop:=∀ ⦃ex hs U F s0 s z t ds vs d G⦄,Ex s0 s->Rel X ex hs U F s->g (.str z) ds=some d->aM X.g ex s.heap ds vs G->wpAny X.M X.A (PySem.call (.builtin id) (.str z t::vs)) (λv s'=>∃G',eH X ex U F s0 s' ⟨d,true,[]⟩ v G') E0 s
noncomputable def g1(g:D->D->Option D)(a:D):List D->Option D
 | [b]=>g a b
 | _=>none
def MY{g:D->List D->Option D}(c:Ms X o m apos b es cpos i')(hm:Mt X i' g)(hg:∀a b d,g a b=some d->∃z,a= .str z)(ho:SE X o fa)(ha:SA X (b::es) fs):SE X (.Call (.Attribute o m apos) (b::es) [] cpos) (λU=>(fa U).bind λra=>(fs U).bind λr=>(g ra.d r.ds).map λd=>⟨d,true,[]⟩):=λex hs U F s r rel e=>by
 refine Ql e λra e1 e=>Ql e λrb e2 e=>?_;obtain⟨d,ed,rfl⟩:=Zd.mp e;obtain⟨z,ez⟩:=hg _ _ _ ed;rw[ez]at ed;exact c.call ho ha rel e1 ez e2 λt vs s1 G x r1 q=>hm x r1 ed q
def Uh{g:D->D->Option D}(c:Ms X o m apos b [] cpos i')(hm:Mt X i' (g1 g))(hg:∀a b d,g a b=some d->∃z,a= .str z)(ho:SE X o fa)(ha:SA X [b] fs):SE X (.Call (.Attribute o m apos) [b] [] cpos) (eM g fa fs):=λex hs U F s r rel e=>by
 refine MY c hm (λa b d h=>?_) ho ha rel (show(fa U).bind _=some r from ?_)
 .unfold g1 at h;split at h
  .exact hg _ _ _ h
  .cases h
 .refine Ql e λra e1 e=>Ql e λrb e2 e=>?_;rw[e1,Option.bind_some,e2,Option.bind_some];unfold g1;split at e
  .rename_i h;first | exact e | (rw[h];exact e)
  .cases e
def zH{g:D->D->Option D}{a d:D}{ds:List D}(h:g1 g a ds=some d):∃b,ds=[b]/\g a b=some d:=by
 unfold g1 at h;split at h
 .exact⟨_,rfl,h⟩
 .cases h
def LV{h:Heap}:∀l:List (Str×Tok),aM g ex h ((l.map (·.1)).map .str) (strValues l) []
 | []=> .nil
 | p::l=> .atm ⟨p.2,rfl⟩ (LV l)
def LQ{h:Heap}:∀{ts:List Str}{its:List Value}{G:LA},aM g ex h (ts.map .str) its G->∃l:List (Str×Tok),its=strValues l/\l.map (·.1)=ts
 | [],_,_,r=>by cases r;exact⟨[],rfl,rfl⟩
 | t::ts,_,_,r=>by
  obtain⟨v,vs,G,F',rfl,rfl,p,q⟩:=r.inv;obtain⟨k,rfl⟩:=p.str_inv;obtain⟨l,rfl,e⟩:=LQ q;exact⟨(t,k)::l,rfl,by rw[Zp,e]⟩
def Y8:Mt X "str.startswith" (g1 mV):=λex hs U F s0 s z t ds vs d G x rel e r=>by
 obtain⟨b,hb,eb⟩:=zH e;subst hb;clear e;have e:=eb;clear eb;obtain⟨y,rfl,q⟩:=r.one;dsimp only[mV]at e;split at e
 .cases e;obtain⟨u,rfl⟩:=q.str_inv;exact SC.startswith ⟨[],.flat x .bl⟩
 .cases e
def TF:Mt X "str.join" (g1 iU):=λex hs U F s0 s z t ds vs d G x rel e r=>by
 obtain⟨b,hb,eb⟩:=zH e;subst hb;clear e;have e:=eb;clear eb;obtain⟨y,rfl,q⟩:=r.one;dsimp only[iU]at e;split at e
 .refine Ql e λts e1 e=>?_;split at e
  .rename_i hj;cases e;obtain⟨l,its,n,G',rfl,rfl,_,_,k,q⟩:=q.lst_inv;rw[IA e1]at q;obtain⟨ls,rfl,em⟩:=LQ q;exact SC.join (eA k) em hj λt' k=>⟨[],.flat (x.trans .tok) .str⟩
  .cases e
 .cases e
def Rel.texts{ts:List Str}(rel:Rel X ex hs U F s)(x:Ex s0 s)(l:List (Str×Tok))(k:Nat)(hl:l.length<=sizeLine)(e:l.map (·.1)=ts):∃G,eH X ex U F s0 {s with heap:=s.heap.push {cls:= .type "list",data:= .seq (strValues l).toArray},toks:=k} ⟨.lst (ts.map .str),true,[]⟩ (.ref s.heap.objs.size) G:=
 ⟨_,.wO x .push Q2 rel.push (Zi _ rfl) (by rw[← e,Zh,Zh];exact hl) (e▸LV l)⟩
def Xa:Mt X "str.split" (g1 nP):=λex hs U F s0 s z t ds vs d G x rel e r=>by
 obtain⟨b,hb,eb⟩:=zH e;subst hb;clear e;have e:=eb;clear eb;obtain⟨w,rfl,q⟩:=r.one;dsimp only[nP]at e;split at e
 .rename_i y;split at e
  .rename_i hc;cases e;obtain⟨u,rfl⟩:=q.str_inv;have hsz:z.length+2<=sizeLine:=by have:=hc.1.2;rw[iI];lia
   have hn:(Builtin.Str.partsBetween z (Builtin.Str.occurrences z y 0 z.length (z.length+1)) y.length).length<=sizeLine:=by
    have e1:=StrLaws.occ_length_le_len z y 0 z.length (z.length+1);rw[length_partsBetween];lia
   cases h1:(decide (z.length<y.length) || decide (Builtin.Str.strKind z<Builtin.Str.strKind y))
   .cases hf:(Builtin.Str.occurrences z y 0 z.length (z.length+1)).isEmpty
    .refine call_meets PySem.F.slot_str_split (typeIs_str _ _ _) PySem.F.entry_str_split (PySem.F.args_str_split_2 _ _) (meets_str_split_sep z y t u h1 hc.1.1 hf ⋯ hn) ?_;show wants _ _ _ {s with toks:=_,heap:=s.heap.push {cls:= .type "list",data:= .seq (strsFrom s.toks (Builtin.Str.partsBetween z (Builtin.Str.occurrences z y 0 z.length (z.length+1)) y.length)).toArray}};rw[strsFrom_eq];have en:=numbered_texts s.toks (Builtin.Str.partsBetween z (Builtin.Str.occurrences z y 0 z.length (z.length+1)) y.length);exact rel.texts x (numbered s.toks _) _ (by rw[← Zh (f:=(·.1)),en];exact hn) (en.trans ((if_neg (ne_true_of_eq_false h1)).trans (if_neg (ne_true_of_eq_false hf))).symm)
    .exact call_meets PySem.F.slot_str_split (typeIs_str _ _ _) PySem.F.entry_str_split (PySem.F.args_str_split_2 _ _) (meets_str_split_not_found z y t u h1 hc.1.1 hf) (rel.texts x [(z,t)] s.toks (show 1<=sizeLine by decide) ((if_neg (ne_true_of_eq_false h1)).trans (if_pos hf)).symm)
   .exact call_meets PySem.F.slot_str_split (typeIs_str _ _ _) PySem.F.entry_str_split (PySem.F.args_str_split_2 _ _) (meets_str_split_cannot_occur z y t u h1) (rel.texts x [(z,t)] s.toks (show 1<=sizeLine by decide) (if_pos h1).symm)
  .cases e
 .cases e
def Ù:Mt X "str.split" rO:=λex hs U F s0 s z t ds vs d G x rel e r=>by
 obtain⟨_,y,k,h,rfl,hy,hk,h3,h4,rfl⟩:=TJ e;cases h;obtain⟨v,v',_,_,rfl,q,q'⟩:=r.two;obtain⟨u,rfl⟩:=q.str_inv;obtain⟨kt,rfl⟩:=q'.int_inv;have hn:(Builtin.Str.partsBetween z (Builtin.Str.occurrences z y 0 z.length (PySem.limitOf z k)) y.length).length<=sizeLine:=by
  have e1:=StrLaws.occ_length_le_len z y 0 z.length (PySem.limitOf z k);rw[length_partsBetween,iI];lia
 cases h1:(decide (z.length<y.length) || decide (Builtin.Str.strKind z<Builtin.Str.strKind y))
 .cases hf:(Builtin.Str.occurrences z y 0 z.length (PySem.limitOf z k)).isEmpty
  .refine call_meets PySem.F.slot_str_split (typeIs_str _ _ _) PySem.F.entry_str_split (PySem.F.args_str_split_3 _ _ _) (meets_str_split_sep_max z y k t u kt hk h1 hy hf (by rw[iI];lia) hn) ?_;show wants _ _ _ {s with toks:=_,heap:=s.heap.push {cls:= .type "list",data:= .seq (strsFrom s.toks (Builtin.Str.partsBetween z (Builtin.Str.occurrences z y 0 z.length (PySem.limitOf z k)) y.length)).toArray}};rw[strsFrom_eq];have en:=numbered_texts s.toks (Builtin.Str.partsBetween z (Builtin.Str.occurrences z y 0 z.length (PySem.limitOf z k)) y.length);exact rel.texts x (numbered s.toks _) _ (by rw[← Zh (f:=(·.1)),en];exact hn) (en.trans ((if_neg (ne_true_of_eq_false h1)).trans (if_neg (ne_true_of_eq_false hf))).symm)
  .exact call_meets PySem.F.slot_str_split (typeIs_str _ _ _) PySem.F.entry_str_split (PySem.F.args_str_split_3 _ _ _) (meets_str_split_max_not_found z y k t u kt hk h1 hy hf) (rel.texts x [(z,t)] s.toks (show 1<=sizeLine by decide) ((if_neg (ne_true_of_eq_false h1)).trans (if_pos hf)).symm)
 .exact call_meets PySem.F.slot_str_split (typeIs_str _ _ _) PySem.F.entry_str_split (PySem.F.args_str_split_3 _ _ _) (meets_str_split_max_cannot_occur z y k t u kt hk h1) (rel.texts x [(z,t)] s.toks (show 1<=sizeLine by decide) (if_pos h1).symm)
def RF:Mt X "str.partition" (g1 sN):=λex hs U F s0 s z t ds vs d G x rel e r=>by
 obtain⟨b,hb,eb⟩:=zH e;subst hb;clear e;have e:=eb;clear eb;obtain⟨w,rfl,q⟩:=r.one;dsimp only[sN]at e;split at e
 .rename_i y;split at e
  .rename_i hc;cases e;obtain⟨u,rfl⟩:=q.str_inv;refine call_meets PySem.F.slot_str_partition (typeIs_str _ _ _) PySem.F.entry_str_partition (PySem.F.args_str_partition_2 _ _) (meets_str_partition z y t u hc.1 hc.2) ?_;have fin:∀(a b c:Str) (ta tb tc:Tok) (k:Nat),(a,b,c)=Txt.partition z y->∃G,eH X ex U F s0 {s with toks:=k,heap:=s.heap.push {cls:= .type "tuple",data:= .seq [.str a ta,.str b tb,.str c tc].toArray}} ⟨.tup [.str (Txt.partition z y).1,.str (Txt.partition z y).2.1,.str (Txt.partition z y).2.2],true,[]⟩ (.ref s.heap.objs.size) G:=λa b c ta tb tc k e=>by
    rw[← e];exact⟨[],.flat (x.trans .push) (.Bs rel.push (show 3<=sizeLine by decide) ⟨_,Zi s.heap rfl,rfl,0,rfl⟩ (.atm ⟨_,rfl⟩ (.atm ⟨_,rfl⟩ (.atm ⟨_,rfl⟩ .nil))))⟩
   unfold Txt.partition at fin ⊢;revert fin;cases Builtin.Str.occurrences z y 0 z.length 1 with
   | nil=>intro fin;exact fin _ _ _ _ _ _ _ rfl
   | cons i r=>intro fin;exact fin _ _ _ _ _ _ _ rfl
  .cases e
 .cases e
end
structure g0 (K:bK):Prop where
 ex:∃C,PySem.W.nsIn K mainGlobals "Desk" =some (some (.ref C))/\L2.l6 K C/\L2.qW K C "net" /\L2.qW K C "heaps"
section
variable {X:Cx}{ex:LA}{hs:Hs}{U:En}{F:Ft}{s s' s1:Shared}{o a b:Expr}{fa:DE}{pos p q p':Pos}{es:List Expr}{x m:Str}{i:Nat}{g:Gb}{fs:DA}
def aM.handed{d:D}{h:Heap}(r:Rp g ex h d v G):PySem.W.handedIn v=true:=by
 cases r with
 | atm x=>cases d<;>first | (cases x;done) | (cases x;rfl) | (obtain⟨t,rfl⟩:=x;rfl)
 | lst=>rfl
 | tup=>rfl
 | bC=>rfl
 | exc=>rfl
def aM.jR{h:Heap}{o:Ob}{d0:D}{es:List D}(r:Rp g ex h (.obj o (d0::es)) v L):∃ks a dx dd its G,o= .ins "Desk" ks/\v= .ref a/\L=a::dx::dd::G/\(∀b,b=a∨b=dx∨b=dd->b∉ex)/\dU g h a dx dd ks its/\aM g ex h (d0::es) its G:=by
 cases r with
 | atm x=>cases x
 | bC x r q t=>cases t;exact⟨_,_,_,_,_,_,rfl,rfl,by rw[Zo],x,r,q⟩
def dU.get{expr:Bool}{A:Around}{Q:Value->Shared->Prop}{a dx dd:Addr}{f:Str}(D:g0 g.K)(k:g.K.In s.heap)(r:dU g s.heap a dx dd ks its)(hf:f= "net" /\its.head? =some v∨f= "heaps" /\v= .ref dd)(hv:PySem.W.handedIn v=true)(q:Q v {s with toks:=s.toks+1}):wpAny (model g.P g.w) A (getAttr (.ref a) f expr) Q E s:=by
 obtain⟨C,hC,cl,n1,n2⟩:=D.ex;obtain⟨C',hC',m⟩:=r.cls;cases hC.symm.trans hC';rcases hf with⟨rfl,h⟩ | ⟨rfl,rfl⟩
 .exact L2.get_map k m (cl.get _) cl.hd n1 ((if_neg ∅).trans ((if_pos rfl).trans h)) hv q
 .exact L2.get_map k m (cl.get _) cl.hd n2 (if_pos rfl) hv q
def cO(i:Nat):DE:=λU=>match U[i]? with
 | some (some (.obj _ (d::_),false))=>some (R.norm ⟨d,false,[]⟩)
 | _=>none
def Rel.part{d:D}{L G:LA}(q:U[i]? =some (some (d0,false)))(x:Ex s s')(r:Rp X.g ex s'.heap d v G)(m:∀a∈G,a∈F i):∃G,eH X ex U F s s' (R.norm ⟨d,false,[]⟩) v G:=
 ⟨G,Q9.norm (r:=⟨d,false,[]⟩) ⟨x,r,λa h=> .inr ⟨i,d0,false,q,m a h,nofun⟩,nofun,nm⟩⟩
def Ym(D:g0 X.g.K)(hN:X.N[i]? =some x)(h1:(x == ("__debug__" :Str))=false)(h2:(x == ("__classdict__" :Str))=false):SE X (.Attribute (.Name x p) "net" pos) (cO i):=λex hs U F s r rel e=>by
 unfold cO at e;split at e
 .rename_i o d es q;cases e;refine L2.LP rfl (wpAny_Name (rel.lH q hN h2 λv _ t=>?_) h1);obtain⟨ks,a,dx,dd,its,G,rfl,rfl,eF,_,at_,r⟩:=t.jR;obtain⟨v,vs,G1,G2,rfl,rfl,r1,_⟩:=r.inv;exact at_.get D rel.bM.bH (.inl ⟨rfl,rfl⟩) r1.handed (Rel.part (L:=G1) q .tok r1 λb m=>by rw[eF];exact .tail _ (.tail _ (.tail _ (Zc _ m))))
 .cases e
def Rel.rY{Q:Value->Shared->Prop}{o:Ob}{c:Bool}(rel:Rel X ex hs U F s)(D:g0 X.g.K)(q:U[i]? =some (some (.obj o (d0::es'),c)))(hN:X.N[i]? =some x)(h1:(x == ("__debug__" :Str))=false)(h2:(x == ("__classdict__" :Str))=false)
  (k:∀ks a dx dd its G,o= .ins "Desk" ks->F i=a::dx::dd::G->(∀b,b=a∨b=dx∨b=dd->b∉ex)->dU X.g s.heap a dx dd ks its->aM X.g ex s.heap (d0::es') its G->Q (.ref dd) {s with toks:=s.toks+1}):wpAny X.M X.A (eval (.Attribute (.Name x p) "heaps" pos) X.env) Q E s:=by
 refine L2.LP rfl (wpAny_Name (rel.lH q hN h2 λv _ t=>?_) h1);obtain⟨ks,a,dx,dd,its,G,rfl,rfl,eF,n,at_,r⟩:=t.jR;exact at_.get D rel.bM.bH (.inr ⟨rfl,rfl⟩) rfl (k ks a dx dd its G rfl eF n at_ r)
def Le{its:List Value}{k:Str}:∀{ks:List Str},its.length=ks.length->(valueAt (ks.zip its) k).isSome=ks.contains k:=by
 induction its with
 | nil=>intro ks h;cases ks with
  | nil=>rfl
  | cons=>cases h
 | cons v vs ih=>
  intro ks h;cases ks with
  | nil=>cases h
  | cons y ks=>
   have:= @ih ks (Nat.succ.inj h);unfold valueAt at this ⊢;rw[ZI,List.find?_cons,D3];by_cases e:y=k
   .subst e;simp
   .have e2:(k == y)=false:=by simpa using Ne.symm e
    rw[e2,Bool.false_or,← this];simp[e]
noncomputable def gG(neg:Bool)(fa:DE)(i:Nat):DE:=λU=>(fa U).bind λr=>match r.d,U[i]? with
 | .str k,some (some (.obj (.ins _ ks) (_::_),_))=>some ⟨.bl (ks.contains k != neg),true,[]⟩
 | _,_=>none
def PV(D:g0 X.g.K)(hN:X.N[i]? =some x)(h1:(x == ("__debug__" :Str))=false)(h2:(x == ("__classdict__" :Str))=false)(ha:SE X a fa):SE X (.Compare a [.NotIn] [.Attribute (.Name x p) "heaps" p'] pos) (gG true fa i):=λex hs U F s r rel e=>by
 refine Ql e λra ea e=>?_;split at e
 .rename_i k y ks d0 es b hk q;cases e;refine wpAny_Compare1 (aN (ha rel ea) λv s1 ⟨G,p1⟩=>?_) rfl;have rp:=p1.rp;rw[hk]at rp;obtain⟨t,rfl⟩:=rp.str_inv;refine(rel.ext p1.ext).rY D q hN h1 h2 λks' a dx dd its G ho _ _ at_ _=>?_;cases ho;refine wpAny_notIn_of (knd:=PySem.strKind X.g.P X.g.w) (k:=k) (by simp[PySem.strKind,Value.isStrOf]) at_.sys ((at_.keep (h':={s1 with toks:=s1.toks+1}.heap) λ_ _ _ e=>e).dic.mapOf) ?_;rw[Le (by rw[List.length_tail,at_.len];rfl)];exact⟨[],.flat (p1.ext.trans (.trans .tok .tok)) (by rw[Bool.bne_true];exact .bl)⟩
 .cases e
def Od(D:g0 X.g.K)(hN:X.N[i]? =some x)(h1:(x == ("__debug__" :Str))=false)(h2:(x == ("__classdict__" :Str))=false)(ha:SE X a fa):ST X (.Compare a [.NotIn] [.Attribute (.Name x p) "heaps" p'] pos) (Qf (gG true fa i)):=λex hs U F s c rel e=>by
 refine Ql e λr e e2=>Ql e λra ea e=>?_;split at e
 .rename_i k y ks d0 es b hk q;cases e;refine wpAny_isTrue_Compare1 (aN (ha rel ea) λv s1 ⟨G,p1⟩=>?_) rfl;have rp:=p1.rp;rw[hk]at rp;obtain⟨t,rfl⟩:=rp.str_inv;refine(rel.ext p1.ext).rY D q hN h1 h2 λks' a dx dd its G ho _ _ at_ _=>?_;cases ho;refine wpAny_notIn_of (knd:=PySem.strKind X.g.P X.g.w) (k:=k) (by simp[PySem.strKind,Value.isStrOf]) at_.sys ((at_.keep (h':={s1 with toks:=s1.toks+1}.heap) λ_ _ _ e=>e).dic.mapOf) ?_;rw[Le (by rw[List.length_tail,at_.len];rfl)];exact aN (aM.fO (X:=X) (ex:=ex) (d:= .bl (ks.contains k != true)) (by rw[Bool.bne_true];exact .bl) e2) λc s2 ⟨h,x⟩=>⟨h,p1.ext.trans (.trans (.trans .tok .tok) x)⟩
 .cases e
def aM.rows{h:Heap}(r:aM g ex h ds vs L):Qu ds=true->∀a∈L,∃o,h.get? a=some o/\∃xs n,o.data= .seq xs n:=by
 induction r with
 | nil=>exact λ_=>nm
 | atm _ _ i=>intro n;simp only[Qu,Ze]at n;exact i n.2
 | lst _ _ e _ _ i j=>
  intro n;simp only[Qu,bD,Ze]at n;exact bF ⟨_,e,_,_,rfl⟩ λa m=>(Zf.mp m).elim (i n.1 a) (j n.2 a)
 | tup _ _ _ _ _ i j=>
  intro n;simp only[Qu,bD,Ze]at n;exact λa m=>(Zf.mp m).elim (i n.1 a) (j n.2 a)
 | bC=>intro n;simp[Qu,bD]at n
 | exc _ _ _ j=>intro n;simp only[Qu,bD,AP]at n;exact j n
def cG(i:Nat)(U:En):Bool:=(List.range U.length).all λj=>decide (j=i) || match U[j]? with
 | some (some (d,_))=>bD d
 | _=>true
def Ug{j:Nat}{b:Bool}(h:cG i U=true)(hj:j≠i)(e:U[j]? =some (some (d,b))):bD d=true:=by
 have:=ZN.mp h j (Zr.mpr (Zn.mp e).1);rw[e,decide_eq_false hj,Bool.false_or]at this;exact this
def Rel.Mu{a dx dd:Addr}{G G' Gv:LA}{M:List Nat}{d0:D}{es0 es':List D}{o0 o':Ob}(rel:Rel X ex hs U F s)(hio:X.io=true)(ln:cG i U=true)(q:U[i]? =some (some (.obj o0 (d0::es0),false)))(eF:F i=a::dx::dd::G)
  (kp:∀b o,s.heap.get? b=some o->¬(b=a∨b=dx∨b=dd)->b∉X.env.locals::X.fs->s'.heap.get? b=some o) (ku:∀b∈X.env.locals::X.fs,∀o,s.heap.get? b=some o->∃sl,s'.heap.get? b=some {o with slots:=sl}) (nw:∀b,s'.heap.get? b=none->s.heap.get? b=none)
  (os:s'.os=s.os) (br:AllBare s.gens->AllBare s'.gens) (rp:Rp X.g ex s'.heap (.obj o' es') (.ref a) G') (sr:Src U F s M Gv) (m:∀b∈G',b∈F i∨b∈Gv∨s.heap.get? b=none):
  Fx X hs s s'/\Rel X ex hs ((dH M U).set i (some (.obj o' es',false))) (put F i G') s':=by
 obtain⟨_,_,_,_,_,_,p0⟩:=rel.val q;obtain⟨ks,a',dx',dd',its,G0,_,_,eF',nx,at_,r0⟩:=p0.jR;rw[eF]at eF';cases eF';have cell2:∀{b o},b=a∨b=dx∨b=dd->s.heap.get? b=some o->(∀xs n,o.data≠ .seq xs n)/\∀vs,o.data≠ .fields vs:=λh e=>by
  obtain⟨o',e',k⟩:=at_.there h;rw[e]at e';cases e';exact k
 have cell:∀{b o},b=a∨b=dx∨b=dd->s.heap.get? b=some o->∀xs n,o.data≠ .seq xs n:=λh e=>(cell2 h e).1;have nI:∀{b o},b=a∨b=dx∨b=dd->s.heap.get? b=some o->¬iA o:=by
  obtain⟨⟨C,_,m1⟩,_,_,⟨o,es,ep,e,_,d,_⟩,_,_⟩:=at_;obtain⟨o2,es2,ep2,e2,d2,_⟩:=m1.ns;rintro b o3 (rfl | rfl | rfl) e3 z
  .rw[m1.obj]at e3;cases e3;obtain⟨vs,h⟩:=z.2.2.2 C rfl;cases h
  .rw[e2]at e3;cases e3;exact z.1 _ _ d2
  .rw[e]at e3;cases e3;exact z.1 _ _ d
 have fd:∀b∈X.env.locals::X.fs,b∈ex/\∃o es ep,s.heap.get? b=some o/\o.data= .dict es ep:=bF ⟨rel.loc,let ⟨_,⟨o,es,ep,e,d,_⟩,_⟩:=rel.ns;⟨o,es,ep,e,d⟩⟩ rel.fsl;have nf:∀{b},b∉ex->b∉X.env.locals::X.fs:=λn m=>n (fd _ m).1;have hn:∀t∈hs,∀b∈t.2.2,∀o,s.heap.get? b=some o->∃xs n,o.data= .seq xs n:=λt mt b mb o e=>by
  obtain⟨o',e',h⟩:=(rel.held t mt).1.rows (by simp only[Qu,rel.hnb hio t mt,lC]) b mb;rw[e]at e';cases e';exact h
 have stay:∀{ds vs L},aM X.g ex s.heap ds vs L->Qu ds=true->aM X.g ex s'.heap ds vs L:=λ{ds vs L} r n=>r.keep λb o x hm e=>by
  refine kp b o e (λz=>?_) (nf x);rcases hm with m | ⟨_,xs,n,d⟩ | ⟨_,vs,_,d⟩
  .obtain⟨o',e',xs,n,d⟩:=r.rows n b m;rw[e]at e';cases e';exact cell z e _ _ d
  .exact cell z e _ _ d
  .exact(cell2 z e).2 _ d
 have kx:∀b∈ex,∀o,s.heap.get? b=some o->∃sl,s'.heap.get? b=some {o with slots:=sl}:=λb m o e=>by
  by_cases z:b∈X.env.locals::X.fs
  .exact ku b z o e
  .exact⟨o.slots,kp b o e (λw=>nx b w m) z⟩
 have inF:∀{b},b=a∨b=dx∨b=dd->b∈F i:=λh=>by rw[eF];exact eX h
 refine⟨⟨λc o e k=>?_,os,br,λc m o e=>ku c (.tail _ m) o e⟩,?_⟩
 .by_cases z:c=a∨c=dx∨c=dd
  .rcases k ((rel.ow.src i _ _ q c (inF z)).imp id λw=> .inl ⟨hio,w,cell z e⟩)with w | ⟨t,mt,mc⟩
   .exact absurd w (nI z e)
   .obtain⟨xs,n,d⟩:=hn t mt c mc o e;exact absurd d (cell z e _ _)
  .by_cases w:c∈X.env.locals::X.fs
   .obtain⟨mx,o',es,ep,e',d⟩:=fd c w;rw[e]at e';cases e';rcases k ((Zj.mp w).elim (λh=> .inl (h▸rel.ok.new.1)) λh=> .inr (.inr h))with w | ⟨t,mt,mc⟩
    .exact absurd d (w.1 _ _)
    .exact absurd mx ((rel.held t mt).1.mem c mc).1
   .exact kp c o e z w
 .have ik:∀{c v},c∈ex->s.heap.IsCell c v->s'.heap.IsCell c v:=λm ⟨o,e,d⟩=>let ⟨sl,e'⟩:=kx _ m o e;⟨_,e',d⟩;exact
  {ok:=rel.ok
   bk:=λc o e=>kp c o (rel.bk c o e) (λz=>by rw[at_.nb c z]at e;cases e) λz=>by rw[rel.exb c (fd c z).1]at e;cases e
   br:=br rel.br
   nw:=λc e=>rel.nw c (nw c e)
   ns:=by
    obtain⟨m,n,qq⟩:=rel.ns;have lk:∀{y v},L2.Look X.env s.heap m y v->L2.Look X.env s'.heap m y v:=λl=>oZ l λc v e=>ik (rel.cell _ c e).1;refine⟨m,?_,λj d b e=>?_⟩
    .obtain⟨o,es,ep,e,d,r⟩:=n;obtain⟨sl,e'⟩:=kx _ rel.loc o e;exact⟨_,es,ep,e',d,r⟩
    rcases set_inv e with⟨rfl,e1⟩ | ⟨z,e1⟩
    .cases e1;obtain⟨y,v,hN,l,p,pn⟩:=qq j _ _ q;obtain⟨_,a1,_,_,_,_,_,rfl,eF',_⟩:=p.jR;rw[eF]at eF';cases eF';rw[pL];exact⟨y,_,hN,lk l,rp,pn⟩
    .obtain⟨b2,e2,_⟩:=(iT M U).2 j d b e1;obtain⟨y,v,hN,l,p,pn⟩:=qq j d b2 e2;rw[oH z];exact⟨y,v,hN,lk l,stay p (by simp only[Qu,Ug ln z e2,lC]),pn⟩
   fsl:=λb m=>let ⟨h,o,es,ep,e,d⟩:=rel.fsl b m;let ⟨sl,e'⟩:=kx b h o e;⟨h,_,es,ep,e',d⟩
   cell:=λy c e=>let ⟨m,v,z⟩:=rel.cell y c e;⟨m,v,ik m z⟩
   loc:=rel.loc
   exl:=λb m=>let ⟨o,e⟩:=rel.exl b m;let ⟨sl,e'⟩:=kx b m o e;⟨_,e'⟩
   exb:=rel.exb
   hnb:=rel.hnb
   len:=by rw[pD,(iT M U).1,rel.len]
   ow:=(rel.ow.weak (iT M U)).set (λb hb=>(m b hb).elim (rel.ow.src i _ _ q b) λh=>h.elim (rel.tN sr b) λh=> .inl (rel.nw b h)) (λj d' z e c mc hc=>by
    obtain⟨b',e2,k⟩:=(iT M U).2 j d' true e;cases k rfl;rcases m c hc with h | h | h
    .exact((rel.ow.own j d' e2).2 c mc).2.1 i _ _ (Ne.symm z) q h
    .exact rel.shr sr e c mc h
    .exact rel.has e2 mc h) nofun
   held:=λt mt=>⟨stay (rel.held t mt).1 (by simp only[Qu,rel.hnb hio t mt,lC]),(rel.held t mt).2⟩}
def Rel.Bw{a dx dd dd':Addr}{G G' Gv:LA}{M:List Nat}{h2:Heap}{t:Nat}{ks ks':List Str}{its its':List Value}{d0:D}{es0 es':List D}{o0:Ob}(rel:Rel X ex hs U F s)(hio:X.io=true)(ln:cG i U=true)(q:U[i]? =some (some (.obj o0 (d0::es0),false)))(eF:F i=a::dx::dd::G)
  (nx:∀b,b=a∨b=dx∨b=dd->b∉ex) (at_:dU X.g s.heap a dx dd ks its) (x:Ex s s1) (kp:∀b o,b≠dx->b≠dd->s1.heap.get? b=some o->h2.get? b=some o) (lv:∃o,h2.get? dd=some o)
  (at':dU X.g h2 a dx dd' ks' its') (nd:dd'=dd∨s.heap.get? dd'=none) (rp:aM X.g ex h2 es' its' G') (sr:Src U F s M Gv) (m:∀b∈G',b∈G∨b∈Gv):
  Fx X hs s {s1 with heap:=h2,toks:=t}/\Rel X ex hs ((dH M U).set i (some (.obj (.ins "Desk" ks') es',false))) (put F i (a::dx::dd'::G')) {s1 with heap:=h2,toks:=t}:=by
 have k1:∀b o,s.heap.get? b=some o->¬(b=a∨b=dx∨b=dd)->h2.get? b=some o:=λb o e z=>kp b o (λw=>z (.inr (.inl w))) (λw=>z (.inr (.inr w))) (x.hp b o e);refine rel.Mu hio ln q eF (λb o e z _=>k1 b o e z) (λb m o e=>⟨o.slots,k1 b o e λz=>nx b z ((Zj.mp m).elim (λh=>h▸rel.loc) λh=>(rel.fsl b h).1)⟩) (λb e=>?_) x.os x.br (.Kt (λb hb=>?_) at' rp) sr λb hb=>?_
 .cases h:s.heap.get? b with
  | none=>rfl
  | some o=>
   by_cases z:b=a∨b=dx∨b=dd
   .rcases z with z | z | z
    .obtain⟨o',e',_⟩:=at'.there (.inl z);rw[show h2.get? b=none from e]at e';cases e'
    .obtain⟨o',e',_⟩:=at'.there (.inr (.inl z));rw[show h2.get? b=none from e]at e';cases e'
    .obtain⟨o',e'⟩:=lv;rw[← z,show h2.get? b=none from e]at e';cases e'
   .have:=k1 b o h z;rw[show h2.get? b=none from e]at this;cases this
 .rcases hb with h | h | h
  .exact nx b (.inl h)
  .exact nx b (.inr (.inl h))
  .rcases nd with w | w
   .exact nx b (.inr (.inr (h.trans w)))
   .exact h▸rel.iO w
 .rcases Aw hb with h | h
  .rcases h with h | h | h
   .exact .inl (by rw[eF];exact eX (.inl h))
   .exact .inl (by rw[eF];exact eX (.inr (.inl h)))
   .rcases nd with w | w
    .exact .inl (by rw[eF];exact eX (.inr (.inr (h.trans w))))
    .exact .inr (.inr (h▸w))
  .exact(m b h).elim (λh=> .inl (by rw[eF];exact .tail _ (.tail _ (.tail _ h)))) λh=> .inr (.inl h)
end
noncomputable def gA(ks:List Str)(k:Str):List Str:=if ks.contains k then ks else ks++[k]
noncomputable def dP{α:Type}(ks:List Str)(xs:List α)(k:Str)(x:α):List α:=if ks.contains k then(ks.zip xs).map λp=>if p.1=k then x else p.2 else xs++[x]
noncomputable def gF(ks:List Str)(k:Str):List Str:=ks.filter λy=>decide (y≠k)
noncomputable def eN{α:Type}(ks:List Str)(xs:List α)(k:Str):List α:=((ks.zip xs).filter λp=>decide (p.1≠k)).map (·.2)
section
variable {X:Cx}{ex:LA}{hs:Hs}{U:En}{F:Ft}{s s1:Shared}{o a b e:Expr}{fa fb:DE}{pos p q p' pos':Pos}{es:List Expr}{x m:Str}{i:Nat}{g:Gb}
def Sd{vs:List Value}{ks:List Str}(h:vs.length=ks.length):stored (ks.zip vs) k v=(gA ks k).zip (dP ks vs k v):=by
 have e:(ks.zip vs).any (λkv=>decide (kv.1=k))=ks.contains k:=by
  induction vs generalizing ks with
  | nil=>cases ks with
   | nil=>rfl
   | cons=>cases h
  | cons u vs ih=>cases ks with
   | nil=>cases h
   | cons y ks=>
    rw[ZI,List.any_cons,ih (Nat.succ.inj h),D3];congr 1;by_cases z:y=k
    .simp[z]
    .simp[z,Ne.symm z]
 unfold stored gA dP;rw[e];cases ks.contains k with
 | true=>
  simp only[if_true];clear e
  induction vs generalizing ks with
  | nil=>cases ks with
   | nil=>rfl
   | cons=>cases h
  | cons u vs ih=>cases ks with
   | nil=>cases h
   | cons y ks=>
    rw[ZI,Zp,Zp,ZI,ih (Nat.succ.inj h)];congr 1;split<;>rfl
 | false=>
  simp only[xP,if_false];rw[List.zip_append h.symm];rfl
def aM.XC{h:Heap}{v:Value}{d:D}{ds:List D}{vs:List Value}{ks:List Str}{k:Str}(r:aM g ex h ds vs L)(q:Rp g ex h d v G)(hl:ks.length=ds.length):∃L',aM g ex h (dP ks ds k d) (dP ks vs k v) L'/\∀a∈L',a∈L∨a∈G:=by
 unfold dP;cases ks.contains k with
 | false=>exact⟨_,r.app q,λa m=>Zf.mp m⟩
 | true=>
  simp only[if_true]
  induction ks generalizing ds vs L with
  | nil=>exact⟨[],.nil,nm⟩
  | cons y ks ih=>cases ds with
   | nil=>cases hl
   | cons d0 ds=>
    obtain⟨v0,vs,G1,F',rfl,rfl,p1,p2⟩:=r.inv;obtain⟨L',r',m⟩:=ih p2 (Nat.succ.inj hl);simp only[ZI,Zp];split
    .exact⟨_,q.app r',λa h=>(Zf.mp h).elim .inr λh=>(m a h).imp (Za _) id⟩
    .exact⟨_,p1.app r',λa h=>(Zf.mp h).elim (λh=> .inl (Zc _ h)) λh=>(m a h).imp (Za _) id⟩
def Nz{ks:List Str}{k:Str}{v:Value}{vs:List Value}(h:vs.length=ks.length):(dP ks vs k v).length=(gA ks k).length:=by
 unfold dP gA;split
 .rw[Zh,List.length_zip];lia
 .simp[h]
def IC{ks:List Str}{vs:List Value}(h:vs.length=ks.length)(z:ks.length<=1000):(ks.zip vs).length<=sizeLine:=by
 have e:(1000:Nat)<=sizeLine:= ∅
 rw[List.length_zip,h,Nat.min_self];exact ZE z e
def Ê{ks:List Str}{k:Str}{rows:List D}{d:D}(h:Qu rows=true)(h':bD d=true):Qu (dP ks rows k d)=true:=by
 unfold dP;split
 .rename_i hk;clear hk
  induction rows generalizing ks with
  | nil=>cases ks<;>rfl
  | cons r rows ih=>cases ks with
   | nil=>rfl
   | cons y ks=>
    simp only[Qu,Ze]at h;simp only[ZI,Zp,Qu,Ze];refine⟨?_,ih h.2⟩;split
    .exact h'
    .exact h.1
 .induction rows with
  | nil=>simp only[Ax,Qu,h',lC]
  | cons r rows ih=>
   simp only[Qu,Ze]at h;simp only[rB,Qu,Ze];exact⟨h.1,ih h.2⟩
def jX(i:Nat)(fa:DE):DS:=λU=>match U[i]? with
 | some (some (.obj (.ins _ ks) (_::rows),false))=>(fa U).bind λr=>if(cG i U && (bD r.d && Qu rows))=true then some (.nx ((dH r.M U).set i (some (.obj (.ins "Desk" ks) (r.d::rows),false))))else none
 | _=>none
def Rel.bC{o:Ob}{d0:D}{es:List D}{c:Bool}(rel:Rel X ex hs U F s)(q:U[i]? =some (some (.obj o (d0::es),c))):∃ks a dx dd its G,o= .ins "Desk" ks/\F i=a::dx::dd::G/\(∀b,b=a∨b=dx∨b=dd->b∉ex)/\dU X.g s.heap a dx dd ks its/\aM X.g ex s.heap (d0::es) its G:=by
 obtain⟨_,_,_,_,_,_,p⟩:=rel.val q;obtain⟨ks,a,dx,dd,its,G,h1,_,h2⟩:=p.jR;exact⟨ks,a,dx,dd,its,G,h1,h2⟩
def Rel.JV{Q:Value->Shared->Prop}{o:Ob}{d0:D}{es':List D}{c:Bool}{a:Addr}{L:LA}(rel:Rel X ex hs U F s)(q:U[i]? =some (some (.obj o (d0::es'),c)))(eF:F i=a::L)(hN:X.N[i]? =some x)(h1:(x == ("__debug__" :Str))=false)(h2:(x == ("__classdict__" :Str))=false)(k:Q (.ref a) s):wpAny X.M X.A (eval (.Name x p) X.env) Q E s:=by
 refine wpAny_Name (rel.lH q hN h2 λv _ t=>?_) h1;obtain⟨ks,a',dx,dd,its,G,_,rfl,eF',_⟩:=t.jR;rw[eF]at eF';cases eF';exact k
def aM.rU{h h':Heap}{dx dd a:Addr}(at_:dU g h a dx dd ks its)(r:aM g ex h ds vs L)(n:Qu ds=true)(kp:∀b o,b≠dx->b≠dd->h.get? b=some o->h'.get? b=some o):aM g ex h' ds vs L:=r.keep λb o _ hm e=>by
 have hq:(∃xs n,o.data= .seq xs n)∨∃vs,o.data= .fields vs:=hm.elim (λm=>by obtain⟨o',e',h⟩:=r.rows n b m;rw[e]at e';cases e';exact .inl h) λh=>h.imp (·.2) λ⟨_,vs,_,d⟩=>⟨vs,d⟩;have no:¬(b=a∨b=dx∨b=dd):=λhb=>by
  obtain⟨o',e',k⟩:=at_.there hb;rw[e]at e';cases e';exact hq.elim (λ⟨xs,n,d⟩=>k.1 _ _ d) λ⟨vs,d⟩=>k.2 _ d
 exact kp b o (λz=>no (.inr (.inl z))) (λz=>no (.inr (.inr z))) e
def Gc{v w:Option Value}:PySem.Within (λy:Str=>if y= "heaps" then v else if y= "net" then w else none) ["heaps","net"]:=λy h=>by
 by_cases e:y= "heaps"
 .exact e▸ .head _
 .by_cases e2:y= "net"
  .exact e2▸ .tail _ (.head _)
  .exact absurd ((if_neg e).trans (if_neg e2)) h
def Yu(hio:X.io=true)(D:g0 X.g.K)(hN:X.N[i]? =some x)(h1:(x == ("__debug__" :Str))=false)(h2:(x == ("__classdict__" :Str))=false)(ha:SE X e fa)(hs:swapsWith e (some (.Attribute (.Name x p) "net" p')) pos.line X.env=pure false):S1 X (.Assign [.Attribute (.Name x p) "net" p'] e pos) (jX i fa):=λex hs' U F s o rel ee=>by
 unfold jX at ee;split at ee
 .rename_i y ks d0 rows q;refine Ql ee λr e1 ee=>?_;split at ee
  .rename_i hc;cases ee;simp only[Ze]at hc;obtain⟨_,a,dx,dd,its,G,ho,eF,nx,at_,rs⟩:=rel.bC q;cases ho;obtain⟨v0,vs,G1,G2,rfl,rfl,r1,r2⟩:=rs.inv;obtain⟨C,hC,cl,n1,n2⟩:=D.ex;refine plainObj_wpAny_Assign_Attribute (aN (ha rel e1) λu s1 ⟨Gv,pv⟩=>(rel.ext pv.ext).JV q eF hN h1 h2 ?_) hs;have fU:dU X.g s1.heap a dx dd ks (v0::vs):=at_.keep λb o _=>pv.ext.hp b o;obtain⟨C',hC',m1⟩:=fU.cls;cases hC.symm.trans hC';refine L2.Bz (rel.ext pv.ext).bM.bH m1 cl.sa cl.po n1.BE cl.hd Gc ∅ λh' O sb=>?_;have kp:∀b o,b≠dx->b≠dd->s1.heap.get? b=some o->h'.get? b=some o:=λb o z _ e=>(sb.2 b z).trans e
   have at':dU X.g h' a dx dd ks (u::vs):=
    {cls:=⟨C,hC,by
      have:(λy:Str=>if y= "net" then some u else if y= "heaps" then some (Value.ref dd)else if y= "net" then(v0::vs).head? else none)=λy:Str=>if y= "heaps" then some (.ref dd)else if y= "net" then(u::vs).head? else none:=by
       funext y;by_cases e1:y= "net"
       .subst e1;rw[if_pos rfl,if_neg ∅,if_pos rfl];rfl
       .rw[if_neg e1,if_neg e1];split<;>rfl
      rw[← this];exact O⟩
     len:=at_.len
     sys:=at_.sys
     dic:=fU.dic.sameBut sb at_.ne.2
     ne:=at_.ne
     nb:=at_.nb}
   have rp:=((aM.rU fU pv.rp (by simp only[Qu,hc.2.1,lC]) kp).app (aM.rU fU (r2.ext pv.ext) hc.2.2 kp));obtain⟨f,r'⟩:=rel.Bw (t:=s1.toks+2) hio hc.1 q eF nx at_ pv.ext kp (at'.there (.inr (.inr rfl)) |>.imp λ_ h=>h.1) at' (.inl rfl) rp pv.src λb m=>(Zf.mp m).symm.imp (Za _) id;exact⟨f,rfl,_,r'⟩
  .cases ee
 .cases ee
def lK(i:Nat):DS:=λU=>match U[i]? with
 | some (some (.obj (.ins _ _) (d::_),false))=>if(cG i U && bD d)=true then some (.nx (U.set i (some (.obj (.ins "Desk" []) [d],false))))else none
 | _=>none
def ú(hio:X.io=true)(D:g0 X.g.K)(hN:X.N[i]? =some x)(h1:(x == ("__debug__" :Str))=false)(h2:(x == ("__classdict__" :Str))=false):S1 X (.Assign [.Attribute (.Name x p) "heaps" p'] (.Dict [] [] pos') pos) (lK i):=λex hs' U F s o rel ee=>by
 unfold lK at ee;split at ee
 .rename_i y ks d0 rows q;split at ee
  .rename_i hc;cases ee;simp only[Ze]at hc;obtain⟨_,a,dx,dd,its,G,ho,eF,nx,at_,rs⟩:=rel.bC q;cases ho;obtain⟨v0,vs,G1,G2,rfl,rfl,r1,r2⟩:=rs.inv;obtain⟨C,hC,cl,n1,n2⟩:=D.ex;have xx:Ex s {s with heap:=s.heap.push {cls:= .type "dict",data:= .dict #[]}}:=Ex.push (t':=s.toks);refine plainObj_wpAny_Assign_Attribute (wpAny_Dict_empty ((rel.ext xx).JV q eF hN h1 h2 ?_)) rfl;have fU:dU X.g (s.heap.push {cls:= .type "dict",data:= .dict #[]}) a dx dd ks (v0::vs):=at_.keep λb o _=>xx.hp b o;obtain⟨C',hC',m1⟩:=fU.cls;cases hC.symm.trans hC';refine L2.Bz (rel.ext xx).bM.bH m1 cl.sa cl.po n2.BE cl.hd Gc ∅ λh' O sb=>?_;have kp:∀b o,b≠dx->b≠dd->(s.heap.push {cls:= .type "dict",data:= .dict #[]}).get? b=some o->h'.get? b=some o:=λb o z _ e=>(sb.2 b z).trans e;have old:∀{b o},s.heap.get? b=some o->b≠s.heap.objs.size:=λe z=>by rw[z,Q2]at e;cases e
   have iO:s.heap.objs.size≠dx:=λz=>by obtain⟨o,e,_⟩:=at_.there (.inr (.inl z));exact old e rfl
   have nea:s.heap.objs.size≠a:=λz=>by obtain⟨o,e,_⟩:=at_.there (.inl z);exact old e rfl
   have at':dU X.g h' a dx s.heap.objs.size [] [v0]:=
    {cls:=⟨C,hC,by
      have:(λy:Str=>if y= "heaps" then some (Value.ref s.heap.objs.size)else if y= "heaps" then some (Value.ref dd)else if y= "net" then(v0::vs).head? else none)=λy:Str=>if y= "heaps" then some (.ref s.heap.objs.size)else if y= "net" then [v0].head? else none:=by
       funext y;by_cases e1:y= "heaps"
       .rw[if_pos e1,if_pos e1]
       .rw[if_neg e1,if_neg e1,if_neg e1];rfl
      rw[← this];exact O⟩
     len:=rfl
     sys:=rel.big
     dic:=(Heap.DictOf.new s.heap).sameBut sb iO
     ne:=⟨nea,iO⟩
     nb:=λb h=>by
      rcases h with h | h | h
      .exact at_.nb b (.inl h)
      .exact at_.nb b (.inr (.inl h))
      .exact h▸rel.tF Q2}
   have lv:∃o,h'.get? dd=some o:=by
    obtain⟨o,e,_⟩:=fU.there (.inr (.inr rfl));exact⟨o,(sb.2 dd at_.ne.2).trans e⟩
   have rp:=aM.rU fU (r1.ext xx) (by simp only[Qu,hc.2,lC]) kp;obtain⟨f,r'⟩:=rel.Bw (M:=[]) (Gv:=[]) (t:=s.toks+2) hio hc.1 q eF nx at_ xx kp lv at' (.inr Q2) rp nm λb m=> .inl (Zc _ m);exact⟨f,rfl,_,r'⟩
  .cases ee
 .cases ee
def lL(i:Nat)(fk fa:DE):DS:=λU=>match U[i]? with
 | some (some (.obj (.ins _ ks) (d::rows),false))=>(fa U).bind λr=>(fk U).bind λrk=>match rk.d with
  | .str k=>if(cG i U && (bD r.d && Qu (d::rows)) && decide (ks.length<=1000))=true then some (.nx ((dH r.M U).set i (some (.obj (.ins "Desk" (gA ks k)) (d::dP ks rows k r.d),false))))else none
  | _=>none
 | _=>none
def ð(hio:X.io=true)(D:g0 X.g.K)(hN:X.N[i]? =some x)(h1:(x == ("__debug__" :Str))=false)(h2:(x == ("__classdict__" :Str))=false)(ha:SE X e fa)(hb:SE X b fb)(hs:swapsWith e (some (.Subscript (.Attribute (.Name x p) "heaps" q) b p')) pos.line X.env=pure false):S1 X (.Assign [.Subscript (.Attribute (.Name x p) "heaps" q) b p'] e pos) (lL i fb fa):=λex hs' U F s o rel ee=>by
 unfold lL at ee;split at ee
 .rename_i y ks d0 rows q;refine Ql ee λr e1 ee=>Ql ee λrk e2 ee=>?_;split at ee
  .rename_i k hk;split at ee
   .rename_i hc;cases ee;simp only[Ze,decide_eq_true_eq]at hc;obtain⟨⟨hl,hn1,hn2⟩,hz⟩:=hc;obtain⟨_,a,dx,dd,its,G,ho,eF,nx,at_,rs⟩:=rel.bC q;cases ho;obtain⟨v0,vs,G1,G2,rfl,rfl,r1,r2⟩:=rs.inv;have lv0:vs.length=ks.length:=Nat.succ.inj at_.len;refine wpAny_Assign_Subscript (aN (ha rel e1) λu s1 ⟨Gv,pv⟩=>(rel.ext pv.ext).rY D q hN h1 h2 λks' a' dx' dd' its' G' ho eF' _ _ _=>?_) hs;cases ho;rw[eF]at eF';cases eF';refine aN (hb ((rel.ext pv.ext).ext .tok) e2) λw s2 ⟨Gk,pk⟩=>?_;have rk':=pk.rp;rw[hk]at rk';obtain⟨tk,rfl⟩:=rk'.str_inv;have x2:Ex s s2:=(pv.ext.trans .tok).trans pk.ext;have at2:dU X.g s2.heap a dx dd ks (v0::vs):=at_.keep λb o _=>x2.hp b o;refine wpAny_setItem_pairs (knd:=PySem.strKind X.g.P X.g.w) (k:=k) (hsz:=IC lv0 hz) (by simp[PySem.strKind,Value.isStrOf]) at2.dic λh' dd' sb=>?_;have kp:∀b o,b≠dx->b≠dd->s2.heap.get? b=some o->h'.get? b=some o:=λb o _ z e=>(sb.2 b z).trans e;have he:∃q,h'.get? dd=some q:=let ⟨q,_,_,hq,_⟩:=dd';⟨q,hq⟩
    have at':dU X.g h' a dx dd (gA ks k) (v0::dP ks vs k u):=
     {cls:=let ⟨C,hC,m⟩:=at2.cls;⟨C,hC,(sb.2 a (Ne.symm at_.ne.1)).trans m.obj,m.ns.sameBut sb (Ne.symm at_.ne.2),m.ne⟩
      len:=congrArg (· +1) (Nz lv0)
      sys:=at_.sys
      dic:=by
       rw[show(v0::vs).tail=vs from rfl,Sd lv0]at dd';exact dd'
      ne:=at_.ne
      nb:=at_.nb}
    simp only[Qu,Ze]at hn2;obtain⟨L',r3,m3⟩:=(r2.ext x2).XC (k:=k) ((pv.rp.ext .tok).ext pk.ext) (by rw[r2.len,lv0]);have nbp:Qu (dP ks rows k r.d)=true:=Ê hn2.2 hn1;have rp:=(aM.rU at2 (r1.ext x2) (by simp only[Qu,hn2.1,lC]) kp).app (aM.rU at2 r3 nbp kp);obtain⟨f,r'⟩:=rel.Bw (t:=s2.toks+1) hio hl q eF nx at_ x2 kp he at' (.inl rfl) rp pv.src λb m=>(Zf.mp m).elim (λm=> .inl (Zc _ m)) λm=>(m3 b m).imp (Za _) id;exact⟨f,rfl,_,r'⟩
   .cases ee
  .cases ee
 .cases ee
end
section
variable {X:Cx}{ex:LA}{hs:Hs}{U:En}{F:Ft}{s s1:Shared}{o a b e:Expr}{fa:DE}{pos p q p' apos cpos:Pos}{x y m:Str}{i:Nat}{g:Gb}
noncomputable def atK(ks:List Str)(rows:List D)(k:Str):Option D:=((ks.zip rows).find? λp=>decide (p.1=k)).map (·.2)
def aM.atK{h:Heap}{k:Str}{d:D}:∀{ks:List Str}{ds vs L},aM g ex h ds vs L->atK ks ds k=some d->∃v G,valueAt (ks.zip vs) k=some v/\Rp g ex h d v G/\∀a∈G,a∈L
 | [],_,_,_,_,e=>nomatch e
 | _::_,[],_,_,_,e=>nomatch e
 | y::ks,d0::ds,_,_,r,e=>by
  obtain⟨v0,vs,G1,F',rfl,rfl,p1,p2⟩:=r.inv;unfold HN.atK at e;unfold valueAt;rw[ZI,List.find?_cons]at e ⊢;by_cases z:y=k
  .rw[decide_eq_true (show(y,d0).1=k from z)]at e;rw[decide_eq_true (show(y,v0).1=k from z)];cases e;exact⟨_,_,rfl,p1,λa=>Zc _⟩
  .rw[decide_eq_false (show ¬(y,d0).1=k from z)]at e;rw[decide_eq_false (show ¬(y,v0).1=k from z)];obtain⟨v,G,e1,r1,m⟩:=p2.atK e;exact⟨v,G,e1,r1,λa h=>Za _ (m a h)⟩
def mJ(i:Nat)(fa:DE):DE:=λU=>(fa U).bind λr=>match r.d,U[i]? with
 | .str k,some (some (.obj (.ins _ ks) (_::rows),false))=>(atK ks rows k).map λd=>R.norm ⟨d,false,[]⟩
 | _,_=>none
def Z4(D:g0 X.g.K)(hN:X.N[i]? =some x)(h1:(x == ("__debug__" :Str))=false)(h2:(x == ("__classdict__" :Str))=false)(ha:SE X a fa)(hp:L2.wI a):SE X (.Subscript (.Attribute (.Name x p) "heaps" p') a pos) (mJ i fa):=λex hs U F s r rel e=>by
 refine Ql e λra ea e=>?_;split at e
 .rename_i k y ks d0 rows hk q;obtain⟨d,e1,rfl⟩:=Zd.mp e;refine Subscript_ (rel.rY D q hN h1 h2 λks' a' dx dd its G ho eF _ at_ rs=>aN (ha (rel.ext .tok) ea) λv s1 ⟨Gk,pk⟩=>?_);cases ho;have rk:=pk.rp;rw[hk]at rk;obtain⟨t,rfl⟩:=rk.str_inv;have x1:Ex s s1:= .trans .tok pk.ext;obtain⟨v0,vs,G1,G2,rfl,rfl,_,r2⟩:=(rs.ext x1).inv;obtain⟨w,Gw,e2,rw',mw⟩:=r2.atK e1;have fU:=at_.keep (h':=s1.heap) λb o _=>x1.hp b o;refine tail_any fU.dic.typeIs PySem.F.slot_dict_getitem.lookup (wpAny_getItem_of (knd:=PySem.strKind X.g.P X.g.w) (k:=k) (by simp[PySem.strKind,Value.isStrOf]) fU.dic.mapOf e2 ?_) (hp _ _);exact Rel.part (L:=Gw) q (x1.trans .tok) rw' λb m=>by rw[eF];exact .tail _ (.tail _ (.tail _ (Za _ (mw b m))))
 .cases e
noncomputable def jH(i:Nat):DE:=λU=>match U[i]? with
 | some (some (.obj (.ins _ ks) (_::_),_))=>if ks.length<=1000 then some ⟨.int ks.length,true,[]⟩else none
 | _=>none
def Z6(D:g0 X.g.K)(hN:X.N[i]? =some x)(h1:(x == ("__debug__" :Str))=false)(h2:(x == ("__classdict__" :Str))=false)(c:Cb X y (.builtin "len") (.Attribute (.Name x p) "heaps" p') [] pos):SE X (.Call (.Name y q) [.Attribute (.Name x p) "heaps" p'] [] pos) (jH i):=λex hs U F s r rel e=>by
 unfold jH at e;split at e
 .rename_i z ks d0 rows b hq;split at e
  .rename_i hz;cases e;refine c.call rel ?_;rw[c.e];refine ZJ (rel.rY D hq hN h1 h2 λks' a' dx dd its G ho eF _ at_ rs=>ZY ?_);cases ho;have hl:(ks.zip its.tail).length=ks.length:=by rw[List.length_zip,List.length_tail,at_.len];exact Nat.min_self _
   refine call_len_dict at_.sys ((at_.keep (h':={s with toks:=s.toks+1}.heap) λ_ _ _ e=>e).dic) (by rw[hl];lia) ?_;rw[hl];exact⟨[],.flat (.trans .tok (.trans .tok .tok)) .int⟩
  .cases e
 .cases e
def W6{vs:List Value}{ks:List Str}(h:vs.length=ks.length):without (ks.zip vs) k=(gF ks k).zip (eN ks vs k):=by
 unfold without gF eN
 induction vs generalizing ks with
 | nil=>cases ks with
  | nil=>rfl
  | cons=>cases h
 | cons u vs ih=>cases ks with
  | nil=>cases h
  | cons y ks=>
   have:=ih (Nat.succ.inj h);rw[ZI,ZO,ZO];by_cases z:y=k
   .subst z;simpa using this
   .simp only[ne_eq,z,not_false_eq_true,decide_true,if_true,Zp,ZI];exact congrArg _ this
def aM.MO{h:Heap}{k:Str}:∀{ks:List Str}{ds vs L},aM g ex h ds vs L->∃L',aM g ex h (eN ks ds k) (eN ks vs k) L'/\∀a∈L',a∈L
 | [],_,_,_,_=>⟨[],.nil,nm⟩
 | _::_,[],_,_,r=>by cases r;exact⟨[],.nil,nm⟩
 | y::ks,d0::ds,_,_,r=>by
  obtain⟨v0,vs,G1,F',rfl,rfl,p1,p2⟩:=r.inv;obtain⟨L',r',m⟩:=p2.MO (ks:=ks) (k:=k);unfold eN at r' ⊢;rw[ZI,ZI,ZO,ZO];by_cases z:y=k
  .rw[if_neg (by simp[z]),if_neg (by simp[z])];exact⟨L',r',λa h=>Za _ (m a h)⟩
  .rw[if_pos (by simp[z]),if_pos (by simp[z])];exact⟨_,p1.app r',λa h=>(Zf.mp h).elim (Zc _) λh=>Za _ (m a h)⟩
def Hg{k:Str}:∀{ks:List Str}{rows:List D},Qu rows=true->Qu (eN ks rows k)=true
 | [],_,_=>rfl
 | _::_,[],_=>rfl
 | y::ks,d::rows,h=>by
  simp only[Qu,Ze]at h;have:=Hg (k:=k) (ks:=ks) h.2;unfold eN at this ⊢;rw[ZI,ZO];split
  .simp only[Zp,Qu,Ze];exact⟨h.1,this⟩
  .exact this
def JR{k:Str}:∀{ks:List Str}{vs:List Value},vs.length=ks.length->(eN ks vs k).length=(gF ks k).length
 | [],_,_=>rfl
 | _::_,[],h=>nomatch h
 | y::ks,v::vs,h=>by
  have:=JR (k:=k) (Nat.succ.inj h);unfold eN gF at this ⊢;rw[ZI,ZO,ZO];by_cases z:y=k
  .rw[if_neg (by simp[z]),if_neg (by simp[z])];exact this
  .rw[if_pos (by simp[z]),if_pos (by simp[z])];exact congrArg (· +1) this
def kE(i:Nat)(fk:DE):DS:=λU=>match U[i]? with
 | some (some (.obj (.ins _ ks) (d::rows),false))=>(fk U).bind λrk=>match rk.d with
  | .str k=>if(cG i U && Qu (d::rows) && decide (ks.length<=1000) && (atK ks rows k).isSome)=true then some (.nx (U.set i (some (.obj (.ins "Desk" (gF ks k)) (d::eN ks rows k),false))))else none
  | _=>none
 | _=>none
structure Md (X:Cx) (o:Expr) (m:Str) (apos:Pos) (a:Expr) (cpos:Pos) (id:String):Prop where
 s:Slot "dict" m id
 t:typeOf (.builtin id)=pure (.type "method_descriptor")
 b:attributeBase o m X.env (eval o X.env)=eval o X.env
 f:((backTo cpos (starEach [a] X.env)).all (λx=> !x.1) && (backToKw cpos (keywordEach [] X.env)).all (λx=>x.1.isSome) && decide ([a].length+([]:List Keyword).length+(if([]:List Keyword).isEmpty then 0 else 1)<30))=true
 l:(apos.endLine == cpos.line)=true
 p:(backTo cpos (starEach [a] X.env)).any (·.1)=false
 e:One X a []
def Of(hio:X.io=true)(D:g0 X.g.K)(hN:X.N[i]? =some x)(h1:(x == ("__debug__" :Str))=false)(h2:(x == ("__classdict__" :Str))=false)(c:Md X (.Attribute (.Name x p) "heaps" p') "pop" apos a cpos "dict.pop")(ha:SE X a fa):S1 X (.Expr (.Call (.Attribute (.Attribute (.Name x p) "heaps" p') "pop" apos) [a] [] cpos) pos) (kE i fa):=λex hs' U F s o rel ee=>by
 unfold kE at ee;split at ee
 .rename_i y ks d0 rows q;refine Ql ee λrk e2 ee=>?_;split at ee
  .rename_i k hk;split at ee
   .rename_i hc;cases ee;simp only[Ze,decide_eq_true_eq]at hc;obtain⟨⟨⟨hl,hn⟩,hz⟩,hs⟩:=hc;obtain⟨_,a',dx,dd,its,G,ho,eF,nx,at_,rs⟩:=rel.bC q;cases ho;obtain⟨v0,vs,G1,G2,rfl,rfl,r1,r2⟩:=rs.inv;have lv0:vs.length=ks.length:=Nat.succ.inj at_.len;refine wpAny_Expr_any (wpAny_Call_method_late c.b c.f c.l rfl (rel.rY D q hN h1 h2 λks' a2 dx' dd' its' G' ho eF' _ _ _=>?_)) rel.quiet rfl;cases ho;rw[eF]at eF';cases eF';have fU:dU X.g {s with toks:=s.toks+1}.heap a' dx dd ks (v0::vs):=at_;refine⟨"dict","dict.pop",PySem.F.plainAttrs_dict,c.s,c.t,fU.dic.typeIs,λa z=>by cases z;obtain⟨o,_,_,e,x,_⟩:=fU.dic;exact⟨o,e,x.2.1⟩,tU c.p ?_⟩;rw[c.e];refine u4 (ZJ (aN (ha (rel.ext .tok) e2) λw s2 ⟨Gk,pk⟩=>ZY ?_));have rk':=pk.rp;rw[hk]at rk';obtain⟨tk,rfl⟩:=rk'.str_inv;have x2:Ex s s2:= .trans .tok pk.ext;have at2:dU X.g s2.heap a' dx dd ks (v0::vs):=at_.keep λb o _=>x2.hp b o;obtain⟨dk,hdk⟩:=xV.mp hs;obtain⟨wv,_,e3,_,_⟩:=r2.atK hdk
    refine call_meetsIn PySem.F.slot_dict_pop at2.dic.typeIs PySem.F.entry_dict_pop (PySem.F.args_dict_pop_2 _ _) (meets_dict_pop_there (PySem.strKind X.g.P X.g.w) dd (k:=k) (by simp[PySem.strKind,Value.isStrOf]) [] (.inl rfl) rfl)
     ⟨_,wv,at2.dic,IC lv0 hz,e3,λh' dd' sb=>?_⟩
    have kp:∀b o,b≠dx->b≠dd->s2.heap.get? b=some o->h'.get? b=some o:=λb o _ z e=>(sb.2 b z).trans e;have he:∃q,h'.get? dd=some q:=let ⟨q,_,_,hq,_⟩:=dd';⟨q,hq⟩
    have at':dU X.g h' a' dx dd (gF ks k) (v0::eN ks vs k):=
     {cls:=let ⟨C,hC,m⟩:=at2.cls;⟨C,hC,(sb.2 a' (Ne.symm at_.ne.1)).trans m.obj,m.ns.sameBut sb (Ne.symm at_.ne.2),m.ne⟩
      len:=congrArg (· +1) (JR lv0)
      sys:=at_.sys
      dic:=by
       rw[show(v0::vs).tail=vs from rfl,W6 lv0]at dd';exact dd'
      ne:=at_.ne
      nb:=at_.nb}
    simp only[Qu,Ze]at hn;obtain⟨L',r3,m3⟩:=(r2.ext x2).MO (ks:=ks) (k:=k);have rp:=(aM.rU at2 (r1.ext x2) (by simp only[Qu,hn.1,lC]) kp).app (aM.rU at2 r3 (Hg hn.2) kp);obtain⟨f,r'⟩:=rel.Bw (M:=[]) (Gv:=[]) (t:=s2.toks+1) hio hl q eF nx at_ x2 kp he at' (.inl rfl) rp nm λb m=>(Zf.mp m).elim (λm=> .inl (Zc _ m)) λm=> .inl (Za _ (m3 b m));exact⟨f,rfl,_,r'⟩
   .cases ee
  .cases ee
 .cases ee
end
section
variable {prog:Program}{w:World}{A:Around}{E:Value->Shared->Prop}{s:Shared}
set_option maxHeartbeats 400000 in
def Wv{a:Addr}{es:Array DictEntry}{ep:Nat}{Q:List Value->Shared->Prop}(hh:A.handled=none)(hd:(a == sysModules)=false)(hm:HS.lX s.heap a es ep)(nb:es.size<=sizeLine)
  (q:∀h' tk acc,(∀b o,s.heap.get? b=some o->h'.get? b=some o)->ItemsOf (λi v=>∃e,es[i]? =some e/\v=e.key) acc es.size->Q acc.toList {s with heap:=h',toks:=tk}):
  wpAny (model prog w) A (collect (.ref a)) Q E s:=by
 have al:a<s.heap.objs.size:=let ⟨o,ho,_⟩:=hm;ZC ho;have WW:=(NJ (prog:=prog) (w:=w) (A:=A.in1) (I:=s.heap.objs.size+1) (es:=es) (ep:=ep) hh (kR (vH al))).toS
 have key:∀(R:Result->Shared->Prop) (h:Heap) (c:Nat),h.get? (s.heap.objs.size+1)=some (iR a 0 es.size ep)->HS.lX h a es ep->(∀b o,s.heap.get? b=some o->h.get? b=some o)->h.get? s.heap.objs.size=some {cls:= .type "list",data:= .seq #[] c}→
   (∀(h':Heap) (tk c:Nat) (acc:Array Value),(∀b o,s.heap.get? b=some o->h'.get? b=some o)->h'.get? s.heap.objs.size=some {cls:= .type "list",data:= .seq acc c}->ItemsOf (λi v=>∃e,es[i]? =some e/\v=e.key) acc es.size->R (.ok (.ret (.ref s.heap.objs.size))) {s with heap:=h',toks:=tk})→
   codeAny (model prog w) A (.builtin "list.extend.loop" ⟨[.ref s.heap.objs.size,.ref (s.heap.objs.size+1),.ref s.heap.objs.size],[]⟩) R {s with heap:=h}:=by
  intro R h c k1 k2 k3 k4 k5;refine codeAny_extend_loopS WW nb s.heap.objs.size (by simp[kU al]) _ es.size 0 _ #[] c rfl (sG _) ⟨k1,k2⟩ k4 (ItemsOf.nil _) λs' acc c mv g ia=>?_;rw[Moved.eq_with mv];refine k5 s'.heap s'.toks c acc (λb o z=>?_) g ia;have bl:=ZC z;exact mv.heap b o (by simp[kR bl,kR (vH bl)]) (k3 b o z)
 unfold collect;refine wpAny_bind (wpAny_runValue (codeAny_builtin F.entry_proto_collect ?_));rw[Around.under_plainId F.plain_proto_collect _];show wpAny _ A.in1 (newList [] >>= λl=>again (.builtin "list.__iadd__" ⟨[l,.ref a],[]⟩)) _ _ s;refine wpAny_bind (wpAny_newObj_type ?_);refine wpAny_pure ⟨plainId_quiet F.plain_list_iadd _,codeAny_builtin F.entry_list_iadd ?_⟩;rw[Around.under_plainId F.plain_list_iadd _];show wpAny _ A.in1 (Builtin.List.listExtendWith (.ref s.heap.objs.size) (.ref a) (.ref s.heap.objs.size)) _ _ _;have hS2:(s.heap.push {cls:= .type "list",data:= .seq ([]:List Value).toArray}).get? s.heap.objs.size=some {cls:= .type "list",data:= .seq #[]}:=Zi _ rfl;have kp:∀b o,s.heap.get? b=some o->(s.heap.push {cls:= .type "list",data:= .seq ([]:List Value).toArray}).get? b=some o:=λb o z=>Zb _ z;have sz:(s.heap.push {cls:= .type "list",data:= .seq ([]:List Value).toArray}).objs.size=s.heap.objs.size+1:=ZF _ _;have hm2:=hm.keep (kp a);generalize s.heap.push {cls:= .type "list",data:= .seq ([]:List Value).toArray}=h2 at hS2 kp sz hm2 ⊢;unfold Builtin.List.listExtendWith;have ty2:({s with heap:=h2}:Shared).TypeIs (.ref a) "dict" :=let ⟨o,ho,hx,_⟩:=hm2;⟨o,ho,hx.1⟩;refine wpAny_bind (wpAny_typeOf ty2 ?_);have h1:Builtin.List.listSameRef (.ref s.heap.objs.size) (.ref a)=false:=by simp[Builtin.List.listSameRef,kU al]
 rw[if_neg (by rw[h1];decide)];refine wpAny_bind (SD hd hm2 ?_);have hS3:=Zb (iR a 0 es.size ep) hS2;have hI3:(h2.push (iR a 0 es.size ep)).get? h2.objs.size=some (iR a 0 es.size ep):=Zi _ rfl;have hm3:=hm2.keep λo z=>Zb (iR a 0 es.size ep) z;have kp3:∀b o,s.heap.get? b=some o->(h2.push (iR a 0 es.size ep)).get? b=some o:=λb o z=>Zb _ (kp b o z);rw[sz]at hI3 ⊢;refine wpAny_bind (wpAny_holding (Wh (s:={s with heap:=h2.push (iR a 0 es.size ep)}) hm3 ?_));rw[if_pos ∅];refine wpAny_bind (wpAny_rule (wpAny_bind ?_));show wpAny _ _ (updateSeq s.heap.objs.size (·.push .none) >>= λ_=>updateSeq s.heap.objs.size (·.pop)) _ _ _;refine wpAny_bind (wpAny_updateSeq hS3 rfl ?_);have hS4:=vD (Obj.mapSeq (·.push Value.none)) hS3 rfl;refine wpAny_updateSeq (hz:=by seq_fits) hS4 rfl ?_;obtain⟨c1,hS5⟩:∃c1,(((h2.push (iR a 0 es.size ep)).update s.heap.objs.size (Obj.mapSeq (·.push Value.none))).update s.heap.objs.size (Obj.mapSeq (·.pop))).get? s.heap.objs.size=some {cls:= .type "list",data:= .seq #[] c1}:=⟨_,vD (Obj.mapSeq (·.pop)) hS4 rfl⟩;have hI5:=Fh (f:=Obj.mapSeq (·.push Value.none)) (g:=Obj.mapSeq (·.pop)) _ _ (Nat.succ_ne_self s.heap.objs.size) hI3;have hm5:=hm3.keep λo z=>Fh (f:=Obj.mapSeq (·.push Value.none)) (g:=Obj.mapSeq (·.pop)) _ _ (kR al) z;have kp5:∀b o,s.heap.get? b=some o->(((h2.push (iR a 0 es.size ep)).update s.heap.objs.size (Obj.mapSeq (·.push Value.none))).update s.heap.objs.size (Obj.mapSeq (·.pop))).get? b=some o:=λb o z=>Fh b o (kR (ZC z)) (kp3 b o z);refine wpAny_pure ⟨plainId_quiet PySem.F.plain_extend_loop _,?_⟩;dsimp only;refine key _ _ c1 hI5 hm5 kp5 hS5 λh' tk c acc m1 m2 m3=>?_;show wpAny _ A (load s.heap.objs.size >>= _) _ _ _;exact wpAny_bind (wpAny_load m2 (wpAny_pure (q h' tk acc m1 m3)))
def WD{a:Addr}{es:Array DictEntry}{ep:Nat}{Q:Value->Shared->Prop}{ys:List Str}(hh:A.handled=none)(hd:(a == sysModules)=false)(hm:HS.lX s.heap a es ep)(nb:es.size<=1)(hy:PyProof.Rows.StrsAre (es.toList.map DictEntry.key) ys)
  (q:∀h' tk l n,s.heap.get? l=none->(∀b o,s.heap.get? b=some o->h'.get? b=some o)->h'.get? l=some (seqObj "list" (es.toList.map DictEntry.key).toArray n)->Q (.ref l) {s with heap:=h',toks:=tk}):
  wpAny (model prog w) A (call (.builtin "sorted") [.ref a]) Q E s:=by
 refine Calls.call_function_entry kind_sorted plain_sorted entry_sorted (args_sorted1 _) ?_;unfold Builtin.«sorted»;refine wpAny_bind (m:=checkCount "sorted" 1 1 _) (wpAny_pure ?_);refine wpAny_bind (Wv hh hd hm (ZE nb ∅) λh1 tk acc kp ia=>?_);have ea:acc.toList=es.toList.map DictEntry.key:=by
  refine DQ λj=>?_;rw[Zy,wA,wA];cases e:acc[j]? with
  | none=>rw[Array.getElem?_eq_none (by rw[← ia.1];exact Array.getElem?_eq_none_iff.mp e)];rfl
  | some v=>obtain⟨en,e1,rfl⟩:=ia.2 j v e;rw[e1];rfl
 rw[ea];generalize es.toList.map DictEntry.key=vs at hy ea q ⊢;have hl:vs.length<=1:=by
  rw[← ea,Fe,ia.1];exact nb
 refine wpAny_bind (wpAny_newList ?_ (ZE hl ∅));have no:s.heap.get? h1.objs.size=none:=by
  cases e:s.heap.get? h1.objs.size with
  | none=>rfl
  | some o=>have:=kp _ _ e;rw[Q2]at this;cases this
 have hoL:(h1.push (seqObj "list" vs.toArray 0)).get? h1.objs.size=some (seqObj "list" vs.toArray 0):=Zi _ rfl;refine wpAny_bind (wpAny_holding (wpAny_call_entry slot_list_sort ⟨_,hoL,rfl⟩ entry_list_sort (list_sort_treeK strKind_oneLt hoL hy.keysOf (λv₁ v₂ rest e=>by rw[e]at hl;exact absurd hl ⋯) ⋯ λst' a1 a2=>⟨_,rfl,?_⟩) (args_list_sort _)));have eo:(arrOf st').map (·.2)=vs.toArray:=by
  have p:=Array.perm_iff_toList_perm.mp a1;rw[pairsOf_toList]at p;refine Array.ext' ?_;rw[Array.toList_map]
  match vs,hl,p with
  | [],_,p=>rw[List.perm_nil.mp p];rfl
  | [v],_,p=>rw[List.perm_singleton.mp p];rfl
 obtain⟨n,e⟩:=sortedHeap_at (out:=(arrOf st').map (·.2)) hoL;refine wpAny_pure ⟨_,rfl,q _ _ _ n no (λb o e=>?_) (eo▸e)⟩;rw[sortedHeap_old (λz=>by rw[z,no]at e;cases e) (by rw[size_push'];exact vH (ZC (kp b o e)))];exact Zb _ (kp b o e)
end
section
variable {X:Cx}{ex:LA}{hs:Hs}{U:En}{F:Ft}{s s1:Shared}{o b e a:Expr}{pos p q p':Pos}{es:List Expr}{x y m:Str}{i:Nat}{g:Gb}{fa:DE}{kvs:iF}
def P5{P:Program}{w:World}{vs:List Value}:∀{es:List DictEntry}{ks:List Str},Pairs (PySem.strKind P w) es (ks.zip vs)->vs.length=ks.length->PyProof.Rows.StrsAre (es.map DictEntry.key) ks/\es.length=ks.length:=by
 induction vs with
 | nil=>intro es ks p h;cases ks with
  | nil=>cases p;exact⟨.nil,rfl⟩
  | cons=>cases h
 | cons v vs ih=>intro es ks p h;cases ks with
  | nil=>cases h
  | cons k ks=>
   rw[ZI]at p;cases p with
   | cons h1 h2 p=>
    obtain⟨r,l⟩:=ih p (Nat.succ.inj h);obtain⟨t,e⟩:=Value.isStrOf_shape h1;exact⟨by rw[Zp,e];exact .cons _ t r,congrArg (· +1) l⟩
def Vv{h:Heap}{vs:List Value}{ks:List Str}(r:PyProof.Rows.StrsAre vs ks):aM g ex h (ks.map .str) vs []:=by
 induction r with
 | nil=>exact .nil
 | cons y t _ ih=>exact(aM.str (t:=t)).app ih
noncomputable def lO(i:Nat):DE:=λU=>match U[i]? with
 | some (some (.obj (.ins _ ks) (_::_),_))=>if ks.length<=1 then some ⟨.lst (ks.map .str),true,[]⟩else none
 | _=>none
def Xk(hc:X.calm=true)(D:g0 X.g.K)(hN:X.N[i]? =some x)(h1:(x == ("__debug__" :Str))=false)(h2:(x == ("__classdict__" :Str))=false)(c:Cb X y (.builtin "sorted") (.Attribute (.Name x p) "heaps" p') [] pos):SE X (.Call (.Name y q) [.Attribute (.Name x p) "heaps" p'] [] pos) (lO i):=λex hs U F s r rel e=>by
 unfold lO at e;split at e
 .rename_i z ks d0 rows b hq;split at e
  .rename_i hz;cases e;refine c.call rel ?_;rw[c.e];refine ZJ (rel.rY D hq hN h1 h2 λks' a' dx dd its G ho eF _ at_ rs=>ZY ?_);cases ho;obtain⟨od,es,ep,ho,hx,hd,_,hp,_⟩:=at_.dic;obtain⟨sa,sl⟩:=P5 hp (by rw[List.length_tail,at_.len];rfl);refine WD (ep:=ep) (rel.ok.hd hc) at_.sys ⟨od,ho,hx,hd⟩ (by rw[← Fe,sl];exact hz) sa λh' tk l n hn kp hl=>?_;exact⟨_,.wO (its:=es.toList.map DictEntry.key) (n:=n) (s1:={s with toks:=s.toks+1}) .tok (.of λb o e=>kp b o e) hn (rel.iO hn) hl (by rw[Zh];exact ZE hz ∅) (Vv sa)⟩
  .cases e
 .cases e
def Dp(X:Cx)(x:Str)(kvs:iF):Prop:=rC X.g.w X.g.K x kvs/\∀a,PySem.W.nsIn X.g.K mainGlobals x=some (some (.ref a))->X.g.mg x=some (.ref a)
def Rel.dc{c:Addr}{es:Array DictEntry}{n:Nat}(r:Rel X ex hs U F s)(h2:X.g.K.lookup c=some ⟨.type "dict",none,.dict es n,#[]⟩)(h4:mD X.g.K X.g.w.params es.toList kvs)(k:Str):s.heap.MapOf (PySem.strKind X.g.P X.g.w) c (λk=>findBy Value.isStrOf es k)∧
  ((look k kvs=none/\findBy Value.isStrOf es k=none)∨∃ts b its m dd sl,look k kvs=some ts/\findBy Value.isStrOf es k=some (.ref b)/\X.g.K.lookup b=some ⟨.type "tuple",dd,.seq its m,sl⟩/\HS.StrsAre its.toList ts):=by
 refine⟨PySem.W.mapOf_K r.bM.bH h2 h4.keys,?_⟩;unfold findBy;rw[← Array.find?_toList];rcases h4.find (k:=k)with⟨h,q⟩ | ⟨ts,e,b,its,m,dd,sl,h,q,e3,e4,e5⟩
 .exact .inl ⟨h,by rw[q];rfl⟩
 .exact .inr ⟨ts,b,its,m,dd,sl,h,by rw[q,ZR,e3],e4,e5⟩
def VT(hd:Dp X x kvs)(hg:Gl X x)(hdb:(x == ("__debug__" :Str))=false)(ha:SE X a fa):ST X (.Compare a [.NotIn] [.Name x p] pos) (mI kvs true fa):=λex hs U F s b rel e=>by
 obtain⟨⟨c,es,n,h1,h2,h3,h4,h5⟩,hm⟩:=hd;refine Ql e λr e1 e=>?_;split at e
 .rename_i k hk;cases e;refine wpAny_isTrue_Compare1 (aN (ha rel e1) λv s1 ⟨G,p1⟩=>(rel.ext p1.ext).glob hg (hm c h1) ?_ hdb) rfl;have rp:=p1.rp;rw[hk]at rp;obtain⟨t,rfl⟩:=rp.str_inv;obtain⟨hmp,hf⟩:=(rel.ext p1.ext).dc h2 h4 k;refine wpAny_notIn_of (knd:=PySem.strKind X.g.P X.g.w) (k:=k) (by simp[PySem.strKind,Value.isStrOf]) h3 hmp ?_;have e:(findBy Value.isStrOf es k).isSome=(look k kvs).isSome:=by
   rcases hf with⟨h,q⟩ | ⟨ts,b,its,m,dd,sl,h,q,_⟩<;>rw[h,q]<;>rfl
  rw[e,Bool.bne_true];exact aN (aM.fO (X:=X) (ex:=ex) (d:= .bl (!(look k kvs).isSome)) .bl rfl) λc s2 ⟨h,x⟩=>⟨h,p1.ext.trans (.trans .tok x)⟩
 .cases e
def StrsAre.MS{h:Heap}:∀{vs:List Value}{xs:List Str},HS.StrsAre vs xs->aM g ex h (xs.map .str) vs []
 | [],[],_=> .nil
 | v::vs,x::xs,⟨⟨t,e⟩,r⟩=> .atm ⟨t,e⟩ (StrsAre.MS r)
 | [],_::_,h=>h.elim
 | _::_,[],h=>h.elim
def ON(hd:Dp X x kvs)(hg:Gl X x)(hdb:(x == ("__debug__" :Str))=false)(ha:SE X a fa)(hp:L2.wI a):SE X (.Subscript (.Name x p) a pos) (eD kvs fa):=λex hs U F s r' rel e=>by
 obtain⟨⟨c,es,n,h1,h2,h3,h4,h5⟩,hm⟩:=hd;refine Ql e λr e1 e=>?_;split at e
 .rename_i z hz;obtain⟨ts,ets,rfl⟩:=Zd.mp e;refine Subscript_ (rel.glob hg (hm c h1) (aN (ha rel e1) λv s1 ⟨G,p1⟩=>?_) hdb);have rp:=p1.rp;rw[hz]at rp;obtain⟨t,rfl⟩:=rp.str_inv;have r1:=rel.ext p1.ext;obtain⟨hmp,hf⟩:=r1.dc h2 h4 z;rcases hf with⟨h,_⟩ | ⟨ts',b,its,m,dd,sl,h,hfb,hb,hst⟩
  .rw[h]at ets;cases ets
  .rw[h]at ets;cases ets;have rs:=StrsAre.MS (g:=X.g) (ex:=ex) (h:=s1.heap) hst;have hl:ts.length<=100:=by
    have key:∀{l:iF},look z l=some ts->l.all (λp=>decide (p.2.length<=100))=true->ts.length<=100:=λ{l}=>by
     induction l with
     | nil=>intro h;cases h
     | cons p l ih=>
      intro h q;rw[E3,Ze]at q;unfold look at h;split at h
      .cases h;exact of_decide_eq_true q.1
      .exact ih h q.2
    exact key h h5
   have nb:b∉ex:=λm=>by
    have:=rel.exb b m;rw[rel.ok.mod.bH b _ hb]at this;cases this
   refine tail_any hmp.typeIs PySem.F.slot_dict_getitem.lookup (wpAny_getItem_of (knd:=PySem.strKind X.g.P X.g.w) (k:=z) (by simp[PySem.strKind,Value.isStrOf]) hmp hfb ?_) (hp _ _);exact⟨[],.flat (p1.ext.trans .tok) (.tup (F:=[]) nb (by rw[Zh];exact ZE hl ∅) ⟨_,r1.bM.bH b _ hb,rfl,m,⋯⟩ rs .nil)⟩
 .cases e
end
def u6(A:Around)(fs:LA):Prop:=∃outer,A.frames=some outer/\outer.filterMap (·.frame)=fs/\∀e∈outer,e.scope.kind≠ .module/\e.frame≠none
abbrev uI(ex fs:LA)(s:Shared):Prop:=∀b∈fs,b∈ex/\∃o es ep,s.heap.get? b=some o/\o.data= .dict es ep
structure CV (g:Gb) (ex fs:LA) (A:Around) (s:Shared):Prop where
 bM:q8 g ex s
 fsl:uI ex fs s
 fra:u6 A fs
structure EV (g:Gb) (ex fs:LA) (s:Shared) (a:Addr) (G:LA) (d bC:D) (v:Value) (s':Shared):Prop where
 val:At d v
 os:s'.os=s.os
 br:AllBare s.gens->AllBare s'.gens
 nw:∀b,s'.heap.get? b=none->s.heap.get? b=none
 kp:∀b o,s.heap.get? b=some o->(b∈G->∃xs n,o.data= .seq xs n)->b∉fs->s'.heap.get? b=some o
 ku:∀b∈fs,∀o,s.heap.get? b=some o->∃sl,s'.heap.get? b=some {o with slots:=sl}
 rp:∃G',Rp g ex s'.heap bC (.ref a) G'/\∀b∈G',s.heap.get? b=none∨b∈G
noncomputable abbrev bP:=List D->Option (D×D)
def vF(g:Gb)(k:Nat)(f:Addr)(fd:FuncData)(ps:List Str)(den:bP):Prop:=∀ ⦃A s ex fs args us a ds G d bC⦄,L2.cC k A->CV g ex fs A s->BindsTo s fd args (ps.zip (.ref a::us))->aM g ex s.heap ds (.ref a::us) G->ds.length=ps.length->den ds=some (d,bC)→
 codeAny (model g.P g.w) A (.call (.ref f) args) (λr s'=>∃v,r= .ok (.ret v)/\EV g ex fs s a G d bC v s') s
abbrev SH(g:Gb)(N:List Str)(qual:Str)(scope:Scope)(f:Addr)(cd:Value)(A:Around)(s:Shared)(G fs:LA)(a:Addr):Cx:=mZ g N qual scope f cd A s G true (some (0,a)) fs
def fC(n:Nat)(gs:DS):bP:=λds=>(gs (Qy n ds)).bind λo=>match o with
 | .nx U=>(U[0]?.bind id).bind λp=>some (.aT,p.1)
 | .rt (.obj .pair [d,bC]) _=>some (d,bC)
 | _=>none
section
variable {X:Cx}{ex fs:LA}{hs:Hs}{U:En}{F:Ft}{s s' s1:Shared}{g:Gb}{k n:Nat}{f a:Addr}{fd:FuncData}{ps:List Str}
def Rel.pinned{d:D}{b:Bool}(r:Rel X ex hs U F s)(hp:X.pin=some (i,a))(e:U[i]? =some (some (d,b))):Rp X.g ex s.heap d (.ref a) (F i):=by
 obtain⟨m,n,q⟩:=r.ns;obtain⟨x,v,_,_,p,pn⟩:=q i d b e;rwa[pn a hp]at p
def WQ{x qual:Str}{st:Stmt}{gs:DS}(Fu:jQ g.K x qual st f fd)(S:L2.mT (namesOf (L2.Qp st)) ps (L2.Qp st))(hb:∀cdv A s G fs a,L2.cC k (A.deeper (envOfC qual (L2.Qp st) s.heap.objs.size f cdv))->u6 A fs->SS (SH g (namesOf (L2.Qp st)) qual (L2.Qp st) f cdv A s G fs a) (L2.QE st) gs):
  vF g (k+1) f fd ps (fC (namesOf (L2.Qp st)).length gs):=λA s ex fs args us a ds G d bC hr e0 hbi r hl hd=>by
 obtain⟨oc,od,dV,kV,doc,pm,an,cdv,ct,osl,rfl,lk,hcd⟩:=Fu.ex;refine Ql hd λo ho hd=>?_;have hkind:∀y∈ps.zip (.ref a::us),(L2.Qp st).names.lookup y.1=some .local ∨((L2.Qp st).names.lookup y.1=some .cell/\((cellsFrom (s.heap.objs.size+1) (L2.Qp st).names []).lookup y.1).isSome=true):=λZ hy=>by
  obtain⟨n,v⟩:=Z;exact(S.par n (rW hy).1).imp id λq=>⟨q,t9 _ _ _ (.inl q)⟩
 refine codeAny_call_function hr.depth (e0.bM.bH _ _ lk) rfl S.co S.gen rfl (sY e0.bM.bH hcd) (hbi _ _ _ _ (wpAny_newFunctionEnv_cells S.kind hkind λenv he s1 x=>?_));subst he;refine⟨(e0.bM.mod.nolimit.keeps e0.bM.bk).keeps x.toInCall.keep,codeAny_func ?_⟩;obtain⟨F,w,rel⟩:=enter (io:=true) (pin:=some (0,a)) (fs:=fs) (A:=A) (qual:=qual) (f:=f) (cd:=cdv) S e0.bM hl r (λi a' h=>by cases h;rfl) e0.fsl x;obtain⟨h1,tk,rfl,hk⟩:=x.done;refine any (aN (hb cdv A s G fs a (hr.deeper _) e0.fra rel ho) λfl s' ⟨y,q⟩=>?_);have fin:∀{v:Value}{G':LA},At d v->Rp g (w++ex) s'.heap bC (.ref a) G'->(∀b∈G',s.heap.get? b=none∨b∈G)->(∀b,s'.heap.get? b=none->s.heap.get? b=none)->EV g ex fs s a G d bC v s':=λhv rp m nw=>
  ⟨hv,y.os,y.br,nw,λb o e k n=>y.hp b o (hk b o e) λc=>c.elim (λz=>by rw[show s.heap.get? b=none from z]at e;cases e) λc=>c.elim (λ⟨_,m,z⟩=>(let ⟨xs,n,d⟩:=k m;absurd d (z xs n))) λm=>absurd m n,λb m o e=>y.fr b m o (hk b o e),_,rp.less λ_=>Za _,m⟩
 cases o with
 | nx U=>
  obtain⟨rfl,F',r'⟩:=q;refine Ql hd λp e hd=>?_;cases hd;obtain⟨p',e1,e2⟩:=Option.bind_eq_some_iff.mp e;cases e2;exact⟨_,rfl,fin rfl (r'.pinned rfl e1) (r'.ow.src _ _ _ e1) r'.nw⟩
 | bk U=>cases hd
 | ct U=>cases hd
 | rt d' fr'=>
  obtain⟨v,G',rfl,q | ⟨d1,dk,i,a',rfl,hv,hp,rp,sr,nw⟩⟩:=q
  .obtain⟨rp,_,_⟩:=q;split at hd
   .rename_i h;cases h
   .rename_i h;cases h;obtain⟨_,_,_,_,_,_,h,_⟩:=rp.jR;cases h
   .cases hd
  .cases hd;cases hp;exact⟨v,rfl,fin hv rp sr nw⟩
end
structure sR (X:Cx):Prop where
 fra:u6 X.A (X.env.locals::X.fs)
abbrev fH:=En->Option (D×En)
abbrev fK:=En->Option (Bool×En)
def iK(X:Cx)(e:Expr)(f:fH):Prop:=∀ ⦃ex hs U F s d U'⦄,Rel X ex hs U F s->f U=some (d,U')->wpAny X.M X.A (eval e X.env) (λv s'=>At d v/\Fx X hs s s'/\∃F',Rel X ex hs U' F' s') E0 s
def iD(X:Cx)(e:Expr)(f:fK):Prop:=∀ ⦃ex hs U F s b U'⦄,Rel X ex hs U F s->f U=some (b,U')->wpAny X.M X.A (isTrue e X.env (eval e X.env)) (λc s'=>c=b/\Fx X hs s s'/\∃F',Rel X ex hs U' F' s') E0 s
structure fD where
 n:Nat
 den:bP
def qC(g:Gb)(k:Nat)(x:Str)(r:fD):Prop:=∃f fd ps,vF g k f fd ps r.den/\ps.length=r.n/\g.mg x=some (.ref f)/\PySem.W.keepIn g.K (.ref f)=true/\L2.Binds g.K fd ps []
def pS(g:Gb)(k:Nat)(m:Str)(r:fD):Prop:=∃f fd ps C,vF g k f fd ps r.den/\ps.length=r.n/\PySem.W.nsIn g.K mainGlobals "Desk" =some (some (.ref C))/\L2.l6 g.K C/\L2.wV g.K C m f/\L2.Binds g.K fd ps []
def QH(r:fD)(i:Nat)(fs:DA):fH:=λU=>match U[i]? with
 | some (some (.obj o (d0::es0),false))=>(fs U).bind λra=>if(cG i U && (Qu (d0::es0) && Qu ra.ds) && decide (ra.ds.length+1=r.n))=true then(r.den (.obj o (d0::es0)::ra.ds)).bind λq=>match q.2 with
  | .obj o' es'=>some (q.1,(dH ra.M U).set i (some (.obj o' es',false)))
  | _=>none
  else none
 | _=>none
section
variable {X:Cx}{ex:LA}{hs:Hs}{U:En}{F:Ft}{s s' s1:Shared}{g:Gb}{k i:Nat}{f a:Addr}{fd:FuncData}{ps:List Str}{den:bP}{e b c:Expr}{es:List Expr}{fs:DA}{pos p p' apos:Pos}{x y m:Str}
def Rel.MU(r:Rel X ex hs U F s)(k:sR X):CV X.g ex (X.env.locals::X.fs) X.A s:=⟨r.bM,bF ⟨r.loc,let ⟨_,⟨o,es,ep,e,d,_⟩,_⟩:=r.ns;⟨o,es,ep,e,d⟩⟩ r.fsl,k.fra⟩
def Rel.YB{ra:RA}{o o':Ob}{d0:D}{es0 es':List D}{d:D}{v:Value}(rel:Rel X ex hs U F s)(hio:X.io=true)(ln:cG i U=true)(q:U[i]? =some (some (.obj o (d0::es0),false)))(nb:Qu (d0::es0)=true)(nb':Qu ra.ds=true)(eF:(F i).head? =some a)
  (p:Q9 X ex U F s s1 ra.ds ra.fr ra.M us G) (t:EV X.g ex (X.env.locals::X.fs) s1 a (F i++G) d (.obj o' es') v s'):At d v/\Fx X hs s s'/\∃F',Rel X ex hs ((dH ra.M U).set i (some (.obj o' es',false))) F' s':=by
 obtain⟨_,_,_,_,_,_,p0⟩:=rel.val q;obtain⟨ks,a',dx,dd,its,G0,_,_,eF',nx,at_,r0⟩:=p0.jR;rw[eF']at eF;cases eF;obtain⟨G',rp,m⟩:=t.rp;obtain⟨f1,r1⟩:=rel.Mu hio ln q eF' (λb o e z nf=>t.kp b o (p.ext.hp b o e) (λhb=>(Zf.mp hb).elim (λhb=>by
   rw[eF']at hb;rcases Aw hb with h | h
   .exact absurd h z
   .obtain⟨o2,e2,h2⟩:=r0.rows nb b h;rw[e]at e2;cases e2;exact h2) λhb=>by
   obtain⟨o2,e2,h2⟩:=p.rp.rows nb' b hb;rw[p.ext.hp b o e]at e2;cases e2;exact h2) nf) (λb mb o e=>t.ku b mb o (p.ext.hp b o e)) (λb e=>p.ext.no (t.nw b e)) (t.os.trans p.ext.os) (λh=>t.br (p.ext.br h)) rp p.src λb hb=>by
   rcases m b hb with h | h
   .exact .inr (.inr (p.ext.no h))
   .exact(Zf.mp h).imp id .inl
 exact⟨t.val,f1,_,r1⟩
def vF.call{Q:Value->Shared->Prop}{ra:RA}{o o':Ob}{d0:D}{es0 es':List D}{d:D}(hF:vF X.g k f fd ps den)(hr:L2.cC k X.A)(hk:sR X)(rel:Rel X ex hs U F s)(hb:L2.Binds X.g.K fd ps [])(hio:X.io=true)(ln:cG i U=true)(q:U[i]? =some (some (.obj o (d0::es0),false)))(nb:Qu (d0::es0)=true)(nb':Qu ra.ds=true)(eF:(F i).head? =some a)
  (p:Q9 X ex U F s s1 ra.ds ra.fr ra.M us G) (hl:ra.ds.length+1=ps.length) (hd:den (.obj o (d0::es0)::ra.ds)=some (d,.obj o' es')) (kk:∀v s',At d v->Fx X hs s s'->(∃F',Rel X ex hs ((dH ra.M U).set i (some (.obj o' es',false))) F' s')->Q v s'):wpAny X.M X.A (call (.ref f) (.ref a::us)) Q E0 s1:=by
 have r1:=rel.ext p.ext;obtain⟨_,v,_,_,_,_,p0⟩:=r1.val q;obtain⟨ks,a',dx,dd,its,G0,_,rfl,eF',_⟩:=id p0.jR;rw[eF']at eF;cases eF;have rs:=p0.app p.rp;have:=hb s1 (.ref a::us) r1.bM.bH (by rw[Zo,ZA,← p.rp.len,hl]);rw[Zo]at this;refine wpAny_call (codeAny_mono (hF hr (r1.MU hk) this rs (by rw[List.singleton_append,ZA,hl]) hd) λr s' ⟨v,e,t⟩=>?_);subst e;obtain⟨h1,h2,h3⟩:=rel.YB hio ln q nb nb' (by rw[eF'];rfl) p t;exact kk v s' h1 h2 h3
def Ui{r:fD}(K:qC X.g k x r)(hr:L2.cC k X.A)(hk:sR X)(hio:X.io=true)(hg:Gl X x)(hd:(x == ("__debug__" :Str))=false)(hN:X.N[i]? =some y)(h1:(y == ("__debug__" :Str))=false)(h2:(y == ("__classdict__" :Str))=false)(ha:SA X es fs)(he:One X (.Name y p') es)(hp:(backTo pos (starEach es X.env)).any (·.1)=false):
  iK X (.Call (.Name x p) (.Name y p'::es) [] pos) (QH r i fs):=λex hs U F s d U' rel e=>by
 obtain⟨f,fd,ps,hF,hn,hmg,hkp,hb⟩:=K;unfold QH at e;split at e
 .rename_i o d0 es0 q;refine Ql e λra e1 e=>?_;split at e
  .rename_i hc;simp only[Ze,decide_eq_true_eq]at hc;obtain⟨⟨ln,n1,n2⟩,hl⟩:=hc;refine Ql e λqd e2 e=>?_;split at e
   .rename_i o' es' h3;cases e;refine wpAny_Call_Name_kw (rel.glob hg hmg ?_ hd);refine pC (first:=[]) (h₀:=X.g.base) rel.ok.mod.bH hkp ?_ he hp;rw[he];refine ZJ (wpAny_Name (rel.lH q hN h2 λv _ t=>?_) h1);obtain⟨ks,a,dx,dd,its,G,_,rfl,eF,_⟩:=t.jR;exact aN (ha pos rel e1) λus s1 ⟨G,p1⟩=>⟨(rel.ext p1.ext).bM.bH,hF.call hr hk rel hb hio ln q n1 n2 (by rw[eF];rfl) p1 (hl.trans hn.symm) (e2.trans (by rw[← h3])) λv s' a b c=>⟨a,b,c⟩⟩
   .cases e
  .cases e
 .cases e
def Np{r:fD}{pl:Sem Bool}(K:pS X.g k m r)(hr:L2.cC k X.A)(hk:sR X)(hio:X.io=true)(hm:m≠ "heaps" /\m≠ "net")(hN:X.N[i]? =some y)(h1:(y == ("__debug__" :Str))=false)(h2:(y == ("__classdict__" :Str))=false)(ha:SA X (e::es) fs)(he:One X e es)(hp:(backTo pos (starEach es X.env)).any (·.1)=false)
  (ht:eval (.Call (.Attribute (.Name y p') m apos) (e::es) [] pos) X.env=(do
   let ov ← eval (.Name y p') X.env
   standAt apos.atName
   let (f,first) ← holding [ov] (getMethod ov m pl)
   callWith pos f first (backTo pos (starEach (e::es) X.env)) (backToKw pos (keywordEach [] X.env)))):
  iK X (.Call (.Attribute (.Name y p') m apos) (e::es) [] pos) (QH r i fs):=λex hs U F s d U' rel e=>by
 obtain⟨f,fd,ps,C,hF,hn,hC,cl,me,hb⟩:=K;unfold QH at e;split at e
 .rename_i o d0 es0 q;refine Ql e λra e1 e=>?_;split at e
  .rename_i hc;simp only[Ze,decide_eq_true_eq]at hc;obtain⟨⟨ln,n1,n2⟩,hl⟩:=hc;refine Ql e λqd e2 e=>?_;split at e
   .rename_i o' es' h3;cases e;refine Fp (pl:=pl) (wpAny_Name (rel.lH q hN h2 λv _ t=>?_) h1) ht;obtain⟨ks,a,dx,dd,its,G,_,rfl,eF,_,at_,_⟩:=t.jR;obtain⟨C',hC',m1⟩:=at_.cls;cases hC.symm.trans hC';refine L2.D5 rel.bM.bH m1 (cl.get _) me.at_ me.fn ((if_neg hm.1).trans (if_neg hm.2)) ?_;refine pC (first:=[.ref a]) (h₀:=X.g.base) rel.ok.mod.bH me.kp ?_ he hp;exact aN (ha pos rel e1) λus s1 ⟨G,p1⟩=>⟨(rel.ext p1.ext).bM.bH,hF.call hr hk rel hb hio ln q n1 n2 (by rw[eF];rfl) p1 (hl.trans hn.symm) (e2.trans (by rw[← h3])) λv s' a b c=>⟨a,b,c⟩⟩
   .cases e
  .cases e
 .cases e
end
noncomputable def isAt:D->Bool
 | .aT=>true | .bl _=>true | .int _=>true | .str _=>true
 | _=>false
def dW(fa:DE):fH:=λU=>(fa U).bind λr=>if isAt r.d=true then some (r.d,U)else none
noncomputable def kT(ga:DT):fK:=λU=>(ga U).map λb=>(b,U)
noncomputable def QW(fe:fH):fK:=λU=>(fe U).bind λq=>q.1.fO.map λb=>(b,q.2)
noncomputable def QY(ga:fK):fK:=λU=>(ga U).map λq=>(!q.1,q.2)
noncomputable def mR(ga gb:fK):fK:=λU=>(ga U).bind λq=>if q.1=true then gb q.2 else some (false,q.2)
noncomputable def dF(ga gb:fK):fK:=λU=>(ga U).bind λq=>if q.1=true then some (true,q.2)else gb q.2
noncomputable def gT(fa fb:fH):fH:=λU=>(fa U).bind λq=>match q.1 with
 | .bl true=>fb q.2
 | .bl false=>some (.bl false,q.2)
 | _=>none
noncomputable def bY(ga:fK)(f g:DS):DS:=λU=>(ga U).bind λq=>if q.1=true then f q.2 else g q.2
noncomputable def l4(fe:fH):DS:=λU=>(fe U).map λq=> .nx q.2
def lY(i:Nat)(fe:fH):DS:=λU=>(fe U).map λq=> .nx (asg i ⟨q.1,true,[]⟩ q.2)
noncomputable def gY(fe:fH):DS:=λU=>(fe U).map λq=> .rt q.1 true
noncomputable def fX(fe:fH):DS:=λU=>(fe U).bind λq=>(q.2[0]?.bind id).map λp=> .rt (.obj .pair [q.1,p.1]) false
section
variable {X:Cx}{ex:LA}{hs:Hs}{U:En}{F:Ft}{s s' s1:Shared}{g:Gb}{k n i:Nat}{a e b c:Expr}{es rest:List Expr}{fs:DA}{pos p p':Pos}{x y m:Str}{fa:DE}{fe fb:fH}{ga gb:fK}{gc:DT}{f f':DS}{sts body:List Stmt}
def yG{d:D}{h:Heap}(i:isAt d=true)(r:Rp g ex h d v G):At d v:=by
 cases r with
 | atm x=>exact x
 | lst=>cases i
 | tup=>cases i
 | bC=>cases i
 | exc=>cases i
def R4(h:SE X e fa):iK X e (dW fa):=λex hs U F s d U' rel e=>by
 refine Ql e λr e1 e=>?_;split at e
 .rename_i hi;cases e;exact aN (h rel e1) λv s1 ⟨G,p⟩=>⟨yG hi p.rp,.of p.ext,F,rel.ext p.ext⟩
 .cases e
def OJ(h:ST X e gc):iD X e (kT gc):=λex hs U F s d U' rel e=>by
 obtain⟨b,e1,e2⟩:=Zd.mp e;cases e2;exact aN (h rel e1) λc s1 ⟨q,x⟩=>⟨q,.of x,F,rel.ext x⟩
def PF(h:iK X e fe)(he:∀whole,isTrue e X.env whole=(do let v ← whole;standAt e.pos;holding [v] (truthy v))):iD X e (QW fe):=λex hs U F s b U' rel e=>by
 refine Ql e λq e1 e=>?_;obtain⟨b',e2,e3⟩:=Zd.mp e;cases e3;exact isTrue_plain (aN (h rel e1) λv s1 ⟨a,x,F',r⟩=>aN (aM.fO (X:=X) (ex:=ex) (.atm a .nil) e2) λc s2 ⟨h,y⟩=>⟨h,x.trans (.of y),F',r.ext y⟩) (he _)
def WK(ha:iD X a ga):iD X (.UnaryOp .Not a pos) (QY ga):=λex hs U F s b U' rel e=>by
 obtain⟨q,e1,e2⟩:=Zd.mp e;cases e2;exact isTrue_not (aN (ha rel e1) λd s1 ⟨h,x⟩=>⟨congrArg (!·) h,x⟩)
def RN(ha:iD X a ga):iD X (.BoolOp .And [a] pos) ga:=λex hs U F s b U' rel e=>by
 refine isTrue_and (aN (ha rel e) λd s1 h=>?_);cases d with
 | true=>exact isTrue_and_nil h
 | false=>exact h
def Sy(ha:iD X a ga):iD X (.BoolOp .Or [a] pos) ga:=λex hs U F s b U' rel e=>by
 refine isTrue_or (aN (ha rel e) λd s1 h=>?_);cases d with
 | true=>exact h
 | false=>exact isTrue_or_nil h
def WT(ha:iD X a ga)(hb:iD X (.BoolOp .And (b::rest) pos) gb):iD X (.BoolOp .And (a::b::rest) pos) (mR ga gb):=λex hs U F s k U' rel e=>by
 refine Ql e λq e1 e=>isTrue_and (aN (ha rel e1) λd s1 ⟨h,x,F',r⟩=>?_);subst h;cases hq:q.1 with
 | true=>rw[if_pos hq]at e;exact aN (hb r e) λc s2 ⟨h,y,z⟩=>⟨h,x.trans y,z⟩
 | false=>rw[if_neg (by rw[hq];decide)]at e;cases e;exact⟨rfl,x,F',r⟩
def ò(ha:iD X a ga)(hb:iD X (.BoolOp .Or (b::rest) pos) gb):iD X (.BoolOp .Or (a::b::rest) pos) (dF ga gb):=λex hs U F s k U' rel e=>by
 refine Ql e λq e1 e=>isTrue_or (aN (ha rel e1) λd s1 ⟨h,x,F',r⟩=>?_);subst h;cases hq:q.1 with
 | true=>rw[if_pos hq]at e;cases e;exact⟨rfl,x,F',r⟩
 | false=>rw[if_neg (by rw[hq];decide)]at e;exact aN (hb r e) λc s2 ⟨h,y,z⟩=>⟨h,x.trans y,z⟩
def è{op}(h:iK X a fe):iK X (.BoolOp op [a] pos) fe:=λex hs U F s d U' rel e=>BoolOp_one (h rel e)
def Ve(ha:iK X a fe)(hb:iK X (.BoolOp .And (b::rest) pos) fb):iK X (.BoolOp .And (a::b::rest) pos) (gT fe fb):=λex hs U F s d U' rel e=>by
 refine Ql e λq e1 e=>?_;refine BoolOp_and (aN (ha rel e1) λv s1 ⟨h,x,F',r⟩=>?_);split at e
 .rename_i hq;rw[hq]at h;refine aN (aM.fO (X:=X) (ex:=ex) (d:= .bl true) (.atm h .nil) rfl) λk s2 ⟨h,y⟩=>?_;subst h;exact aN (hb (r.ext y) e) λc s2 ⟨h,z,w⟩=>⟨h,(x.trans (.of y)).trans z,w⟩
 .rename_i hq;rw[hq]at h;cases e;refine aN (aM.fO (X:=X) (ex:=ex) (d:= .bl false) (.atm h .nil) rfl) λk s2 ⟨h',y⟩=>?_;subst h';exact⟨h,x.trans (.of y),F',r.ext y⟩
 .cases e
def Xc(hc:iD X c ga)(ha:SS X sts f)(hb:SS X body f'):S1 X (.If c sts body pos) (bY ga f f'):=λex hs U F s o rel e=>by
 refine Ql e λq e1 e=>wpAny_If (aN (hc rel e1) λk' s1 ⟨h,x,F',r⟩=>?_);subst h;cases hq:q.1 with
 | true=>rw[if_pos hq]at e;exact aN (ha r e) λ_ _ ⟨y,q⟩=>⟨x.trans y,q⟩
 | false=>rw[if_neg (by rw[hq];decide)]at e;exact aN (hb r e) λ_ _ ⟨y,q⟩=>⟨x.trans y,q⟩
def W5(h:iK X e fe)(hs:swapsWith e none pos.line X.env=pure false):S1 X (.Expr e pos) (l4 fe):=λex hs' U F s o rel e=>by
 obtain⟨q,e1,e2⟩:=Zd.mp e;cases e2;exact wpAny_Expr_any (aN (h rel e1) λv s1 ⟨_,x,F',r⟩=>⟨x,rfl,F',r⟩) rel.quiet hs
def È(h:iK X e fe)(sl:Sl X x i)(hs:swapsWith e (some (.Name x p)) pos.line X.env=pure false):S1 X (.Assign [.Name x p] e pos) (lY i fe):=λex hs' U F s o rel e=>by
 obtain⟨q,e1,e2⟩:=Zd.mp e;cases e2;exact wpAny_Assign_Name (aN (h rel e1) λv s1 ⟨a,x,F',r⟩=>r.asg (r:=⟨q.1,true,[]⟩) (.flat .refl (.atm a .nil)) sl λs' F'' y r'=>⟨x.trans y,rfl,F'',r'⟩) hs
def ø(h:iK X e fe):S1 X (.Return (some e) pos) (gY fe):=λex hs U F s o rel e=>by
 obtain⟨q,e1,e2⟩:=Zd.mp e;cases e2;exact wpAny_Return_some (aN (h rel e1) λv s1 ⟨a,x,F',r⟩=>⟨x,v,[],rfl,.inl ⟨.atm a .nil,nm,λ_=>⟨.nil,nm⟩⟩⟩)
def N0{ad:Addr}(hp:X.pin=some (0,ad))(h:iK X e fe):S1 X (.Return (some e) pos) (fX fe):=λex hs U F s o rel e=>by
 refine Ql e λq e1 e=>?_;obtain⟨p,e2,e3⟩:=Zd.mp e;cases e3;obtain⟨p',e4,e5⟩:=Option.bind_eq_some_iff.mp e2;cases e5;exact wpAny_Return_some (aN (h rel e1) λv s1 ⟨a,x,F',r⟩=>⟨x,v,F' 0,rfl,.inr ⟨_,_,0,ad,rfl,a,hp,r.pinned hp e4,r.ow.src _ _ _ e4,r.nw⟩⟩)
def Rel.eu(rel:Rel X ex hs U F s)(kp:∀b o,s.heap.get? b=some o->b∉X.env.locals::X.fs->s'.heap.get? b=some o)(ku:∀b∈X.env.locals::X.fs,∀o,s.heap.get? b=some o->∃sl,s'.heap.get? b=some {o with slots:=sl})
  (os:s'.os=s.os) (br:AllBare s.gens->AllBare s'.gens):Fx X hs s s'/\Rel X ex hs U F s':=by
 have fd:∀b∈X.env.locals::X.fs,b∈ex/\∃o es ep,s.heap.get? b=some o/\o.data= .dict es ep:=bF ⟨rel.loc,let ⟨_,⟨o,es,ep,e,d,_⟩,_⟩:=rel.ns;⟨o,es,ep,e,d⟩⟩ rel.fsl;have nf:∀{b},b∉ex->b∉X.env.locals::X.fs:=λn m=>n (fd _ m).1;have kx:∀b o,s.heap.get? b=some o->∃sl,s'.heap.get? b=some {o with slots:=sl}:=λb o e=>by
  by_cases z:b∈X.env.locals::X.fs
  .exact ku b z o e
  .exact⟨o.slots,kp b o e z⟩
 have ik:∀{c v},s.heap.IsCell c v->s'.heap.IsCell c v:=λ⟨o,e,d⟩=>let ⟨sl,e'⟩:=kx _ o e;⟨_,e',d⟩;have stay:∀{ds vs L},aM X.g ex s.heap ds vs L->aM X.g ex s'.heap ds vs L:=λ{ds vs L} r=>r.keep λb o x _ e=>kp b o e (nf x);refine⟨⟨λc o e k=>?_,os,br,λc m o e=>ku c (.tail _ m) o e⟩,?_⟩
 .by_cases w:c∈X.env.locals::X.fs
  .obtain⟨mx,o',es,ep,e',d⟩:=fd c w;rw[e]at e';cases e';rcases k ((Zj.mp w).elim (λh=> .inl (h▸rel.ok.new.1)) λh=> .inr (.inr h))with w | ⟨t,mt,mc⟩
   .exact absurd d (w.1 _ _)
   .exact absurd mx ((rel.held t mt).1.mem c mc).1
  .exact kp c o e w
 .exact{rel with
   bk:=λc o e=>kp c o (rel.bk c o e) λz=>by rw[rel.exb c (fd c z).1]at e;cases e
   br:=br rel.br
   nw:=λc e=>rel.nw c (by
    cases h:s.heap.get? c with
    | none=>rfl
    | some o=>obtain⟨sl,e'⟩:=kx c o h;rw[e]at e';cases e')
   ns:=by
    obtain⟨m,⟨o,es,ep,e,d,r⟩,qq⟩:=rel.ns;obtain⟨sl,e'⟩:=kx _ o e;exact⟨m,⟨_,es,ep,e',d,r⟩,λj d b e=>let ⟨y,v,hN,l,p,pn⟩:=qq j d b e;⟨y,v,hN,oZ l λc v _=>ik,stay p,pn⟩⟩
   fsl:=λb m=>let ⟨h,o,es,ep,e,d⟩:=rel.fsl b m;let ⟨sl,e'⟩:=kx b o e;⟨h,_,es,ep,e',d⟩
   cell:=λy c e=>let ⟨m,v,z⟩:=rel.cell y c e;⟨m,v,ik z⟩
   exl:=λb m=>let ⟨o,e⟩:=rel.exl b m;let ⟨sl,e'⟩:=kx b o e;⟨_,e'⟩
   held:=λt mt=>⟨stay (rel.held t mt).1,(rel.held t mt).2⟩}
end
noncomputable abbrev H4(p1 p2:Pos)(j:Nat)(p3 p4 p5 p6 p7 p8:Pos):List Stmt:=[.Assign [.Attribute (.Name "self" p1) "net" p2] (.Constant .none j p3) p4,.Assign [.Attribute (.Name "self" p5) "heaps" p6] (.Dict [] [] p7) p8]
structure DY (st:Stmt):Prop where
 bd:∃p1 p2 j p3 p4 p5 p6 p7 p8,L2.QE st=H4 p1 p2 j p3 p4 p5 p6 p7 p8
 sc:(L2.Qp st).names.lookup ("self" :Str)=some .local
structure Ij (g:Gb) (s:Shared) (x dx C dd:Addr) (s':Shared):Prop where
 st:∃h' tk,s'={s with heap:=h',toks:=tk}
 om:L2.kC s'.heap x dx C (λy=>if y= "heaps" then some (.ref dd)else if y= "net" then some .none else none)
 dic:s'.heap.DictOf (PySem.strKind g.P g.w) dd []
 new:s.heap.objs.size<=dd
 kp:∀b o,b≠dx->s.heap.get? b=some o->s'.heap.get? b=some o
section
variable {g:Gb}{f x dx C:Addr}{fd:FuncData}{s:Shared}{A:Around}{st:Stmt}{qual:Str}{k:Nat}{args:Args}{env:Env}{m:Str->Option Value}
def XT{p1 p2 p3 p4 p5 p6 p7 p8:Pos}{j:Nat}(hk:env.scope.kind= .function)(hs:env.kindOf "self" =some .local)(hns:s.heap.Ns env.locals m)(hm:m "self" =some (.ref x))(K:g.K.In s.heap)(cl:L2.l6 g.K C)(n1:L2.qW g.K C "net")(n2:L2.qW g.K C "heaps")(om:L2.kC s.heap x dx C λ_=>none)(ld:dx≠env.locals)(nk:∀b o,g.K.lookup b=some o->b≠dx):
  wpAny (model g.P g.w) A (execs (H4 p1 p2 j p3 p4 p5 p6 p7 p8) env) (λfl s'=>fl= .next/\∃dd,Ij g s x dx C dd s') E0 s:=by
 refine wpAny_execs_cons (plainObj_wpAny_Assign_Attribute (Constant_none (wpAny_Name (wpAny_loadName_local hk hs hns hm ?_) rfl)) rfl);refine L2.Bz K om cl.sa cl.po n1.BE cl.hd (ns:=[]) (λy h=>absurd rfl h) ∅ λh2 om2 sb2=>?_;have hns2:=hns.sameBut sb2 (Ne.symm ld);have k2:∀b o,b≠dx->s.heap.get? b=some o->h2.get? b=some o:=λb o n e=>(sb2.2 b n).trans e;have K2:g.K.In h2:=λb o e=>k2 b o (nk b o e) (K b o e);refine wpAny_execs_cons (plainObj_wpAny_Assign_Attribute (wpAny_Dict_empty (wpAny_Name (wpAny_loadName_local hk hs (hns2.keeps λb o e=>Zb _ e) hm ?_) rfl)) rfl);have om3:L2.kC (h2.push {cls:= .type "dict",data:= .dict #[]}) x dx C (λy=>if y= "net" then some .none else none):=⟨Zb _ om2.obj,om2.ns.at λo e=>Zb _ e,om2.ne⟩;have dl:dx<h2.objs.size:=by obtain⟨o,_,_,e,_⟩:=om2.ns;exact ZC e
 refine L2.Bz (s:={s with heap:=h2.push {cls:= .type "dict",data:= .dict #[]},toks:=s.toks+2}) (λb o e=>Zb _ (K2 b o e)) om3 cl.sa cl.po n2.BE cl.hd (ns:=["net"]) (λy h=>by
  by_cases z:y= "net"
  .exact z▸ .head _
  .exact absurd (if_neg z) h) ∅ λh4 om4 sb4=>wpAny_execs_nil ⟨rfl,h2.objs.size,⟨_,_,rfl⟩,om4,(Heap.DictOf.new h2).sameBut sb4 (kU dl),?_,λb o n e=>(sb4.2 b n).trans (Zb _ (k2 b o n e))⟩
 exact Nat.le_of_eq sb2.1.symm
def Ye(T:DY st)(Fu:L2.oW g.K "__init__" qual st f fd)(S:L2.mT (namesOf (L2.Qp st)) ["self"] (L2.Qp st))(D:g0 g.K)(hC:PySem.W.nsIn g.K mainGlobals "Desk" =some (some (.ref C)))(hr:L2.cC (k+1) A)(K:g.K.In s.heap)(nl:s.heap.NoLimit)(hbi:BindsTo s fd args [("self",.ref x)])(om:L2.kC s.heap x dx C λ_=>none)(nk:∀b o,g.K.lookup b=some o->b≠dx):
  codeAny (model g.P g.w) A (.call (.ref f) args) (λr s'=>r= .ok (.ret .none)/\∃dd,Ij g s x dx C dd s') s:=by
 obtain⟨oc,od,kV,doc,pm,an,cdv,ct,osl,rfl,lk,hcd⟩:=Fu.ex;obtain⟨C',hC',cl,n1,n2⟩:=D.ex;cases hC.symm.trans hC';obtain⟨p1,p2,j,p3,p4,p5,p6,p7,p8,hbd⟩:=T.bd;have hsc:=T.sc;refine codeAny_call_function hr.depth (K _ _ lk) rfl S.co S.gen rfl (sY K hcd) (hbi _ _ _ _ (wpAny_newFunctionEnv_cells S.kind (λy hy=>by cases Zg.mp hy;exact .inl hsc) λenv he s1 xc=>?_));have hs:env.kindOf "self" =some .local :=by rw[he];exact hsc
 have hkd:env.scope.kind= .function:=by rw[he];exact S.kind
 have hlo:env.locals=s.heap.objs.size:=by rw[he];rfl
 have hns:=xc.toInCall.ns;have hm:bindL env.kindOf [("self",Value.ref x)] (λ_=>none) "self" =some (.ref x):=by
  unfold bindL bindL;rw[if_pos hs];exact if_pos rfl
 obtain⟨h1,tk,rfl,hk⟩:=xc.done;refine⟨nl.keeps xc.toInCall.keep,codeAny_func ?_⟩;show wpAny _ _ (execs (L2.QE st) env) _ _ _;rw[hbd];have ld:dx≠env.locals:=λz=>by obtain⟨o,_,_,e,_⟩:=om.ns;rw[z,hlo,Q2]at e;cases e
 refine any (aN (XT (g:=g) (s:={s with heap:=h1,toks:=tk}) hkd hs hns hm (λb o e=>hk b o (K b o e)) cl n1 n2 ⟨hk _ _ om.obj,om.ns.at λo=>hk _ o,om.ne⟩ ld nk) λfl s' ⟨h,dd,I⟩=>?_);subst h;obtain⟨⟨h',t',rfl⟩,a2,a3,a4,a5⟩:=I;refine⟨rfl,dd,⟨_,_,rfl⟩,a2,a3,ZE ?_ a4,λb o n e=>a5 b o n (hk b o e)⟩;obtain⟨oL,_,_,gL,_⟩:=hns;rw[hlo]at gL;exact Nat.le_of_lt (ZC gL)
def A1(g:Gb):Prop:=∃C f fd qual st,PySem.W.nsIn g.K mainGlobals "Desk" =some (some (.ref C))/\g.mg "Desk" =some (.ref C)/\L2.Mk g.K C f/\L2.oW g.K "__init__" qual st f fd/\DY st/\L2.mT (namesOf (L2.Qp st)) ["self"] (L2.Qp st)/\L2.Binds g.K fd ["self"] []
end
section
variable {X:Cx}{ex:LA}{hs:Hs}{U:En}{F:Ft}{s s':Shared}{g:Gb}{k i:Nat}{pos p p' pos':Pos}{x:Str}
noncomputable def jS(i:Nat):DS:=λU=>some (.nx (U.set i (some (.obj (.ins "Desk" []) [.aT],false))))
def R6(K:A1 X.g)(D:g0 X.g.K)(hr:L2.cC (k+2) X.A)(hg:Gl X "Desk")(sl:Sl X x i):S1 X (.Assign [.Name x p] (.Call (.Name "Desk" p') [] [] pos') pos) (jS i):=λex hs U F s o rel e=>by
 obtain⟨C,f,fd,qual,st,hC,hmg,mk,Fu,T,S,hb⟩:=K;cases e;refine wpAny_Assign_Name (wpAny_Call_Name_kw (rel.glob hg hmg (PySem.W.callWith_K0 rel.bM.bH mk.kp (wpAny_call ?_)) ∅)) rfl;have bH:=rel.bM.bH;have o1:∀b o,s.heap.get? b=some o->((s.heap.push PySem.W.emptyDict).push (PySem.W.instObj C s.heap.objs.size)).get? b=some o:=λb o e=>Zb _ (Zb _ e);have sz:(s.heap.push PySem.W.emptyDict).objs.size=s.heap.objs.size+1:=ZF _ _;have gi:((s.heap.push PySem.W.emptyDict).push (PySem.W.instObj C s.heap.objs.size)).get? (s.heap.objs.size+1)=some (PySem.W.instObj C s.heap.objs.size):=by rw[← sz];exact Zi _ rfl
 have gd:((s.heap.push PySem.W.emptyDict).push (PySem.W.instObj C s.heap.objs.size)).get? s.heap.objs.size=some PySem.W.emptyDict:=Zb _ (Zi _ rfl);have om:L2.kC ((s.heap.push PySem.W.emptyDict).push (PySem.W.instObj C s.heap.objs.size)) (s.heap.objs.size+1) s.heap.objs.size C λ_=>none:=by
  exact⟨gi,.of_empty ⟨_,#[],_,gd,rfl,nofun,λ_=>rfl⟩,kR (ZW _)⟩
 have bd:=hb {s with heap:=(s.heap.push PySem.W.emptyDict).push (PySem.W.instObj C s.heap.objs.size)} [.ref (s.heap.objs.size+1)] (λb o e=>o1 b o (bH b o e)) rfl;refine L2.à bH mk.makes mk.init (beq_iff_eq.mp mk.fn) (codeAny_mono (Ye T Fu S D hC (hr.make C [] []) (λb o e=>o1 b o (bH b o e)) ((rel.ok.mod.nolimit.keeps rel.bk).keeps o1) bd om λb o e z=>by
  have:=bH b o e;rw[z,Q2]at this;cases this) λr s' ⟨h,dd,I⟩=>?_)
 subst h;refine⟨rfl,?_⟩;obtain⟨⟨h',t',rfl⟩,a2,a3,a4,a5⟩:=I;have x1:Ex s {s with heap:=h',toks:=t'}:= .of λb o e=>a5 b o (λz=>by rw[z,Q2]at e;cases e) (o1 b o e);have sz2:((s.heap.push PySem.W.emptyDict).push (PySem.W.instObj C s.heap.objs.size)).objs.size=s.heap.objs.size+2:=by rw[ZF,sz]
 replace a4:s.heap.objs.size+2<=dd:=sz2▸a4
 have nw:∀b,b=s.heap.objs.size+1∨b=s.heap.objs.size∨b=dd->s.heap.get? b=none:=λb h=>Zv ⋯
 have at_:dU X.g h' (s.heap.objs.size+1) s.heap.objs.size dd [] [.none]:=
  {cls:=⟨C,hC,a2⟩
   len:=rfl
   sys:=by
    have h:mainGlobals<s.heap.objs.size:=(rel.ok.mod.glob.keeps rel.bk).lt;have:sysModules<s.heap.objs.size:=Nat.lt_trans ∅ h;exact beq_eq_false_iff_ne.mpr ⋯
   dic:=a3
   ne:=⟨⋯,⋯⟩
   nb:=λb h=>rel.tF (nw b h)}
 have rp:Rp X.g ex h' (.obj (.ins "Desk" []) [.aT]) (.ref (s.heap.objs.size+1)) _:= .Kt (λb h=>rel.iO (nw b h)) at_ (.atm rfl .nil);exact(rel.ext x1).slot sl rp (λb m=>by
  have nb:=nw b ((Aw m).elim id nofun);exact⟨.inl (rel.nw b nb),λj d e h=>rel.has e h nb⟩) λs' y r' _=>⟨(Fx.of x1).trans y,rfl,_,r'⟩
end
structure CQ (fs:LA) (s:Shared) (d:D) (v:Value) (s':Shared):Prop where
 val:At d v
 os:s'.os=s.os
 br:AllBare s.gens->AllBare s'.gens
 kp:∀b o,s.heap.get? b=some o->b∉fs->s'.heap.get? b=some o
 ku:∀b∈fs,∀o,s.heap.get? b=some o->∃sl,s'.heap.get? b=some {o with slots:=sl}
noncomputable abbrev Q0:=List D->Option D
def o8(g:Gb)(k:Nat)(f:Addr)(fd:FuncData)(ps:List Str)(den:Q0):Prop:=∀ ⦃A s ex fs args us ds G d⦄,L2.cC k A->CV g ex fs A s->BindsTo s fd args (ps.zip us)->aM g ex s.heap ds us G->ds.length=ps.length->den ds=some d→
 codeAny (model g.P g.w) A (.call (.ref f) args) (λr s'=>∃v,r= .ok (.ret v)/\CQ fs s d v s') s
def gU(n:Nat)(gs:DS):Q0:=λds=>if Qu ds=true then(gs (Qy n ds)).bind λo=>match o with
  | .nx _=>some .aT
  | .rt d _=>if isAt d=true then some d else none
  | _=>none
 else none
structure jF where
 n:Nat
 den:Q0
def m6(g:Gb)(k:Nat)(x:Str)(r:jF):Prop:=∃f fd ps,o8 g k f fd ps r.den/\ps.length=r.n/\g.mg x=some (.ref f)/\PySem.W.keepIn g.K (.ref f)=true/\L2.Binds g.K fd ps []
noncomputable def QT(r:jF)(fs:DA):fH:=λU=>(fs U).bind λra=>if ra.ds.length=r.n then(r.den ra.ds).map λd=>(d,U)else none
section
variable {X:Cx}{ex:LA}{hs:Hs}{U:En}{F:Ft}{s s' s1:Shared}{g:Gb}{k n i:Nat}{f a:Addr}{fd:FuncData}{ps:List Str}{den:Q0}{e b c:Expr}{es:List Expr}{fs:DA}{pos p p' apos:Pos}{x y m:Str}
def Ws{x qual:Str}{st:Stmt}{gs:DS}(Fu:jQ g.K x qual st f fd)(S:L2.mT (namesOf (L2.Qp st)) ps (L2.Qp st))(hb:∀cdv A s G fs,L2.cC k (A.deeper (envOfC qual (L2.Qp st) s.heap.objs.size f cdv))->u6 A fs->SS (mZ g (namesOf (L2.Qp st)) qual (L2.Qp st) f cdv A s G true none fs) (L2.QE st) gs):
  o8 g (k+1) f fd ps (gU (namesOf (L2.Qp st)).length gs):=λA s ex fs args us ds G d hr e0 hbi r hl hd=>by
 obtain⟨oc,od,dV,kV,doc,pm,an,cdv,ct,osl,rfl,lk,hcd⟩:=Fu.ex;unfold gU at hd;split at hd
 case isFalse=>cases hd
 rename_i hnb;refine Ql hd λo ho hd=>?_;have hkind:∀y∈ps.zip us,(L2.Qp st).names.lookup y.1=some .local ∨((L2.Qp st).names.lookup y.1=some .cell/\((cellsFrom (s.heap.objs.size+1) (L2.Qp st).names []).lookup y.1).isSome=true):=λZ hy=>by
  obtain⟨n,v⟩:=Z;exact(S.par n (rW hy).1).imp id λq=>⟨q,t9 _ _ _ (.inl q)⟩
 refine codeAny_call_function hr.depth (e0.bM.bH _ _ lk) rfl S.co S.gen rfl (sY e0.bM.bH hcd) (hbi _ _ _ _ (wpAny_newFunctionEnv_cells S.kind hkind λenv he s1 x=>?_));subst he;refine⟨(e0.bM.mod.nolimit.keeps e0.bM.bk).keeps x.toInCall.keep,codeAny_func ?_⟩;obtain⟨F,w,rel⟩:=enter (io:=true) (pin:=none) (fs:=fs) (A:=A) (qual:=qual) (f:=f) (cd:=cdv) S e0.bM hl r nofun e0.fsl x
 obtain⟨h1,tk,rfl,hk⟩:=x.done;refine any (aN (hb cdv A s G fs (hr.deeper _) e0.fra rel ho) λfl s' ⟨y,q⟩=>?_);have fin:∀{v:Value},At d v->CQ fs s d v s':=λhv=>
  ⟨hv,y.os,y.br,λb o e n=>y.hp b o (hk b o e) λc=>c.elim (λz=>by rw[show s.heap.get? b=none from z]at e;cases e) λc=>c.elim (λ⟨_,m,z⟩=>by
   obtain⟨o',e',xs,n,d⟩:=r.rows hnb b m;rw[e]at e';cases e';exact absurd d (z xs n)) λm=>absurd m n,λb m o e=>y.fr b m o (hk b o e)⟩
 cases o with
 | nx U=>obtain⟨rfl,F',r'⟩:=q;cases hd;exact⟨_,rfl,fin rfl⟩
 | bk U=>cases hd
 | ct U=>cases hd
 | rt d' fr'=>
  obtain⟨v,G',rfl,q | ⟨_,_,_,_,_,_,h,_⟩⟩:=q
  .dsimp only at hd;split at hd
   .rename_i hi;cases hd;exact⟨v,rfl,fin (yG hi q.rp)⟩
   .cases hd
  .cases h
def NK{r:jF}(K:m6 X.g k x r)(hr:L2.cC k X.A)(hk:sR X)(hg:Gl X x)(hd:(x == ("__debug__" :Str))=false)(ha:SA X (e::es) fs)(he:One X e es)(hp:(backTo pos (starEach es X.env)).any (·.1)=false):iK X (.Call (.Name x p) (e::es) [] pos) (QT r fs):=λex hs U F s d U' rel ee=>by
 obtain⟨f,fd,ps,hF,hn,hmg,hkp,hb⟩:=K;refine Ql ee λra e1 ee=>?_;split at ee
 .rename_i hl;obtain⟨d',e2,e3⟩:=Zd.mp ee;cases e3;refine wpAny_Call_Name_kw (rel.glob hg hmg ?_ hd);refine pC (first:=[]) (h₀:=X.g.base) rel.ok.mod.bH hkp (aN (ha pos rel e1) λus s1 ⟨G,p1⟩=>?_) he hp;have r1:=rel.ext p1.ext;have:=hb s1 us r1.bM.bH (by rw[Zo,← p1.rp.len,hl,hn]);rw[Zo]at this;refine⟨r1.bM.bH,wpAny_call (codeAny_mono (hF hr (r1.MU hk) this p1.rp (hl.trans hn.symm) e2) λr s' ⟨v,e,t⟩=>?_)⟩;subst e;obtain⟨f2,r2⟩:=r1.eu t.kp t.ku t.os t.br;exact⟨t.val,(Fx.of p1.ext).trans f2,F,r2⟩
 .cases ee
def pO(g:Gb)(k:Nat)(m:Str)(r:gN):Prop:=∃f fd ps C,Fn g true k f fd ps r.den/\ps.length=r.n/\PySem.W.nsIn g.K mainGlobals "Desk" =some (some (.ref C))/\L2.l6 g.K C/\L2.wV g.K C m f/\L2.Binds g.K fd ps []
def jB(r:gN)(i:Nat)(fs:DA):DE:=λU=>match U[i]? with
 | some (some (.obj o (d0::es0),false))=>(fs U).bind λra=>if ra.ds.length+1=r.n then(r.den (.obj o (d0::es0)::ra.ds)).map λq=>if q.2=true then⟨q.1,true,[]⟩else R.norm ⟨q.1,false,ra.M⟩else none
 | _=>none
def Wo{r:gN}{pl:Sem Bool}(K:pO X.g k m r)(hr:Rm true k X.A)(hm:m≠ "heaps" /\m≠ "net")(hN:X.N[i]? =some y)(h1:(y == ("__debug__" :Str))=false)(h2:(y == ("__classdict__" :Str))=false)(ha:SA X (e::es) fs)(he:One X e es)(hp:(backTo pos (starEach es X.env)).any (·.1)=false)
  (ht:eval (.Call (.Attribute (.Name y p') m apos) (e::es) [] pos) X.env=(do
   let ov ← eval (.Name y p') X.env
   standAt apos.atName
   let (f,first) ← holding [ov] (getMethod ov m pl)
   callWith pos f first (backTo pos (starEach (e::es) X.env)) (backToKw pos (keywordEach [] X.env)))):
  SE X (.Call (.Attribute (.Name y p') m apos) (e::es) [] pos) (jB r i fs):=λex hs U F s rr rel ee=>by
 obtain⟨f,fd,ps,C,hF,hn,hC,cl,me,hb⟩:=K;unfold jB at ee;split at ee
 .rename_i o d0 es0 q;refine Ql ee λra e1 ee=>?_;split at ee
  .rename_i hl;obtain⟨⟨d,fr⟩,e2,rfl⟩:=Zd.mp ee;refine Fp (pl:=pl) (wpAny_Name (rel.lH q hN h2 λv _ t=>?_) h1) ht;obtain⟨ks,a,dx,dd,its,G,_,rfl,eF,_,at_,_⟩:=id t.jR;obtain⟨C',hC',m1⟩:=at_.cls;cases hC.symm.trans hC';refine L2.D5 rel.bM.bH m1 (cl.get _) me.at_ me.fn ((if_neg hm.1).trans (if_neg hm.2)) ?_;refine pC (first:=[.ref a]) (h₀:=X.g.base) rel.ok.mod.bH me.kp ?_ he hp;refine aN (ha pos rel e1) λus s1 ⟨G,p1⟩=>⟨(rel.ext p1.ext).bM.bH,?_⟩;have r1:=rel.ext p1.ext;have bd:=hb s1 (.ref a::us) r1.bM.bH (by rw[Zo,ZA,← p1.rp.len,hl,hn]);rw[Zo]at bd;refine wpAny_call (codeAny_mono (hF hr r1.bM bd ((t.ext p1.ext).app p1.rp) (by rw[List.singleton_append,ZA,hl,hn]) e2) λr s' ⟨v,e,t'⟩=>?_);subst e;refine Tells.post (ra:=⟨.obj o (d0::es0)::ra.ds,false,ra.M⟩) (us:= .ref a::us) (s1:=s1) (G:=F i++G) ⟨p1.ext,(t.ext p1.ext).app p1.rp,λb m=>(Zf.mp m).elim (λm=> .inr ⟨i,_,false,q,m,nofun⟩) (p1.src b),nofun,p1.own⟩ t'
  .cases ee
 .cases ee
end
def T5(h B:Heap)(e:Addr)(cls fl:Value):Prop:=∃oe vs T oT ts,h.get? e=some oe/\oe.cls=cls/\oe.data= .fields vs/\vs[1]? =some (.ref T)/\vs[2]? =some .none/\B.get? T=none/\T≠e/\h.get? T=some oT/\oT.data= .fields ts/\ts[3]? =some fl
structure hG (B:Heap) (l:List Env) (e:Addr) (cls fl:Value) (h:Heap):Prop where
 st:B.StaysIn h
 no:B.get? e=none
 ff:h.FunFrames B l
 tr:T5 h B e cls fl
section
variable {M:Model}{A:Around}{E:Value->Shared->Prop}{s:Shared}{B:Heap}{env:Env}{outer l:List Env}{L e:Addr}{cls fl:Value}{Q:Unit->Shared->Prop}
def Am{h:Heap}{a:Addr}{o:Obj}{vs:Array Value}{j:Nat}{v:Value}(g:h.get? a=some o)(d:o.data= .fields vs):(h.update a (Obj.mapFields (·.setIfInBounds j v))).get? a=some (o.mapFields (·.setIfInBounds j v))/\(∀b,b≠a->(h.update a (Obj.mapFields (·.setIfInBounds j v))).get? b=h.get? b)/\∀b o',h.get? b=some o'->(∀vs,o'.data≠ .fields vs)->b≠a:=
 ⟨vD _ g (Obj.isFreed_of_fields (Obj.data_mapFields d _)),λb n=>BN _ _ (Ne.symm n),λb o' g' n z=>by rw[z,g]at g';cases g';exact n vs d⟩
def GZ{head:Value}{hn:Bool}{oe:Obj}{vs:Array Value}(hfr:A.frames=some (env::outer))(hl:s.heap.FunFrames B (env::outer))(hf:env.frame=some L)(he:s.heap.get? e=some oe)(st:B.StaysIn s.heap)(no:B.get? e=none)(hd:oe.data= .fields vs)(h2:vs[2]? =some .none)
  (q:∀h',hG B (env::outer) e oe.cls (rawInt L) h'->s.heap.UpToSlots h'->Q () {s with heap:=h'}):wpAny M A (do let a ← frameOf env;let pl ← entryPlaceOf L hn;let b ← EntryCells.newEntry head a .none (rawInt L) .none pl;setField (.ref e) 1 b) Q E s:=by
 have ne:e∉(env::outer).filterMap (·.frame):=λhm=>by
  obtain⟨_,o,ho,n⟩:=hl.mem hm;rw[he]at ho;cases ho;exact n vs hd
 have hz:2<vs.size:=(Array.getElem?_eq_some_iff.mp h2).1;refine wpAny_bind (wpAny_frameOf_fun hfr hl hf λh₁ hs₁=>wpAny_bind (wpAny_entryPlaceOf λpl hpl=>?_));unfold EntryCells.newEntry newFields;refine wpAny_bind (wpAny_newObj_type ?_ (hpl.sizeOk5 _ _ _ _ _));have he₁:h₁.get? e=some oe:=(hs₁.2.1 e ne).trans he;have kb₁:B.StaysIn h₁:=λb o hbo=>(hs₁.2.1 b λhm=>by rw[(hl.mem hm).1]at hbo;cases hbo).trans (st b o hbo);have hTe:h₁.objs.size≠e:=kU (ZC he₁);generalize ho:({cls:= .type "traceback",dict:=none,data:= .fields ([head,.ref L,.none,rawInt L,.none]++(if pl.isEmpty then List.replicate 6 Value.none else pl)).toArray}:Obj)=oT;have eT:(h₁.push oT).get? h₁.objs.size=some oT:=Zi h₁ (by rw[← ho];rfl);have dT:oT.data= .fields ([head,.ref L,.none,rawInt L,.none]++(if pl.isEmpty then List.replicate 6 Value.none else pl)).toArray:=by rw[← ho]
 have he₂:(h₁.push oT).get? e=some oe:=Zb _ he₁;obtain⟨f1,f2,f3⟩:=Am (j:=1) (v:=Value.ref h₁.objs.size) he₂ hd;have keep:∀b o,b≠e->h₁.get? b=some o->((h₁.push oT).update e (Obj.mapFields (·.setIfInBounds 1 (Value.ref h₁.objs.size)))).get? b=some o:=λb o n g=>(f2 b n).trans (Zb _ g);have up:s.heap.UpToSlots ((h₁.push oT).update e (Obj.mapFields (·.setIfInBounds 1 (Value.ref h₁.objs.size)))):=λb o g n=>by
  obtain⟨sl,g1⟩:=hs₁.2.2 b o g;exact⟨sl,keep b _ (λz=>by rw[z,he]at g;cases g;exact n vs hd) g1⟩
 refine wpAny_setField he₂ hd ⋯ (q _ ⟨λb o g=>keep b o (λz=>by rw[z,no]at g;cases g) (kb₁ b o g),no,hl.of_keeps λb o g n=>?_,?_⟩ up)
 .obtain⟨sl,g1⟩:=up b o g n;exact⟨_,g1,rfl⟩
 .exact⟨_,vs.setIfInBounds 1 (Value.ref h₁.objs.size),h₁.objs.size,oT,_,f1,Obj.cls_mapFields _ _,Obj.data_mapFields hd _,by simp[show 1<vs.size by lia],by rw[Array.getElem?_setIfInBounds_ne ∅];exact h2,kb₁.fresh,hTe,(f2 _ hTe).trans eT,dT,⋯⟩
def CA(hfr:A.frames=some (env::outer))(hf:env.frame=some L)(x:hG B (env::outer) e cls fl s.heap)(q:∀h',hG B (env::outer) e cls (rawInt L) h'->s.heap.UpToSlots h'->Q () {s with heap:=h'}):wpAny M A (noteFrame (.ref e) env) Q E s:=by
 obtain⟨st,no,ff,oe,vs,T,oT,ts,he,rfl,hd,h1,h2,hnT,hTe,hT,hdT,h3⟩:=id x;unfold noteFrame;simp only[hf];refine wpAny_bind (wpAny_field he hd h1 ?_);rw[if_pos (show(Value.ref T != Value.none)=true from by simp)];refine wpAny_bind (wpAny_field hT hdT h3 ?_);by_cases z:fl=rawInt L
 .rw[if_pos (by simp[z])];exact wpAny_pure (q s.heap (z▸x) (Heap.UpToSlots.refl _))
 .rw[if_neg (by simpa using z)];refine wpAny_bind (wpAny_setField hT hdT (Array.getElem?_eq_some_iff.mp h3).1 ?_);obtain⟨f1,f2,f3⟩:=Am (j:=3) (v:=Value.none) hT hdT;exact GZ hfr (ff.of_keeps λb o g n=>⟨o,(f2 b (f3 b o g n)).trans g,rfl⟩) hf ((f2 e (Ne.symm hTe)).trans he) (λb o g=>(f2 b λz=>by rw[z,hnT]at g;cases g).trans (st b o g)) no hd h2 λh' k up=>q h' k λb o g n=>up b o ((f2 b (f3 b o g n)).trans g) n
def OU{C:Value}{args:List Value}{h:Heap}(hfr:A.frames=some (env::outer))(hf:env.frame=some L)(st:B.StaysIn h)(ff:h.FunFrames B (env::outer))(hx:Heap.MadeExcOf h s.heap e C args)(q:∀h',hG B (env::outer) e C (rawInt L) h'->s.heap.UpToSlots h'->Q () {s with heap:=h'}):wpAny M A (noteFrame (.ref e) env) Q E s:=by
 obtain⟨t,he,htn,ht⟩:=hx.there;have fresh:B.get? e=none:=by
  cases g:B.get? e with
  | none=>rfl
  | some o=>have:=st _ _ g;rw[hx.new]at this;cases this
 unfold noteFrame;simp only[hf];refine wpAny_bind (wpAny_field (x:= .none) he rfl rfl ?_);rw[if_neg ∅];exact GZ hfr (ff.of_keeps λb o g _=>⟨o,hx.keeps b o g,rfl⟩) hf he (λb o g=>hx.keeps b o (st b o g)) fresh rfl rfl q
def xT(x:hG B l e cls fl s.heap)(q:∀h',hG B l e cls .none h'->s.heap.UpToSlots h'->Q () {s with heap:=h'}):wpAny M A (setFlight (.ref e) none) Q E s:=by
 obtain⟨st,no,ff,oe,vs,T,oT,ts,he,rfl,hd,h1,h2,hnT,hTe,hT,hdT,h3⟩:=id x;have hz:3<ts.size:=(Array.getElem?_eq_some_iff.mp h3).1;obtain⟨f1,f2,f3⟩:=Am (j:=3) (v:=(none:Option Addr).elim Value.none λf=>rawInt f) hT hdT;unfold setFlight;refine wpAny_bind (wpAny_field he hd h1 ?_);rw[if_pos (show(Value.ref T != Value.none)=true from by simp)];refine wpAny_setField hT hdT hz (q _ ⟨λb o g=>(f2 b λz=>by rw[z,hnT]at g;cases g).trans (st b o g),no,ff.of_keeps λb o g n=>⟨o,(f2 b (f3 b o g n)).trans g,rfl⟩,oe,vs,T,_,_,(f2 e (Ne.symm hTe)).trans he,rfl,hd,h1,h2,hnT,hTe,f1,Obj.data_mapFields hdT _,by simp[hz]⟩ λb o g n=>⟨o.slots,(f2 b (f3 b o g n)).trans g⟩)
def hG.tail(x:hG B (env::l) e cls fl h):hG B l e cls fl h:=⟨x.st,x.no,x.ff.2.2,x.tr⟩
end
structure nQ (X:Cx) (outer:List Env):Prop where
 fr:X.A.frames=some (X.env::outer)
 own:X.env.frame=some X.env.locals
 eq:outer.filterMap (·.frame)=X.fs
 all:∀e∈outer,e.scope.kind≠ .module/\e.frame≠none
structure Fz (X:Cx) (s0 s:Shared):Prop where
 hp:∀b o,X.h0.get? b=some o->b∉X.fs->s.heap.get? b=some o
 fr:∀b∈X.fs,∀o,X.h0.get? b=some o->∃sl,s.heap.get? b=some {o with slots:=sl}
 os:s.os=s0.os
def OR(X:Cx)(outer:List Env)(s0:Shared)(c:Str)(ea:Addr)(s':Shared):Prop:=AllBare s'.gens/\s'.os=s0.os/\∃C,ClsAt X.g.K c C/\((∃h args,h.FunFrames (PySem.W.hideAll h (X.env.locals::X.fs)) (X.env::outer)/\(∀b o,X.h0.get? b=some o->b∉X.fs->h.get? b=some o)/\(∀b∈X.fs,∀o,X.h0.get? b=some o->∃sl,h.get? b=some {o with slots:=sl})/\Heap.MadeExcOf h s'.heap ea (.ref C) args)∨
 ∃B fl,hG B (X.env::outer) ea (.ref C) fl s'.heap/\(∀b o,X.h0.get? b=some o->b∉X.fs->B.get? b=some o)/\∀b∈X.fs,∀o,X.h0.get? b=some o->∃sl,s'.heap.get? b=some {o with slots:=sl})
structure wW (X:Cx) (outer:List Env) (s0:Shared) (c:Str) (E:Value->Shared->Prop):Prop where
 pass:PassesOwn X.M X.A X.env E
 thr:∀ea s',OR X outer s0 c ea s'->E (.ref ea) s'
def XE(X:Cx)(e:Expr)(fx:DX):Prop:=∀ ⦃ex hs U F s c U' outer s0 E⦄,Rel X ex hs U F s->Fz X s0 s->nQ X outer->fx U=some (c,U')->wW X outer s0 c E->wpAny X.M X.A (eval e X.env) (λ_ _=>False) E s
def X1(X:Cx)(st:Stmt)(fx:DX):Prop:=∀ ⦃ex hs U F s c U' outer s0 E⦄,Rel X ex hs U F s->Fz X s0 s->nQ X outer->fx U=some (c,U')->wW X outer s0 c E->wpAny X.M X.A (exec st X.env) (λ_ _=>False) E s
def XS(X:Cx)(st:List Stmt)(fx:DX):Prop:=∀ ⦃ex hs U F s c U' outer s0 E⦄,Rel X ex hs U F s->Fz X s0 s->nQ X outer->fx U=some (c,U')->wW X outer s0 c E->wpAny X.M X.A (execs st X.env) (λ_ _=>False) E s
structure vS (g:Gb) (fs:LA) (outer:List Env) (s:Shared) (c:Str) (ea:Addr) (s':Shared):Prop where
 br:AllBare s'.gens
 os:s'.os=s.os
 cls:∃C B fl,ClsAt g.K c C/\hG B outer ea (.ref C) fl s'.heap/\∀b o,s.heap.get? b=some o->b∉fs->B.get? b=some o
 fr:∀b∈fs,∀o,s.heap.get? b=some o->∃sl,s'.heap.get? b=some {o with slots:=sl}
def ER(A:Around)(outer:List Env)(fs:LA):Prop:=A.frames=some outer/\outer.filterMap (·.frame)=fs/\∀e∈outer,e.scope.kind≠ .module/\e.frame≠none
def zM(g:Gb)(k:Nat)(f:Addr)(fd:FuncData)(ps:List Str)(xd:List D->Option Str):Prop:=∀ ⦃A s ex fs outer args us ds G c⦄,L2.cC k A->q8 g ex s->uI ex fs s->ER A outer fs->BindsTo s fd args (ps.zip us)->aM g ex s.heap ds us G->ds.length=ps.length->xd ds=some c→
 codeAny (model g.P g.w) A (.call (.ref f) args) (λr s'=>∃ea,r= .error (.ref ea)/\vS g fs outer s c ea s') s
section
variable {X:Cx}{ex:LA}{hs:Hs}{U:En}{F:Ft}{s s' s0 s1:Shared}{g:Gb}{k n:Nat}{f:Addr}{fd:FuncData}{ps:List Str}{outer:List Env}{e b c:Expr}{es:List Expr}{fs:DA}{pos p np cpos:Pos}{x y m:Str}{fx fr fy:DX}{f':DS}{st:Stmt}{sts body:List Stmt}{ga:DT}{xd:List D->Option Str}
def Jp{h:Heap}{as:LA}:∀{l:List Env},(∀e∈l,e.scope.kind≠ .module/\e.frame≠none)->(∀b∈l.filterMap (·.frame),b∈as/\∃o es ep,h.get? b=some o/\o.data= .dict es ep)->h.FunFrames (PySem.W.hideAll h as) l
 | [],_,_=>trivial
 | e::l,h1,h2=>by
  obtain⟨k,nf⟩:=h1 e (.head _);cases hf:e.frame with
  | none=>exact absurd hf nf
  | some L=>
   rw[List.filterMap_cons_some hf]at h2;obtain⟨m,o,es,ep,g,d⟩:=h2 L (.head _);exact⟨k,⟨L,o,hf,PySem.W.hideAll_none _ m,g,λvs q=>by rw[d]at q;cases q⟩,Jp (λe m=>h1 e (.tail _ m)) λb m=>h2 b (.tail _ m)⟩
def Rel.frames(r:Rel X ex hs U F s)(k:nQ X outer):s.heap.FunFrames (PySem.W.hideAll s.heap (X.env.locals::X.fs)) (X.env::outer):=by
 refine Jp (λe m=>(Zj.mp m).elim (λh=>h▸⟨by rw[r.ok.kind];decide,by rw[k.own];nofun⟩) (k.all e)) ?_;rw[List.filterMap_cons_some k.own,k.eq];exact bF ⟨.head _,let ⟨_,⟨o,es,ep,e,d,_⟩,_⟩:=r.ns;⟨o,es,ep,e,d⟩⟩ λb m=>⟨.tail _ m,(r.fsl b m).2⟩
def Fz.ext(z:Fz X s0 s)(x:Ex s s1):Fz X s0 s1:=⟨λb o e n=>x.hp b o (z.hp b o e n),λb m o e=>let ⟨sl,h⟩:=z.fr b m o e;⟨sl,x.hp b _ h⟩,x.os.trans z.os⟩
def Fz.go(z:Fz X s0 s)(hio:X.io=false)(x:Fx X hs s s1):Fz X s0 s1:=⟨λb o e n=>x.hp b o (z.hp b o e n) λc=>c.elim (λh=>by rw[show X.h0.get? b=none from h]at e;cases e) λc=>c.elim (λh=>by rw[hio]at h;cases h.1) λh=>absurd h n,λb m o e=>let ⟨sl,h⟩:=z.fr b m o e;let ⟨sl',h'⟩:=x.fr b m _ h;⟨sl',h'⟩,x.os.trans z.os⟩
def vA:X1 X st aJ:=λ_ _ _ _ _ _ _ _ _ _ _ _ _ e=>nomatch e
def PK:XS X [] aJ:=λ_ _ _ _ _ _ _ _ _ _ _ _ _ e=>nomatch e
def IP(hio:X.io=false)(h1:S1 X st f')(h2:X1 X st fx)(h3:XS X sts fr):XS X (st::sts) (Qo f' fx fr):=λex hs U F s c U' outer s0 E rel z k e q=>by
 unfold Qo at e;split at e
 .rename_i U1 e1;refine wpAny_execs_cons (any (aN (h1 rel e1) λfl s1 ⟨x,y⟩=>?_));obtain⟨rfl,F',r'⟩:=y;exact h3 r' (z.go hio x) k e q
 .cases e
 .exact wpAny_execs_cons (wpAny_mono (h2 rel z k e q) (λ_ _ h=>h.elim) λ_ _ h=>h)
def ä(hc:ST X c ga)(ha:XS X sts fx)(hb:XS X body fy):X1 X (.If c sts body pos) (bG ga fx fy):=λex hs U F s c' U' outer s0 E rel z k e q=>by
 refine Ql e λb e1 e=>wpAny_If (any (aN (hc rel e1) λb' s1 ⟨h,x⟩=>?_));subst h;cases b' with
 | true=>exact ha (rel.ext x) (z.ext x) k e q
 | false=>exact hb (rel.ext x) (z.ext x) k e q
def W2(hc:X.calm=true)(hg:Gl X x)(hk:sE X.g.K x)(hdb:(x == ("__debug__" :Str))=false)(ha:SA X [e] fs)(he:starEach [e] X.env=(false,eval e X.env)::starEach [] X.env):
  X1 X (.Raise (some (.Call (.Name x np) [e] [] cpos)) none pos) (cR x fs):=λex hs U F s c U' outer s0 E rel z k ee qq=>by
 refine Ql ee λra e1 e2=>?_;split at e2
 case isFalse=>cases e2
 rename_i hl;cases e2;obtain⟨C,hC,hq⟩:=hk.ex;obtain⟨bm,N,nm',qn,bs,hdct,sn,sub,ab,col,dd,k0,k1,k2,k3,k5,mN,o1,o2,o3,o4⟩:=Vn hq rel.ok.mod.bH;have hm:X.g.mg x=some (.ref C):=mQ rel.ok.mod.bH rel.ok.mod.glob hC
 refine wpAny_Raise_call_subT (C:=C) (nm:=nm') (q:=qn) (N:=N) (bs:=bs) (bm:=bm) (hdct:=hdct) (sn:=sn) (sub:=sub) (ab:=ab) (col:=col) (dd:=dd) (k0:=k0) (k1:=k1) (k2:=k2) (k3:=k3) (k5:=k5)
  PySem.F.excBase_ValueError (mN:=mN) (o4.hasType PySem.F.excBase_ValueError.hasBase) (rel.ok.hd hc) (by rw[he];rfl) o3 (rel.glob hg hm ⟨rfl,?_⟩ hdb)
 have hargs:=ha cpos rel e1;rw[he]at hargs ⊢;refine u4 (any (aN hargs λus s2 ⟨G,p1⟩=>⟨rfl,?_,(rel.ext p1.ext).bk _ _ o1,o2.keeps (rel.ext p1.ext).bk,o4.keeps (rel.ext p1.ext).bk,λh' ea hm=>?_⟩))
 .show us.length<=sizeLine;rw[← p1.rp.len];exact ZE hl ∅
 .have r2:=rel.ext p1.ext;have z2:=z.ext p1.ext;exact qq.thr ea _ ⟨r2.br,z2.os,C,hC,.inl ⟨s2.heap,us,r2.frames k,z2.hp,z2.fr,hm⟩⟩
def mX(g:Gb)(k:Nat)(x:Str)(n:Nat)(xd:List D->Option Str):Prop:=∃f fd ps,zM g k f fd ps xd/\ps.length=n/\g.mg x=some (.ref f)/\PySem.W.keepIn g.K (.ref f)=true/\L2.Binds g.K fd ps []
def XB(X:Cx)(e:Expr)(fx:DX):Prop:=∀ ⦃ex hs U F s c U' fs outer⦄ {E:Value->Shared->Prop},Rel X ex hs U F s->uI ex fs s->ER X.A outer fs->fx U=some (c,U')->(∀ea s',vS X.g fs outer s c ea s'->E (.ref ea) s')->wpAny X.M X.A (eval e X.env) (λ_ _=>False) E s
def vS.back{fs:LA}{cl:Str}{ea:Addr}(x:Ex s s1)(t:vS g fs outer s1 cl ea s'):vS g fs outer s cl ea s':=
 ⟨t.br,t.os.trans x.os,let ⟨C,B,a0,hC,fl,old⟩:=t.cls;⟨C,B,a0,hC,fl,λb o e=>old b o (x.hp b o e)⟩,λb m o e=>t.fr b m o (x.hp b o e)⟩
def Yx(h:XB X e fx):XE X e fx:=λex hs U F s c U' outer s0 E rel z st ee qq=>
 h (fs:=X.env.locals::X.fs) (outer:=X.env::outer) rel (bF ⟨rel.loc,let ⟨_,⟨o,es,ep,e,d,_⟩,_⟩:=rel.ns;⟨o,es,ep,e,d⟩⟩ rel.fsl) ⟨st.fr,by rw[List.filterMap_cons_some st.own,st.eq],λe m=>(Zj.mp m).elim (λh=>h▸⟨by rw[rel.ok.kind];decide,by rw[st.own];nofun⟩) (st.all e)⟩ ee λea s' t=>by
 obtain⟨C,B,a0,hC,fl,old⟩:=t.cls;refine qq.thr ea _ ⟨t.br,t.os.trans z.os,C,hC,.inr ⟨B,a0,fl,λb o e n=>old b o (z.hp b o e n) λm=>(Zj.mp m).elim (λh=>by rw[h,show X.h0.get? _=none from rel.ok.new.1]at e;cases e) n,λb m o e=>?_⟩⟩;obtain⟨sl,h⟩:=z.fr b m o e;obtain⟨sl',h'⟩:=t.fr b (.tail _ m) _ h;exact⟨sl',h'⟩
def OD(K:mX X.g k x n xd)(hr:L2.cC k X.A)(hg:Gl X x)(hd:(x == ("__debug__" :Str))=false)(ha:SA X (e::es) fs)(he:One X e es)(hp:(backTo pos (starEach es X.env)).any (·.1)=false):XB X (.Call (.Name x p) (e::es) [] pos) (cK n xd fs):=λex hs U F s c U' fs' outer E rel hf fo ee qq=>by
 obtain⟨f,fd,ps,hF,hn,hmg,hkp,hb⟩:=K;refine Ql ee λra e1 ee=>?_;split at ee
 .rename_i hl;obtain⟨c',e2,e3⟩:=Zd.mp ee;cases e3;refine wpAny_Call_Name_kw (rel.glob hg hmg ?_ hd);refine pC (first:=[]) (h₀:=X.g.base) rel.ok.mod.bH hkp (any (aN (ha pos rel e1) λus s1 ⟨G,p1⟩=>⟨(rel.ext p1.ext).bM.bH,?_⟩)) he hp;have r1:=rel.ext p1.ext;have bd:=hb s1 us r1.bM.bH (by rw[Zo,← p1.rp.len,hl,hn]);rw[Zo]at bd;refine wpAny_call (codeAny_mono (hF hr r1.bM (λb m=>let ⟨h,o,es,ep,e,d⟩:=hf b m;⟨h,o,es,ep,p1.ext.hp b o e,d⟩) fo bd p1.rp (hl.trans hn.symm) e2) λrr s' ⟨ea,e,t⟩=>?_);subst e;exact qq ea s' (t.back p1.ext)
 .cases ee
def Ñ(h:XE X e fx)(hs:swapsWith e none pos.line X.env=pure false):X1 X (.Expr e pos) fx:=λex hs' U F s c U' outer s0 E rel z st ee qq=>wpAny_Expr_any (wpAny_mono (h rel z st ee qq) (λ_ _ h=>h.elim) λ_ _ h=>h) rel.quiet hs
def Z7(h:XE X e fx):X1 X (.Return (some e) pos) fx:=λex hs' U F s c U' outer s0 E rel z st ee qq=>wpAny_Return_some (wpAny_mono (h rel z st ee qq) (λ_ _ h=>h.elim) λ_ _ h=>h)
def JH(h:XE X e fx)(hs:swapsWith e (some (.Name x p)) pos.line X.env=pure false):X1 X (.Assign [.Name x p] e pos) fx:=λex hs' U F s c U' outer s0 E rel z st ee qq=>wpAny_Assign_Name (wpAny_mono (h rel z st ee qq) (λ_ _ h=>h.elim) λ_ _ h=>h) hs
def RJ{x qual:Str}{st:Stmt}{gx:DX}(Fu:jQ g.K x qual st f fd)(S:L2.mT (namesOf (L2.Qp st)) ps (L2.Qp st))(hb:∀cdv A s G fs,L2.cC k (A.deeper (envOfC qual (L2.Qp st) s.heap.objs.size f cdv))->XS (mZ g (namesOf (L2.Qp st)) qual (L2.Qp st) f cdv A s G false none fs) (L2.QE st) gx):
  zM g (k+1) f fd ps (Q8 (namesOf (L2.Qp st)).length gx):=λA s ex fs outer args us ds G c hr e0 hfs hfo hbi r hl hd=>by
 obtain⟨oc,od,dV,kV,doc,pm,an,cdv,ct,osl,rfl,lk,hcd⟩:=Fu.ex;obtain⟨⟨c',U'⟩,ho,rfl⟩:=Zd.mp hd;have hkind:∀y∈ps.zip us,(L2.Qp st).names.lookup y.1=some .local ∨((L2.Qp st).names.lookup y.1=some .cell/\((cellsFrom (s.heap.objs.size+1) (L2.Qp st).names []).lookup y.1).isSome=true):=λZ hy=>by
  obtain⟨n,v⟩:=Z;exact(S.par n (rW hy).1).imp id λq=>⟨q,t9 _ _ _ (.inl q)⟩
 refine codeAny_call_function hr.depth (e0.bH _ _ lk) rfl S.co S.gen rfl (sY e0.bH hcd) (hbi _ _ _ _ (wpAny_newFunctionEnv_cells S.kind hkind λenv he s1 x=>?_));subst he;refine⟨(e0.mod.nolimit.keeps e0.bk).keeps x.toInCall.keep,codeAny_func ?_⟩;obtain⟨F,w,rel⟩:=enter (io:=false) (pin:=none) (fs:=fs) (A:=A) (qual:=qual) (f:=f) (cd:=cdv) S e0 hl r nofun hfs x
 obtain⟨h1,tk,rfl,hk⟩:=x.done;have st':nQ (mZ g (namesOf (L2.Qp st)) qual (L2.Qp st) f cdv A s G false none fs) outer:=⟨CI hfo.1,rfl,hfo.2.1,hfo.2.2⟩;refine wpAny_mono (hb cdv A s G fs (hr.deeper _) rel (s0:=s) ⟨λb o e _=>hk b o e,λb m o e=>⟨o.slots,hk b o e⟩,rfl⟩ st' ho ⟨PassesOwn.leaving,λea s' ⟨br,os,C,hC,q⟩=>?_⟩) (λ_ _ h=>h.elim) λ_ _ h=>h;have dat:∀b∈fs,∀o,s.heap.get? b=some o->∀{h h':Heap}{sl},h.UpToSlots h'->h.get? b=some {o with slots:=sl}->∃sl,h'.get? b=some {o with slots:=sl}:=λb m o e h h' sl up e1=>by
  obtain⟨_,o2,es,ep,e2,d⟩:=hfs b m;rw[e]at e2;cases e2;obtain⟨sl',e3⟩:=up b _ e1 λvs q=>by rw[show o.data=_ from q]at d;cases d
  exact⟨sl',e3⟩
 rcases q with⟨h,ags,ff,kp,ku,hm⟩ | ⟨B,fl',fl,old,ku⟩
 .refine wpAny_bind (OU st'.fr st'.own (λb o e=>BD _ e) ff hm λh1 k1 up1=>xT (s:={s' with heap:=h1}) k1 λh2 k2 iG=>⟨ea,rfl,br,os,⟨C,_,_,hC,k2.tail,λb o e n=>PySem.W.hideAll_get _ (kp b o e n) λm=>(Zj.mp m).elim (λz=>by rw[z]at e;cases e.symm.trans Q2) n⟩,λb m o e=>?_⟩);obtain⟨sl,e1⟩:=ku b m o e;exact dat b m o e (up1.trans iG) (hm.keeps b _ e1)
 .refine wpAny_bind (CA st'.fr st'.own fl λh1 k1 up1=>xT (s:={s' with heap:=h1}) k1 λh2 k2 iG=>⟨ea,rfl,br,os,⟨C,B,_,hC,k2.tail,λb o e n=>old b o e n⟩,λb m o e=>?_⟩);obtain⟨sl,e1⟩:=ku b m o e;exact dat b m o e (up1.trans iG) e1
end
section
variable {X:Cx}{ex:LA}{hs:Hs}{U:En}{F:Ft}{s s' s0 s1:Shared}{g:Gb}{k n i:Nat}{outer:List Env}{e b tg iter:Expr}{pos p:Pos}{x m:Str}{fx fr:DX}{f:DS}{st:Stmt}{body:List Stmt}{fi:DI}{t:Tg}
def ö(hio:X.io=false)(hi:SI X tg iter fi)(hg:SG X tg t)(hb:SS X body f)(hx:XS X body fx)(hf:∀x,foldedSetIterable iter X.env x=pure x):X1 X (.For tg iter body [] pos) (iH fi t f fx):=λex hs U F s cl U' outer s0 E rel z st0 e qq=>by
 refine Ql e λir e1 e=>wpAny_For (any (aN (hi rel e1) λv s1 h=>any (aN h λit s2 ⟨I,fp,wr,T,P,St,ts,e2,x,tr,st,no,hT,ht,own,zz,yld,hn⟩=>?_))) hf;subst e2;have ob:∀i h,St i h->∀b∈wr,∃o,h.get? b=some o:=λi h st b m=>let ⟨o,e,_⟩:=tr.obj i h st b (tr.sub b m);⟨o,e⟩;refine codeAny_forLoop_any (λn s'=>∃i U F,n+i=ir.items.length/\Fx X hs s s'/\St i s'.heap/\Rel X (wr++ex) (ts++hs) U F s'/\kG t f fx (ir.items.drop i) U=some (cl,U')) ?_ _ ⟨0,_,F,rfl,.of x,st,rel.into x no (ob _ _ st) ht hn,e⟩;rintro n s3 ⟨i,U3,F3,hn,x3,st3,r3,e3⟩;have next:∀{h' tk},(∀b o,b∉wr->s3.heap.get? b=some o->h'.get? b=some o)->Fx X hs s {s3 with heap:=h',toks:=tk}:=λk=>⟨λa o h i=>k a o (λm=>by rw[no a m]at h;cases h) (x3.hp a o h i),x3.os,x3.br,λa m o e=>let ⟨sl,e1⟩:=x3.fr a m o e;⟨sl,k a _ (λz=>r3.ok.fo a m (rel.nw a (no a z))) e1⟩⟩;cases n with
 | zero=>
  rw[show ir.items.drop i=[]from Be ⋯]at e3;cases e3
 | succ n=>
  have lt:i<ir.items.length:= ⋯
  rw[uT lt]at e3;unfold kG at e3;refine Ql e3 λU4 e4 e3=>?_;refine any (aN (tr.turn i s3 (λv s4=>∃G,Fx X hs s s4/\St (i+1) s4.heap/\Rel X (wr++ex) (ts++hs) U3 F3 s4/\Rp X.g (wr++ex) s4.heap ir.items[i] v G/\vU X U3 F3 G) lt st3 λv h' tk p st4 k=>?_) λr s4 ⟨v,q,h⟩=>?_)
  .have r4:=rel.turn (tk:=tk) no r3 k λb m=>⟨m,ob _ _ st4 b m⟩;obtain⟨G,p,m⟩:=yld _ i v s3 h' _ p st4 r3.exl (λt m=>(r4.held t (Zc _ m)).1) (Zt lt);refine⟨G,next k,st4,r4,p,λa h=>?_⟩;obtain⟨t,ht,h⟩:=m a h;exact⟨(r4.held t (Zc _ ht)).2 a h,λj d e h'=>((r4.ow.own j d e).2 a h').2.2 t (Zc _ ht) h⟩
  .subst q;refine any (aN h λ_ s5 ⟨G,x5,st5,r5,p,sh⟩=>any (aN (hg r5 p sh e4) λ_ s6 ⟨x6,F6,r6,_⟩=>?_))
   have go:∀{o1},f U4=some o1->(∃U7,(o1= .nx U7∨o1= .ct U7)/\kG t f fx (ir.items.drop (i+1)) U7=some (cl,U'))->wpAny X.M X.A (execs body X.env) (λfl s7=>match fl with
      | .next | .cont=>∃m,m<n+1/\∃i U F,m+i=ir.items.length/\Fx X hs s s7/\St i s7.heap/\Rel X (wr++ex) (ts++hs) U F s7/\kG t f fx (ir.items.drop i) U=some (cl,U')
      | .brk=>False
      | .ret _=>False) E0 s6:=λ{o1} eo ⟨U7,h7,e7⟩=>aN (hb r6 eo) λfl s7 ⟨x7,q⟩=>by
    have x8:Fx X (ts++hs) s5 s7:=x6.trans x7;have x9:Fx X hs s s7:=x5.trans x8.less;have again:∀{F7},Rel X (wr++ex) (ts++hs) U7 F7 s7->∃m,m<n+1/\∃i U F,m+i=ir.items.length/\Fx X hs s s7/\St i s7.heap/\Rel X (wr++ex) (ts++hs) U F s7/\kG t f fx (ir.items.drop i) U=some (cl,U'):=λ{F7} r7=>
     ⟨n,ZW n,i+1,U7,F7,⋯,x9,tr.frame _ _ _ st5 λb m o e=>x8.hp b o e λ_=>by
      obtain⟨o',e',q⟩:=tr.obj _ _ st5 b m;rw[e]at e';cases e';exact q.imp id λm=>let ⟨t,h,k⟩:=hT b m;⟨t,Zc _ h,k⟩,r7,e7⟩
    rcases h7 with rfl | rfl
    .obtain⟨rfl,F7,r7⟩:=q;exact again r7
    .obtain⟨rfl,F7,r7⟩:=q;exact again r7
   split at e3
   .rename_i U7 eo;exact any (aN (go eo ⟨U7,.inl rfl,e3⟩) λfl s7 h=>by cases fl<;>first | exact h | exact h.elim)
   .rename_i U7 eo;exact any (aN (go eo ⟨U7,.inr rfl,e3⟩) λfl s7 h=>by cases fl<;>first | exact h | exact h.elim)
   .cases e3
   .exact wpAny_mono (hx r6 ((z.go hio x5).go hio x6) st0 e3 qq) (λ_ _ h=>h.elim) λv s' h=>qq.pass v s' h
end
section
variable {X:Cx}{a:Expr}{fa:DE}{p p2 pos:Pos}{sub:Str->Str->Option Bool}{x y:Str}
def NX{y:Str}(hsub:tD X.g.K sub)(cb:Cb X x (.builtin "isinstance") a [.Name y p2] pos)(hy:Gl X y)(hdb:(y == ("__debug__" :Str))=false)(ha:SE X a fa):SE X (.Call (.Name x p) [a,.Name y p2] [] pos) (kF sub [y] fa):=λex hs U F s r' rel e=>by
 refine Ql e λr e1 e=>?_;split at e
 .rename_i z hd;obtain⟨b,eb,rfl⟩:=Zd.mp e;have eb':sub z y=some b:=by
   unfold anyS at eb;refine Ql eb λb' h1 h2=>?_;cases b' with
   | true=>cases h2;exact h1
   | false=>cases h2;exact h1
  obtain⟨C,c,k1,k2,k3,k4,k5⟩:=hsub z y b eb';refine cb.call rel ?_;rw[cb.e];refine ZJ (aN (ha rel e1) λv s1 ⟨G,p1⟩=>ZJ ?_);have r1:=rel.ext p1.ext;have rp:=p1.rp;rw[hd]at rp;cases rp with
  | atm q=>cases q
  | exc na at_ t=>
   obtain⟨C',o,vs,h1,h2,h3,h4,_⟩:=at_;cases EZ k1 h1;have fin:wpAny X.M X.A (call (.builtin "isinstance") [.ref _,c]) (λv s'=>∃G,eH X ex U F s s' ⟨.bl b,true,[]⟩ v G) E0 s1:=sH (S5 k5) r1.bM.bH ⟨o,vs,h2,h3,h4⟩ k4 (λz=>nomatch z) λtk=>⟨[],.flat (p1.ext.trans .tok) .bl⟩;rcases k2 with k | ⟨k,kb,kn⟩
   .exact r1.glob hy (mQ r1.ok.mod.bH r1.ok.mod.glob k) (ZY fin) hdb
   .exact r1.Bi hy (PySem.W.mg_none_of r1.ok.mod.bH r1.ok.mod.glob k) kb (ZY fin) kn hdb
 .cases e
end
def XA(X:Cx)(es:List Expr)(fx:DX):Prop:=∀ ⦃ex hs U F s c U' outer s0 E⦄ (pos:Pos),Rel X ex hs U F s->Fz X s0 s->nQ X outer->fx U=some (c,U')->wW X outer s0 c E->wpAny X.M X.A (spliced (backTo pos (starEach es X.env))) (λ_ _=>False) E s
section
variable {X:Cx}{ex:LA}{hs:Hs}{U:En}{F:Ft}{s s0 s1:Shared}{g:Gb}{k:Nat}{outer:List Env}{a o e b c tg iter elt:Expr}{ifs es:List Expr}{pos p cpos apos:Pos}{x y m:Str}{fe:DE}{fx fy:DX}{ga:DT}{t:Tg}{i':String}
def jI{α:Type}{M:Model}{A:Around}{t:Sem α}{Q:α->Shared->Prop}{E:Value->Shared->Prop}(h:wpAny M A t (λ_ _=>False) E s):wpAny M A t Q E s:=wpAny_mono h (λ_ _ h=>h.elim) λ_ _ h=>h
def TZ:XE X e aJ:=λ_ _ _ _ _ _ _ _ _ _ _ _ _ e=>nomatch e
def XY(h1:XE X e fx)(h2:XE X e fy):XE X e (qO fx fy):=λex hs U F s c U' outer s0 E rel z st ee qq=>by
 unfold qO at ee;split at ee
 .rename_i q;cases ee;exact h1 rel z st q qq
 .exact h2 rel z st ee qq
def Wm(h1:XA X es fx)(h2:XA X es fy):XA X es (qO fx fy):=λex hs U F s c U' outer s0 E pos rel z st ee qq=>by
 unfold qO at ee;split at ee
 .rename_i q;cases ee;exact h1 pos rel z st q qq
 .exact h2 pos rel z st ee qq
def Fv(h:XE X e fx)(he:One X e es):XA X (e::es) fx:=λex hs U F s c U' outer s0 E pos rel z st ee qq=>by
 rw[he];exact ZJ (jI (h rel z st ee qq))
def KN(h:SE X e fe)(ht:XA X es fx)(he:One X e es):XA X (e::es) (A4 fe fx):=λex hs U F s c U' outer s0 E pos rel z st ee qq=>by
 refine Ql ee λr e1 ee=>?_;rw[he];exact ZJ (any (aN (h rel e1) λv s1 ⟨G,p⟩=>jI (ht pos (rel.ext p.ext) (z.ext p.ext) st ee qq)))
def Sg(h:XA X es fx):XE X (.Tuple es k pos) fx:=λex hs U F s c U' outer s0 E rel z st ee qq=>wpAny_Tuple_spliced (jI (h pos rel z st ee qq))
def WV(h:XA X es fx):XE X (.List es pos) fx:=λex hs U F s c U' outer s0 E rel z st ee qq=>wpAny_List_spliced (jI (h pos rel z st ee qq))
def Yz{op}(h:XE X a fx):XE X (.BinOp a op b pos) fx:=λex hs U F s c U' outer s0 E rel z st ee qq=>wpAny_BinOp (jI (h rel z st ee qq))
def NU(hc:ST X c ga)(ha:XE X a fx)(hb:XE X b fy):XE X (.IfExp c a b pos) (bG ga fx fy):=λex hs U F s c' U' outer s0 E rel z st ee qq=>by
 refine Ql ee λk e1 e=>wpAny_IfExp (any (aN (hc rel e1) λd s1 ⟨h,x⟩=>?_));subst h;cases d with
 | true=>exact jI (ha (rel.ext x) (z.ext x) st e qq)
 | false=>exact jI (hb (rel.ext x) (z.ext x) st e qq)
def Ro{f:Addr}(hmg:X.g.mg x=some (.ref f))(hkp:PySem.W.keepIn X.g.K (.ref f)=true)(hg:Gl X x)(hd:(x == ("__debug__" :Str))=false)(ha:XA X (e::es) fx)(he:One X e es)(hp:(backTo pos (starEach es X.env)).any (·.1)=false):XE X (.Call (.Name x p) (e::es) [] pos) fx:=λex hs U F s c U' outer s0 E rel z st ee qq=>
 wpAny_Call_Name_kw (rel.glob hg hmg (pC (first:=[]) (h₀:=X.g.base) rel.ok.mod.bH hkp (wpAny_mono (ha pos rel z st ee qq) (λ_ _ h=>h.elim) λ_ _ h=>h) he hp) hd)
def OC{z:Str}(c:Ms X o m apos a es cpos i')(ho:SE X o (dC (.str z)))(ha:XA X (a::es) fx):XE X (.Call (.Attribute o m apos) (a::es) [] cpos) fx:=λex hs U F s cl U' outer s0 E rel zz st ee qq=>by
 refine wpAny_Call_method_late c.b c.f c.l rfl (any (aN (ho rel rfl) λw s1 ⟨G1,p⟩=>?_));have q:=p.rp;obtain⟨t,rfl⟩:=q.str_inv;refine⟨"str",i',PySem.F.plainAttrs_str,c.s,c.t,typeIs_str _ _ _,λa z=>(nomatch z),tU c.p ?_⟩;have:=ha cpos (rel.ext p.ext) (zz.ext p.ext) st ee qq;rw[c.e]at this ⊢;exact u4 (jI this)
def Uk{scope:Scope}{N':List Str}(S:nR X N' scope)(h:XE X iter fx)(hf:∀x,foldedSetIterable iter X.env x=pure x):XE X (.ListComp elt [⟨tg,iter,ifs,0⟩] scope pos) fx:=λex hs U F s cl U' outer s0 E rel zz st ee qq=>by
 obtain⟨cl,hcl,hc1,hc2⟩:=L2.Dr λy hy hf=>rel.ok.has y.1 (S.free y hy hf);rw[eval_ListComp];exact wpAny_comprehension_free rfl hf hcl S.kind S.loc (jI (h rel zz st ee qq))
end
section
variable {M:Model}{A:Around}{E:Value->Shared->Prop}{s:Shared}{B h h':Heap}{env:Env}{l:List Env}{e C:Addr}{cls fl:Value}
def É{α:Type}{what:String}{Q:α->Shared->Prop}(x:hG B l e cls fl s.heap)(q:∀h' f',hG B l e cls f' h'->s.heap.UpToSlots h'->E (.ref e) {s with heap:=h'}):wpAny M A (PySem.passOn what (.ref e) env:Sem α) Q E s:=by
 obtain⟨st,no,ff,oe,vs,T,oT,ts,he,rfl,hd,h1,h2,hnT,hTe,hT,hdT,h3⟩:=id x;obtain⟨f1,f2,f3⟩:=Am (j:=3) (v:=env.frame.elim Value.none λf=>rawInt f) hT hdT;have hz:3<ts.size:=(Array.getElem?_eq_some_iff.mp h3).1;unfold PySem.passOn setFlight;refine wpAny_bind (wpAny_field he hd h1 ?_);rw[if_neg ⋯];refine wpAny_bind (wpAny_bind (wpAny_field he hd h1 ?_));rw[if_pos ⋯];exact wpAny_setField hT hdT hz (wpAny_throw (q _ (env.frame.elim Value.none λf=>rawInt f) ⟨λb o g=>(f2 b λz=>by rw[z,hnT]at g;cases g).trans (st b o g),no,ff.of_keeps λb o g n=>⟨o,(f2 b (f3 b o g n)).trans g,rfl⟩,oe,vs,T,_,_,(f2 e (Ne.symm hTe)).trans he,rfl,hd,h1,h2,hnT,hTe,f1,Obj.data_mapFields hdT _,by simp[hz]⟩ λb o g n=>⟨o.slots,(f2 b (f3 b o g n)).trans g⟩))
def hG.hide(hs:Heap.SameBut C h h')(hn:∀b∈L2.fW l,b≠C){m:Str->Option Value}(hC:h.Ns C m)(x:hG B l e cls fl h):hG (PySem.W.hideAll B [C]) l e cls fl h':=by
 obtain⟨st,no,ff,oe,vs,T,oT,ts,he,rfl,hd,h1,h2,hnT,hTe,hT,hdT,h3⟩:=x;have apart:∀b o vs,h.get? b=some o->o.data= .fields vs->b≠C:=λb o vs x y z=>by
  subst z;obtain⟨o',es,ep,ho,hd,_⟩:=hC;rw[x]at ho;cases ho;rw[hd]at y;cases y
 have gone:∀b,B.get? b=none->(PySem.W.hideAll B [C]).get? b=none:=λb n=>by
  cases q:(PySem.W.hideAll B [C]).get? b with
  | none=>rfl
  | some u=>have:=BD _ q;rw[n]at this;cases this
 refine⟨λb o x=>?_,gone _ no,La hs hn ff,oe,vs,T,oT,ts,(hs.2 e (apart _ _ _ he hd)).trans he,rfl,hd,h1,h2,gone _ hnT,hTe,(hs.2 T (apart _ _ _ hT hdT)).trans hT,hdT,h3⟩;have hb:b≠C:=λz=>by
  subst z;have hm:(PySem.W.hideAll B [b]).get? b=none:=PySem.W.hideAll_none _ Zs;rw[hm]at x;cases x
 exact(hs.2 b hb).trans (st b o (BD _ x))
end
section
variable {X:Cx}{ex wr:LA}{hs ts:Hs}{U U':En}{F:Ft}{s s' s0 s1 s2:Shared}{elt tg iter:Expr}{ifs:List Expr}{fe:DE}{ft:DT}{fi:DI}{fx:DX}{pos p:Pos}{scope:Scope}{N':List Str}{cl:List (Str×Addr)}{cap:List (Option Nat)}{t:Tg}{outer:List Env}{c:Str}{E:Value->Shared->Prop}
def Jk{use:Option (Value->Sem Unit)}{QV:Value->Shared->Prop}{cp:Pos}(S:nR X N' scope)(K:pA X N' scope cap)(hi:SI X tg iter fi)(hin:∀cs C h,SG (dO X N' scope cs C h) tg t/\l5 (dO X N' scope cs C h) ifs ft/\SE (dO X N' scope cs C h) elt fe)(hx:∀cs C h,XB (dO X N' scope cs C h) elt fx)(hf:∀x,foldedSetIterable iter X.env x=pure x)(rel:Rel X ex hs U F s)(zz:Fz X s0 s)(sk:nQ X outer)
  (e:o5 fi t cap ft fe fx U=some (c,U')) (qq:wW X outer s0 c E):wpAny X.M X.A (comprehension (.ListComp elt [⟨tg,iter,ifs,0⟩] scope pos) scope X.env cp (newList []) false (eval iter X.env) use) QV E s:=by
 obtain⟨cl,hcl,hc1,hc2⟩:=L2.Dr λy hy hf=>rel.ok.has y.1 (S.free y hy hf);refine Ql e λir e1 e=>?_;obtain⟨c',ef,er⟩:=Zd.mp e;cases er;refine wpAny_comprehension_free rfl hf hcl S.kind S.loc (any (aN (hi rel e1) λv s1 h=>any (aN h λit s2 ⟨I,fp,wr,T,P,St,ts,e2,x,tr,st,no,hT,ht,own,z,yld,_⟩=>?_)));subst e2;refine wpAny_newObj_type (L2.Hn λh4 hns keep hown=>?_);generalize hh:s2.heap.push {cls:= .type "list",dict:=none,data:= .seq ([]:List Value).toArray}=h3 at hns keep hown ⊢;have hC:h3.objs.size=s2.heap.objs.size+1:=by rw[← hh,ZF]
 generalize hC':h3.objs.size=C at hC hns keep hown ⊢;generalize hD:s2.heap.objs.size=D at hC ⊢;generalize hcs:cellsFrom (C+1) scope.names cl=cs at hown ⊢;have blk:∀{s'},Bk wr D C cs s2 s'->Rel (dO X N' scope cs C h3) ((D::C::lJ scope.names cs C)++(wr++ex)) ts (iX cap U) (qB cap U F) s':=λB=>block rel S K hc1 hc2 x no (λt m=>(ht t m).1) hD.symm hC hh.symm hcs.symm B;obtain⟨hg,hts,he⟩:=hin cs C h3;have wl:∀i h,St i h->∀b∈wr,∃o,h.get? b=some o:=λi h st b m=>let ⟨o,e,_⟩:=tr.obj i h st b (tr.sub b m);⟨o,e⟩;have big:∀{c:Nat},D<=c->s2.heap.get? c=none:=λh=>Zv (hD▸h);have nwr:∀{c:Nat},D<=c->c∉wr:=λh m=>by obtain⟨o,e⟩:=wl 0 _ st _ m;rw[big h]at e;cases e
 have cl0:∀x c,cl.lookup x=some c->c∉wr/\c<D/\∃v,s2.heap.IsCell c v:=λx' c e=>let ⟨m,v,q⟩:=rel.cell x' c (hc1 x' c e);⟨λh=>rel.iO (no c h) m,let ⟨o,q,_⟩:=q;hD▸ZC (x.hp c o q),v,q.keeps x.hp⟩;have look:∀x c,cs.lookup x=some c->cl.lookup x=some c∨(C+1<=c/\(x,NameKind.cell)∈scope.names):=hcs▸L2.q7 scope.names _ cl;have cwr:∀x c,cs.lookup x=some c->c∉wr/\c≠D:=λx c e=>(look x c e).elim (λe=>⟨(cl0 x c e).1,kR (cl0 x c e).2.1⟩) λe=>⟨nwr ⋯,⋯⟩;have eX:∀{a o},s2.heap.get? a=some o->h3.get? a=some o:=λe=>hh▸Zb _ e;have d3:h3.get? D=some (dN [] 0):=by rw[← hh,← hD];exact Zi _ rfl
 have old:∀{s' a o},Bk wr D C cs s2 s'->s.heap.get? a=some o->s'.heap.get? a=some o:=λ{s' a o} B e=>B.k2 a o (λm=>by rw[no a m]at e;cases e) (x.hp a o e);have nC:s.heap.get? C=none:=x.no (big ⋯);have B4:Bk wr D C cs s2 {s2 with heap:=h4}:=⟨λa o _ e=>keep a o (eX e),rfl,x.br rel.br,⟨_,hns⟩,λx' c e=>(look x' c e).elim (λe=>let ⟨_,_,v,o,q,r⟩:=cl0 x' c e;⟨v,o,keep c o (eX q),r⟩) λq=>⟨none,hown (λx c e=>by have:=(cl0 x c e).2.1;lia) x' c e q.1⟩,λb m=>let ⟨o,e⟩:=wl 0 _ st b m;⟨o,keep b o (eX e)⟩,⟨_,keep D _ d3⟩⟩;have loop:codeAny X.M X.A (.compLoop (.ListComp elt [⟨tg,iter,ifs,0⟩] scope pos) 0 (.ref I) (.ref D) (compEnvC scope cs C X.env)) (compPost X.M X.A E use QV (.ref D) C) {s2 with heap:=h4}:=by
  refine YM (λn s'=>∃i its nn,n+i=ir.items.length/\Bk wr D C cs s2 s'/\St i s'.heap/\s'.heap.get? D=some (dN its nn)/\its.length<=i/\pB t ft fe fx (iX cap U) (ir.items.drop i)=some c) ?_ _ ⟨0,[],0,rfl,B4,tr.frame _ _ _ st λb _ o e=>keep b o (eX e),keep D _ d3,Zu _,ef⟩;rintro n s5 ⟨i,its,nn,hn,B5,st5,d5,ly,ef5⟩;cases n with
  | zero=>rw[show ir.items.drop i=[]from Be ⋯]at ef5;cases ef5
  | succ n=>
   have lt:i<ir.items.length:= ⋯
   rw[uT lt]at ef5;refine Ql ef5 λU1 eb hstep=>Ql hstep λok ec hstep=>?_;refine aN (tr.turn i s5 (λv s6=>∃G0,Bk wr D C cs s2 s6/\St (i+1) s6.heap/\s6.heap.get? D=some (dN its nn)/\Rp X.g ((D::C::lJ scope.names cs C)++(wr++ex)) s6.heap ir.items[i] v G0) lt st5 λv h' tk p st6 k=>?_) λr s6 ⟨v,q,h⟩=>⟨v,q,?_⟩
   .have B6:=B5.mv (tk:=tk) k (nwr ⋯) (λx c e=>(cwr x c e).1) (λ_ _ _ m=>m) (wl _ _ st6) ⟨_,k D _ (nwr (Zu _)) d5⟩;obtain⟨G0,q0,m0⟩:=yld _ i v s5 h' _ p st6 (blk B5).exl (λt m=>((blk B6).held t m).1) (Zt lt);exact⟨G0,B6,st6,k D _ (nwr (Zu _)) d5,q0⟩
   refine aN h λ_ s6 ⟨G0,B6,st6,d6,q0⟩=>?_;have r6:=blk B6;refine aN (hg r6 q0 (λa m=>⟨.inr trivial,λj d e h=>?_⟩) eb) λ_ s7 ⟨x7,F7,r7,m7,k7⟩=>aN (hts r7 ec) λok' s8 ⟨q,x8⟩=>?_
   .obtain⟨_,_,_,_,_,_,p⟩:=r6.val e;rw[p.jE (oM (AO cap U j d e))]at h;cases h
   subst q;have back:∀{s'},Ex s8 s'->Bk wr D C cs s2 s'/\St (i+1) s'.heap/\s'.heap.get? D=some (dN its nn):=λ{s'} y=>by
    have y7:=x8.trans y;have r:=r7.ext y7;have kk:∀a o,(∃o',h3.get? a=some o')->s6.heap.get? a=some o->s'.heap.get? a=some o:=λa o ⟨o',e'⟩ e=>y7.hp a o (x7.hp a o e λn=>n.elim (λn=>by rw[show h3.get? a=none from n]at e';cases e') λn=>n.elim (λn=>nomatch n.1) nofun)
    exact⟨⟨λa o n e=>kk a o ⟨o,eX e⟩ (B6.k2 a o n e),y7.os.trans (x7.os.trans B6.os),r.br,let ⟨m,q,_⟩:=r.ns;⟨m,q⟩,λx c e=>(r.cell x c e).2,λb m=>r.exl b (Za _ (Zc _ m)),r.exl D (.head _)⟩,
     tr.frame _ _ _ st6 λb m o e=>kk b o (let ⟨o,e,_⟩:=tr.obj _ _ st b m;⟨o,eX e⟩) e,kk D _ ⟨_,d3⟩ d6⟩
   cases ok' with
   | false=>
    obtain⟨B8,st8,d8⟩:=back .refl;exact⟨n,ZW n,i+1,its,nn,⋯,B8,st8,d8,⋯,hstep⟩
   | true=>
    have hstep:(match fe U1 with
     | some _=>pB t ft fe fx (iX cap U) (ir.items.drop (i+1))
     | none=>(fx U1).map (·.1))=some c:=hstep
    split at hstep
    .rename_i rr er';refine any (aN (he (r7.ext x8) er') λy s9 ⟨G1,p9⟩=>?_);obtain⟨B9,st9,d9⟩:=back p9.ext;have sb:Heap.SameBut D s9.heap (s9.heap.update D (Obj.mapSeq λxs=>xs.push y)):= .update ..;have e':(s9.heap.update D (Obj.mapSeq λxs=>xs.push y)).get? D=some (dN (its++[y]) _):=(List.push_toArray its y)▸zW d9 λxs=>xs.push y;have kd:∀b o,b≠D->s9.heap.get? b=some o->(s9.heap.update D (Obj.mapSeq λxs=>xs.push y)).get? b=some o:=λb o n e=>(sb.2 b n).trans e
     exact call_meets DC ⟨_,d9,rfl⟩ PySem.F.entry_list_append (PySem.F.args_list_append_2 _ _) (Fk D its.toArray nn y (by rw[Zk];lia)) ⟨d9,n,ZW n,i+1,its++[y],_,⋯,
      B9.mv (w:=[D]) (tk:=s9.toks) (λb o m=>kd b o λz=>m (z▸ .head _)) (λm=>by have:=Zg.mp m;lia) (λx c e m=>(cwr x c e).2 (Zg.mp m)) (λa o e m=>by rw[Zg.mp m,big (Zu _)]at e;cases e) (λb m=>let ⟨o,e⟩:=B9.wr b m;⟨o,kd b o (λz=>nwr (Zu _) (z▸m)) e⟩) ⟨_,e'⟩,
      tr.frame _ _ _ st9 λb m o e=>kd b o (λz=>by obtain⟨o,e,_⟩:=tr.obj _ _ st b m;rw[z,big (Zu _)]at e;cases e) e,e',by rw[Zm];exact Nat.succ_le_succ ly,hstep⟩
    .obtain⟨⟨c',U2⟩,e5,e6⟩:=Zd.mp hstep;cases e6;obtain⟨B8,_,_⟩:=back .refl;have fo:ER X.A (X.env::outer) (X.env.locals::X.fs):=⟨sk.fr,by rw[List.filterMap_cons_some sk.own,sk.eq],λe m=>(Zj.mp m).elim (λh=>h▸⟨by rw[rel.ok.kind];decide,by rw[sk.own];nofun⟩) (sk.all e)⟩;have fl0:uI ex (X.env.locals::X.fs) s:=bF ⟨rel.loc,let ⟨_,⟨o,es,ep,e,d,_⟩,_⟩:=rel.ns;⟨o,es,ep,e,d⟩⟩ rel.fsl;have nCf:∀b∈X.env.locals::X.fs,b≠C:=λb m z=>by obtain⟨_,o,_,_,e,_⟩:=fl0 b m;rw[z,nC]at e;cases e
     refine jI (hx cs C h3 (fs:=X.env.locals::X.fs) (outer:=X.env::outer) (r7.ext x8) (λb m=>let ⟨h,o,es,ep,e,d⟩:=fl0 b m;⟨Za _ (Za _ h),o,es,ep,old B8 e,d⟩) fo e5 λea s' t=>?_);obtain⟨CC,B,a0,hCC,fl,oldB⟩:=t.cls;show wpAny X.M X.A (noteFrame (.ref ea) X.env) _ _ s';refine CA sk.fr sk.own fl λh1 k1 up1=>?_;obtain⟨m,hm⟩:=B8.ns;have hm1:h1.Ns C m:=hm.at λo e=>k1.st C o (oldB C o e λm=>nCf C m rfl);refine⟨m,hm1,λh2 hsb cenv _=>É (s:={s' with heap:=h2}) (k1.hide hsb (by rw[show L2.fW (X.env::outer)=_ from fo.2.1];exact nCf) hm1) λh3 f3 k3 up3=>qq.thr ea _ ⟨t.br,t.os.trans (B8.os.trans (x.os.trans zz.os)),CC,hCC,.inr ⟨_,f3,k3,λb o e n=>PySem.W.hideAll_get _ (oldB b o (old B8 (zz.hp b o e n)) λm=>(Zj.mp m).elim (λh=>by rw[h,show X.h0.get? _=none from rel.ok.new.1]at e;cases e) n) λm=>?_,λb m o e=>?_⟩⟩⟩
     .have:=zz.hp b o e n;rw[Zg.mp m,nC]at this;cases this
     .obtain⟨sl,q1⟩:=zz.fr b m o e;obtain⟨sl2,q2⟩:=t.fr b (.tail _ m) _ (old B8 q1);obtain⟨_,o',es,ep,e',d'⟩:=fl0 b (.tail _ m);rw[q1]at e';cases e';have nf:∀{sl} vs,({o with slots:=sl}:Obj).data≠ .fields vs:=λvs z=>by rw[show o.data=_ from z]at d';cases d'
      obtain⟨sl3,q3⟩:=up1 b _ q2 nf;obtain⟨sl4,q4⟩:=up3 b _ ((hsb.2 b (nCf b (.tail _ m))).trans q3) nf;exact⟨sl4,q4⟩
 exact codeAny_compStart_list loop (any (tr.self 0 _ _ (tr.frame _ _ _ st λb _ o e=>keep b o (eX e)) loop))
def IM(S:nR X N' scope)(K:pA X N' scope cap)(hi:SI X tg iter fi)(hin:∀cs C h,SG (dO X N' scope cs C h) tg t/\l5 (dO X N' scope cs C h) ifs ft/\SE (dO X N' scope cs C h) elt fe)(hx:∀cs C h,XB (dO X N' scope cs C h) elt fx)(hf:∀x,foldedSetIterable iter X.env x=pure x):XE X (.ListComp elt [⟨tg,iter,ifs,0⟩] scope pos) (o5 fi t cap ft fe fx):=λex hs U F s c U' outer s0 E rel zz sk e qq=>by
 rw[eval_ListComp];exact Jk S K hi hin hx hf rel zz sk e qq
def ë{x:Str}{spos:Pos}(S:nR X N' scope)(K:pA X N' scope cap)(hi:SI X tg iter fi)(hin:∀cs C h,SG (dO X N' scope cs C h) tg t/\l5 (dO X N' scope cs C h) ifs ft/\SE (dO X N' scope cs C h) elt fe)(hx:∀cs C h,XB (dO X N' scope cs C h) elt fx)(hf:∀x,foldedSetIterable iter X.env x=pure x):X1 X (.Assign [.Name x p] (.ListComp elt [⟨tg,iter,ifs,0⟩] scope pos) spos) (o5 fi t cap ft fe fx):=by
 obtain⟨b,hb⟩:∃b,swapsWith (.ListComp elt [⟨tg,iter,ifs,0⟩] scope pos) (some (.Name x p)) spos.line X.env=pure b:=⟨_,rfl⟩;cases b with
 | false=>exact JH (IM S K hi hin hx hf) hb
 | true=>
  intro ex hs U F s c U' outer s0 E rel zz sk e qq;rw[exec_Assign_Name_used _ _ _ _ hb];refine wpAny_bind (wpAny_standAt (wpAny_bind ?_));show wpAny _ X.A (do let _ ← comprehension (.ListComp elt [⟨tg,iter,ifs,0⟩] scope pos) scope X.env _ (newList []) false (eval iter X.env) (some (assign (.Name x p) X.env))) _ _ s;exact wpAny_bind (jI (Jk S K hi hin hx hf rel zz sk e qq))
end
def nE(g:Gb)(k:Nat)(m:Str)(n:Nat)(xd:List D->Option Str):Prop:=∃f fd ps C,zM g k f fd ps xd/\ps.length=n/\PySem.W.nsIn g.K mainGlobals "Desk" =some (some (.ref C))/\L2.l6 g.K C/\L2.wV g.K C m f/\L2.Binds g.K fd ps []
noncomputable def gH(n:Nat)(xd:List D->Option Str)(i:Nat)(fs:DA):DX:=λU=>match U[i]? with
 | some (some (.obj o (d0::es0),_))=>(fs U).bind λra=>if ra.ds.length+1=n then(xd (.obj o (d0::es0)::ra.ds)).map λc=>(c,U)else none
 | _=>none
noncomputable abbrev kQ(X:Cx)(ea:Addr)(i:Option Nat):Cx:={X with A:=X.A.mark (some (.ref ea)),calm:=false,pin:=i.map λi=>(i,ea)}
def jJ(fx:DX)(sub:Str->Str->Option Bool)(y:Str)(i:Option Nat)(fe:DE):DS:=λU=>(fx U).bind λq=>(sub q.1 y).bind λb=>if b=true then
  (match i with
  | none=>(fe U).bind λr=>if isAt r.d=true then some (.rt r.d true)else none
  | some i=>if i<U.length then(fe ((U.set i none).set i (some (.exc q.1,true)))).bind λr=>if isAt r.d=true then some (.rt r.d true)else none else none)
 else none
section
variable {X:Cx}{ex:LA}{hs:Hs}{U:En}{F:Ft}{s s' s1:Shared}{g:Gb}{k n i:Nat}{f a ea C:Addr}{fd:FuncData}{ps:List Str}{e b c:Expr}{es:List Expr}{fs:DA}{pos p p' apos np:Pos}{x y m:Str}{fe:DE}{fx:DX}{xd:List D->Option Str}{sub:Str->Str->Option Bool}{outer:List Env}
def Oa{pl:Sem Bool}(K:nE X.g k m n xd)(hr:L2.cC k X.A)(hm:m≠ "heaps" /\m≠ "net")(hN:X.N[i]? =some y)(h1:(y == ("__debug__" :Str))=false)(h2:(y == ("__classdict__" :Str))=false)(ha:SA X (e::es) fs)(he:One X e es)(hp:(backTo pos (starEach es X.env)).any (·.1)=false)
  (ht:eval (.Call (.Attribute (.Name y p') m apos) (e::es) [] pos) X.env=(do
   let ov ← eval (.Name y p') X.env
   standAt apos.atName
   let (f,first) ← holding [ov] (getMethod ov m pl)
   callWith pos f first (backTo pos (starEach (e::es) X.env)) (backToKw pos (keywordEach [] X.env)))):
  XB X (.Call (.Attribute (.Name y p') m apos) (e::es) [] pos) (gH n xd i fs):=λex hs U F s c U' fs' outer E rel hf fo ee qq=>by
 obtain⟨f,fd,ps,C,hF,hn,hC,cl,me,hb⟩:=K;unfold gH at ee;split at ee
 .rename_i o d0 es0 bb q;refine Ql ee λra e1 ee=>?_;split at ee
  .rename_i hl;obtain⟨c',e2,e3⟩:=Zd.mp ee;cases e3;refine Fp (pl:=pl) (wpAny_Name (rel.lH q hN h2 λv _ t=>?_) h1) ht;obtain⟨ks,a,dx,dd,its,G,_,rfl,eF,_,at_,_⟩:=id t.jR;obtain⟨C',hC',m1⟩:=at_.cls;cases hC.symm.trans hC';refine L2.D5 rel.bM.bH m1 (cl.get _) me.at_ me.fn ((if_neg hm.1).trans (if_neg hm.2)) ?_;refine pC (first:=[.ref a]) (h₀:=X.g.base) rel.ok.mod.bH me.kp ?_ he hp;refine any (aN (ha pos rel e1) λus s1 ⟨G,p1⟩=>⟨(rel.ext p1.ext).bM.bH,?_⟩);have r1:=rel.ext p1.ext;have bd:=hb s1 (.ref a::us) r1.bM.bH (by rw[Zo,ZA,← p1.rp.len,hl,hn]);rw[Zo]at bd;refine wpAny_call (codeAny_mono (hF hr r1.bM (λb m=>let ⟨h,o,es,ep,e,d⟩:=hf b m;⟨h,o,es,ep,p1.ext.hp b o e,d⟩) fo bd ((t.ext p1.ext).app p1.rp) (by rw[List.singleton_append,ZA,hl,hn]) e2) λrr s' ⟨ea,e,t⟩=>?_);subst e;exact qq ea s' (t.back p1.ext)
  .cases ee
 .cases ee
def Rel.kQ{io:Option Nat}(r:Rel X ex hs U F s)(h:∀i,io=some i->∀d b,U[i]? ≠some (some (d,b)))(hp:X.pin=none):Rel (kQ X ea io) ex hs U F s:=
 {r with
  ok:={r.ok with hd:=nofun}
  ns:=let ⟨m,n,q⟩:=r.ns;⟨m,n,λi d b e=>let ⟨y,v,e1,l,p,_⟩:=q i d b e;⟨y,v,e1,l,p,λa z=>by
   cases io with
   | none=>cases z
   | some j=>cases z;exact absurd e (h _ rfl d b)⟩⟩
  ow:=⟨r.ow.own,r.ow.src⟩}
def Rel.Ý{io:Option Nat}(ok:X.Ok)(r:Rel (HN.kQ X ea io) ex hs U F s)(hp:X.pin=none):Rel X ex hs U F s:=
 {r with
  ok:=ok
  ns:=let ⟨m,n,q⟩:=r.ns;⟨m,n,λi d b e=>let ⟨y,v,e1,l,p,_⟩:=q i d b e;⟨y,v,e1,l,p,λa z=>by rw[hp]at z;cases z⟩⟩
  ow:=⟨r.ow.own,r.ow.src⟩}
def Rel.T6{M:Model}{A:Around}{Q:Unit->Shared->Prop}{E:Value->Shared->Prop}(r:Rel X ex hs U F s)(sl:Sl X x i)(hl:X.env.scope.names.lookup x=some .local)(hi:i<U.length)(q:∀s',Fx X hs s s'->Q () s'):wpAny M A (do bindName X.env x .none;unbindBehindTheSuite X.env x pos) Q E s:=by
 refine wpAny_bind (wpAny_bindName (r.slot (d:= .aT) (G:=[]) sl .aT nm λs1 x1 r1 _=>?_));have hcls:(X.env.scope.kind == .class || (X.env.scope.kind == .module && X.env.locals != X.env.globals))=false:=by rw[r.ok.kind];rfl
 obtain⟨m,hn,hv⟩:=r1.ns;obtain⟨y,v,e1,l,_⟩:=hv i .aT _ (ZS hi);rw[sl.1]at e1;cases e1;have hm:m x=some v:=by
  rcases l with⟨_,e⟩ | ⟨k,_⟩
  .exact e
  .have hx':X.env.kindOf x=some .local :=hl;rcases k with k | k<;>rw[hx']at k<;>cases k
 unfold unbindBehindTheSuite;refine wpAny_onRaise (wpAny_unbindName_local hl hn hm hcls λh' u' hn' sb=>q _ (x1.trans ?_));obtain⟨o,es,ep,h1,h2,_⟩:=hn;exact .one (t:=s1.toks) r1.ok sb r1.ok.new.1 h1 (λz=>z.1 _ _ h2) λt m h=>((r1.held t m).1.mem _ h).1 r1.loc
def Rel.PQ{Q:Value->Shared->Prop}{E:Value->Shared->Prop}{v:Value}(r:Rel X ex hs U F s)(hg:Gl X y)(hdb:(y == ("__debug__" :Str))=false)(k:PySem.W.KtsName X.g.K y v)(q:Q v s):wpAny X.M X.A (eval (.Name y np) X.env) Q E s:=by
 rcases k with k | ⟨k,kb,kn⟩
 .exact r.glob hg (mQ r.ok.mod.bH r.ok.mod.glob k) q hdb
 .exact r.Bi hg (PySem.W.mg_none_of r.ok.mod.bH r.ok.mod.glob k) kb q kn hdb
def IG{nm':Option Str}{io:Option Nat}{hpos epos rpos:Pos}(hio:X.io=false)(hpin:X.pin=none)(sk:nQ X outer)(hsub:tD X.g.K sub)(hx:XB X e fx)(hsw:swapsWith e none epos.line X.env=pure false)(hg:Gl X y)(hdb:(y == ("__debug__" :Str))=false)
  (hn:match (generalizing:=false) nm',io with | none,none=>True | some z,some i=>Sl X z i/\X.env.scope.names.lookup z=some .local | _,_=>False)
  (hb:∀ea,SE (kQ X ea io) b fe):S1 X (.Try [.Expr e epos] [.ExceptHandler (some (.Name y np)) nm' [.Return (some b) rpos] hpos] [] [] pos) (jJ fx sub y io fe):=λex hs U F s o rel ee=>by
 refine Ql ee λq e1 ee=>Ql ee λbb e2 ee=>?_;split at ee
 case isFalse=>cases ee
 rename_i hbb;subst hbb;have fl0:uI ex (X.env.locals::X.fs) s:=bF ⟨rel.loc,let ⟨_,⟨o,es,ep,e,d,_⟩,_⟩:=rel.ns;⟨o,es,ep,e,d⟩⟩ rel.fsl;refine wpAny_Try_except (wpAny_execs_cons (wpAny_Expr_any (jI (hx (fs:=X.env.locals::X.fs) (outer:=X.env::outer) rel fl0 ⟨sk.fr,by rw[List.filterMap_cons_some sk.own,sk.eq],λe m=>(Zj.mp m).elim (λh=>h▸⟨by rw[rel.ok.kind];decide,by rw[sk.own];nofun⟩) (sk.all e)⟩ e1 λea s' t=>?_)) rel.quiet hsw));obtain⟨CC,B,a0,hCC,fl,old⟩:=t.cls;refine CA sk.fr sk.own fl λh1 k1 up1=>xT (s:={s' with heap:=h1}) k1 λh2 k2 iG=>?_;have land:∀{h},hG B (X.env::outer) ea (.ref CC) .none h->s'.heap.UpToSlots h->Fx X hs s {s' with heap:=h}/\Rel X ex hs U F {s' with heap:=h}:=λ{h} k up=>rel.eu (λb o e n=>k.st b o (old b o e n)) (λb m o e=>by
  obtain⟨sl,q⟩:=t.fr b m o e;obtain⟨_,o',es,ep,e',d'⟩:=fl0 b m;rw[e]at e';cases e';obtain⟨sl2,q2⟩:=up b _ q λvs z=>by rw[show o.data=_ from z]at d';cases d'
  exact⟨sl2,q2⟩) t.os λ_=>t.br
 obtain⟨x2,r2⟩:=land k2 (up1.trans iG);obtain⟨C',c,s1,s2,s3,s4,s5⟩:=hsub _ _ _ e2;cases EZ hCC s1;have LT:PySem.W.Looks X.M h2 (typeOf (.ref ea)) (.ref CC):=by
  obtain⟨oe,vs,T,oT,ts,he,hc,_⟩:=k2.tr;exact hc▸(PySem.W.Looks.ld he).andThen .now
 have rH:Rel (kQ X ea none) ex hs U F {s' with heap:=h2}:=r2.kQ nofun hpin
 refine wpAny_handleBy_cons (codeAny_handlers_test (rH.PQ (X:=kQ X ea none) hg hdb s2 ((PySem.W.exm_one rH.bM.bH LT s3).here ?_))) nofun
 show codeAny X.M (X.A.mark (some (.ref ea))) _ _ _;cases nm' with
 | none=>cases io with
  | some=>exact hn.elim
  | none=>
   refine codeAny_handlers_suite (xT (s:={s' with heap:=h2}) k2 λh3 k3 up3=>?_);obtain⟨x3,r3⟩:=land k3 ((up1.trans iG).trans up3);refine Ql ee λr e3 ee=>?_;split at ee
   case isFalse=>cases ee
   rename_i hat
   cases ee;refine wpAny_execs_cons (wpAny_Return_some (any (aN (hb ea (r3.kQ nofun hpin) e3) λv s4 ⟨G,p⟩=>?_)));exact⟨x3.trans (.of p.ext),v,[],rfl,.inl ⟨.atm (yG hat p.rp) .nil,nm,λ_=>⟨.nil,nm⟩⟩⟩
 | some z=>cases io with
  | none=>exact hn.elim
  | some i=>
   obtain⟨sl,hl⟩:=hn;refine codeAny_handlers_suite_as (xT (s:={s' with heap:=h2}) k2 λh3 k3 up3=>?_);obtain⟨x3,r3⟩:=land k3 ((up1.trans iG).trans up3);dsimp only at ee;split at ee
   case isFalse=>cases ee
   rename_i hi;refine Ql ee λr e3 ee=>?_;split at ee
   case isFalse=>cases ee
   rename_i hat
   cases ee;have r4:Rel (kQ X ea (some i)) ex hs (U.set i none) F {s' with heap:=h3}:=(r3.weak (Eu (U:=U) i)).kQ (λj z d b e=>by cases z;rw[ZS hi]at e;cases e) hpin;obtain⟨oe,vs,T,oT,ts,he,hc,hd,_,h22,_⟩:=k3.tr;have iO:ea∉ex:=λm=>by
    obtain⟨o,e⟩:=rel.exl ea m;by_cases w:ea∈X.env.locals::X.fs
    .obtain⟨_,o',es,ep,e',d'⟩:=fl0 ea w;obtain⟨_,o2,es2,ep2,e2,d2⟩:=(bF ⟨r3.loc,let ⟨_,⟨o,es,ep,e,d,_⟩,_⟩:=r3.ns;⟨o,es,ep,e,d⟩⟩ r3.fsl:uI ex (X.env.locals::X.fs) {s' with heap:=h3}) ea w;rw[he]at e2;cases e2;rw[hd]at d2;cases d2
    .have:=old ea o e w;rw[k3.no]at this;cases this
   refine r4.GF (X:=kQ X ea (some i)) (d:= .exc q.1) (v:= .ref ea) (G:=[]) (b:=true) .refl sl.1 sl.2.1 sl.2.2.1 (λa z=>by cases z;rfl) (.exc iO ⟨CC,oe,vs,hCC,he,hc,hd,h22⟩ .nil) (r4.ow.set (λ_=>nofun) (λ_ _ _ _ _ _ g=>nomatch g) λ_=>⟨.nil,nm⟩) λs4 x4 r5 _=>?_;refine wpAny_execs_cons (wpAny_Return_some (any (aN (hb ea r5 e3) λv s5 ⟨G,p⟩=>?_)));refine((r5.ext p.ext).Ý rel.ok hpin).T6 sl hl (by simp[hi]) λs6 x6=>?_;exact⟨(x3.trans ⟨x4.hp,x4.os,x4.br,x4.fr⟩).trans ((Fx.of p.ext).trans x6),v,[],rfl,.inl ⟨.atm (yG hat p.rp) .nil,nm,λ_=>⟨.nil,nm⟩⟩⟩
end
section
variable {prog:Program}{w:World}{A:Around}{E:Value->Shared->Prop}{s:Shared}
def Rl:entryFor table "proto.unchain" =some Builtin.«proto.unchain» :=entryFor_of_fast 'r'
def VF:plainId "proto.unchain" =true:= 'd'
def wZ(h:Heap)(ea:Addr):Prop:=∃oe vs,h.get? ea=some oe/\oe.data= .fields vs/\vs[2]? =some .none
def OW{α:Type}{a ea:Addr}{o:Obj}{ws:Array Value}{Q:α->Shared->Prop}(hh:A.handled=some (.ref ea))(hn:wZ s.heap ea)(ne:a≠ea)(ho:s.heap.get? a=some o)(hd:o.data= .fields ws)(hz:2<ws.size)
  (q:E (.ref a) {s with heap:=s.heap.update a (Obj.mapFields (·.setIfInBounds 2 (.ref ea)))}):wpAny (model prog w) A (raiseNew (.ref a)) Q E s:=by
 obtain⟨oe,vs,e1,d1,v1⟩:=hn;simp only[raiseNew];refine wpAny_bind (wpAny_handled ?_);rw[hh];dsimp only;rw[if_pos (show(Value.ref ea != Value.ref a)=true from by simpa using Ne.symm ne)];refine wpAny_bind (wpAny_holding (wpAny_runValue (codeAny_builtin Rl ?_)));rw[Around.under_plainId VF _];show wpAny _ _ (field (.ref ea) 2 >>= _) _ _ s;refine wpAny_bind (wpAny_field e1 d1 v1 ?_);rw[if_pos (show(Value.none == Value.none)=true from rfl)];refine wpAny_pure ?_;unfold updateField;refine wpAny_bind (wpAny_bind (wpAny_load ho ?_));rw[hd];dsimp only;rw[if_pos hz];exact wpAny_update ho (wpAny_throw q)
def wZ.keep{h h':Heap}{ea:Addr}(n:wZ h ea)(k:∀o,h.get? ea=some o->h'.get? ea=some o):wZ h' ea:=let ⟨o,vs,e,d,v⟩:=n;⟨o,vs,k o e,d,v⟩
def Ì{it ea:Addr}{x left step:Int}{Q:Option Value->Shared->Prop}(hh:A.handled=some (.ref ea))(hn:wZ s.heap ea)(hit:IsRangeIter s.heap it x left step)(hleft:left<=0)
  (hQ:∀h',Heap.ExtBut it s.heap h'->Q none {s with heap:=h'}):wpAny (model prog w) A (pyNext (.ref it)) Q E s:=by
 have hT:s.TypeIs (.ref it) "range_iterator" :=⟨_,hit,rfl⟩;have al:ea<s.heap.objs.size:=let ⟨_,_,e,_⟩:=hn;ZC e;unfold pyNext
 refine wpAny_bind (wpAny_attempt (wpAny_callSpecial?_slot (name:=Str.ofString "__next__") hT F.slot_range_iterator_next
  (wpAny_call_entry F.slot_range_iterator_next hT F.entry_range_iterator_next ?_ (F.args_range_iterator_next_1 _))))
 show wpAny _ _ (field (.ref it) 0 >>= _) _ _ s;refine wpAny_bind (wpAny_field hit rfl (x:=rawInt x) rfl ?_);show wpAny _ _ (field (.ref it) 1 >>= _) _ _ s;refine wpAny_bind (wpAny_field hit rfl (x:=rawInt left) rfl ?_);show wpAny _ _ (field (.ref it) 2 >>= _) _ _ s;refine wpAny_bind (wpAny_field hit rfl (x:=rawInt step) rfl ?_);show wpAny _ _ (if left<=0 then _ else _) _ _ s;rw[if_pos hleft];refine wpAny_bind (wpAny_rule (wpAny_bind ?_));show wpAny _ _ (newExc (.type "StopIteration") [] >>= _) _ _ _;refine wpAny_bind ?_;simp only[newExc,newTuple];refine wpAny_bind (wpAny_newObj_type ?_ (by size_fits));refine wpAny_bind (m:=firstArgMember _ _) (wpAny_of_eq (a:=Value.none) (by first | rfl | (simp only[firstArgMember];rfl)) ?_);refine wpAny_newObj_type ?_ (by size_fits);refine OW hh (hn.keep λo e=>Zb _ (Zb _ e)) (by rw[ZF];lia) (Zi _ rfl) rfl (by rw[Array.size_append];exact wX (show 2<6 by decide) (Nat.le_add_right _ _)) ?_;refine wpAny_bind (wpAny_isInstance (T:= "StopIteration") (b:=true) ⟨_,vD _ (Zi _ rfl) rfl,rfl⟩ isSubtype_stop ?_);exact wpAny_pure (hQ _ λb o n e=>(BN _ _ (by have:=ZC e;rw[ZF];lia)).trans (Zb _ (Zb _ e)))
end
def uB(h:Heap)(ea:Addr):Prop:=∃oe C vs,h.get? ea=some oe/\oe.cls= .ref C/\oe.data= .fields vs/\vs[2]? =some .none
def lB(j:Nat)(fa:DE):DI:=λU=>match U[j]? with
 | some (some (.exc _,_))=>jD fa U
 | _=>none
section
variable {X:Cx}{ex:LA}{hs:Hs}{U:En}{F:Ft}{s s1:Shared}{a tg:Expr}{fa:DE}{pos p:Pos}{x:Str}{ea:Addr}{j:Nat}
def uB.keep{h h':Heap}(n:uB h ea)(k:∀o,h.get? ea=some o->h'.get? ea=some o):uB h' ea:=let ⟨o,C,vs,e,r⟩:=n;⟨o,C,vs,k o e,r⟩
def Xm{lo hi c:Int}{ds:List D}(hh:X.A.handled=some (.ref ea))(ec:uB s1.heap ea)(x:Ex s s1)(hs:Builtin.Range.small lo hi c=true)(hn:((ds.length:Nat):Int)=Builtin.Range.rangeSize lo hi c)(z:ds.length<=sizeLine)(k:∀(i:Nat) d,ds[i]? =some d->d= .int (lo+i*c)):
  wpAny X.M X.A (pyIter (.ref s1.heap.objs.size)) (λit s2=>iQ X ex U F tg s s2 it ⟨ds,[]⟩) E0 {s1 with heap:=s1.heap.push {cls:= .type "range",data:= .fields #[.int lo t,.int hi u,.int c v]},toks:=tk}:=by
 refine wpAny_pyIter_range (IsRange.new ..) hs ?_;have al:ea<s1.heap.objs.size:=let ⟨_,_,_,e,_⟩:=ec;ZC e;generalize hI:(s1.heap.push {cls:= .type "range",data:= .fields #[.int lo t,.int hi u,.int c v]}).objs.size=I;have ne:ea≠I:=by rw[← hI,ZF];lia
 have pl:∀(i:Nat) h,IsRangeIter h I (lo+(i:Nat)*c) ((ds.length:Int)-(i:Nat)) c->Pl h I:=λi h e=>⟨_,_,_,e,rfl,rfl,∅⟩;refine⟨I,[I,ea],[I],[],_,λi h=>IsRangeIter h I (lo+(i:Nat)*c) ((ds.length:Int)-(i:Nat)) c/\uB h ea,[],rfl,(x.trans .push).trans .push,nH.w (P:=λi v=>∃t,v= .int (lo+i*c) t) ⟨λb m=>Zg.mp m▸ .head _,λ_ _ _ st hk=>⟨hk I (.head _) _ st.1,st.2.keep λo=>hk ea (.tail _ (.head _)) o⟩,λi s Q E hi st hQ=>?_,λs Q E st hQ=>?_,λ_ _ _ _ st hQ=>wpAny_pyIter_rangeiter st.1 hQ⟩ (λi h st=>pl i h st.1) (λi h st b hb=>?_),⟨?_,?_⟩,λb hb=>?_,nm,nm,nm,z,λ_ i v s3 h' d p _ _ _ e=>?_,λ_=>nm⟩
 .refine wpAny_pyNext_range_item st.1 ⋯ λh' hit' hs'=>?_;refine hQ _ h' _ ⟨_,rfl⟩ ⟨?_,st.2.keep λo e=>hs'.extBut ea o ne e⟩ λb o hb e=>hs'.extBut b o (λh=>hb (by simp[h])) e;have e1:lo+((i+1:Nat):Int)*c=lo+(i:Int)*c+c:=by rw[Int.natCast_succ,Int.add_mul,Int.one_mul,Int.add_assoc]
  have e2:(ds.length:Int)-((i+1:Nat):Int)=(ds.length:Int)-(i:Int)-1:= ⋯
  rw[e1,e2];exact hit'
 .obtain⟨oe,C,vs,q1,q2,q3,q4⟩:=st.2;exact Ì hh ⟨oe,vs,q1,q3,q4⟩ st.1 ⋯ λh' he'=>hQ h' s.toks λb o hb e=>he' b o (λh=>hb (by simp[h])) e
 .rcases Zj.mp hb with rfl | hb
  .obtain⟨o,e,q⟩:=(pl i h st.1).FW;exact⟨o,e,.inl q⟩
  .cases Zg.mp hb;obtain⟨oe,C,vs,q1,q2,q3,q4⟩:=st.2;exact⟨oe,q1,.inl ⟨λ_ _ z=>(by rw[q3]at z;cases z),λ_ z=>(by rw[q3]at z;cases z),λz=>(by rw[q2]at z;cases z),λ_ _=>⟨vs,q3⟩⟩⟩
 .show Heap.get? _ _=_;rw[hn,← hI];simp only[Int.natCast_zero,Int.zero_mul,BV,Int.sub_zero];exact Zi _ rfl
 .exact ec.keep λo e=>Zb _ (Zb _ e)
 .rw[Zg.mp hb,← hI];exact(x.trans (.push (t':=tk))).no Q2
 .obtain⟨t,q⟩:=p;rw[k i d e];exact⟨[],.atm ⟨t,q⟩ .nil,nm⟩
def Ï(hh:X.A.handled=some (.ref ea))(hp:X.pin=some (j,ea))(cb:Cb X x (.type "range") a [] pos)(ha:SE X a fa):SI X tg (.Call (.Name x p) [a] [] pos) (lB j fa):=λex hs U F s ir rel e=>by
 unfold lB at e;split at e
 case h_2=>cases e
 rename_i cl bb hj;have ec:uB s.heap ea:=by
  have rp:=rel.pinned hp hj;cases rp with
  | atm q=>cases q
  | exc na at_ t=>obtain⟨C',o,vs,h1,h2,h3,h4,h5⟩:=at_;exact⟨o,C',vs,h2,h3,h4,h5⟩
 refine Ql e λr e1 e=>?_;refine cb.call rel (aN (fA ha jT cb.e pos rel (dc e1 rfl)) λvs s1 ⟨G,p⟩=>?_);obtain⟨v,rfl,q⟩:=p.rp.one;split at e
 .rename_i j h;rw[h]at q;obtain⟨t,rfl⟩:=q.int_inv;split at e
  .cases e;have:=iI;exact call_range_1 (Xm hh (ec.keep λo=>p.ext.hp ea o) p.ext (small_one ⋯ ⋯ ⋯ ⋯) (by rw[uQ,rangeSize_one];split<;>lia) (by rw[uQ];lia) λi d e=>by rw[(DN e).2];simp)
  .cases e
 .cases e
end
end HN
namespace L2
open PySem PySem.Spec
section
variable {prog:Program}{w:World}{A:Around}{E:Value->Shared->Prop}{s:Shared}
def nextT{it t:Addr}{i:Nat}{items:Array Value}{Q:Value->Shared->Prop}(hit:s.heap.IsTupleIter it t i)(ht:s.heap.IsTuple t items)(hx:items[i]? =some x)
  (hQ:∀h',h'.IsTupleIter it t (i+1)->Heap.SameBut it s.heap h'->Q x {s with heap:=h'}):wpAny (model prog w) A (Builtin.SmallTypes.nextOf (.ref it)) Q E s:=by
 obtain⟨o,ho,hc,hd⟩:=id hit;obtain⟨ol,hol,_,nl,hdl⟩:=ht;unfold Builtin.SmallTypes.nextOf;refine wpAny_bind (wpAny_callSpecial?_slot hit.typeIs F.slot_tuple_iterator_next (wpAny_call_entry F.slot_tuple_iterator_next hit.typeIs F.entry_tuple_iterator_next ?_ (F.args_tuple_iterator_next_1 _)));show wpAny _ _ (field (.ref it) 0 >>= _) _ _ s;refine wpAny_bind (wpAny_field ho hd (x:= .ref t) rfl ?_);show wpAny _ _ (if(Value.ref t == Value.none)=true then _ else _) _ _ s;rw[if_neg (show ¬((Value.ref t == Value.none)=true)from ZL)];show wpAny _ _ (field (.ref it) 1 >>= _) _ _ s;refine wpAny_bind (wpAny_field ho hd (x:= .int i 0) rfl ?_);show wpAny _ _ (seqItems? (.ref t) >>= _) _ _ s;refine wpAny_bind (wpAny_seqItems hol hdl ?_);simp only[Zx,hx];refine wpAny_bind (wpAny_setField ho hd ⋯ (wpAny_pure ⟨x,rfl,wpAny_pure (hQ _ ?_ (zS ..))⟩));exact⟨_,vD _ ho (Obj.isFreed_of_fields (Obj.data_mapFields hd _)),(Obj.cls_mapFields ..).trans hc,by
  rw[Obj.data_mapFields hd];simp[rawInt]⟩
def Ry{it t:Addr}{i:Nat}{items:Array Value}{Q:Value->Shared->Prop}(hh:A.handled=none)(hit:s.heap.IsTupleIter it t i)(ht:s.heap.IsTuple t items)(hx:items[i]? =none)
  (hE:∀h' e,Heap.ExtBut it s.heap h'->(∃o,h'.get? e=some o/\o.cls= .type "StopIteration")->E (.ref e) {s with heap:=h'}):wpAny (model prog w) A (Builtin.SmallTypes.nextOf (.ref it)) Q E s:=by
 obtain⟨o,ho,hc,hd⟩:=id hit;obtain⟨ol,hol,_,nl,hdl⟩:=ht;unfold Builtin.SmallTypes.nextOf;refine wpAny_bind (wpAny_callSpecial?_slot hit.typeIs F.slot_tuple_iterator_next (wpAny_call_entry F.slot_tuple_iterator_next hit.typeIs F.entry_tuple_iterator_next ?_ (F.args_tuple_iterator_next_1 _)));show wpAny _ _ (field (.ref it) 0 >>= _) _ _ s;refine wpAny_bind (wpAny_field ho hd (x:= .ref t) rfl ?_);show wpAny _ _ (if(Value.ref t == Value.none)=true then _ else _) _ _ s;rw[if_neg (show ¬((Value.ref t == Value.none)=true)from ZL)];show wpAny _ _ (field (.ref it) 1 >>= _) _ _ s;refine wpAny_bind (wpAny_field ho hd (x:= .int i 0) rfl ?_);show wpAny _ _ (seqItems? (.ref t) >>= _) _ _ s;refine wpAny_bind (wpAny_seqItems hol hdl ?_);simp only[Zx,hx];refine wpAny_bind (wpAny_rule (wpAny_bind (wpAny_setField ho hd ⋯ ?_)));show wpAny _ _ (newExc (.type "StopIteration") [] >>= _) _ _ _;refine wpAny_bind ?_;simp only[newExc,newTuple];refine wpAny_bind (wpAny_newObj_type ?_ (by size_fits));refine wpAny_bind (m:=firstArgMember _ _) (wpAny_of_eq (a:=Value.none) (by first | rfl | (simp only[firstArgMember];rfl)) ?_);refine wpAny_newObj_type ?_ (by size_fits);simp only[raiseNew];refine wpAny_bind (wpAny_handled ?_)
 first | rw[show A.in1.handled=none from hh] | rw[hh]
 refine wpAny_bind (wpAny_pure (wpAny_throw ?_));exact hE _ _ (((zS ..).extBut.push _).push _) ⟨_,Zi _ rfl,rfl⟩
def Xf{z TI TO i1 i2 l1 l2:Addr}{k:Nat}{xs ys:Array Value}{x y a b:Value}{Q:Value->Shared->Prop}(D:ZipApart z TI TO i1 i2 l1 l2)
  (hz:IsZip s.heap z TI TO .none) (hTI:IsPair s.heap TI (.ref i1) (.ref i2)) (hTO:IsPair s.heap TO a b)
  (h1:s.heap.IsTupleIter i1 l1 k) (h2:s.heap.IsListIter i2 l2 k) (hl1:s.heap.IsTuple l1 xs) (hl2:s.heap.IsList l2 ys) (hx:xs[k]? =some x) (hy:ys[k]? =some y)
  (hQ:∀h',IsZip h' z TI TO (rawInt s.heap.objs.size)->IsPair h' TO x y->h'.IsTupleIter i1 l1 (k+1)->h'.IsListIter i2 l2 (k+1)->IsPair h' s.heap.objs.size x y→
   (∀c o,c≠z->c≠TO->c≠i1->c≠i2->s.heap.get? c=some o->h'.get? c=some o)->Q (.ref s.heap.objs.size) {s with heap:=h'}):
  wpAny (model prog w) A (Builtin.«zip.__next__» ⟨[.ref z],[]⟩) (λfin s'=>∃v,fin= .done (.ret v)/\Q v s') E s:=by
 show wpAny _ _ (field (.ref z) 2 >>= _) _ _ _;refine wpAny_bind (wpAny_field hz rfl rfl ?_);show wpAny _ _ (field (.ref z) 3 >>= _) _ _ _;refine wpAny_bind (wpAny_field hz rfl rfl ?_);refine wpAny_bind (wpAny_seqItems hTI rfl ?_);show wpAny _ _ (Builtin.SmallTypes.ownedTupleIsFree (.ref z) >>= _) _ _ _;refine wpAny_bind ?_;unfold Builtin.SmallTypes.ownedTupleIsFree;refine wpAny_bind (wpAny_field hz rfl rfl (wpAny_pure ?_));simp only[if_true];refine wpAny_bind (wpAny_rule ?_);refine wpAny_bind (wpAny_field hz rfl rfl ?_);refine wpAny_bind (wpAny_setField_rec hz ⋯ λg1 hz1 s1=>?_)
 replace hz1:IsZip g1 z TI TO .ellipsis:=hz1
 refine wpAny_bind ?_;simp only[y8,AY,rQ,AA];refine wpAny_bind (wpAny_bind (wpAny_onRaise ?_));show wpAny _ _ (Builtin.SmallTypes.nextOf (.ref i1) >>= _) _ _ _;have k1:∀e o,e≠z->s.heap.get? e=some o->g1.get? e=some o:=λe o a1 q=>s1.extBut _ _ a1 q;refine wpAny_bind (nextT (h1.extBut s1.extBut D.i1z) (hl1.extBut s1.extBut D.l1z) hx λg2 m1 s2=>wpAny_pure ?_);have k2:∀e o,e≠z->e≠i1->s.heap.get? e=some o->g2.get? e=some o:=λe o a1 a3 q=>s2.extBut _ _ a3 (k1 e o a1 q);have t2:IsPair g2 TO a b:=k2 _ _ D.TOz D.TOi1 hTO;refine wpAny_bind (wpAny_seqItems t2 rfl ?_);refine wpAny_bind (wpAny_updateSeq_pair t2 λg3 t3 s3=>?_)
 replace t3:IsPair g3 TO x b:=t3
 have k3:∀e o,e≠z->e≠TO->e≠i1->s.heap.get? e=some o->g3.get? e=some o:=λe o a1 a2 a3 q=>s3.extBut _ _ a2 (k2 e o a1 a3 q);refine wpAny_bind (wpAny_letGo (wpAny_pure ?_));refine wpAny_bind (wpAny_bind (wpAny_onRaise ?_));show wpAny _ _ (Builtin.SmallTypes.nextOf (.ref i2) >>= _) _ _ _;refine wpAny_bind (wpAny_nextOf_list_item (h2.at λo e=>k3 _ o D.i2z D.TOi2.symm D.i12.symm e) (hl2.at λo e=>k3 _ o D.l2z D.l2TO D.l2i1 e) hy λg4 m2 s4=>wpAny_pure ?_);have k4:∀e o,e≠z->e≠TO->e≠i1->e≠i2->s.heap.get? e=some o->g4.get? e=some o:=λe o a1 a2 a3 a4 q=>s4.extBut _ _ a4 (k3 e o a1 a2 a3 q);have t4:IsPair g4 TO x b:=s4.extBut _ _ D.TOi2 t3;refine wpAny_bind (wpAny_seqItems t4 rfl ?_);refine wpAny_bind (wpAny_updateSeq_pair t4 λg7 t7 s7=>?_)
 replace t7:IsPair g7 TO x y:=t7
 refine wpAny_bind (wpAny_letGo (wpAny_pure (wpAny_pure ?_)));refine wpAny_bind (wpAny_seqItems t7 rfl ?_);refine wpAny_bind (wpAny_newTuple ?_);have hsz:g7.objs.size=s.heap.objs.size:=by rw[s7.1,s4.1,s3.1,s2.1,s1.1]
 have hz7:IsZip g7 z TI TO .ellipsis:=s7.extBut _ _ D.TOz.symm (s4.extBut _ _ D.i2z.symm (s3.extBut _ _ D.TOz.symm (s2.extBut _ _ D.i1z.symm hz1)));have n1:g7.IsTupleIter i1 l1 (k+1):=((m1.extBut s3.extBut D.TOi1.symm).extBut s4.extBut D.i12).extBut s7.extBut D.TOi1.symm;have n2:g7.IsListIter i2 l2 (k+1):=m2.extBut s7.extBut D.TOi2.symm;have hzlt:z<g7.objs.size:=ZC hz7;show wpAny _ _ (Builtin.SmallTypes.ownedTupleHandOut (.ref z) (.ref g7.objs.size) >>= _) _ _ _;refine wpAny_bind ?_;unfold Builtin.SmallTypes.ownedTupleHandOut;have hz8:IsZip (g7.push {cls:= .type "tuple",data:= .seq #[x,y]}) z TI TO .ellipsis:=Zb _ hz7;refine wpAny_bind (wpAny_setField_rec hz8 ⋯ λg9 hz9 s9=>?_)
 replace hz9:IsZip g9 z TI TO (rawInt g7.objs.size):=hz9
 refine wpAny_setField_rec hz9 ⋯ λg10 hz10 s10=>?_
 replace hz10:IsZip g10 z TI TO (rawInt g7.objs.size):=hz10
 have up:∀c o,c≠z->g7.get? c=some o->g10.get? c=some o:=λc o c1 e=>s10.extBut _ _ c1 (s9.extBut _ _ c1 (Zb _ e));have hT:IsPair g10 g7.objs.size x y:=s10.extBut _ _ (kU hzlt) (s9.extBut _ _ (kU hzlt) (Zi _ rfl));rw[hsz]at hz10 hT;refine wpAny_pure ⟨_,rfl,?_⟩;show Q (.ref g7.objs.size) _;rw[hsz];exact hQ g10 hz10 (up _ _ D.TOz t7) (n1.at λo e=>up _ o D.i1z e) (n2.at λo e=>up _ o D.i2z e) hT λc o c1 c2 c3 c4 e=>up c o c1 (s7.extBut _ _ c2 (k4 c o c1 c2 c3 c4 e))
def î{z TI TO i1 i2 l1:Addr}{k:Nat}{xs:Array Value}{Q:Fin->Shared->Prop}(hh:A.handled=none)(D1:i1≠z)(O1:l1≠z)
  (hz:IsZip s.heap z TI TO .none) (hTI:IsPair s.heap TI (.ref i1) (.ref i2)) (h1:s.heap.IsTupleIter i1 l1 k) (hl1:s.heap.IsTuple l1 xs) (hx:xs[k]? =none)
  (hE:∀h' e,(∀c o,c≠z->c≠i1->s.heap.get? c=some o->h'.get? c=some o)->(∃o,h'.get? e=some o/\o.cls= .type "StopIteration")->E (.ref e) {s with heap:=h'}):
  wpAny (model prog w) A (Builtin.«zip.__next__» ⟨[.ref z],[]⟩) Q E s:=by
 show wpAny _ _ (field (.ref z) 2 >>= _) _ _ _;refine wpAny_bind (wpAny_field hz rfl rfl ?_);show wpAny _ _ (field (.ref z) 3 >>= _) _ _ _;refine wpAny_bind (wpAny_field hz rfl rfl ?_);refine wpAny_bind (wpAny_seqItems hTI rfl ?_);show wpAny _ _ (Builtin.SmallTypes.ownedTupleIsFree (.ref z) >>= _) _ _ _;refine wpAny_bind ?_;unfold Builtin.SmallTypes.ownedTupleIsFree;refine wpAny_bind (wpAny_field hz rfl rfl (wpAny_pure ?_));simp only[if_true];refine wpAny_bind (wpAny_rule ?_);refine wpAny_bind (wpAny_field hz rfl rfl ?_);refine wpAny_bind (wpAny_setField_rec hz ⋯ λg1 hz1 s1=>?_)
 replace hz1:IsZip g1 z TI TO .ellipsis:=hz1
 refine wpAny_bind ?_;simp only[y8,AY,rQ,AA];refine wpAny_bind (wpAny_bind (wpAny_onRaise ?_));show wpAny _ _ (Builtin.SmallTypes.nextOf (.ref i1) >>= _) _ _ _;refine wpAny_bind (Ry hh (h1.extBut s1.extBut D1) (hl1.extBut s1.extBut O1) hx λg2 e s2 he=>?_);obtain⟨oe,hoe,hce⟩:=he;have hz2:IsZip g2 z TI TO .ellipsis:=s2 _ _ D1.symm hz1;have hez:e≠z:=λx=>by subst x;rw[hz2]at hoe;cases hoe;simp at hce
 refine wpAny_setField_rec hz2 ⋯ λg3 _ s3=>hE g3 e (λc o c1 c3 x=>s3.extBut _ _ c1 (s2 _ _ c3 (s1.extBut _ _ c1 x))) ⟨oe,s3.extBut _ _ hez hoe,hce⟩
end
noncomputable abbrev yA(h:Heap)(l1:Addr):Heap:=h.push {cls:= .type "tuple_iterator",data:= .fields #[.ref l1,.int 0 0]}
abbrev yB(h:Heap)(l1 l2:Addr):Heap:=(yA h l1).push {cls:= .type "list_iterator",data:= .fields #[.ref l2,.int 0 0]}
abbrev yC(h:Heap)(l1 l2:Addr):Heap:=(yB h l1 l2).push {cls:= .type "tuple",data:= .seq #[.ref h.objs.size,.ref (yA h l1).objs.size]}
abbrev yD(h:Heap)(l1 l2:Addr):Heap:=(yC h l1 l2).push {cls:= .type "tuple",data:= .seq #[.none,.none]}
abbrev yE(h:Heap)(l1 l2:Addr):Heap:=(yD h l1 l2).push {cls:= .type "zip",data:= .fields #[.none,.bool false,.bool false,.ref (yB h l1 l2).objs.size,.ref (yC h l1 l2).objs.size]}
def VW(l1 l2:Addr)(xs ys:Array Value):Meets (Builtin.«zip.__new__» ⟨[.type "zip",.ref l1,.ref l2],[]⟩) (λ_ R s=>s.heap.IsTuple l1 xs/\s.heap.IsList l2 ys/\R (.ok (.ret (.ref (yD s.heap l1 l2).objs.size))) {s with heap:=yE s.heap l1 l2}):=
 .of_wp λprog w A R s h=>by
  obtain⟨hp,g,d,tk,os⟩:=s;obtain⟨hl1,hl2,h⟩:=h;have hsub:=sub_zip;have hL1:Heap.IsTuple (Shared.heap ⟨hp,g,d,tk,os⟩) l1 xs:=hl1;have hL2:Heap.IsList (Shared.heap ⟨hp.push {cls:= .type "tuple_iterator",data:= .fields #[.ref l1,.int 0 0]},g,d,tk,os⟩) l2 ys:=Ae hl2 _
  wp_walk using wpAny_pyIter_tuple hL1,wpAny_pyIter_list hL2
  exact⟨_,rfl,h⟩
section
variable {prog:Program}{w:World}{A:Around}{E:Value->Shared->Prop}{s:Shared}
def Yj(hl1:s.heap.IsTuple l1 xs)(hl2:s.heap.IsList l2 ys)
  (h:∀h',IsZip h' (s.heap.objs.size+4) (s.heap.objs.size+2) (s.heap.objs.size+3) .none->IsPair h' (s.heap.objs.size+2) (.ref s.heap.objs.size) (.ref (s.heap.objs.size+1))→
   IsPair h' (s.heap.objs.size+3) .none .none->h'.IsTupleIter s.heap.objs.size l1 0->h'.IsListIter (s.heap.objs.size+1) l2 0→
   (∀c o,s.heap.get? c=some o->h'.get? c=some o)->Q (.ref (s.heap.objs.size+4)) {s with heap:=h'}):
  wpAny (model prog w) A (call (.type "zip") [.ref l1,.ref l2]) Q E s:=by
 refine callType_new F.called_zip ∅ (F.typeCall_zip_2 _ _) (F.newCall_zip_2 _ _) (λobj=>F.args_object_init_3 obj _ _) F.entry_zip_new (VW l1 l2 xs ys) ⟨hl1,hl2,?_⟩;have z1:(yA s.heap l1).objs.size=s.heap.objs.size+1:=ZF ..;have z2:(yB s.heap l1 l2).objs.size=s.heap.objs.size+2:=by rw[ZF,z1]
 have z3:(yC s.heap l1 l2).objs.size=s.heap.objs.size+3:=by rw[ZF,z2]
 have z4:(yD s.heap l1 l2).objs.size=s.heap.objs.size+4:=by rw[ZF,z3]
 have g5:(yE s.heap l1 l2).get? (yD s.heap l1 l2).objs.size=some _:=Zi _ rfl;have g4:(yE s.heap l1 l2).get? (yC s.heap l1 l2).objs.size=some _:=Zb _ (Zi _ rfl);have g3:(yE s.heap l1 l2).get? (yB s.heap l1 l2).objs.size=some _:=Zb _ (Zb _ (Zi _ rfl));have g2:(yE s.heap l1 l2).get? (yA s.heap l1).objs.size=some _:=Zb _ (Zb _ (Zb _ (Zi _ rfl)));have g1:(yE s.heap l1 l2).get? s.heap.objs.size=some _:=Zb _ (Zb _ (Zb _ (Zb _ (Zi _ rfl))));show _/\_;rw[z2,z3,z4]at g5;rw[z1,z2]at g3;rw[z3]at g4;rw[z1]at g2;rw[z4];exact⟨⟨_,g5,rfl⟩,h _ g5 g3 g4 ⟨_,g1,rfl,rfl⟩ ⟨_,g2,rfl,rfl⟩ λc o x=>
  Zb _ (Zb _ (Zb _ (Zb _ (Zb _ x))))⟩
end
open PyProof.Rows
end L2
namespace HN
open PySem PySem.Spec PyProof.Rows HS
section
variable {prog:Program}{w:World}{A:Around}
def XU(hh:A.handled=none)(z TI TO i1 i2 l1 l2:Addr)(D:ZipApart z TI TO i1 i2 l1 l2)(xs ys:Array Value)(hn:xs.size=ys.size):
  WalksT prog w A z [z,TI,TO,i1,i2,l1,l2] [z,TO,i1,i2] xs.size
   (λi vals=>∃x y,xs[i]? =some x/\ys[i]? =some y/\vals= #[x,y])
   (λi h=>IsZip h z TI TO .none/\IsPair h TI (.ref i1) (.ref i2)/\(∃a b,IsPair h TO a b)/\h.IsTupleIter i1 l1 i/\h.IsListIter i2 l2 i/\h.IsTuple l1 xs/\h.IsList l2 ys)
   (λi T h=>IsZip h z TI TO (rawInt T)/\IsPair h TI (.ref i1) (.ref i2)/\(∃a b,IsPair h TO a b)/\h.IsTupleIter i1 l1 (i+1)/\h.IsListIter i2 l2 (i+1)/\h.IsTuple l1 xs/\h.IsList l2 ys∧
    T≠z/\T≠TO/\T≠i1/\T≠i2) where
 sub:=λc hc=>by simp at hc ⊢;rcases hc with rfl | rfl | rfl | rfl<;>simp
 frame:=λi h h' hst hk=>by
  obtain⟨hz,hTI,⟨a,b,hTO⟩,h1,h2,hl1,hl2⟩:=hst
  exact⟨hk z ⋯ _ hz,hk TI ⋯ _ hTI,⟨a,b,hk TO ⋯ _ hTO⟩,h1.at λo e=>hk i1 ⋯ o e,h2.at λo e=>hk i2 ⋯ o e,
   hl1.at λo e=>hk l1 ⋯ o e,hl2.at λo e=>hk l2 ⋯ o e⟩
 item:=λi s Q E hi hst hQ=>by
  obtain⟨hz,hTI,⟨a,b,hTO⟩,h1,h2,hl1,hl2⟩:=hst;have hiy:i<ys.size:=hn▸hi;have hT:s.TypeIs (.ref z) "zip" :=⟨_,hz,rfl⟩;unfold pyNext
  refine wpAny_bind (wpAny_attempt (wpAny_callSpecial?_slot hT o7 (wpAny_call_entry o7 hT Bj
   (L2.Xf D hz hTI hTO h1 h2 hl1 hl2 (ZD hi) (ZD hiy) λh' a1 a2 a3 a4 a5 hk=>wpAny_pure ?_) (zG _))))
  have lt:∀{c o},s.heap.get? c=some o->s.heap.objs.size≠c:=λe=>kU (ZC e)
  exact hQ s.heap.objs.size #[xs[i],ys[i]] h' s.toks ⟨_,_,ZD hi,ZD hiy,rfl⟩ (Zu _) ⟨_,a5,rfl,_,rfl⟩
   ⟨a1,hk _ _ D.TIz D.TITO D.TIi1 D.TIi2 hTI,⟨_,_,a2⟩,a3,a4,hl1.at λo e=>hk _ o D.l1z D.l1TO D.l1i1 D.l1i2 e,hl2.at λo e=>hk _ o D.l2z D.l2TO D.l2i1 D.l2i2 e,
    lt hz,lt hTO,(by obtain⟨_,e,_⟩:=h1;exact lt e),(by obtain⟨_,e,_⟩:=h2;exact lt e)⟩
   λc o hc e=>hk c o (λx=>hc (by simp[x])) (λx=>hc (by simp[x])) (λx=>hc (by simp[x])) (λx=>hc (by simp[x])) e
 go:=λelts k pos i T s Q E hm hQ=>by
  obtain⟨hz,hTI,⟨a,b,hTO⟩,h1,h2,hl1,hl2,_⟩:=hm
  refine wpAny_letOwnedTupleGo_zip hz λh' hz' hs'=>hQ h' ⟨hz',hs'.extBut _ _ D.TIz hTI,⟨a,b,hs'.extBut _ _ D.TOz hTO⟩,h1.extBut hs'.extBut D.i1z,h2.extBut hs'.extBut D.i2z,
   hl1.extBut hs'.extBut D.l1z,hl2.extBut hs'.extBut D.l2z⟩ λc o hc e=>hs'.extBut _ _ (λx=>hc (by simp[x])) e
 apart:=λi T h hm hT=>by
  obtain⟨_,_,_,_,_,_,_,t1,t2,t3,t4⟩:=hm;simp at hT;rcases hT with rfl | rfl | rfl | rfl
  .exact t1 rfl
  .exact t2 rfl
  .exact t3 rfl
  .exact t4 rfl
 done:=λs Q E hst hQ=>by
  obtain⟨hz,hTI,⟨a,b,hTO⟩,h1,h2,hl1,hl2⟩:=hst;have hT:s.TypeIs (.ref z) "zip" :=⟨_,hz,rfl⟩;unfold pyNext
  refine wpAny_bind (wpAny_attempt (wpAny_callSpecial?_slot hT o7 (wpAny_call_entry o7 hT Bj
   (L2.î hh D.i1z D.l1z hz hTI h1 hl1 (Array.getElem?_eq_none (Zu _)) λg3 e k3 ⟨o,ho,hcs⟩=>?_) (zG _))))
  refine wpAny_bind (wpAny_isInstance ⟨o,ho,hcs⟩ isSubtype_stop ?_);exact wpAny_pure (hQ g3 s.toks λc o hc e=>k3 c o (λx=>hc (by simp[x])) (λx=>hc (by simp[x])) e)
 self:=λ_ _ _ _ st h=>wpAny_pyIter_zip st.1 h
end
def fZ(fa fb:DE):DI:=λU=>(fa U).bind λr=>(fb U).bind λr'=>match r.d,r'.d with
 | .tup xs,.lst ys=>if(decide (xs.length=ys.length) && (Qu xs && Qu ys))=true then some ⟨mB xs ys,r.M++r'.M⟩else none
 | _,_=>none
section
variable {X:Cx}{ex:LA}{hs:Hs}{U:En}{F:Ft}{s s1:Shared}{a b:Expr}{fa fb:DE}{pos p pos':Pos}{x:Str}{es:List Expr}
def aM.atT{h:Heap}{i:Nat}(r:Rp g ex h (.tup xs) (.ref l) G)(k:h.IsTuple l its)(e:xs[i]? =some d)(q:its[i]? =some v):∃G',Rp g ex h d v G'/\∀a∈G',a∈G:=by
 obtain⟨_,its',e1,_,_,e2,r'⟩:=r.qP;cases e1;have:its=its'.toArray:=by
  obtain⟨o,h1,h2,n,h3⟩:=k;obtain⟨o',h1',h2',n',h3'⟩:=e2;rw[h1]at h1';cases h1';rw[h3]at h3';cases h3';rfl
 subst this;obtain⟨F1,G',F2,u,rfl,e3,_,q',_⟩:=r'.split e;rw[List.getElem?_toArray]at q;rw[q]at e3;cases e3;exact⟨G',q',λa m=>Za _ (Zc _ m)⟩
def ô(hc:X.calm=true)(cb:Cb X x (.type "zip") a [b] pos)(hb':starEach [b] X.env=(false,eval b X.env)::starEach [] X.env)(ha:SE X a fa)(hb:SE X b fb):SI X (.Tuple es kk pos') (.Call (.Name x p) [a,b] [] pos) (fZ fa fb):=λex hs U F s ir rel e=>by
 refine Ql e λr e1 e=>Ql e λr' e2 e=>?_;refine cb.call rel (aN (fA ha (fA hb jT hb') cb.e pos rel (dc e1 (dc e2 rfl))) λvs s1 ⟨G,p⟩=>?_);obtain⟨v,vs,G1,G2,rfl,rfl,q,qs⟩:=p.rp.inv;obtain⟨v',rfl,q'⟩:=qs.one;split at e
 .rename_i xs ys h h';rw[h]at q;rw[h']at q';split at e
  case isFalse=>cases e
  rename_i hc';simp only[Ze,decide_eq_true_eq]at hc';obtain⟨hln,n1,n2⟩:=hc';cases e;obtain⟨l,its,rfl,_,z,k,r'⟩:=q.qP;obtain⟨l',its',n',G2',rfl,rfl,_,z',k',r''⟩:=q'.lst_inv;obtain⟨ot,kt,_⟩:=id k;have lt:=ZC kt;have lt':=ZC k';have lne:l≠l':=λz=>by
   subst z;obtain⟨o,e,c,_⟩:=k;rw[k']at e;cases e;exact absurd (show Value.type "list" = .type "tuple" from c) ∅
  refine L2.Yj k (eA k') λh' hz h1 h2 i1 i2 hk=>wpAny_pyIter_zip hz (iQ.tup (λ_=>bF n1 (bF n2 nm)) (T:=[l']) (ts:=[(.tup xs,.ref l,G1),(.lst ys,.ref l',l'::G2')]) (s:=s1)
   (XU (rel.ok.hd hc) _ _ _ _ _ l l' (by constructor<;>lia) its.toArray its'.toArray (by rw[Zk,Zk,← r'.len,← r''.len,hln])) (λi h ⟨a,b,⟨_,_,c⟩,d,d',e,e'⟩=>bF (kD a rfl ⋯ ∅) (bF (kD b rfl ⋯ ∅) (bF (kD c rfl ⋯ ∅) (bF (by obtain⟨o,e,c,dd⟩:=d;exact kD e c (by simp[dd]) ∅) (bF (sD d') (bF (by obtain⟨o,e,i⟩:=Ib e;exact⟨o,e,.inl i⟩) (bF (sM e' (.head _)) nm)))))))
   ⟨hz,h1,⟨_,_,h2⟩,i1,i2,(show s1.heap.IsTuple l its.toArray from k).at λo e=>hk _ o e,(eA k').at λo e=>hk _ o e⟩ (.of (t':=s1.toks) hk) (bF (Zv ⋯) (bF (Zv ⋯) (bF Q2 (bF (Zv ⋯) nm))))
   (by rw[AQ,Zk,← r'.len];lia) (by rw[AQ];lia) (bF ⟨_,.tail _ (.head _),.head _⟩ nm) (bF ⟨q,λa m=>?_⟩ (bF ⟨q',λa m=>?_⟩ nm)) p.ext (by have:=p.own;simpa using this) λ_ i vals h' d ⟨y,y',e1,e1',e2⟩ ⟨_,_,_,_,_,kl,kl'⟩ hh e=>?_)
  .have:=p.src a (Zc _ m);simpa using this
  .have:=p.src a (Za _ m);simpa using this
  .obtain⟨d',d'',e3,e3',rfl⟩:=Hm e;obtain⟨G2,r2,m⟩:=(hh _ (.head _)).atT kl e3 e1;obtain⟨G2',r2',m'⟩:=(hh _ (.tail _ (.head _))).at kl' e3' e1';subst e2;exact⟨_,_,rfl,Bc rfl,r2.app r2',λa h=>(Zf.mp h).elim (λh=>⟨_,.head _,m a h⟩) λh=>⟨_,.tail _ (.head _),m' a h⟩⟩
 .cases e
end
section
variable {X:Cx}{ex:LA}{hs:Hs}{U:En}{F:Ft}{s s1 s0:Shared}{c e:Expr}{gc:DT}{fe:DE}{fx:DX}{g:DS}{p1 p2 p3 p4 p5 p6 p7 apos cpos:Pos}{wn an bn:Str}{w a b:Nat}{sts:List Stmt}
def Val.load{M:Model}{A:Around}{E:Value->Shared->Prop}{Q:Value->Shared->Prop}{i:Nat}{u:Value}{x:Str}(r:Rel X ex hs U F s)(v:Val X s i u)(hN:X.N[i]? =some x)(h2:(x == ("__classdict__" :Str))=false)(k:Q u s):wpAny M A (loadName X.env x) Q E s:=by
 obtain⟨y,m,e1,hn,l⟩:=v;rw[hN]at e1;cases e1;rcases l with⟨hk,hm⟩ | ⟨hk | hk,c,hc,z⟩
 .exact wpAny_loadName_local r.ok.kind hk hn hm k
 .exact wpAny_loadName_cell r.ok.kind hk hc z k
 .exact wpAny_loadName_free r.ok.kind hk hc z k h2
abbrev Nv(X:Cx)(i:Nat)(x:Str):Prop:=X.N[i]? =some x/\(x == ("__debug__" :Str))=false/\(x == ("__classdict__" :Str))=false
def Rel.Ld{E:Value->Shared->Prop}{Q:Flow->Shared->Prop}{k b0:Bool}{d:D}(hc:ST X c gc)(ha:Nv X a an)(hb:Nv X b bn)(sl:Sl X wn w)(rel:Rel X ex hs U F s)(ec:gc U=some k)(hw:w<U.length)(hne:w≠(if k=true then a else b))(hd:(U.set w none)[if k=true then a else b]? =some (some (d,b0)))
  (kk:∀s2 v,Fx X hs s s2->Rel X ex hs (U.set w none) F s2->Val X s2 w v->Val X s2 (if k=true then a else b) v->Rp X.g ex s2.heap d v (F (if k=true then a else b))->Q .next s2):wpAny X.M X.A (exec (.Assign [.Name wn p1] (.IfExp c (.Name an p2) (.Name bn p3) p4) p5) X.env) Q E s:=by
 refine any (wpAny_Assign_Name (wpAny_IfExp (aN (hc rel ec) λk' s1 ⟨h,x1⟩=>?_)) rfl);subst h;have r1:=(rel.ext x1).weak (Eu (U:=U) w);have go:∀{xn v},Nv X (if k'=true then a else b) xn->Val X s1 (if k'=true then a else b) v->wpAny X.M X.A (storeName X.env wn v) (λ_ s2=>Q .next s2) E0 s1:=λ{xn v} hx val=>by
  refine r1.K9 sl.1 sl.2.1 sl.2.2.1 rfl r1.ow (λj d b e=> .inr ⟨λz=>(by rw[z,ZS hw]at e;cases e),rfl,b,e⟩) λs2 m m' hn hn' lw oth f2 r2 _=>?_;have v2:Val X s2 (if k'=true then a else b) v:=by
   obtain⟨y,m0,e1,n0,l0⟩:=val;have:m0=m:=n0.eq_nsMap.trans hn.eq_nsMap.symm;subst this;exact⟨y,m',e1,hn',oth y v (λz=>hne (L2.JL r1.ok.nd sl.1 (z▸e1))) l0⟩
  obtain⟨y,u,m0,e1,n0,l0,p⟩:=r2.val hd;cases Val.inj v2 ⟨y,m0,e1,n0,l0⟩;exact kk s2 v ((Fx.of x1).trans f2) r2 ⟨wn,m',sl.1,hn',lw⟩ v2 p
 cases k' with
 | true=>exact wpAny_Name (r1.lH hd ha.1 ha.2.2 λv val _=>go ha val) ha.2.1
 | false=>exact wpAny_Name (r1.lH hd hb.1 hb.2.2 λv val _=>go hb val) hb.2.1
def ĕ(hc:ST X c gc)(ha:Nv X a an)(hb:Nv X b bn)(sl:Sl X wn w)(hw:Nv X w wn)(he:SE X e fe)(h1:One X e [])(m:Mc X (.Name wn p6) "extend" apos [e] cpos "list.extend")(h:SS X sts g):
  SS X (.Assign [.Name wn p1] (.IfExp c (.Name an p2) (.Name bn p3) p4) p5:: .Expr (.Call (.Attribute (.Name wn p6) "extend" apos) [e] [] cpos) p7::sts) (Qa (mF w a b gc fe) g):=λex hs U F s o rel ee=>by
 refine Ql ee λo1 e1 ee=>?_;refine Ql e1 λk ec e1=>?_;have e1:(if w<U.length/\w≠(if k=true then a else b)then oI (if k=true then a else b) cN fe (U.set w none)else none)=some o1:=e1;by_cases hwx:w<U.length/\w≠(if k=true then a else b)
 case neg=>rw[if_neg hwx]at e1;cases e1
 rw[if_pos hwx]at e1;obtain⟨⟨d,hd⟩,U',rfl⟩:=Ė e1;refine wpAny_execs_cons (rel.Ld hc ha hb sl ec hwx.1 hwx.2 hd λs2 v f2 r2 v2 vx p=>?_);dsimp only;refine wpAny_execs_cons (aN (J0 m he h1 r2 (λ{d' b' is dm} hx e2 e3=>?_) e1) λfl s3 ⟨y,q⟩=>?_)
 .cases e2;cases e3;rw[hd]at hx;cases hx;exact wpAny_Name (v2.load r2 hw.1 hw.2.2 ⟨v,_,.refl,vx,.nil p⟩) hw.2.1
 .obtain⟨rfl,F',r'⟩:=q;exact aN (h r' ee) λ_ _ ⟨y',q⟩=>⟨(f2.trans y).trans y',q⟩
def Vk(hio:X.io=false)(hc:ST X c gc)(ha:Nv X a an)(hb:Nv X b bn)(sl:Sl X wn w)(hw:Nv X w wn)(he:XE X e fx)(h1:One X e [])(m:Mc X (.Name wn p6) "extend" apos [e] cpos "list.extend"):
  XS X [.Assign [.Name wn p1] (.IfExp c (.Name an p2) (.Name bn p3) p4) p5,.Expr (.Call (.Attribute (.Name wn p6) "extend" apos) [e] [] cpos) p7] (Qo (mF w a b gc fe) (EY w a b gc fx) aJ):=λex hs U F s cl U' outer s0 E rel z st ee qq=>by
 unfold Qo at ee;split at ee
 .cases ee
 .cases ee
 refine Ql ee λk ec ee=>?_;generalize hx:(if k=true then a else b)=x at ee;split at ee
 case h_2=>cases ee
 rename_i xs hxx;split at ee
 case isFalse=>cases ee
 rename_i hwx;subst hx;have hd:(U.set w none)[if k=true then a else b]? =some (some (.lst xs,true)):=by rw[uF hwx.2];exact hxx
 refine wpAny_execs_cons (rel.Ld hc ha hb sl ec hwx.1 hwx.2 hd λs2 v f2 r2 v2 vx p=>?_);dsimp only;refine wpAny_execs_cons (wpAny_Expr_any (wpAny_Call_method_late m.b m.f m.l rfl (wpAny_Name (v2.load r2 hw.1 hw.2.2 ?_) hw.2.1)) r2.quiet rfl);obtain⟨l,its,n,G,rfl,_,_,_,el,_⟩:=p.lst_inv;refine⟨"list","list.extend",K6,m.s,m.t,⟨_,el,rfl⟩,λa z=>by cases z;exact⟨_,el,rfl⟩,tU m.p ?_⟩;have:=Fv he h1 cpos r2 (z.go hio f2) st ee qq;rw[h1]at this ⊢;exact u4 (jI this)
end
noncomputable def MX(x:Str)(n:Nat):Str:=⟨(List.replicate n x.cps).foldl (· ++ ·) #[]⟩
def w9(fa fb:DE):DE:=λU=>(fa U).bind λra=>(fb U).bind λrb=>match ra.d,rb.d with
 | .str x,.int n=>if 0<n/\n<9/\0<x.length/\x.length<9 then some ⟨.str (MX x n.toNat),true,[]⟩else none
 | _,_=>none
section
variable {X:Cx}{a b:Expr}{fa fb:DE}{pos:Pos}
def Kq(x:Str):∀n,∀(acc:Array Nat),((List.replicate n x.cps).foldl (· ++ ·) acc).size=acc.size+n*x.length
 | 0,acc=>by simp
 | n+1,acc=>by
  rw[qN,Af,Kq x n,Array.size_append,Nat.succ_mul];show acc.size+x.length+_=_;lia
def þ(ha:SE X a fa)(hb:SE X b fb):SE X (.BinOp a .Mult b pos) (w9 fa fb):=λex hs U F s r rel e=>by
 refine Ql e λra ea e=>Ql e λrb eb e=>?_;refine wpAny_BinOp (two ha hb rel ea eb λx y s1 s' G1 G2 p q rel' p1=>?_);have p2:=q.rp;have x:=p.ext.trans q.ext;split at e
 .rename_i z n h1 h2;rw[h1]at p1;rw[h2]at p2;split at e
  .rename_i hc;obtain⟨c1,c2,c3,c4⟩:=hc;cases e;obtain⟨t,rfl⟩:=p1.str_inv;obtain⟨u,rfl⟩:=p2.int_inv;have hl:=Kq z n.toNat #[];have h9:n.toNat<=8:= ⋯
   have hm:n.toNat *z.length<=8*8:=Nat.mul_le_mul h9 ⋯;refine PySem.P.mul_str (by rw[decide_eq_false ⋯,decide_eq_false ⋯];rfl) (λ_ _=>by
    have:(8:Int)<=(2^63-1) / n:=by
     rw[Int.le_ediv_iff_mul_le c1];lia
    lia) (λ_ _=>by
    unfold Builtin.Str.tooLong;rw[Nat.mul_comm];exact decide_eq_false (Nat.not_lt.mpr (ZE (m:=64) ⋯ ∅))) ?_
   rw[if_neg ⋯];by_cases h:n=1
   .subst h;rw[if_pos ⋯];have e1:MX z (1:Int).toNat=z:=by
     show(⟨#[]++z.cps⟩:Str)=z;simp
    rw[e1];exact⟨[],.flat (x.trans .refl) .str⟩
   .rw[if_neg (by simp;exact⟨h,⋯⟩)];exact⟨by rw[show((⟨_⟩:Str)).length=_ from hl];exact ZE (m:=64) (by simp;lia) ∅,[],.flat (x.trans .tok) .str⟩
  .cases e
 .cases e
end
structure Tq extends HS.Th where
 calm:Bool:=true
 io:Bool:=false
 pin:Option Nat:=none
 top:Bool:=false
 bC:Bool:=false
 ΓL:List (Str×gN):=[]
 ΓD:List (Str×fD):=[]
 ΓM:List (Str×fD):=[]
 ΓE:List (Str×jF):=[]
 dc:List (Str×iF):=[]
 ΓH:List (Str×gN):=[]
 sub:Str->Str->Option Bool:=λ_ _=>none
 Γx:List (Str×(Nat×(List D->Option Str))):=[]
 Γm:List (Str×(Nat×(List D->Option Str))):=[]
 cls:List Str:=[]
noncomputable def Tq.lQ(U:Tq)(x:Str):Option Nat:=(U.toTh.lQ x).bind λi=>if U.pin=some i then none else some i
def oR(U:Tq):Expr->Option Tg
 | .Name x _=>(U.lQ x).map .nm
 | .Tuple es _ _=>if U.calm=true then((es.mapM rZ).bind λxs=>xs.mapM U.lQ).map .tp else none
 | _=>none
def iE(U:Tq)(scope:Scope):Tq:={U with
 toTh:=inner U.toTh scope
 io:=false
 pin:=none
 top:=false
 ΓD:=[]
 ΓM:=[]
 ΓE:=[]
 }
structure cV (X:Cx) (U:Tq):Prop where
 N:X.N=U.N
 lc:∀x,look x U.sc=some .local ->X.env.scope.names.lookup x=some .local
 ce:∀x,look x U.sc=some .cell->X.env.scope.names.lookup x=some .cell/\X.fn x=true
 gl:∀x,look x U.sc=some .globalImplicit->X.env.scope.names.lookup x=some .globalImplicit
 fe:∀x,look x U.sc=some .free->X.env.scope.names.lookup x=some .cell∨X.env.scope.names.lookup x=some .free
 calm:U.calm=true->X.calm=true
 io:U.io=false->X.io=false
 pn:∀i a,X.pin=some (i,a)->U.pin=some i
 units:X.A.units+64<cLine
 mg:∀x∈uH,X.g.mg x=none
 cs:∀x i,look x U.cs=some i->∃t,X.g.mg x=some (vX i t)
 fns:∀x r,look x U.Γ=some r->∃c k,Kn X.g c k x r/\Rm c k X.A
 io1:U.io=true->X.io=true
 pn1:∀i,U.pin=some i->∃a,X.pin=some (i,a)
 bC:U.bC=true->g0 X.g.K/\A1 X.g
 dk2:U.top=true->L2.cC 2 X.A/\sR X
 lk:∀x r,look x U.ΓL=some r->∃k,pO X.g k x r/\Rm true k X.A
 dd:∀x r,look x U.ΓD=some r->∃k,qC X.g k x r/\L2.cC k X.A
 dm:∀x r,look x U.ΓM=some r->∃k,pS X.g k x r/\L2.cC k X.A
 de:∀x r,look x U.ΓE=some r->∃k,m6 X.g k x r/\L2.cC k X.A
 dcs:∀x kvs,look x U.dc=some kvs->Dp X x kvs
 stx:U.top=true->∃outer,nQ X outer
 fh:∀x r,look x U.ΓH=some r->∃k,Kn X.g false k x r/\Rm false k X.A
 hh:U.calm=false->∀j a,X.pin=some (j,a)->X.A.handled=some (.ref a)
 sub:tD X.g.K U.sub
 xf:∀x r,look x U.Γx=some r->∃k,mX X.g k x r.1 r.2/\L2.cC k X.A
 xm:∀x r,look x U.Γm=some r->∃k,nE X.g k x r.1 r.2/\L2.cC k X.A
 cl:∀x∈U.cls,sE X.g.K x
noncomputable def pl:Expr->Bool
 | .Name .. =>true | .Constant .. =>true | .BinOp .. =>true | .UnaryOp .. =>true | .BoolOp .. =>true | .Compare .. =>true | .IfExp .. =>true | .Tuple .. =>true | .List .. =>true | .Subscript .. =>true | .Call .. =>true | .ListComp .. =>true | .Attribute .. =>true | .Dict .. =>true | .JoinedStr .. =>true | .FormattedValue .. =>true
 | _=>false
section
variable {X:Cx}{U:Tq}{x:Str}{i n:Nat}{e a b tg:Expr}{es:List Expr}{pos p:Pos}{f:Value}{t:Tg}
def Q1(h:pl e=true):One X e es:=by cases e<;>first | rfl | cases h
def Ar(h:pl e=true):L2.wI e:=by cases e<;>first | (intro o i;rfl) | cases h
def oV(h:pl e=true)(env:Env):∀x,foldedSetIterable e env x=pure x:=by cases e<;>first | (intro x;rfl) | cases h
def Eh(h:pl e=true)(op:CmpOp):behindInMarks op e=false:=by cases e<;>first | rfl | cases h
def EJ{q:NameKind->Bool}(h:((look x U.sc).map q).getD false=true):∃k,look x U.sc=some k/\q k=true:=by
 cases e:look x U.sc with
 | none=>rw[e]at h;cases h
 | some k=>rw[e]at h;exact⟨k,rfl,h⟩
def eQ(k:cV X U)(h:U.slot x=some i):X.N[i]? =some x/\(x == ("__debug__" :Str))=false/\(x == ("__classdict__" :Str))=false:=by
 unfold Th.slot at h;split at h
 .rename_i hc;simp only[Ze,ZT]at hc;obtain⟨h1,h2,_⟩:=Fb hc.2;exact⟨k.N▸y9 h,h1,h2⟩
 .cases h
def l7(k:cV X U)(h:U.lQ x=some i):Sl X x i/\(x == ("__classdict__" :Str))=false:=by
 refine Ql h λi' h hq=>?_;split at hq
 case isTrue=>cases hq
 rename_i hp;cases hq;have hpn:∀a,X.pin≠some (i,a):=λa e=>hp (k.pn i a e);unfold Th.lQ at h;split at h
 .rename_i hc;simp only[Ze,ZT]at hc;obtain⟨q,e,hq⟩:=EJ hc.1;refine⟨⟨k.N▸y9 h,?_⟩,(Fb hc.2).2.1⟩;cases q with
  | «local» =>exact⟨.inl (k.lc x e),.inr (k.lc x e),hpn⟩
  | cell=>exact⟨.inr (k.ce x e).1,.inl (k.ce x e).2,hpn⟩
  | _=>cases hq
 .cases h
def i6(k:cV X U)(h:U.gl x=true):Gl X x/\(x == ("__debug__" :Str))=false/\x≠ "__name__" :=by
 unfold Th.gl at h;simp only[Ze,ZT]at h;obtain⟨q,e,hq⟩:=EJ h.1;obtain⟨h1,_,h3⟩:=Fb h.2;cases q with
 | globalImplicit=>exact⟨k.gl x e,h1,h3⟩
 | _=>cases hq
def uK(k:cV X U)(h:oR U tg=some t):SG X tg t:=by
 unfold oR at h;split at h
 .obtain⟨i,hi,rfl⟩:=Zd.mp h;exact Í (l7 k hi).1
 .split at h
  case isFalse=>cases h
  rename_i hcm;obtain⟨is,hi,rfl⟩:=Zd.mp h;refine Tw (k.calm hcm) ?_;rename_i es _ _;refine Ql hi λxs h1 h2=>?_;clear hi h
  induction es generalizing xs is with
  | nil=>cases h1;cases h2;exact .nil
  | cons e es ih=>
   rw[List.mapM_cons]at h1;refine Ql h1 λx hx h1=>Ql h1 λys hy h1=>?_;cases h1;rw[List.mapM_cons]at h2;refine Ql h2 λi hi h2=>Ql h2 λjs hj h2=>?_;cases h2;cases e with
   | Name y p=>cases hx;exact .cons (l7 k hi).1 (ih _ _ hy hj)
   | _=>cases hx
 .cases h
def Ad{env:Env}{k:NameKind}(hk:k≠ .free):∀{names:List (Str×NameKind)},names.lookup x=some k→
  (names.map λ(n,k)=>if(k == NameKind.free && env.scope.kind == .function && env.kindOf n == some .cell)then(n,NameKind.cell)else(n,k)).lookup x=some k
 | (n,k')::r,h=>by
  have ih:= @Ad env k hk r;rw[Zp];rw[Zw]at h;dsimp only;cases hx:x == n with
  | true=>
   rw[hx]at h;cases h;rw[if_neg (by simp[hk]),Zw,hx]
  | false=>
   rw[hx]at h;split<;>(rw[Zw,hx];exact ih h)
def AJ{scope:Scope}(k:cV X U)(h:w8 U.toTh scope t=true):nR X (iE U scope).N scope/\pA X (iE U scope).N scope (r9 U.toTh scope)/\∀cs C h,cV (dO X (iE U scope).N scope cs C h) (iE U scope):=by
 unfold w8 at h;simp only[Ze,decide_eq_true_eq]at h;obtain⟨⟨⟨h1,h2⟩,h3⟩,_⟩:=h;have h3:=ZN.mp h3;have fr:∀y∈scope.names,y.2= .free->X.env.kindOf y.1=some .cell∨X.env.kindOf y.1=some .free:=λy hy e=>by
  have:=h3 y hy;rw[e]at this;dsimp only at this;split at this
  .rename_i q;exact .inl (k.ce _ q).1
  .rename_i q;exact k.fe _ q
  .cases this
 refine⟨⟨h2,by simpa using h1,λy hy e=>?_,λy hy e=>?_,fr⟩,⟨by unfold r9;rw[Zh];rfl,λj i e=>?_⟩,λcs C h=>{k with
  N:=rfl
  io:=λ_=>rfl
  pn:=nofun
  io1:=nofun
  pn1:=nofun
  dk2:=nofun
  dd:=nofun
  dm:=nofun
  de:=nofun
  stx:=nofun
  hh:=λ_=>nofun
  lc:=λx e=>Ad ∅ (j0▸e)
  ce:=λx e=>have e:=j0▸e;⟨Ad ∅ e,decide_eq_true e⟩
  gl:=λx e=>Ad ∅ (j0▸e)
  fe:=λx e=>L2.Ep (j0▸e)}⟩
 .have:=h3 y hy;rw[e]at this;exact j0▸of_decide_eq_true this
 .have:=h3 y hy;rw[e]at this;exact j0▸of_decide_eq_true this
 .unfold r9 at e;rw[Zy]at e;obtain⟨x,q,e⟩:=Zd.mp e;split at e
  .rename_i hf;obtain⟨kd,hl,hq⟩:=EJ (U:=iE U scope) hf;cases kd with
   | free=>
    have hl:scope.names.lookup x=some .free:=j0▸hl;exact⟨x,q,hl,k.N▸y9 e,fr (x,.free) (pY hl) rfl⟩
   | _=>cases hq
  .cases e
def cb(k:cV X U)(hg:U.gl x=true)(hm:x∈uH)(hv:bootBuiltins x=some f)(hk:∃i,f= .builtin i∨f= .type i)(ha:pl a=true)(hl:(backTo pos (starEach es X.env)).any (·.1)=false):Cb X x f a es pos:=
 let ⟨h1,h2,h3⟩:=i6 k hg;⟨h1,k.mg x hm,hv,hk,h3,h2,Q1 ha,hl⟩
def ñ:∀(i:Cn) (t:Tok),At (MC i) (vX i t)
 | .inl _,t=>⟨t,rfl⟩
 | .inr _,t=>⟨t,rfl⟩
def iZ:(backTo pos (starEach [] X.env)).any (·.1)=false:=rfl
def nZ(hb:pl b=true)(h:(backTo pos (starEach es X.env)).any (·.1)=false):(backTo pos (starEach (b::es) X.env)).any (·.1)=false:=by rw[show starEach (b::es) X.env=_ from Q1 hb];exact h
end
abbrev TE(U:Tq)(e:Expr):={f:DE // pl e=true/\∀X,cV X U->SE X e f}
abbrev TT(U:Tq)(e:Expr):={f:DT // ∀X,cV X U->ST X e f}
abbrev NQ(U:Tq)(e:List Expr):={f:DT // ∀X,cV X U->l5 X e f}
abbrev TA(U:Tq)(es:List Expr):={f:DA // (∀X,cV X U->SA X es f)/\(es=[]->f=Qq)/\∀a es',es=a::es'->pl a=true/\∀(X:Cx) pos,(backTo pos (starEach es' X.env)).any (·.1)=false}
abbrev TO(U:Tq)(e:Option Expr):={f:DO // ∀X,cV X U->SO X e f}
abbrev TI(U:Tq)(tg e:Expr):={f:DI // pl e=true/\∀X,cV X U->SI X tg e f}
abbrev TC(U:Tq)(elt tg iter:Expr)(ifs:List Expr)(scope:Scope):={f:DE // ∀X,cV X U->∀pos,SE X (.ListComp elt [⟨tg,iter,ifs,0⟩] scope pos) f/\∀{x i p spos},Sl X x i->S1 X (.Assign [.Name x p] (.ListComp elt [⟨tg,iter,ifs,0⟩] scope pos) spos) (Qm i f)}
def D7:(op:CmpOp)->Option {g:D->D->Option D // ∀X:Cx,X.A.units+64<cLine->Op X (compareOp op) g}
 | .Eq=>some ⟨aW,λ_ k=>S8 k⟩
 | .NotEq=>some ⟨bX,λ_ k=>Ô k⟩
 | .Lt=>some ⟨bZ,λ_ k=>Ē k⟩
 | .LtE=>some ⟨LK,λ_ _=>T7⟩
 | .Gt=>some ⟨cS,λ_ _=>ă⟩
 | .GtE=>some ⟨mL,λ_ _=>RB⟩
 | .Is=>some ⟨gJ false,λ_ _=>YN⟩
 | .IsNot=>some ⟨gJ true,λ_ _=>Yh⟩
 | .In=>some ⟨bQ false,λ_ k=>HW false k⟩
 | .NotIn=>some ⟨bQ true,λ_ k=>HW true k⟩
def Lk(n:Nat)(x:Str):Option {q:Value×(List D->Option D) // (x∈uH/\bootBuiltins x=some q.1/\∃i,q.1= .builtin i∨q.1= .type i)/\∀X:Cx,X.calm=true->Bf X q.1 q.2}:=
 if n=1 then
  if h:x= "len" then some ⟨(.builtin "len",QN),⟨h▸by decide+kernel,h▸PySem.boot_len,_,.inl rfl⟩,λ_ _=>To⟩else
  if h:x= "abs" then some ⟨(.builtin "abs",y6),⟨h▸by decide+kernel,h▸boot_abs,_,.inl rfl⟩,λ_ _=>ē⟩else
  if h:x= "min" then some ⟨(.builtin "min",mP),⟨h▸by decide+kernel,h▸boot_min,_,.inl rfl⟩,λ_ k=>Pc k⟩else
  if h:x= "max" then some ⟨(.builtin "max",xM),⟨h▸by decide+kernel,h▸boot_max,_,.inl rfl⟩,λ_ k=>Y2 k⟩else
  if h:x= "sum" then some ⟨(.builtin "sum",vK),⟨h▸by decide+kernel,h▸boot_sum,_,.inl rfl⟩,λ_ k=>Va k⟩else
  if h:x= "all" then some ⟨(.builtin "all",sZ),⟨h▸by decide+kernel,h▸boot_all,_,.inl rfl⟩,λ_ k=>Z0 k⟩else
  if h:x= "int" then some ⟨(.type "int",n9),⟨h▸by decide+kernel,h▸boot_int,_,.inr rfl⟩,λ_ _=>Wj⟩else
  if h:x= "str" then some ⟨(.type "str",f9),⟨h▸by decide+kernel,h▸boot_str,_,.inr rfl⟩,λ_ _=>XM⟩else
  if h:x= "any" then some ⟨(.builtin "any",oN),⟨h▸by decide+kernel,h▸boot_any,_,.inl rfl⟩,λ_ k=>Pp k⟩else
  none
 else
  if h:x= "min" then some ⟨(.builtin "min",gM),⟨h▸by decide+kernel,h▸boot_min,_,.inl rfl⟩,λ_ k=>TG k⟩else
  if h:x= "max" then some ⟨(.builtin "max",gD),⟨h▸by decide+kernel,h▸boot_max,_,.inl rfl⟩,λ_ k=>ê k⟩else
  none
noncomputable def Vw:Expr->Expr->Bool
 | .Subscript (.Name _ _) _ _,.BinOp (.Constant (.int _) _ _) .Add _ _=>true
 | _,_=>false
noncomputable def ptr:Expr->Bool
 | .UnaryOp .Not .. =>false | .BoolOp .. =>false | .IfExp .. =>false | .Compare .. =>false
 | _=>true
def JW{e:Expr}(h:ptr e=true)(env:Env)(whole:Sem Value):isTrue e env whole=(do let v ← whole;standAt e.pos;holding [v] (truthy v)):=by
 cases e with
 | UnaryOp op a p=>cases op<;>first | rfl | cases h
 | _=>first | rfl | cases h
def RK{y:Str}{T:String}(h:A3 y=some T):bootBuiltins y=some (.type T)/\y∈uH:=by
 unfold A3 at h
 iterate 5
  split at h
  .rename_i e;cases h;subst e;exact⟨by first | exact boot_int | exact boot_bool | exact boot_list | exact boot_tuple | exact boot_str,'d'⟩
 cases h
def S7{U:Th}{x:Str}{a b:Expr}(h:FZ U x a=some b):∃p pos,x= "list" /\a= .Call (.Name "range" p) [b] [] pos/\U.gl "range" =true:=by
 unfold FZ at h;split at h
 .split at h
  .rename_i hc;obtain⟨rfl,rfl,hg,_⟩:=hc;cases h;exact⟨_,_,rfl,rfl,hg⟩
  .cases h
 .cases h
def xF{U:Th}{es:List Expr}(h:∀a es',es=a::es'->pl a=true/\∀(X:Cx) pos,(backTo pos (starEach es' X.env)).any (·.1)=false)(X:Cx)(pos:Pos):(backTo pos (starEach es X.env)).any (·.1)=false:=by
 cases es with
 | nil=>rfl
 | cons a es=>exact nZ (h a es rfl).1 ((h a es rfl).2 X pos)
def BU{U:Tq}{es:List Expr}(h:∀a es',es=a::es'->pl a=true/\∀(X:Cx) pos,(backTo pos (starEach es' X.env)).any (·.1)=false)(X:Cx)(pos:Pos):(backTo pos (starEach es X.env)).all (λx=> !x.1)=true:=by
 have:=xF (U:=U.toTh) h X pos;rw[List.all_eq_not_any_not];simpa using this
def V1(U:Tq):Expr->Bool
 | .Subscript (.Name x _) _ _=>(look x U.dc).isSome
 | _=>false
noncomputable def EH:Expr->Bool
 | .Name .. =>true | .Constant .. =>true
 | _=>false
def Oe{o:Expr}(h:EH o=true)(m:Str)(env:Env)(w:Sem Value):attributeBase o m env w=w:=by cases o<;>first | rfl | cases h
def Hb(m:Str):Option {q:String×(D->D->Option D) // (Slot "str" m q.1/\typeOf (.builtin q.1)=pure (.type "method_descriptor"))/\(∀a b d,q.2 a b=some d->∃z,a= .str z)/\∀X,Mt X q.1 (g1 q.2)}:=
 if h:m= "split" then some ⟨("str.split",nP),⟨h▸PySem.F.slot_str_split,PySem.F.type_str_split⟩,λa b d e=>(by have e:nP a b=some d:=e;unfold nP at e;split at e;exact⟨_,rfl⟩;cases e),λX=>Xa⟩else
 if h:m= "join" then some ⟨("str.join",iU),⟨h▸PySem.F.slot_str_join,PySem.F.type_str_join⟩,λa b d e=>(by have e:iU a b=some d:=e;unfold iU at e;split at e;exact⟨_,rfl⟩;cases e),λX=>TF⟩else
 if h:m= "startswith" then some ⟨("str.startswith",mV),⟨h▸PySem.F.slot_str_startswith,PySem.F.type_str_startswith⟩,λa b d e=>(by have e:mV a b=some d:=e;unfold mV at e;split at e;exact⟨_,rfl⟩;cases e),λX=>Y8⟩else
 if h:m= "partition" then some ⟨("str.partition",sN),⟨h▸PySem.F.slot_str_partition,PySem.F.type_str_partition⟩,λa b d e=>(by have e:sN a b=some d:=e;unfold sN at e;split at e;exact⟨_,rfl⟩;cases e),λX=>RF⟩else
 none
def ms{X:Cx}{o a:Expr}{es:List Expr}{m:Str}{apos cpos:Pos}{i':String}(ho:EH o=true)(hs:Slot "str" m i'/\typeOf (.builtin i')=pure (.type "method_descriptor"))(hl:(apos.endLine == cpos.line)=true)(h:∀b es',a::es=b::es'->pl b=true/\∀(X:Cx) pos,(backTo pos (starEach es' X.env)).any (·.1)=false)(hn:decide ((a::es).length+([]:List Keyword).length+(if([]:List Keyword).isEmpty then 0 else 1)<30)=true):Ms X o m apos a es cpos i':=
 ⟨hs.1,hs.2,Oe ho ..,by rw[BU (U:={N:=[],sc:=[],Γ:=[],cs:=[]}) h X cpos];exact hn,hl,xF (U:={N:=[],sc:=[],Γ:=[],cs:=[]}) h X cpos,Q1 (h a es rfl).1⟩
mutual
noncomputable def tK(n:Nat)(U:Tq)(e:Expr):Option (TE U e):=match n with
  | 0=>none
  | n+1=>match e with
    | .Attribute (.Name x _) f _=>match hx:U.slot x with
      | some i=>if h:f= "net" /\U.bC=true then some ⟨cO i,rfl,λX k=>let ⟨a,b,c⟩:=eQ k hx;h.1▸Ym (k.bC h.2).1 a b c⟩else none
      | none=>none
    | .Compare a [.NotIn] [.Attribute (.Name x _) f _] _=>match hx:U.slot x with
      | some i=>if h:f= "heaps" /\U.bC=true then(tE n U a).map λu=>⟨gG true u.1 i,rfl,λX k=>let ⟨a,b,c⟩:=eQ k hx;h.1▸PV (k.bC h.2).1 a b c (u.2.2 X k)⟩else none
      | none=>none
    | .Subscript (.Attribute (.Name x _) f _) b _=>match hx:U.slot x with
      | some i=>if h:f= "heaps" /\U.bC=true then(tE n U b).map λu=>⟨mJ i u.1,rfl,λX k=>let ⟨a,b,c⟩:=eQ k hx;h.1▸Z4 (k.bC h.2).1 a b c (u.2.2 X k) (Ar u.2.1)⟩else none
      | none=>none
    | .Call (.Name y _) [.Attribute (.Name x _) f _] [] _=>match hx:U.slot x with
      | some i=>if h:f= "heaps" /\U.bC=true/\U.gl y=true/\U.calm=true then
          if hy:y= "len" then some ⟨jH i,rfl,λX k=>let ⟨a,b,c⟩:=eQ k hx;h.1▸Z6 (k.bC h.2.1).1 a b c (cb k h.2.2.1 (hy▸by decide+kernel) (hy▸PySem.boot_len) ⟨_,.inl rfl⟩ rfl iZ)⟩else
          if hy:y= "sorted" then some ⟨lO i,rfl,λX k=>let ⟨a,b,c⟩:=eQ k hx;h.1▸Xk (k.calm h.2.2.2) (k.bC h.2.1).1 a b c (cb k h.2.2.1 (hy▸by decide+kernel) (hy▸boot_sorted) ⟨_,.inl rfl⟩ rfl iZ)⟩else none
        else none
      | none=>none
    | .Subscript (.Name x _) b _=>match hx:look x U.dc with
      | some kvs=>if hg:U.gl x=true then(tE n U b).map λu=>⟨eD kvs u.1,rfl,λX k=>let ⟨g1,g2,_⟩:=i6 k hg;ON (k.dcs x kvs hx) g1 g2 (u.2.2 X k) (Ar u.2.1)⟩else none
      | none=>none
    | .Call (.Name y _) [a,.Name z _] [] _=>if h:y= "isinstance" /\(A3 z).isNone=true/\U.gl y=true then if hz:U.gl z=true then(tE n U a).map λu=>⟨kF U.sub [z] u.1,rfl,λX k=>let ⟨g1,g2,_⟩:=i6 k hz;NX k.sub (cb k h.2.2 (h.1▸by decide+kernel) (h.1▸boot_isinstance) ⟨_,.inl rfl⟩ u.2.1 rfl) g1 g2 (u.2.2 X k)⟩else none else none
    | .Call (.Attribute o m apos) args [] cpos=>match args with
      | []=>none
      | a::as=>if hl:(apos.endLine == cpos.line)=true/\as.length<20 then
       match hm:look m U.ΓL with
        | some r=>(match o with
          | .Name x p=>(match hx:U.slot x with
            | some i=>if hq:m≠ "heaps" /\m≠ "net" then(tA n U (a::as)).map λu=>⟨jB r i u.1,rfl,λX k=>by
                obtain⟨kk,K,hr⟩:=k.lk m r hm;obtain⟨a1,a2,a3⟩:=eQ k hx;obtain⟨h1,h2⟩:=u.2.2.2 a as rfl;exact Wo K hr hq a1 a2 a3 (u.2.1 X k) (Q1 h1) (h2 X cpos) (FU rfl hl.1 (BU (U:=U) u.2.2.2 X cpos) (by rw[ZA];have:=hl.2;lia))⟩else none
            | none=>none)
          | _=>none)
        | none=>
        if ho:EH o=true then(tE n U o).bind λw=>(tA n U (a::as)).bind λu=>match as with
          | []=>(Hb m).map λq=>⟨eM q.1.2 w.1 u.1,rfl,λX k=>Uh (ms ho q.2.1 hl.1 u.2.2.2 rfl) (q.2.2.2 X) q.2.2.1 (w.2.2 X k) (u.2.1 X k)⟩
          | [_]=>if h:m= "split" then some ⟨qG w.1 u.1,rfl,λX k=>MY (ms ho ⟨h▸PySem.F.slot_str_split,PySem.F.type_str_split⟩ hl.1 u.2.2.2 rfl) Ù (λa b d e=>by unfold rO at e;split at e;exact⟨_,rfl⟩;cases e) (w.2.2 X k) (u.2.1 X k)⟩else none
          | _=>none
        else none
       else none
    | _=>none
noncomputable def tE(n:Nat)(U:Tq)(e:Expr):Option (TE U e):=match n with
 | 0=>none
 | n+1=>match tK n U e with
  | some u=>some u
  | none=>match e with
  | .Name x _=>match h:U.slot x with
   | some i=>some ⟨Qd i,rfl,λX k=>let ⟨a,b,c⟩:=eQ k h;Rf a b c⟩
   | none=>if hg:U.gl x=true then match hc:look x U.cs with
    | some i=>some ⟨dC (MC i),rfl,λX k=>let ⟨t,hm⟩:=k.cs x i hc;let ⟨a,b,_⟩:=i6 k hg;Y1 a hm (ñ i t) b⟩
    | none=>none else none
  | .Constant (.int i) _ _=>some ⟨dC (.int i),rfl,λ_ _=>Nl⟩
  | .Constant (.bool b) _ _=>some ⟨dC (.bl b),rfl,λ_ _=>Uv⟩
  | .Constant .none _ _=>some ⟨dC .aT,rfl,λ_ _=>OH⟩
  | .Constant (.str x) _ _=>some ⟨dC (.str x),rfl,λ_ _=>My⟩
  | .BinOp a op b _=>(tE n U a).bind λu=>(tE n U b).bind λv=>match op with
   | .Add=>some ⟨Qk u.1 v.1,rfl,λX k=>UR (u.2.2 X k) (v.2.2 X k)⟩
   | .Mult=>if Vw a b=true then some ⟨w9 u.1 v.1,rfl,λX k=>þ (u.2.2 X k) (v.2.2 X k)⟩else some ⟨bS u.1 v.1,rfl,λX k=>XR (u.2.2 X k) (v.2.2 X k)⟩
   | .Sub=>some ⟨aB hH u.1 v.1,rfl,λX k=>yZ Z9 (u.2.2 X k) (v.2.2 X k)⟩
   | .FloorDiv=>some ⟨aB eJ u.1 v.1,rfl,λX k=>yZ PW (u.2.2 X k) (v.2.2 X k)⟩
   | .Mod=>some ⟨aB QX u.1 v.1,rfl,λX k=>yZ PO (u.2.2 X k) (v.2.2 X k)⟩
   | .RShift=>some ⟨aB EU u.1 v.1,rfl,λX k=>yZ TH (u.2.2 X k) (v.2.2 X k)⟩
   | _=>none
  | .UnaryOp .USub a _=>(tE n U a).map λu=>⟨wM u.1,rfl,λX k=>YR (u.2.2 X k)⟩
  | .UnaryOp .Not a _=>(tE n U a).map λu=>⟨GY u.1,rfl,λX k=>Rh (u.2.2 X k)⟩
  | .BoolOp .And [a] _=>(tE n U a).map λu=>⟨u.1,rfl,λX k=>HY (u.2.2 X k)⟩
  | .BoolOp .And (a::b::r) p=>(tE n U a).bind λu=>(tE n U (.BoolOp .And (b::r) p)).map λv=>⟨pK u.1 v.1,rfl,λX k=>Yn (u.2.2 X k) (v.2.2 X k)⟩
  | .BoolOp .Or [a] _=>(tE n U a).map λu=>⟨u.1,rfl,λX k=>HY (u.2.2 X k)⟩
  | .BoolOp .Or (a::b::r) p=>(tE n U a).bind λu=>(tE n U (.BoolOp .Or (b::r) p)).map λv=>⟨nM u.1 v.1,rfl,λX k=>ď (u.2.2 X k) (v.2.2 X k)⟩
  | .Compare a [op] [b] _=>(tE n U a).bind λu=>(tE n U b).bind λv=>(D7 op).map λg=>⟨aB g.1 u.1 v.1,rfl,λX k=>SN (g.2 X k.units) (u.2.2 X k) (v.2.2 X k) (Eh v.2.1 op)⟩
  | .IfExp c a b _=>(tT n U c).bind λg=>(tE n U a).bind λu=>(tE n U b).map λv=>⟨jP g.1 u.1 v.1,rfl,λX k=>Sn (g.2 X k) (u.2.2 X k) (v.2.2 X k)⟩
  | .Tuple es _ _=>(tA n U es).map λu=>⟨cJ u.1,rfl,λX k=>Z5 (u.2.1 X k)⟩
  | .List es _=>(tA n U es).map λu=>⟨Qx u.1,rfl,λX k=>UJ (u.2.1 X k)⟩
  | .Subscript a (.Slice lo hi none _) _=>(tE n U a).bind λu=>(tO n U lo).bind λl=>(tO n U hi).map λv=>⟨Q6 u.1 l.1 v.1,rfl,λX k=>Xx (u.2.2 X k) (l.2 X k) (v.2 X k)⟩
  | .Subscript a b _=>(tE n U a).bind λu=>(tE n U b).map λv=>⟨Qg u.1 v.1,rfl,λX k=>Yg (u.2.2 X k) (v.2.2 X k) (Ar v.2.1)⟩
  | .Call (.Name x p) args [] q=>if hg:U.gl x=true then(match h:look x U.Γ with
    | some r=>if hn:r.n<=args.length+r.dfl.length/\args.length<=r.n then(tA n U args).map λu=>⟨Qh r.n r.den (r.dfl.drop (r.dfl.length-(r.n-args.length))) u.1,rfl,λX k=>let ⟨_,_,K,hr⟩:=k.fns x r h;let ⟨g1,g2,_⟩:=i6 k hg;Y3 K hr g1 g2 hn (u.2.1 X k) (λa es e=>let ⟨h1,h2⟩:=u.2.2.2 a es e;⟨Q1 h1,h2 X q⟩) u.2.2.1⟩else none
    | none=>tB n U x p args q hg)else none
  | .Call (.Attribute (.Name x p) m apos) [] [] cpos=>if h:m= "bit_length" /\(apos.endLine == cpos.line)=true then(tE n U (.Name x p)).map λu=>⟨E7 u.1,rfl,λX k=>h.1▸Æ (u.2.2 X k) rfl h.2⟩else none
  | .ListComp elt [⟨tg,iter,ifs,0⟩] scope _=>(tC n U elt tg iter ifs scope).map λu=>⟨u.1,rfl,λX k=>(u.2 X k _).1⟩
  | _=>none
noncomputable def tC(n:Nat)(U:Tq)(elt tg iter:Expr)(ifs:List Expr)(scope:Scope):Option (TC U elt tg iter ifs scope):=match n with
 | 0=>none
 | n+1=>match ht:oR (iE U scope) tg with
  | some t=>if hc:(w8 U.toTh scope t && F9 ifs)=true then(tI n U tg iter).bind λi=>(FP n (iE U scope) ifs).bind λc=>(tE n (iE U scope) elt).map λu=>⟨Qz i.1 t (r9 U.toTh scope) c.1 u.1,λX k pos=>by
    obtain⟨S,K,q⟩:=AJ k (Bool.and_eq_true_iff.mp hc).1;have hin:=λcs C h=>(⟨uK (q cs C h) ht,c.2 _ (q cs C h),u.2.2 _ (q cs C h)⟩:SG _ tg t/\l5 _ ifs c.1/\SE _ elt u.1);exact⟨KO S K (i.2.2 X k) hin (oV i.2.1 X.env),λsl=>Î sl S K (i.2.2 X k) hin (oV i.2.1 X.env)⟩⟩else none
  | none=>none
noncomputable def tB(n:Nat)(U:Tq)(x:Str)(p:Pos)(args:List Expr)(q:Pos)(hg:U.gl x=true):Option (TE U (.Call (.Name x p) args [] q)):=match n with
  | 0=>none
  | n+1=>if hcm:U.calm=true then match args with
    | [a]=>match hr:FZ U.toTh x a with
     | some b=>(tE n U b).map λu=>⟨u9 u.1,rfl,λX k=>by
        obtain⟨p',q',rfl,rfl,h⟩:=S7 hr;exact ā (k.calm hcm) (cb k hg 'd' boot_list ⟨_,.inr rfl⟩ rfl iZ) (cb k h 'd' boot_range ⟨_,.inr rfl⟩ u.2.1 iZ) (u.2.2 X k)⟩
     | none=>
      (tE n U a).bind λu=>
       if h:x= "list" then some ⟨dList (aG u.1),rfl,λX k=>h▸ý (cb k (h▸hg) 'd' boot_list ⟨_,.inr rfl⟩ u.2.1 iZ) (fA (u.2.2 X k) jT (Q1 u.2.1))⟩else
       (Lk 1 x).map λg=>⟨aS g.1.2 (aG u.1),rfl,λX k=>let ⟨⟨h1,h2,h3⟩,h4⟩:=g.2;Jq (cb k hg h1 h2 h3 u.2.1 iZ) (h4 X (k.calm hcm)) (fA (u.2.2 X k) jT (Q1 u.2.1))⟩
    | [a,b]=>if h:x= "isinstance" then(tE n U a).bind λu=>match b with
        | .Name y _=>if hy:U.gl y=true then match hT:A3 y with
          | some T=>some ⟨mM T u.1,rfl,λX k=>let ⟨g1,g2,g3⟩:=i6 k hy;let ⟨t1,t2⟩:=RK hT;h▸Ă (cb k (h▸hg) 'd' boot_isinstance ⟨_,.inl rfl⟩ u.2.1 rfl) t1 g1 (k.mg y t2) g3 g2 (u.2.2 X k)⟩
          | none=>none else none
        | _=>none
      else(tE n U a).bind λu=>(tE n U b).bind λv=>
       (Lk 2 x).map λg=>⟨aS g.1.2 (bB u.1 v.1),rfl,λX k=>let ⟨⟨h1,h2,h3⟩,h4⟩:=g.2;Jq (cb k hg h1 h2 h3 u.2.1 (nZ v.2.1 iZ)) (h4 X (k.calm hcm)) (fA (u.2.2 X k) (fA (v.2.2 X k) jT (Q1 v.2.1)) (Q1 u.2.1))⟩
    | _=>none
    else none
noncomputable def tT(n:Nat)(U:Tq)(e:Expr):Option (TT U e):=match n with
 | 0=>none
 | n+1=>match e with
  | .UnaryOp .Not a _=>(tT n U a).map λu=>⟨g8 u.1,λX k=>R1 (u.2 X k)⟩
  | .BoolOp .And [a] _=>(tT n U a).map λu=>⟨u.1,λX k=>Rk (u.2 X k)⟩
  | .BoolOp .And (a::b::r) p=>(tT n U a).bind λu=>(tT n U (.BoolOp .And (b::r) p)).map λv=>⟨iN u.1 v.1,λX k=>US (u.2 X k) (v.2 X k)⟩
  | .BoolOp .Or [a] _=>(tT n U a).map λu=>⟨u.1,λX k=>VD (u.2 X k)⟩
  | .BoolOp .Or (a::b::r) p=>(tT n U a).bind λu=>(tT n U (.BoolOp .Or (b::r) p)).map λv=>⟨cL u.1 v.1,λX k=>YW (u.2 X k) (v.2 X k)⟩
  | .Compare a [.NotIn] [.Attribute (.Name x _) f _] _=>match hx:U.slot x with
   | some i=>if h:f= "heaps" /\U.bC=true then(tE n U a).map λu=>⟨Qf (gG true u.1 i),λX k=>let ⟨a,b,c⟩:=eQ k hx;h.1▸Od (k.bC h.2).1 a b c (u.2.2 X k)⟩else none
   | none=>none
  | .Compare a [.NotIn] [.Name x xp] _=>match hx:look x U.dc with
   | some kvs=>if hg:U.gl x=true then(tE n U a).map λu=>⟨mI kvs true u.1,λX k=>let ⟨g1,g2,_⟩:=i6 k hg;VT (k.dcs x kvs hx) g1 g2 (u.2.2 X k)⟩else none
   | none=>(tE n U a).bind λu=>(tE n U (.Name x xp)).bind λv=>(D7 .NotIn).map λg=>⟨Qf (aB g.1 u.1 v.1),λX k=>KU (g.2 X k.units) (u.2.2 X k) (v.2.2 X k) (Eh v.2.1 .NotIn)⟩
  | .Compare a [op] [b] _=>(tE n U a).bind λu=>(tE n U b).bind λv=>(D7 op).map λg=>⟨Qf (aB g.1 u.1 v.1),λX k=>KU (g.2 X k.units) (u.2.2 X k) (v.2.2 X k) (Eh v.2.1 op)⟩
  | e=>if h:ptr e=true then(tE n U e).map λu=>⟨Qf u.1,λX k=>NN (u.2.2 X k) (JW h X.env)⟩else none
noncomputable def FP(n:Nat)(U:Tq)(es:List Expr):Option (NQ U es):=match n with
 | 0=>none
 | n+1=>match es with
  | []=>some ⟨QJ,λ_ _=>Om⟩
  | [c]=>(tT n U c).map λu=>⟨u.1,λX k=>Y9 (u.2 X k)⟩
  | _=>none
noncomputable def tA(n:Nat)(U:Tq)(es:List Expr):Option (TA U es):=match n with
 | 0=>none
 | n+1=>match es with
  | []=>some ⟨Qq,λ_ _=>jT,λ_=>rfl,nofun⟩
  | e::es=>(tE n U e).bind λu=>(tA n U es).map λv=>⟨Qb u.1 v.1,λX k=>fA (u.2.2 X k) (v.2.1 X k) (Q1 u.2.1),nofun,λa es' h=>by cases h;exact⟨u.2.1,xF (U:=U.toTh) v.2.2.2⟩⟩
noncomputable def tO(n:Nat)(U:Tq)(e:Option Expr):Option (TO U e):=match n with
 | 0=>none
 | n+1=>match e with
  | none=>some ⟨Q3,λ_ _=>Wy⟩
  | some e=>(tE n U e).map λu=>⟨QL u.1,λX k=>Uu (u.2.2 X k)⟩
noncomputable def tI(n:Nat)(U:Tq)(tg e:Expr):Option (TI U tg e):=match n with
  | 0=>none
  | n+1=>if hcm:U.calm=true then match e with
    | .Call (.Name x p) args [] q=>if hg:(U.gl x && (look x U.Γ).isNone)=true then(match args with
        | [a]=>if h:x= "range" then(tE n U a).map λu=>⟨jD u.1,rfl,λX k=>h▸Ni (k.calm hcm) (cb k (h▸(Bool.and_eq_true_iff.mp hg).1) 'd' boot_range ⟨_,.inr rfl⟩ u.2.1 iZ) (u.2.2 X k)⟩else
          if h:x= "enumerate" then(match tg with
            | .Tuple .. =>if hio:U.io=false then(tE n U a).map λu=>⟨qS u.1,rfl,λX k=>h▸Vj (k.calm hcm) (k.io hio) (cb k (h▸(Bool.and_eq_true_iff.mp hg).1) 'd' boot_enumerate ⟨_,.inr rfl⟩ u.2.1 iZ) (u.2.2 X k)⟩else none
            | _=>none)else
          (tE n U (.Call (.Name x p) [a] [] q)).bind λu=>if hio:U.io=false then some ⟨QD u.1,rfl,λX k=>uZ (k.calm hcm) (k.io hio) (u.2.2 X k)⟩else none
        | [a,b,c]=>
          if h:x= "range" then(tE n U a).bind λu=>(tE n U b).bind λv=>(tE n U c).map λw=>⟨FG u.1 v.1 w.1,rfl,λX k=>h▸SV (k.calm hcm) (cb k (h▸(Bool.and_eq_true_iff.mp hg).1) 'd' boot_range ⟨_,.inr rfl⟩ u.2.1 (nZ v.2.1 (nZ w.2.1 iZ))) (Q1 v.2.1) (Q1 w.2.1) (u.2.2 X k) (v.2.2 X k) (w.2.2 X k)⟩else
          if h:x= "zip" then(match tg with
            | .Tuple .. =>if hio:U.io=false then(tE n U a).bind λu=>(tE n U b).bind λv=>(tE n U c).map λw=>⟨FE u.1 v.1 w.1,rfl,λX k=>h▸NI (k.calm hcm) (k.io hio) (cb k (h▸(Bool.and_eq_true_iff.mp hg).1) 'd' boot_zip ⟨_,.inr rfl⟩ u.2.1 (nZ v.2.1 (nZ w.2.1 iZ))) (Q1 v.2.1) (Q1 w.2.1) (u.2.2 X k) (v.2.2 X k) (w.2.2 X k)⟩else none
            | _=>none)else
          (tE n U (.Call (.Name x p) [a,b,c] [] q)).bind λu=>if hio:U.io=false then some ⟨QD u.1,rfl,λX k=>uZ (k.calm hcm) (k.io hio) (u.2.2 X k)⟩else none
        | [a,b]=>
          if h:x= "range" then(tE n U a).bind λu=>(tE n U b).map λv=>⟨oQ u.1 v.1,rfl,λX k=>h▸Yf (k.calm hcm) (cb k (h▸(Bool.and_eq_true_iff.mp hg).1) 'd' boot_range ⟨_,.inr rfl⟩ u.2.1 (nZ v.2.1 iZ)) (Q1 v.2.1) (u.2.2 X k) (v.2.2 X k)⟩else
          if h:x= "zip" /\V1 U a=true then(match tg with
            | .Tuple .. =>(tE n U a).bind λu=>(tE n U b).map λv=>⟨fZ u.1 v.1,rfl,λX k=>h.1▸ô (k.calm hcm) (cb k (h.1▸(Bool.and_eq_true_iff.mp hg).1) 'd' boot_zip ⟨_,.inr rfl⟩ u.2.1 (nZ v.2.1 iZ)) (Q1 v.2.1) (u.2.2 X k) (v.2.2 X k)⟩
            | _=>none)else
          if h:x= "zip" then(match tg with
            | .Tuple .. =>if hio:U.io=false then(tE n U a).bind λu=>(tE n U b).map λv=>⟨iC u.1 v.1,rfl,λX k=>h▸RO (k.calm hcm) (k.io hio) (cb k (h▸(Bool.and_eq_true_iff.mp hg).1) 'd' boot_zip ⟨_,.inr rfl⟩ u.2.1 (nZ v.2.1 iZ)) (Q1 v.2.1) (u.2.2 X k) (v.2.2 X k)⟩else none
            | _=>none)else
          (tE n U (.Call (.Name x p) [a,b] [] q)).bind λu=>if hio:U.io=false then some ⟨QD u.1,rfl,λX k=>uZ (k.calm hcm) (k.io hio) (u.2.2 X k)⟩else none
        | args=>(tE n U (.Call (.Name x p) args [] q)).bind λu=>if hio:U.io=false then some ⟨QD u.1,rfl,λX k=>uZ (k.calm hcm) (k.io hio) (u.2.2 X k)⟩else none)
      else(tE n U (.Call (.Name x p) args [] q)).bind λu=>if hio:U.io=false then some ⟨QD u.1,rfl,λX k=>uZ (k.calm hcm) (k.io hio) (u.2.2 X k)⟩else none
    | e=>(tE n U e).bind λu=>if hio:U.io=false then some ⟨QD u.1,u.2.1,λX k=>uZ (k.calm hcm) (k.io hio) (u.2.2 X k)⟩else none
    else
     match e with
     | .Call (.Name x p) [a] [] q=>if h:x= "range" /\U.gl x=true then match hp:U.pin with
       | some j=>(tE n U a).map λu=>⟨lB j u.1,rfl,λX k=>by
          obtain⟨ea,he⟩:=k.pn1 j hp;exact Ï (k.hh (by simpa using hcm) j ea he) he (cb k h.2 (h.1▸by decide+kernel) (h.1▸boot_range) ⟨_,.inr rfl⟩ u.2.1 iZ) (u.2.2 X k)⟩
       | none=>none else none
     | _=>
      none
end
end HN
namespace HN
open PySem PySem.Spec PyProof.Rows HS
abbrev T1(U:Tq)(st:Stmt):={f:DS // ∀X,cV X U->S1 X st f}
abbrev Ts(U:Tq)(st:List Stmt):={f:DS // ∀X,cV X U->SS X st f}
abbrev TP(U:Tq)(e:Expr):={q:Nat×DP // (∀X,cV X U->qH X e q.1 q.2)/\∀m env w,attributeBase e m env w=w}
def Lu{e:Expr}(h:pl e=true):Å e=false:=by cases e<;>first | rfl | cases h
section
variable {X:Cx}{o a b:Expr}{m:Str}{apos cpos:Pos}{args:List Expr}{i':String}
def mc(ho:∀m env w,attributeBase o m env w=w)(hs:Slot "list" m i')(ht:typeOf (.builtin i')=pure (.type "method_descriptor"))(hl:(apos.endLine == cpos.line)=true)(ha:∀a∈args,pl a=true)(hn:decide (args.length+([]:List Keyword).length+(if([]:List Keyword).isEmpty then 0 else 1)<30)=true):Mc X o m apos args cpos i':=by
 have st:(backTo cpos (starEach args X.env)).all (λx=> !x.1)=true/\(backTo cpos (starEach args X.env)).any (·.1)=false:=by
  clear hn
  induction args with
  | nil=>exact⟨rfl,rfl⟩
  | cons a es ih=>
   rw[show starEach (a::es) X.env=_ from Q1 (ha a (.head _))];exact ih λb m=>ha b (.tail _ m)
 exact⟨hs,ht,ho ..,by rw[st.1];exact hn,hl,st.2,λa es e=>Q1 (ha a (e▸ .head _))⟩
end
def tP(n:Nat)(U:Tq)(e:Expr):Option (TP U e):=match n with
 | 0=>none
 | n+1=>match e with
  | .Name x _=>match h:U.slot x with
   | some i=>some ⟨(i,cN),λX k=>let ⟨a,b,c⟩:=eQ k h;Ĕ a b c,λ_ _ _=>rfl⟩
   | none=>none
  | .Subscript a b _=>(tP n U a).bind λq=>(tE n U b).map λv=>⟨(q.1.1,tR q.1.2 v.1),λX k=>S0 (q.2.1 X k) (v.2.2 X k) (Ar v.2.1),λ_ _ _=>rfl⟩
  | _=>none
def in1{a:Expr}(h:pl a=true):∀b∈[a],pl b=true:=bF h nm
def tM(n:Nat)(U:Tq)(o:Expr)(m:Str)(apos:Pos)(args:List Expr)(cpos pos:Pos)(hl:(apos.endLine == cpos.line)=true):Option (T1 U (.Expr (.Call (.Attribute o m apos) args [] cpos) pos)):=match args with
 | []=>(tP n U o).bind λq=>
  none
 | [e]=>if h:m= "append" then
   (tP n U o).bind λq=>(tE n U e).map λu=>⟨lA q.1.1 q.1.2 u.1,λX k=>h▸Yp (mc q.2.2 DC PySem.F.type_list_append hl (in1 u.2.1) rfl) (q.2.1 X k) (u.2.2 X k) (Q1 u.2.1)⟩
  else
  if h:m= "extend" then(tP n U o).bind λq=>(tE n U e).map λu=>⟨oI q.1.1 q.1.2 u.1,λX k=>h▸á (mc q.2.2 CS DU hl (in1 u.2.1) rfl) (q.2.1 X k) (u.2.2 X k) (Q1 u.2.1)⟩else
  none
 | _=>none
def Rn:(op:Operator)->Option {g:D->D->Option D // (∀X:Cx,Op X (inplaceOp op) g)/\∀a b d,g a b=some d->d.flat=true}
 | .Add=>some ⟨gI λi j=>some (.int (i+j)),λ_=>S2,λa b d h=>by obtain⟨i,j,_,_,e⟩:=B3 h;cases e;rfl⟩
 | .Sub=>some ⟨hH,λ_=>Ď,λa b d h=>by obtain⟨i,j,_,_,e⟩:=B3 h;cases e;rfl⟩
 | _=>none
def VH{X:Cx}{x:Str}:S1 X (.Expr (.Constant (.str x) j p) pos) Qc:=λex hs U F s o rel e=>by
 cases e;exact wpAny_Expr (Calls.Constant_str (show Fl X ex hs s (.nx U) .next {s with toks:=s.toks+1}from⟨.of .tok,rfl,F,rel.ext .tok⟩)) rel.quiet
def Z8{e:Expr}(h:GC e=true):qE e=true:=by cases e<;>first | rfl | cases h
def vV(g:DT)(f:DS):DS:=λU=>i9 g f 300 U
def NL{X:Cx}{c:Expr}{g:DT}{f:DS}{body:List Stmt}{pos:Pos}(hc:ST X c g)(hb:SS X body f):S1 X (.While c body [] pos) (vV g f):=λex hs U F s o rel e=>TU hc hb rel (HV.mpr ⟨300,e⟩)
mutual
noncomputable def tS(n:Nat)(U:Tq)(st:Stmt):Option (T1 U st):=match n with
 | 0=>none
 | n+1=>match st with
  | .Pass _=>some ⟨Qc,λ_ _=>Yl⟩
  | .Break _=>some ⟨Jn,λ_ _=>RX⟩
  | .Continue _=>some ⟨KZ,λ_ _=>Te⟩
  | .Raise _ _ _=>some ⟨Qn,λ_ _=>zV⟩
  | .Return none _=>some ⟨xD,λ_ _=>TQ⟩
  | .Return (some e) _=>(tE n U e).map λu=>⟨Qv u.1,λX k=>W4 (u.2.2 X k)⟩
  | .Expr (.Constant (.str _) _ _) _=>some ⟨Qc,λ_ _=>VH⟩
  | .Expr (.Call (.Attribute o m apos) args [] cpos) pos=>if h:(apos.endLine == cpos.line)=true then tM n U o m apos args cpos pos h else none
  | .Expr (.Call (.Name x p) args [] cpos) _=>(tE n U (.Call (.Name x p) args [] cpos)).map λu=>⟨cP u.1,λX k=>SQ (u.2.2 X k) rfl⟩
  | .Assign [.Name x _] e _=>match hx:U.lQ x with
   | some i=>if ha:GC e=true then(tE n U e).map λu=>⟨Qm i (QP u.1),λX k=>Ea (UC (u.2.2 X k)) (l7 k hx).1 (pQ (Z8 ha))⟩
    else if hc:qE e=true then(tE n U e).map λu=>⟨Qm i u.1,λX k=>Ea (u.2.2 X k) (l7 k hx).1 (pQ hc)⟩
    else match e with
     | .ListComp elt [⟨tg,iter,ifs,0⟩] scope _=>(tC n U elt tg iter ifs scope).map λu=>⟨Qm i u.1,λX k=>(u.2 X k _).2 (l7 k hx).1⟩
     | _=>none
   | none=>none
  | .Assign [.Subscript a i _] e _=>
   (tP n U a).bind λq=>(tE n U i).bind λv=>(tE n U e).map λu=>⟨gC q.1.1 q.1.2 v.1 u.1,λX k=>Y6 (u.2.2 X k) (q.2.1 X k) (v.2.2 X k) W0 (by cases e<;>rfl) (λ_=>by have:=Lu v.2.1;cases i<;>first | rfl | cases this) rfl⟩
  | .AugAssign (.Subscript a i _) op e _=>(tP n U a).bind λq=>(tE n U i).bind λv=>(Rn op).bind λg=>(tE n U e).map λu=>⟨pM g.1 q.1.1 q.1.2 v.1 u.1,λX k=>Wf (g.2.1 X) (u.2.2 X k) (q.2.1 X k) (v.2.2 X k) (λ_ _ _=>by have:=Lu v.2.1;cases i<;>first | rfl | cases this)⟩
  | .If c a b _=>(tT n U c).bind λg=>(kK n U a).bind λu=>(kK n U b).map λv=>⟨aQ g.1 u.1 v.1,λX k=>L8 (g.2 X k) (u.2 X k) (v.2 X k)⟩
  | .For tg iter body [] _=>match ht:oR U tg with
   | some t=>(tI n U tg iter).bind λi=>(kK n U body).map λu=>⟨bV i.1 t u.1,λX k=>Ir (i.2.2 X k) (uK k ht) (u.2 X k) (oV i.2.1 X.env)⟩
   | none=>none
  | .While c body [] _=>(tT n U c).bind λg=>(kK n U body).map λu=>⟨vV g.1 u.1,λX k=>NL (g.2 X k) (u.2 X k)⟩
  | _=>none
noncomputable def kK(n:Nat)(U:Tq)(sts:List Stmt):Option (Ts U sts):=match n with
  | 0=>none
  | n+1=>match sts with
    | []=>some ⟨Qc,λ_ _=>GI⟩
    | st::r=>
     match hq:BB (st::r)with
     | some q=>(match hw:U.lQ q.w with
       | some w=>(match ha:U.slot q.a with
         | some a=>(match hb:U.slot q.b with
           | some b=>if hww:U.slot q.w=some w then(tT n U q.c).bind λc=>(tE n U q.e).bind λu=>(kK n U q.r).map λv=>⟨Qa (mF w a b c.1 u.1) v.1,λX k=>by
               obtain⟨p1,p2,p3,p4,p5,p6,apos,cpos,p7,hs,hl⟩:=KI hq;rw[hs];exact ĕ (c.2 X k) (eQ k ha) (eQ k hb) (l7 k hw).1 (eQ k hww) (u.2.2 X k) (Q1 u.2.1) (mc (λ_ _ _=>rfl) CS DU hl (in1 u.2.1) rfl) (v.2 X k)⟩else none
           | none=>none)
         | none=>none)
       | none=>none)
     | none=>
      (kK n U r).map λv=>match tS n U st with
        | some u=>⟨Qa u.1 v.1,λX k=>A2 (u.2 X k) (v.2 X k)⟩
        | none=>⟨Qa Qn v.1,λX k=>A2 zV (v.2 X k)⟩
end
end HN
namespace HN
open PySem PySem.Spec PyProof.Rows HS
abbrev Ä(U:Tq)(e:Expr):={f:DX // pl e=true/\∀X,cV X U->XB X e f}
abbrev wU(U:Tq)(e:Expr):={f:DX // pl e=true/\∀X,cV X U->XE X e f}
abbrev Yt(U:Tq)(es:List Expr):={f:DX // ∀X,cV X U->XA X es f}
abbrev Bp(U:Tq)(st:Stmt):={f:DX // ∀X,cV X U->X1 X st f}
abbrev AH(U:Tq)(st:List Stmt):={f:DX // ∀X,cV X U->XS X st f}
def xB(n:Nat)(U:Tq)(e:Expr):Option (Ä U e):=match e with
 | .Call (.Name x p) (a::as) [] q=>if hg:U.gl x=true then match h:look x U.Γx with
  | some r=>(tA n U (a::as)).map λu=>⟨cK r.1 r.2 u.1,rfl,λX k=>let ⟨_,K,hr⟩:=k.xf x r h;let ⟨g1,g2,_⟩:=i6 k hg;let ⟨h1,h2⟩:=u.2.2.2 a as rfl;OD K hr g1 g2 (u.2.1 X k) (Q1 h1) (h2 X q)⟩
  | none=>none else none
 | .Call (.Attribute (.Name y p) m apos) (a::as) [] q=>if hl:(apos.endLine == q.line)=true/\as.length<20/\(m≠ "heaps" /\m≠ "net")then match h:look m U.Γm with
  | some r=>(match hy:U.slot y with
   | some i=>(tA n U (a::as)).map λu=>⟨gH r.1 r.2 i u.1,rfl,λX k=>by
     obtain⟨kk,K,hr⟩:=k.xm m r h;obtain⟨a1,a2,a3⟩:=eQ k hy;obtain⟨h1,h2⟩:=u.2.2.2 a as rfl;exact Oa K hr hl.2.2 a1 a2 a3 (u.2.1 X k) (Q1 h1) (h2 X q) (FU rfl hl.1 (BU (U:=U) u.2.2.2 X q) (by rw[ZA];have:=hl.2.1;lia))⟩
   | none=>none)
  | none=>none else none
 | _=>none
def Dd(U:Tq)(x:Str):Bool:=(look x U.Γ).isSome || (look x U.Γx).isSome
def UY{X:Cx}{U:Tq}{x:Str}(k:cV X U)(h:Dd U x=true):∃f,X.g.mg x=some (.ref f)/\PySem.W.keepIn X.g.K (.ref f)=true:=by
 unfold Dd at h;rw[xZ]at h;rcases h with h | h
 .obtain⟨r,h⟩:=xV.mp h;obtain⟨_,_,⟨f,_,_,_,_,h1,h2,_⟩,_⟩:=k.fns x r h;exact⟨f,h1,h2⟩
 .obtain⟨r,h⟩:=xV.mp h;obtain⟨_,⟨f,_,_,_,_,h1,h2,_⟩,_⟩:=k.xf x r h;exact⟨f,h1,h2⟩
def TM{U:Tq}{e:Expr}:Option (wU U e)->Option (wU U e)->Option (wU U e)
 | some u,some v=>some ⟨qO u.1 v.1,u.2.1,λX k=>XY (u.2.2 X k) (v.2.2 X k)⟩
 | some u,none=>some u
 | none,v=>v
def AD{U:Tq}{e:Expr}:Option (wU U e)->{f:DX // ∀X,cV X U->XE X e f}
 | some u=>⟨u.1,u.2.2⟩
 | none=>⟨aJ,λ_ _=>TZ⟩
def KC{es:List Expr}(h:es.all pl=true):∀a es',es=a::es'->pl a=true/\∀(X:Cx) pos,(backTo pos (starEach es' X.env)).any (·.1)=false:=by
 induction es with
 | nil=>exact nofun
 | cons e es ih=>
  rintro a es' h';cases h';rw[E3,Ze]at h;exact⟨h.1,λX pos=>xF (U:={N:=[],sc:=[],Γ:=[],cs:=[]}) (ih h.2) X pos⟩
mutual
noncomputable def xE(n:Nat)(U:Tq)(e:Expr):Option (wU U e):=match n with
 | 0=>none
 | n+1=>TM (match e with
  | .Call (.Name x p) (a::as) [] q=>if hg:(U.gl x && Dd U x && (a::as).all pl)=true then(xA n U (a::as)).map λw=>⟨w.1,rfl,λX k=>by
    rw[Ze,Ze]at hg;obtain⟨f,h1,h2⟩:=UY k hg.1.2;obtain⟨g1,g2,_⟩:=i6 k hg.1.1;obtain⟨s1,s2⟩:=KC hg.2 a as rfl;exact Ro h1 h2 g1 g2 (w.2 X k) (Q1 s1) (s2 X q)⟩else none
  | .Call (.Attribute (.Constant (.str z) j cp) m apos) [a] [] cpos=>if hl:(apos.endLine == cpos.line)=true/\[a].all pl=true then(xA n U [a]).bind λw=>(Hb m).map λq=>⟨w.1,rfl,λX k=>OC (ms rfl q.2.1 hl.1 (KC hl.2) rfl) My (w.2 X k)⟩else none
  | .ListComp elt [⟨tg,iter,ifs,0⟩] scope pos=>match ht:oR (iE U scope) tg with
   | some t=>if hc:(w8 U.toTh scope t && F9 ifs)=true then(match xE n U iter with
     | some w=>some ⟨w.1,rfl,λX k=>Uk (AJ k (Bool.and_eq_true_iff.mp hc).1).1 (w.2.2 X k) (oV w.2.1 X.env)⟩
     | none=>(xB n (iE U scope) elt).bind λw=>(tI n U tg iter).bind λi=>(FP n (iE U scope) ifs).bind λc=>(tE n (iE U scope) elt).map λu=>⟨o5 i.1 t (r9 U.toTh scope) c.1 u.1 w.1,rfl,λX k=>by
      obtain⟨S,K,q⟩:=AJ k (Bool.and_eq_true_iff.mp hc).1;exact IM S K (i.2.2 X k) (λcs C h=>⟨uK (q cs C h) ht,c.2 _ (q cs C h),u.2.2 _ (q cs C h)⟩) (λcs C h=>w.2.2 _ (q cs C h)) (oV i.2.1 X.env)⟩)else none
   | none=>none
  | .BinOp a _ _ _=>(xE n U a).map λw=>⟨w.1,rfl,λX k=>Yz (w.2.2 X k)⟩
  | .List es _=>(xA n U es).map λw=>⟨w.1,rfl,λX k=>WV (w.2 X k)⟩
  | .Tuple es _ _=>(xA n U es).map λw=>⟨w.1,rfl,λX k=>Sg (w.2 X k)⟩
  | .IfExp c a b _=>(tT n U c).bind λg=>match xE n U a,xE n U b with
   | none,none=>none
   | u,v=>some ⟨bG g.1 (AD u).1 (AD v).1,rfl,λX k=>NU (g.2 X k) ((AD u).2 X k) ((AD v).2 X k)⟩
  | _=>none) ((xB n U e).map λu=>⟨u.1,u.2.1,λX k=>Yx (u.2.2 X k)⟩)
noncomputable def xA(n:Nat)(U:Tq)(es:List Expr):Option (Yt U es):=match n with
 | 0=>none
 | n+1=>match es with
  | []=>none
  | e::es=>match xE n U e,xA n U es with
   | none,none=>none
   | some u,none=>some ⟨u.1,λX k=>Fv (u.2.2 X k) (Q1 u.2.1)⟩
   | none,some v=>(tE n U e).map λw=>⟨A4 w.1 v.1,λX k=>KN (w.2.2 X k) (v.2 X k) (Q1 w.2.1)⟩
   | some u,some v=>(tE n U e).map λw=>⟨qO u.1 (A4 w.1 v.1),λX k=>Wm (Fv (u.2.2 X k) (Q1 u.2.1)) (KN (w.2.2 X k) (v.2 X k) (Q1 w.2.1))⟩
end
def xR(n:Nat)(U:Tq)(st:Stmt):Option (Bp U st):=match st with
 | .Raise (some (.Call (.Name x _) [e] [] _)) none _=>if h:(U.gl x && U.cls.contains x && U.calm)=true then(tA n U [e]).map λu=>⟨cR x u.1,λX k=>by
   simp only[Ze]at h;obtain⟨g1,g2,_⟩:=i6 k h.1.1;exact W2 (k.calm h.2) g1 (k.cl x (by simpa using h.1.2)) g2 (u.2.1 X k) (Q1 (u.2.2.2 e [] rfl).1)⟩else none
 | _=>none
def zX{U:Tq}{st:Stmt}:Option (Bp U st)->Bp U st
 | some u=>u
 | none=>⟨aJ,λ_ _=>vA⟩
mutual
noncomputable def x1(n:Nat)(U:Tq)(st:Stmt):Option (Bp U st):=match n with
 | 0=>none
 | n+1=>match st with
  | .Raise v c p=>xR n U (.Raise v c p)
  | .Expr e _=>if h:qE e=true then some (match xE n U e with
   | some u=>⟨u.1,λX k=>Ñ (u.2.2 X k) (pQ h)⟩
   | none=>⟨aJ,λ_ _=>vA⟩)else none
  | .Return (some e) _=>some (match xE n U e with
   | some u=>⟨u.1,λX k=>Z7 (u.2.2 X k)⟩
   | none=>⟨aJ,λ_ _=>vA⟩)
  | .Assign [.Name x _] e _=>if h:qE e=true then some (match xE n U e with
   | some u=>⟨u.1,λX k=>JH (u.2.2 X k) (pQ h)⟩
   | none=>⟨aJ,λ_ _=>vA⟩)
   else match e with
    | .ListComp elt [⟨tg,iter,ifs,0⟩] scope pos=>(match ht:oR (iE U scope) tg with
     | some t=>if hc:(w8 U.toTh scope t && F9 ifs)=true then(match xB n (iE U scope) elt with
      | some w=>(tI n U tg iter).bind λi=>(FP n (iE U scope) ifs).bind λc=>(tE n (iE U scope) elt).map λu=>⟨o5 i.1 t (r9 U.toTh scope) c.1 u.1 w.1,λX k=>by
       obtain⟨S,K,q⟩:=AJ k (Bool.and_eq_true_iff.mp hc).1;exact ë S K (i.2.2 X k) (λcs C h=>⟨uK (q cs C h) ht,c.2 _ (q cs C h),u.2.2 _ (q cs C h)⟩) (λcs C h=>w.2.2 _ (q cs C h)) (oV i.2.1 X.env)⟩
      | none=>some ⟨aJ,λ_ _=>vA⟩)else none
     | none=>none)
    | _=>none
  | .If c a b _=>(tT n U c).bind λg=>(xS n U a).bind λu=>(xS n U b).map λv=>⟨bG g.1 u.1 v.1,λX k=>ä (g.2 X k) (u.2 X k) (v.2 X k)⟩
  | .For tg iter body [] _=>if hio:U.io=false then match ht:oR U tg with
   | some t=>(tI n U tg iter).bind λi=>(kK n U body).bind λu=>(xS n U body).map λv=>⟨iH i.1 t u.1 v.1,λX k=>ö (k.io hio) (i.2.2 X k) (uK k ht) (u.2 X k) (v.2 X k) (oV i.2.1 X.env)⟩
   | none=>none else none
  | _=>some ⟨aJ,λ_ _=>vA⟩
noncomputable def xS(n:Nat)(U:Tq)(sts:List Stmt):Option (AH U sts):=match n with
  | 0=>none
  | n+1=>match sts with
    | []=>some ⟨aJ,λ_ _=>PK⟩
    | st::r=>if hio:U.io=false then
     match hq:BB (st::r)with
     | some q=>(match hw:U.lQ q.w with
       | some w=>(match ha:U.slot q.a with
         | some a=>(match hb:U.slot q.b with
           | some b=>if hww:U.slot q.w=some w/\q.r.isEmpty=true then(tT n U q.c).bind λc=>(tE n U q.e).bind λu=>(xE n U q.e).map λv=>⟨Qo (mF w a b c.1 u.1) (EY w a b c.1 v.1) aJ,λX k=>by
               obtain⟨p1,p2,p3,p4,p5,p6,apos,cpos,p7,hs,hl⟩:=KI hq;rw[hs,FF.mp hww.2];exact Vk (k.io hio) (c.2 X k) (eQ k ha) (eQ k hb) (l7 k hw).1 (eQ k hww.1) (v.2.2 X k) (Q1 u.2.1) (mc (λ_ _ _=>rfl) CS DU hl (in1 u.2.1) rfl)⟩else none
           | none=>none)
         | none=>none)
       | none=>none)
     | none=>
      (xS n U r).map λw=>(match tS n U st with
        | some u=>⟨Qo u.1 (zX (x1 n U st)).1 w.1,λX k=>IP (k.io hio) (u.2 X k) ((zX (x1 n U st)).2 X k) (w.2 X k)⟩
        | none=>⟨Qo Qn (zX (x1 n U st)).1 w.1,λX k=>IP (k.io hio) zV ((zX (x1 n U st)).2 X k) (w.2 X k)⟩)
      else none
end
end HN
namespace HN
open PySem PySem.Spec PyProof.Rows HS
abbrev IQ(U:Tq)(e:Expr):={f:fH // ∀X,cV X U->iK X e f}
abbrev VE(U:Tq)(e:Expr):={f:fK // ∀X,cV X U->iD X e f}
def Ed(n:Nat)(U:Tq)(e:Expr):Option (IQ U e):=match e with
 | .Call (.Name x p) (a::as) [] q=>if hg:U.gl x=true/\U.top=true then match h:look x U.ΓE with
  | some r=>(tA n U (a::as)).map λu=>⟨QT r u.1,λX k=>let ⟨_,K,hr⟩:=k.de x r h;let ⟨g1,g2,_⟩:=i6 k hg.1;let ⟨h1,h2⟩:=u.2.2.2 a as rfl;NK K hr (k.dk2 hg.2).2 g1 g2 (u.2.1 X k) (Q1 h1) (h2 X q)⟩
  | none=>(match h:look x U.ΓD with
   | some r=>(match a with
    | .Name y p'=>(match hy:U.slot y with
     | some i=>if hio:U.io=true then(tA n U as).map λu=>⟨QH r i u.1,λX k=>by
       obtain⟨_,K,hr⟩:=k.dd x r h;obtain⟨g1,g2,_⟩:=i6 k hg.1;obtain⟨a1,a2,a3⟩:=eQ k hy;exact Ui K hr (k.dk2 hg.2).2 (k.io1 hio) g1 g2 a1 a2 a3 (u.2.1 X k) (Q1 rfl) (xF (U:=U.toTh) u.2.2.2 X q)⟩else none
     | none=>none)
    | _=>none)
   | none=>none)else none
 | .Call (.Attribute (.Name y p) m apos) (a::as) [] q=>if hl:((apos.endLine == q.line)=true/\as.length<20/\(m≠ "heaps" /\m≠ "net"))/\U.top=true/\U.io=true then match h:look m U.ΓM with
  | some r=>(match hy:U.slot y with
   | some i=>(tA n U (a::as)).map λu=>⟨QH r i u.1,λX k=>by
     obtain⟨kk,K,hr⟩:=k.dm m r h;obtain⟨a1,a2,a3⟩:=eQ k hy;obtain⟨h1,h2⟩:=u.2.2.2 a as rfl;exact Np K hr (k.dk2 hl.2.1).2 (k.io1 hl.2.2) hl.1.2.2 a1 a2 a3 (u.2.1 X k) (Q1 h1) (h2 X q) (FU rfl hl.1.1 (BU (U:=U) u.2.2.2 X q) (by rw[ZA];have:=hl.1.2.1;lia))⟩
   | none=>none)
  | none=>none else none
 | _=>none
def dE(n:Nat)(U:Tq)(e:Expr):Option (IQ U e):=match n with
 | 0=>none
 | n+1=>match e with
  | .BoolOp .And [a] _=>(dE n U a).map λu=>⟨u.1,λX k=>è (u.2 X k)⟩
  | .BoolOp .And (a::b::r) p=>(dE n U a).bind λu=>(dE n U (.BoolOp .And (b::r) p)).map λv=>⟨gT u.1 v.1,λX k=>Ve (u.2 X k) (v.2 X k)⟩
  | e=>match Ed n U e with
   | some u=>some u
   | none=>(tE n U e).map λu=>⟨dW u.1,λX k=>R4 (u.2.2 X k)⟩
def dT(n:Nat)(U:Tq)(e:Expr):Option (VE U e):=match n with
 | 0=>none
 | n+1=>match tT n U e with
  | some u=>some ⟨kT u.1,λX k=>OJ (u.2 X k)⟩
  | none=>match e with
   | .UnaryOp .Not a _=>(dT n U a).map λu=>⟨QY u.1,λX k=>WK (u.2 X k)⟩
   | .BoolOp .And [a] _=>(dT n U a).map λu=>⟨u.1,λX k=>RN (u.2 X k)⟩
   | .BoolOp .And (a::b::r) p=>(dT n U a).bind λu=>(dT n U (.BoolOp .And (b::r) p)).map λv=>⟨mR u.1 v.1,λX k=>WT (u.2 X k) (v.2 X k)⟩
   | .BoolOp .Or [a] _=>(dT n U a).map λu=>⟨u.1,λX k=>Sy (u.2 X k)⟩
   | .BoolOp .Or (a::b::r) p=>(dT n U a).bind λu=>(dT n U (.BoolOp .Or (b::r) p)).map λv=>⟨dF u.1 v.1,λX k=>ò (u.2 X k) (v.2 X k)⟩
   | e=>if h:ptr e=true then(dE n U e).map λu=>⟨QW u.1,λX k=>PF (u.2 X k) (JW h X.env)⟩else none
def dQ(n:Nat)(U:Tq)(st:Stmt):Option (T1 U st):=if hio:U.io=true/\U.bC=true/\U.top=true then match st with
 | .Expr (.Call (.Attribute (.Attribute (.Name x p) f p') m apos) [a] [] cpos) pos=>if h:(apos.endLine == cpos.line)=true/\f= "heaps" /\m= "pop" then match hx:U.slot x with
  | some i=>(tE n U a).map λu=>⟨kE i u.1,λX k=>by
    obtain⟨hl,rfl,rfl⟩:=h;obtain⟨a1,a2,a3⟩:=eQ k hx;have on:One X a []:=Q1 u.2.1;exact Of (k.io1 hio.1) (k.bC hio.2.1).1 a1 a2 a3 ⟨PySem.F.slot_dict_pop,PySem.F.type_dict_pop,rfl,by rw[on];rfl,hl,by rw[on];rfl,on⟩ (u.2.2 X k)⟩
  | none=>none else none
 | .Expr (.Call f as ks q) pos=>match Ed n U (.Call f as ks q)with
  | some u=>some ⟨l4 u.1,λX k=>W5 (u.2 X k) rfl⟩
  | none=>none
 | .Assign [.Attribute (.Name x p) f p'] e pos=>match hx:U.slot x with
  | some i=>if h:f= "net" then(if hc:qE e=true then(tE n U e).map λu=>⟨jX i u.1,λX k=>let ⟨a1,a2,a3⟩:=eQ k hx;h▸Yu (k.io1 hio.1) (k.bC hio.2.1).1 a1 a2 a3 (u.2.2 X k) (pQ hc)⟩else none)
    else if h:f= "heaps" then(match e with
     | .Dict [] [] _=>some ⟨lK i,λX k=>let ⟨a1,a2,a3⟩:=eQ k hx;h▸ú (k.io1 hio.1) (k.bC hio.2.1).1 a1 a2 a3⟩
     | _=>none)else none
  | none=>none
 | .Assign [.Subscript (.Attribute (.Name x p) f q) b p'] e pos=>match hx:U.slot x with
  | some i=>if h:f= "heaps" /\qE e=true then(tE n U b).bind λw=>(tE n U e).map λu=>⟨lL i w.1 u.1,λX k=>let ⟨a1,a2,a3⟩:=eQ k hx;h.1▸ð (k.io1 hio.1) (k.bC hio.2.1).1 a1 a2 a3 (u.2.2 X k) (w.2.2 X k) (pQ h.2)⟩else none
  | none=>none
 | .Assign [.Name x p] (.Call f as ks q) pos=>match hx:U.lQ x with
  | some i=>(match f,as,ks with
   | .Name z p',[],[]=>if h:z= "Desk" /\U.gl z=true then some ⟨jS i,λX k=>by
     obtain⟨rfl,hg⟩:=h;exact R6 (k:=0) (k.bC hio.2.1).2 (k.bC hio.2.1).1 (k.dk2 hio.2.2).1 (i6 k hg).1 (l7 k hx).1⟩else none
   | f,as,ks=>(match Ed n U (.Call f as ks q)with
    | some u=>some ⟨lY i u.1,λX k=>È (u.2 X k) (l7 k hx).1 rfl⟩
    | none=>none))
  | none=>none
 | _=>none
 else none
noncomputable def EK(U:Tq)(i:Option Nat):Tq:={U with
 Γ:=U.ΓH
 calm:=false
 pin:=i
 top:=false
 ΓL:=[]
 ΓD:=[]
 ΓM:=[]
 ΓE:=[]
 ΓH:=[]
 Γx:=[]
 Γm:=[]
 cls:=[]}
def KV{X:Cx}{U:Tq}{ea:Addr}{i:Option Nat}(k:cV X U):cV (kQ X ea i) (EK U i):={k with
 calm:=nofun
 pn:=λj a e=>by cases i with | none=>cases e | some i=>cases e;rfl
 pn1:=λj e=>⟨ea,by cases i with | none=>cases e | some i=>cases e;rfl⟩
 fns:=λx r h=>let ⟨kk,K,hr⟩:=k.fh x r h;⟨false,kk,K,⟨nofun,hr.dp,hr.un⟩⟩
 dk2:=nofun
 lk:=nofun
 dd:=nofun
 dm:=nofun
 de:=nofun
 stx:=nofun
 fh:=nofun
 hh:=λ_ j a e=>by cases i with | none=>cases e | some i=>cases e;rfl
 xf:=nofun
 xm:=nofun
 cl:=nofun
 dcs:=k.dcs}
def Tv(n:Nat)(U:Tq)(st:Stmt):Option (T1 U st):=if hio:U.io=false/\U.top=true/\U.pin=none then match st with
 | .Try [.Expr e epos] [.ExceptHandler (some (.Name y np)) nm [.Return (some b) rpos] hpos] [] [] pos=>if hg:U.gl y=true/\qE e=true then(xB n U e).bind λw=>match nm with
  | none=>(tE n (EK U none) b).map λu=>⟨jJ w.1 U.sub y none u.1,λX k=>by
    obtain⟨outer,sk⟩:=k.stx hio.2.1;obtain⟨g1,g2,_⟩:=i6 k hg.1;exact IG (k.io hio.1) (by cases e:X.pin with | none=>rfl | some p=>have:=k.pn p.1 p.2 e;rw[hio.2.2]at this;cases this) sk k.sub (w.2.2 X k) (pQ hg.2) g1 g2 trivial λea=>u.2.2 _ (KV k)⟩
  | some z=>(match hz:U.lQ z with
   | some i=>if hl:look z U.sc=some .local then(tE n (EK U (some i)) b).map λu=>⟨jJ w.1 U.sub y (some i) u.1,λX k=>by
    obtain⟨outer,sk⟩:=k.stx hio.2.1;obtain⟨g1,g2,_⟩:=i6 k hg.1;exact IG (k.io hio.1) (by cases e:X.pin with | none=>rfl | some p=>have:=k.pn p.1 p.2 e;rw[hio.2.2]at this;cases this) sk k.sub (w.2.2 X k) (pQ hg.2) g1 g2 ⟨(l7 k hz).1,k.lc z hl⟩ λea=>u.2.2 _ (KV k)⟩else none
   | none=>none)else none
 | _=>none
 else none
mutual
noncomputable def dS(n:Nat)(U:Tq)(st:Stmt):Option (T1 U st):=match n with
 | 0=>none
 | n+1=>match dQ n U st with
  | some u=>some u
  | none=>match st with
   | .If c a b _=>(match tT n U c with
    | some g=>(lN n U a).bind λu=>(lN n U b).map λv=>⟨aQ g.1 u.1 v.1,λX k=>L8 (g.2 X k) (u.2 X k) (v.2 X k)⟩
    | none=>(dT n U c).bind λg=>(lN n U a).bind λu=>(lN n U b).map λv=>⟨bY g.1 u.1 v.1,λX k=>Xc (g.2 X k) (u.2 X k) (v.2 X k)⟩)
   | .Return (some e) _=>(dE n U e).bind λu=>(match hp:U.pin with
    | some 0=>some ⟨fX u.1,λX k=>let ⟨ad,h⟩:=k.pn1 0 hp;N0 h (u.2 X k)⟩
    | some _=>none
    | none=>some ⟨gY u.1,λX k=>ø (u.2 X k)⟩)
   | .For tg iter body [] _=>(match ht:oR U tg with
    | some t=>(tI n U tg iter).bind λi=>(lN n U body).map λu=>⟨bV i.1 t u.1,λX k=>Ir (i.2.2 X k) (uK k ht) (u.2 X k) (oV i.2.1 X.env)⟩
    | none=>none)
   | .Try b h o f p=>Tv n U (.Try b h o f p)
   | st=>tS n U st
noncomputable def lN(n:Nat)(U:Tq)(sts:List Stmt):Option (Ts U sts):=match n with
 | 0=>none
 | n+1=>match sts with
  | []=>some ⟨Qc,λ_ _=>GI⟩
  | st::r=>(lN n U r).map λv=>match dS n U st with
   | some u=>⟨Qa u.1 v.1,λX k=>A2 (u.2 X k) (v.2 X k)⟩
   | none=>⟨Qa Qn v.1,λX k=>A2 zV (v.2 X k)⟩
end
end HN
namespace HS
open PySem PySem.Spec L2 PyProof.Rows
def KP(K:bK)(t:Addr):Prop:=∃od n sl,K.lookup t=some ⟨.type "tuple",od,.seq #[.none] n,sl⟩
def Ia(x:Str)(st:Stmt)(ps:List Str)(m:Nat)(fill:List Value):Prop:=∀(K:bK) (t:Addr) (od:Option Addr) (n:Nat) (sl:Array (Option Value)),K.lookup t=some ⟨.type "tuple",od,.seq #[.none] n,sl⟩->∀(kV doc pm:Value) (an:Option Addr) (cdv ct:Value) (S:Setting) (us:List Value),us.length=m→
 PySem.W.peek K S (bindArgs (PySem.W.fnOf x x (jV st) (QE st) (Qp st) (.ref t) kV doc pm an cdv ct) ⟨us,[]⟩)=some (ps.zip (us++fill))
structure KY (K:bK) (x:Str) (st:Stmt) (ps:List Str):Prop where
 ex:∃(f t:Addr) (oc:Value) (od:Option Addr) (kV doc pm:Value) (an:Option Addr) (cdv ct:Value) (osl:Array (Option Value)),
  K.lookup f=some ⟨oc,od,.func (PySem.W.fnOf x x (jV st) (QE st) (Qp st) (.ref t) kV doc pm an cdv ct),osl⟩/\PySem.W.codeIn K cdv x=true/\PySem.W.keepIn K (.ref f)=true/\PySem.W.nsIn K mainGlobals x=some (some (.ref f))/\KP K t
def â{K:bK}{x:Str}{st:Stmt}{ps:List Str}{f t:Addr}{oc:Value}{od an od':Option Addr}{osl sl:Array (Option Value)}{n:Nat}{kV doc pm cdv ct:Value}(a:PySem.W.nsIn K mainGlobals x=some (some (.ref f)))(l:K.lookup f=some ⟨oc,od,.func (PySem.W.fnOf x x (jV st) (QE st) (Qp st) (.ref t) kV doc pm an cdv ct),osl⟩)
  (c:PySem.W.codeIn K cdv x=true) (k:PySem.W.keepIn K (.ref f)=true) (h:K.lookup t=some ⟨.type "tuple",od',.seq #[.none] n,sl⟩):KY K x st ps:=⟨f,t,oc,od,kV,doc,pm,an,cdv,ct,osl,l,c,k,a,od',n,sl,h⟩
def N6{K:bK}{x:Str}{st:Stmt}{ps:List Str}{m:Nat}{fill:List Value}(B:Ia x st ps m fill)(hm:m+fill.length=ps.length){t:Addr}(h:KP K t){kV doc pm cdv ct:Value}{an:Option Addr}:Binds K (PySem.W.fnOf x x (jV st) (QE st) (Qp st) (.ref t) kV doc pm an cdv ct) ps fill:=λs us hK hl=>by
 obtain⟨od,n,sl,h⟩:=h;exact PySem.W.kp_binds hK λS=>B K t od n sl h kV doc pm an cdv ct S us (by rw[Zm]at hl;lia)
def UA{α:Type}{K:bK}{S:Setting}{a:Addr}{o:Obj}{r:α}(h:K.lookup a=some o){q}{k:Obj->Sem α}(e:PySem.W.peek K S (k o)=some r):PySem.W.peek K S (.load a q k)=some r:=by
 rw[PySem.W.peek,h];exact e
end HS
namespace HN
open PySem PySem.Spec PyProof.Rows HS
def gW(n:Nat)(gs:DS):Q0:=λds=>(gs (Qy n ds)).bind λo=>match o with
 | .nx _=>some .aT
 | .rt d _=>if isAt d=true then some d else none
 | _=>none
def Wq{g:Gb}{k:Nat}{f:Addr}{fd:FuncData}{ps:List Str}{x qual:Str}{st:Stmt}{gs:DS}(Fu:jQ g.K x qual st f fd)(S:L2.mT (namesOf (L2.Qp st)) ps (L2.Qp st))(hb:∀cdv A s G fs,L2.cC k (A.deeper (envOfC qual (L2.Qp st) s.heap.objs.size f cdv))->u6 A fs->SS (mZ g (namesOf (L2.Qp st)) qual (L2.Qp st) f cdv A s G false none fs) (L2.QE st) gs):
  o8 g (k+1) f fd ps (gW (namesOf (L2.Qp st)).length gs):=λA s ex fs args us ds G d hr e0 hbi r hl hd=>by
 obtain⟨oc,od,dV,kV,doc,pm,an,cdv,ct,osl,rfl,lk,hcd⟩:=Fu.ex;refine Ql hd λo ho hd=>?_;have hkind:∀y∈ps.zip us,(L2.Qp st).names.lookup y.1=some .local ∨((L2.Qp st).names.lookup y.1=some .cell/\((cellsFrom (s.heap.objs.size+1) (L2.Qp st).names []).lookup y.1).isSome=true):=λZ hy=>by
  obtain⟨n,v⟩:=Z;exact(S.par n (rW hy).1).imp id λq=>⟨q,t9 _ _ _ (.inl q)⟩
 refine codeAny_call_function hr.depth (e0.bM.bH _ _ lk) rfl S.co S.gen rfl (sY e0.bM.bH hcd) (hbi _ _ _ _ (wpAny_newFunctionEnv_cells S.kind hkind λenv he s1 x=>?_));subst he;refine⟨(e0.bM.mod.nolimit.keeps e0.bM.bk).keeps x.toInCall.keep,codeAny_func ?_⟩;obtain⟨F,w,rel⟩:=enter (io:=false) (pin:=none) (fs:=fs) (A:=A) (qual:=qual) (f:=f) (cd:=cdv) S e0.bM hl r nofun e0.fsl x
 obtain⟨h1,tk,rfl,hk⟩:=x.done;refine any (aN (hb cdv A s G fs (hr.deeper _) e0.fra rel ho) λfl s' ⟨y,q⟩=>?_);have fin:∀{v:Value},At d v->CQ fs s d v s':=λhv=>
  ⟨hv,y.os,y.br,λb o e n=>y.hp b o (hk b o e) λc=>c.elim (λz=>by rw[show s.heap.get? b=none from z]at e;cases e) λc=>c.elim (λh=>nomatch h.1) λm=>absurd m n,λb m o e=>y.fr b m o (hk b o e)⟩
 cases o with
 | nx U=>obtain⟨rfl,F',r'⟩:=q;cases hd;exact⟨_,rfl,fin rfl⟩
 | bk U=>cases hd
 | ct U=>cases hd
 | rt d' fr'=>
  obtain⟨v,G',rfl,q | ⟨_,_,_,_,_,_,h,_⟩⟩:=q
  .dsimp only at hd;split at hd
   .rename_i hi;cases hd;exact⟨v,rfl,fin (yG hi q.rp)⟩
   .cases hd
  .cases h
structure Tb where
 Γ:List (Str×gN):=[]
 ΓL:List (Str×gN):=[]
 ΓD:List (Str×fD):=[]
 ΓM:List (Str×fD):=[]
 ΓE:List (Str×jF):=[]
 ΓH:List (Str×gN):=[]
 Γx:List (Str×(Nat×(List D->Option Str))):=[]
 Γm:List (Str×(Nat×(List D->Option Str))):=[]
structure Cs where
 cs:List (Str×Cn):=[]
 bC:Bool:=false
 dc:List (Str×iF):=[]
 sub:Str->Str->Option Bool:=λ_ _=>none
 cls:List Str:=[]
def pF(st:Stmt)(C:Cs)(T:Tb)(c io:Bool)(pin:Option Nat)(top:Bool):Tq where
 toTh:=Đ st T.Γ C.cs
 calm:=c
 io:=io
 pin:=pin
 top:=top
 bC:=C.bC
 ΓL:=T.ΓL
 ΓD:=T.ΓD
 ΓM:=T.ΓM
 ΓE:=T.ΓE
 dc:=C.dc
 sub:=C.sub
 ΓH:=T.ΓH
 Γx:=T.Γx
 Γm:=T.Γm
 cls:=C.cls
structure bO (g:Gb) (k:Nat) (T:Tb):Prop where
 fn:Tab g k T.Γ
 lk:∀x r,look x T.ΓL=some r->pO g k x r
 dd:∀x r,look x T.ΓD=some r->qC g k x r
 dm:∀x r,look x T.ΓM=some r->pS g k x r
 de:∀x r,look x T.ΓE=some r->m6 g k x r
 fh:Tab g k T.ΓH false
 xf:∀x r,look x T.Γx=some r->mX g k x r.1 r.2
 xm:∀x r,look x T.Γm=some r->nE g k x r.1 r.2
structure hO (g:Gb) (C:Cs):Prop where
 mo:Dv g.mg C.cs
 bC:C.bC=true->g0 g.K/\A1 g
 dc:∀x kvs,look x C.dc=some kvs->rC g.w g.K x kvs/\∀a,PySem.W.nsIn g.K mainGlobals x=some (some (.ref a))->g.mg x=some (.ref a)
 sub:tD g.K C.sub
 cl:∀x∈C.cls,sE g.K x
section
variable {g:Gb}{j k n:Nat}{x m:Str}{st:Stmt}{ps:List Str}{h:Heap}{T:Tb}{C:Cs}{f:Addr}{fd:FuncData}{c:Bool}
def Rm.room{A:Around}(r:Rm true k A):L2.cC k A:=⟨r.hd rfl,r.dp,r.un⟩
def bO.nil:bO g k {} where
 fn:=nofun
 lk:=nofun
 dd:=nofun
 dm:=nofun
 de:=nofun
 fh:=nofun
 xf:=nofun
 xm:=nofun
def oK{α:Type}{P:Str->α->Prop}{l:List (Str×α)}{y:Str}{a:α}(hl:∀x r,look x l=some r->P x r)(ha:P y a):∀x r,look x ((y,a)::l)=some r->P x r:=λx r e=>by
 unfold look at e;split at e
 .rename_i z;cases e;subst z;exact ha
 .exact hl x r e
def pO.mono{r:gN}(q:pO g j m r)(hk:j<=k):pO g k m r:=let ⟨f,fd,ps,C,F,z⟩:=q;⟨f,fd,ps,C,F.mono hk,z⟩
def qC.mono{r:fD}(q:qC g j m r)(hk:j<=k):qC g k m r:=let ⟨f,fd,ps,F,z⟩:=q;⟨f,fd,ps,λA s ex fs args us a ds G d bC hr=>F (hr.mono hk),z⟩
def pS.mono{r:fD}(q:pS g j m r)(hk:j<=k):pS g k m r:=let ⟨f,fd,ps,C,F,z⟩:=q;⟨f,fd,ps,C,λA s ex fs args us a ds G d bC hr=>F (hr.mono hk),z⟩
def m6.mono{r:jF}(q:m6 g j m r)(hk:j<=k):m6 g k m r:=let ⟨f,fd,ps,F,z⟩:=q;⟨f,fd,ps,λA s ex fs args us ds G d hr=>F (hr.mono hk),z⟩
def mX.mono{xd:List D->Option Str}(q:mX g j m n xd)(hk:j<=k):mX g k m n xd:=let ⟨f,fd,ps,F,z⟩:=q;⟨f,fd,ps,λA s ex fs outer args us ds G c hr=>F (hr.mono hk),z⟩
def nE.mono{xd:List D->Option Str}(q:nE g j m n xd)(hk:j<=k):nE g k m n xd:=let ⟨f,fd,ps,C,F,z⟩:=q;⟨f,fd,ps,C,λA s ex fs outer args us ds G c hr=>F (hr.mono hk),z⟩
def bO.mono(t:bO g j T)(hk:j<=k):bO g k T where
 fn:=λx r e=>(t.fn x r e).mono hk
 lk:=λx r e=>(t.lk x r e).mono hk
 dd:=λx r e=>(t.dd x r e).mono hk
 dm:=λx r e=>(t.dm x r e).mono hk
 de:=λx r e=>(t.de x r e).mono hk
 fh:=λx r e=>(t.fh x r e).mono hk
 xf:=λx r e=>(t.xf x r e).mono hk
 xm:=λx r e=>(t.xm x r e).mono hk
def bO.up(t:bO g k T):bO g (k+1) T:=t.mono (Nat.le_succ _)
def bO.av{r:gN}(t:bO g k T)(q:Kn g true (k+1) x r):bO g (k+1) {T with Γ:=(x,r)::T.Γ}:={t.up with fn:=oK t.up.fn q}
def bO.al{r:gN}(t:bO g k T)(q:pO g (k+1) x r):bO g (k+1) {T with ΓL:=(x,r)::T.ΓL}:={t.up with lk:=oK t.up.lk q}
def bO.ad{r:fD}(t:bO g k T)(q:qC g (k+1) x r):bO g (k+1) {T with ΓD:=(x,r)::T.ΓD}:={t.up with dd:=oK t.up.dd q}
def bO.am{r:fD}(t:bO g k T)(q:pS g (k+1) x r):bO g (k+1) {T with ΓM:=(x,r)::T.ΓM}:={t.up with dm:=oK t.up.dm q}
def bO.ae{r:jF}(t:bO g k T)(q:m6 g (k+1) x r):bO g (k+1) {T with ΓE:=(x,r)::T.ΓE}:={t.up with de:=oK t.up.de q}
def bO.ah{r:gN}(t:bO g k T)(q:Kn g false (k+1) x r):bO g (k+1) {T with ΓH:=(x,r)::T.ΓH}:={t.up with fh:=oK t.up.fh q}
def bO.ax{xd:List D->Option Str}(t:bO g k T)(q:mX g (k+1) x n xd):bO g (k+1) {T with Γx:=(x,(n,xd))::T.Γx}:={t.up with xf:=oK (P:=λx (r:Nat×(List D->Option Str))=>mX g (k+1) x r.1 r.2) t.up.xf q}
def bO.ay{xd:List D->Option Str}(t:bO g k T)(q:nE g (k+1) x n xd):bO g (k+1) {T with Γm:=(x,(n,xd))::T.Γm}:={t.up with xm:=oK (P:=λx (r:Nat×(List D->Option Str))=>nE g (k+1) x r.1 r.2) t.up.xm q}
def nO(g:Gb)(x:Str)(st:Stmt)(ps:List Str):Prop:=∃f fd,jQ g.K x x st f fd/\g.mg x=some (.ref f)/\PySem.W.keepIn g.K (.ref f)=true/\L2.Binds g.K fd ps []
def rV(X:g.K.In h)(G:h.Ns mainGlobals g.mg)(F:Fact g.K x st)(B:IS x st ps):nO g x st ps:=let ⟨f,fd,Fn,a⟩:=F.ex;⟨f,fd,.of Fn,mQ X G a,Fn.kp,Fn.binds (B ·)⟩
def YI(X:g.K.In h)(G:h.Ns mainGlobals g.mg)(F:KY g.K x st ps)(B:Ia x st ps ps.length []):nO g x st ps:=
 let ⟨f,t,oc,od,kV,doc,pm,an,cdv,ct,osl,l,cd,kp,a,h⟩:=F.ex;⟨f,_,⟨oc,od,_,kV,doc,pm,an,cdv,ct,osl,rfl,l,cd⟩,mQ X G a,kp,N6 B rfl h⟩
def Aa(g:Gb)(m:Str)(st:Stmt)(ps:List Str):Prop:=∃qual C f fd,PySem.W.nsIn g.K mainGlobals "Desk" =some (some (.ref C))/\L2.l6 g.K C/\L2.wV g.K C m f/\jQ g.K m qual st f fd/\L2.Binds g.K fd ps []
def Bn{qual:Str}(F:xG g.K "Desk" m qual st)(B:Bt m qual st ps):Aa g m st ps:=let ⟨C,f,fd,a,b,c,Fn⟩:=F.ex;⟨qual,C,f,fd,a,b,c,.of Fn,Fn.binds (B ·)⟩
def tQ{qual:Str}{cdv:Value}{A:Around}{s:Shared}{G fs:LA}{io top:Bool}{pin:Option (Nat×Addr)}(M:hO g C)(S:L2.mT (namesOf (L2.Qp st)) ps (L2.Qp st))(tab:bO g k T)(h0:c=false->T={}/\pin=none)(hr:Rm c k (A.deeper (envOfC qual (L2.Qp st) s.heap.objs.size f cdv)))(ht:top=true->c=true/\2<=k/\u6 A fs):
  cV (mZ g (namesOf (L2.Qp st)) qual (L2.Qp st) f cdv A s G io pin fs) (pF st C T c io (pin.map (·.1)) top) where
 N:=rfl
 lc:=λx h=>j0▸h
 ce:=λx h=>⟨j0▸h,rfl⟩
 gl:=λx h=>j0▸h
 fe:=λx h=>absurd rfl (S.nofree _ (pY (j0▸h)))
 calm:=λh=>decide_eq_true (hr.hd h)
 io:=id
 pn:=λi a e=>by
  have e:pin=some (i,a):=e;rw[show(pF st C T c io (pin.map (·.1)) top).pin=pin.map (·.1)from rfl,e];rfl
 units:=hr.units
 mg:=M.mo.bn
 cs:=M.mo.cs
 fns:=λx r h=>by
  cases c with
  | true=>exact⟨true,k,tab.fn x r h,hr⟩
  | false=>cases(h0 rfl).1;cases h
 io1:=id
 pn1:=λi e=>let ⟨p,h1,h2⟩:=Zd.mp (show pin.map (·.1)=some i from e);⟨p.2,by rw[show pin=some p from h1,← h2];rfl⟩
 bC:=M.bC
 dk2:=λh=>by
  obtain⟨rfl,h2,outer,o1,o2,o3⟩:=ht h;exact⟨hr.room.mono h2,⟨⟨_,CI o1,by rw[List.filterMap_cons_some (show(envOfC qual (L2.Qp st) s.heap.objs.size f cdv).frame=some _ from rfl),o2];rfl,λe m=>(Zj.mp m).elim (λh=>h▸⟨by rw[show(envOfC qual (L2.Qp st) s.heap.objs.size f cdv).scope.kind=_ from S.kind];decide,nofun⟩) (o3 e)⟩⟩⟩
 lk:=λx r h=>by
  cases c with
  | true=>exact⟨k,tab.lk x r h,hr⟩
  | false=>cases(h0 rfl).1;cases h
 dd:=λx r h=>by
  cases c with
  | true=>exact⟨k,tab.dd x r h,hr.room⟩
  | false=>cases(h0 rfl).1;cases h
 dm:=λx r h=>by
  cases c with
  | true=>exact⟨k,tab.dm x r h,hr.room⟩
  | false=>cases(h0 rfl).1;cases h
 de:=λx r h=>by
  cases c with
  | true=>exact⟨k,tab.de x r h,hr.room⟩
  | false=>cases(h0 rfl).1;cases h
 dcs:=M.dc
 stx:=λh=>by
  obtain⟨_,_,outer,o1,o2,o3⟩:=ht h;exact⟨outer,CI o1,rfl,o2,o3⟩
 fh:=λx r h=>⟨k,tab.fh x r h,⟨nofun,hr.dp,hr.un⟩⟩
 hh:=λh j a e=>by
  cases c with
  | true=>cases h
  | false=>rw[show(mZ g (namesOf (L2.Qp st)) qual (L2.Qp st) f cdv A s G io pin fs).pin=pin from rfl,(h0 rfl).2]at e;cases e
 sub:=M.sub
 xf:=λx r h=>by
  cases c with
  | true=>exact⟨k,tab.xf x r h,hr.room⟩
  | false=>cases(h0 rfl).1;cases h
 xm:=λx r h=>by
  cases c with
  | true=>exact⟨k,tab.xm x r h,hr.room⟩
  | false=>cases(h0 rfl).1;cases h
 cl:=M.cl
abbrev Nn(st:Stmt):Nat:=(namesOf (L2.Qp st)).length
abbrev Sf(st:Stmt)(ps:List Str):Prop:=L2.mT (namesOf (L2.Qp st)) ps (L2.Qp st)
abbrev iV(st:Stmt)(C:Cs)(T:Tb):Tq:=pF st C T true false none false
def Gg{qual:Str}(F:jQ g.K x qual st f fd)(S:Sf st ps)(M:hO g C)(t:bO g k T)(u:Ts (iV st C T) (L2.QE st)):Fn g true (k+1) f fd ps (Qt (Nn st) u.1):=LR F S λcdv A s G hr=>u.2 _ (tQ (pin:=none) M S t nofun hr nofun)
def K8(F:nO g x st ps)(S:Sf st ps)(M:hO g C)(t:bO g k T)(u:Ts (iV st C T) (L2.QE st)):Kn g true (k+1) x ⟨ps.length,[],Qt (Nn st) u.1⟩:=let ⟨f,fd,Fn,a,b,c⟩:=F;⟨f,fd,ps,Gg Fn S M t u,rfl,a,b,λm hm=>⟨[],c,λex h=>by simpa using .nil⟩⟩
def W7(F:nO g x st ps)(S:Sf st ps)(M:hO g C)(u:Ts (pF st C {} false false none false) (L2.QE st)):Kn g false (k+1) x ⟨ps.length,[],Qt (Nn st) u.1⟩:=let ⟨f,fd,Fn,a,b,c⟩:=F;⟨f,fd,ps,LR Fn S λcdv A s G hr=>u.2 _ (tQ (pin:=none) M S .nil (λ_=>⟨rfl,rfl⟩) hr nofun),rfl,a,b,λm hm=>⟨[],c,λex h=>by simpa using .nil⟩⟩
def K0{qual:Str}(F:jQ g.K x qual st f fd)(S:Sf st ps)(M:hO g C)(t:bO g k T)(u:AH (iV st C T) (L2.QE st)):zM g (k+1) f fd ps (Q8 (Nn st) u.1):=RJ F S λcdv A s G fs hr=>u.2 _ (tQ (pin:=none) M S t nofun (.of hr) nofun)
def Lr(F:nO g x st ps)(S:Sf st ps)(M:hO g C)(t:bO g k T)(u:AH (iV st C T) (L2.QE st)):mX g (k+1) x ps.length (Q8 (Nn st) u.1):=let ⟨f,fd,Fn,a,b,c⟩:=F;⟨f,fd,ps,K0 Fn S M t u,rfl,a,b,c⟩
def M4(F:Aa g m st ps)(S:Sf st ps)(M:hO g C)(t:bO g k T)(u:AH (iV st C T) (L2.QE st)):nE g (k+1) m ps.length (Q8 (Nn st) u.1):=let ⟨_,C,f,fd,a,b,c,Fn,e⟩:=F;⟨f,fd,ps,C,K0 Fn S M t u,rfl,a,b,c,e⟩
abbrev v5(st:Stmt)(C:Cs)(T:Tb):Tq:=pF st C T true true (some 0) true
abbrev xI(st:Stmt)(C:Cs)(T:Tb):Tq:=pF st C T true true none true
abbrev MG(st:Stmt)(C:Cs)(T:Tb):Tq:=pF st C T true false none true
def Wt(F:Aa g m st ps)(S:Sf st ps)(M:hO g C)(t:bO g k T)(u:Ts (iV st C T) (L2.QE st)):pO g (k+1) m ⟨ps.length,[],Qt (Nn st) u.1⟩:=let ⟨_,C,f,fd,a,b,c,Fn,e⟩:=F;⟨f,fd,ps,C,Gg Fn S M t u,rfl,a,b,c,e⟩
def GR{qual:Str}(F:jQ g.K x qual st f fd)(S:Sf st ps)(M:hO g C)(t:bO g k T)(hk:2<=k)(u:Ts (v5 st C T) (L2.QE st)):vF g (k+1) f fd ps (fC (Nn st) u.1):=WQ F S λcdv A s G fs a hr hf=>u.2 _ (tQ (pin:=some (0,a)) M S t nofun (.of hr) λ_=>⟨rfl,hk,hf⟩)
def NS(F:nO g x st ps)(S:Sf st ps)(M:hO g C)(t:bO g k T)(hk:2<=k)(u:Ts (v5 st C T) (L2.QE st)):qC g (k+1) x ⟨ps.length,fC (Nn st) u.1⟩:=let ⟨f,fd,Fn,a,b,c⟩:=F;⟨f,fd,ps,GR Fn S M t hk u,rfl,a,b,c⟩
def S9(F:Aa g m st ps)(S:Sf st ps)(M:hO g C)(t:bO g k T)(hk:2<=k)(u:Ts (v5 st C T) (L2.QE st)):pS g (k+1) m ⟨ps.length,fC (Nn st) u.1⟩:=let ⟨_,C,f,fd,a,b,c,Fn,e⟩:=F;⟨f,fd,ps,C,GR Fn S M t hk u,rfl,a,b,c,e⟩
def HF{qual:Str}(F:jQ g.K x qual st f fd)(S:Sf st ps)(M:hO g C)(t:bO g k T)(hk:2<=k)(u:Ts (xI st C T) (L2.QE st)):o8 g (k+1) f fd ps (gU (Nn st) u.1):=Ws F S λcdv A s G fs hr hf=>u.2 _ (tQ (pin:=none) M S t nofun (.of hr) λ_=>⟨rfl,hk,hf⟩)
def YQ(F:nO g x st ps)(S:Sf st ps)(M:hO g C)(t:bO g k T)(hk:2<=k)(u:Ts (xI st C T) (L2.QE st)):m6 g (k+1) x ⟨ps.length,gU (Nn st) u.1⟩:=let ⟨f,fd,Fn,a,b,c⟩:=F;⟨f,fd,ps,HF Fn S M t hk u,rfl,a,b,c⟩
def VP(F:nO g x st ps)(S:Sf st ps)(M:hO g C)(t:bO g k T)(hk:2<=k)(u:Ts (MG st C T) (L2.QE st)):m6 g (k+1) x ⟨ps.length,gW (Nn st) u.1⟩:=let ⟨f,fd,Fn,a,b,c⟩:=F;⟨f,fd,ps,Wq Fn S λcdv A s G fs hr hf=>u.2 _ (tQ (pin:=none) M S t nofun (.of hr) λ_=>⟨rfl,hk,hf⟩),rfl,a,b,c⟩
def WH{mb:Str->Option Value}{fa a:Addr}{s:Shared}{vs:List Value}{ns:List Int}{den:Q0}(hg:g.base=s.heap)(KX:g.K.In s.heap)(hns:s.heap.Ns mainGlobals g.mg)(hb:s.heap.Ns builtinsNs mb)(hbb:∀x:Str,x≠ "__name__" ->mb x=bootBuiltins x)(hlim:s.heap.NoLimit)(hs:s.gens= #[])
  (ha:s.heap.get? a=some {cls:= .type "list",data:= .seq vs.toArray}) (hi:IntsAre vs ns) (hl:ns.length<=63) (hr:L2.cC k callerA) (F:o8 g k fa fd [x] den) (hbi:∀(s:Shared) (u:Value),BindsTo s fd ⟨[u],[]⟩ [(x,u)]) (hd:den [.lst (ns.map .int)]=some (.bl true)):
  codeAny (model g.P g.w) callerA (.call (.ref fa) ⟨[.ref a],[]⟩) (λr s'=>r= .ok (.ret (.bool true))/\OldK s.heap s'.heap/\s'.os=s.os/\AllBare s'.gens) s:=by
 have br:AllBare s.gens:=by rw[hs];exact AllBare.empty
 refine codeAny_mono (F (us:=[.ref a]) (ex:=[]) (fs:=[]) hr ⟨⟨⟨hg▸KX,hg▸hns,⟨mb,hg▸hb,hbb⟩,hg▸hlim⟩,λb o e=>hg▸e,br,nm,nm⟩,nm,[],rfl,rfl,nm⟩ (hbi s _) (.oY nofun (by rw[Zh];exact ZE hl ∅) ha (Jl hi)) rfl hd) λr s' ⟨v,e,t⟩=>?_;subst e;cases(show v= .bool true from t.val);exact⟨rfl,.of_keep λb o e=>t.kp b o e nofun,t.os,t.br br⟩
def W1{l:PySem.W.OpenLaw}{q:Program}{loose:List Str}{XP:(Str->Option Value)->Heap->Prop}{YP:World->Heap->Prop}{d:DefRec}{K:Params->PySem.W.Frag}{den:Q0}
  (hn:l.most=some 63) (hdf:d.params.defaults=[]) (hr:L2.cC k callerA) (hY:∀(w:World) (h:Heap),YP w h->(K w.params).In h)
  (hden:∀ns:List Int,ns.length<=63->(∀k:Nat,Builtin.Int.intBits (ns.getD k 0)<=2^20)->den [.lst (ns.map .int)]=some (.bl true))
  (F:∀(w:World) (mg:Str->Option Value) (fa:Addr) (h:Heap),(K w.params).In h->h.Ns mainGlobals mg->mg d.name=some (.ref fa)->∃fd:FuncData,(∀(s:Shared) (u:Value),BindsTo s fd ⟨[u],[]⟩ [(x,u)])/\∀base:Heap,o8 ⟨l.prog,w,K w.params,mg,base⟩ k fa fd [x] den):
  PySem.W.WalkO q loose XP YP l.row.toRowW d [] (λf vs=>PySem.call f vs):=by
 refine Xt hn hdf λw s₀ s₁ mg mb fa o pm cd doc a vs ns G Y ho hd hcd hmg hobj hints hlen hlay hg=>?_;have KX:=hY w _ Y;obtain⟨fd,hb,hF⟩:=F w mg fa _ KX G.T.g hmg;exact WH (g:=⟨l.prog,w,K w.params,mg,s₁.heap⟩) rfl KX G.T.g G.T.b G.T.builtins G.T.nolimit hg hobj hints hlen hr (hF _) hb (hden ns hlen (PS hlay))
def Wb{P:Program}{w:World}{K:bK}{mg:Str->Option Value}{y:Str}{fa:Addr}(X:K.In h)(G:h.Ns mainGlobals mg)(hmg:mg x=some (.ref fa))(F:Fact K x st)(S:Sf st [y])(B:IS x st [y])(M:∀base:Heap,hO ⟨P,w,K,mg,base⟩ C)(tab:∀base:Heap,bO ⟨P,w,K,mg,base⟩ k T)(hk:2<=k)(u:Ts (xI st C T) (L2.QE st)):
  ∃fd:FuncData,(∀(s:Shared) (u:Value),BindsTo s fd ⟨[u],[]⟩ [(y,u)])/\∀base:Heap,o8 ⟨P,w,K,mg,base⟩ (k+1) fa fd [y] (gU (Nn st) u.1):=by
 obtain⟨f,fd,Fn,a⟩:=F.ex;cases hmg.symm.trans (mQ X G a);refine⟨fd,λs u=>?_,λbase=>HF (g:=⟨P,w,K,mg,base⟩) (.of Fn) S (M base) (tab base) hk u⟩;obtain⟨oc,od,kV,doc,pm,an,cdv,ct,osl,rfl,lk,hcd⟩:=Fn.ex;exact .of_eq (B kV doc pm an cdv ct [u] rfl)
def Yy{qual:Str}(X:g.K.In h)(G:h.Ns mainGlobals g.mg)(fc:H9 g.K "Desk" ["net","heaps"])(fi:Kg g.K "Desk")(fm:xG g.K "Desk" "__init__" qual st)(S:Sf st ["self"])(B:Bt "__init__" qual st ["self"])(it:DY st):g0 g.K/\A1 g:=by
 obtain⟨C,a,b,n1,n2,_⟩:=fc;obtain⟨C',a',mk,kp⟩:=fi;obtain⟨C'',f,fd,a'',cl,me,Fn⟩:=fm.ex;cases a.symm.trans a';cases a.symm.trans a'';exact⟨⟨C,a,b,n1,n2⟩,C,f,fd,qual,st,a,mQ X G a,⟨mk,me.at_,me.fn,kp⟩,Fn,it,S,Fn.binds (B ·)⟩
def Ks(w:World)(K:bK):List (Str×iF)->Prop
 | []=>True
 | p::r=>rC w K p.1 p.2/\Ks w K r
def Mb(X:g.K.In h)(G:h.Ns mainGlobals g.mg):∀{l:List (Str×iF)},Ks g.w g.K l->∀x kvs,look x l=some kvs->rC g.w g.K x kvs/\∀a,PySem.W.nsIn g.K mainGlobals x=some (some (.ref a))->g.mg x=some (.ref a)
 | [],_=>nofun
 | (y,a)::l,q=>oK (P:=λx kvs=>rC g.w g.K x kvs/\∀a,PySem.W.nsIn g.K mainGlobals x=some (some (.ref a))->g.mg x=some (.ref a)) (Mb X G q.2) ⟨q.1,λb e=>mQ X G e⟩
end
structure Dn (x q:Str) (st:Stmt) (ps:List Str):Prop where
 s:Sf st ps
 b:Bt x q st ps
def dn{x q:Str}{st:Stmt}{ps:List Str}(h1:(L2.Qp st).kind= .function)(h2:(L2.Qp st).isCoroutine=false)(h3:(L2.Qp st).isGenerator=false)(h4:(namesOf (L2.Qp st)).Nodup/\(namesOf (L2.Qp st)).take ps.length=ps/\(∀x∈ps,(L2.Qp st).names.lookup x=some .local ∨(L2.Qp st).names.lookup x=some .cell)/\∀y∈(L2.Qp st).names,y.2≠ .free)(b:Bt x q st ps):Dn x q st ps:=⟨⟨h1,h2,h3,h4.1,h4.2.1,h4.2.2.1,h4.2.2.2⟩,b⟩
structure Ev (P:Program) (w:World) (K:bK) (mg:Str->Option Value) (h:Heap) (C:Cs):Prop where
 X:K.In h
 G:h.Ns mainGlobals mg
 M:∀b,hO ⟨P,w,K,mg,b⟩ C
def TB(P:Program)(w:World)(K:bK)(mg:Str->Option Value)(k:Nat)(T:Tb):Prop:=∀b,bO ⟨P,w,K,mg,b⟩ k T
noncomputable def aV(T:Tb)(x:Str)(st:Stmt)(ps:List Str)(d:aC):Tb:={T with Γ:=(x,⟨ps.length,[],d⟩)::T.Γ}
noncomputable def aX(T:Tb)(x:Str)(st:Stmt)(ps:List Str)(dx:List D->Option Str):Tb:={T with Γx:=(x,(ps.length,dx))::T.Γx}
noncomputable def fG(T:Tb)(x:Str)(st:Stmt)(ps:List Str)(dx:List D->Option Str)(d:aC):Tb:={T with Γx:=(x,(ps.length,dx))::T.Γx,Γ:=(x,⟨ps.length,[],d⟩)::T.Γ}
noncomputable def aH(T:Tb)(x:Str)(st:Stmt)(ps:List Str)(d:aC):Tb:={T with ΓH:=(x,⟨ps.length,[],d⟩)::T.ΓH}
noncomputable def Ju(T:Tb)(x q:Str)(st:Stmt)(ps:List Str)(dx:List D->Option Str)(d:aC):Tb:={T with Γm:=(x,(ps.length,dx))::T.Γm,ΓL:=(x,⟨ps.length,[],d⟩)::T.ΓL}
noncomputable def Ec(T:Tb)(x q:Str)(st:Stmt)(ps:List Str)(dx:List D->Option Str)(d:bP):Tb:={T with Γm:=(x,(ps.length,dx))::T.Γm,ΓM:=(x,⟨ps.length,d⟩)::T.ΓM}
noncomputable def aD(T:Tb)(x:Str)(st:Stmt)(ps:List Str)(d:bP):Tb:={T with ΓD:=(x,⟨ps.length,d⟩)::T.ΓD}
noncomputable def aR(T:Tb)(x:Str)(st:Stmt)(ps:List Str)(d:Q0):Tb:={T with ΓE:=(x,⟨ps.length,d⟩)::T.ΓE}
noncomputable def aE(T:Tb)(x:Str)(st:Stmt)(ps:List Str)(d:Q0):Tb:={T with ΓE:=(x,⟨ps.length,d⟩)::T.ΓE}
def jN{α β:Type}{f:α->β}{d:β}:∀{o:Option α},o.map f=some d->∃u,f u=d
 | some u,h=>⟨u,Option.some.inj h⟩
section
variable {P:Program}{w:World}{K:bK}{mg:Str->Option Value}{h:Heap}{C:Cs}{k:Nat}{T:Tb}{x q:Str}{st:Stmt}{ps:List Str}{d:aC}{dx:List D->Option Str}
def TB.nil:TB P w K mg k {}:=λ_=> .nil
def Ev.tv(e:Ev P w K mg h C)(t:TB P w K mg k T)(n:Dn x x st ps)(F:Fact K x st)(q:(kK 90 (iV st C T) (L2.QE st)).map (λu=>Qt (Nn st) u.1)=some d:=by kernel_rfl):TB P w K mg (k+1) (aV T x st ps d):=λb=>by
 obtain⟨u,rfl⟩:=jN q;exact(t b).av (K8 (rV e.X e.G F n.b) n.s (e.M b) (t b) u)
def Ev.tx(e:Ev P w K mg h C)(t:TB P w K mg k T)(n:Dn x x st ps)(F:Fact K x st)(q:(xS 90 (iV st C T) (L2.QE st)).map (λu=>Q8 (Nn st) u.1)=some dx:=by kernel_rfl):TB P w K mg (k+1) (aX T x st ps dx):=λb=>by
 obtain⟨u,rfl⟩:=jN q;exact(t b).ax (Lr (rV e.X e.G F n.b) n.s (e.M b) (t b) u)
def Ev.Kd(e:Ev P w K mg h C)(t:TB P w K mg k T)(n:Sf st ps)(F:∀b,nO ⟨P,w,K,mg,b⟩ x st ps)(q:(xS 90 (iV st C T) (L2.QE st)).map (λu=>Q8 (Nn st) u.1)=some dx:=by kernel_rfl)(q':(kK 90 (iV st C T) (L2.QE st)).map (λu=>Qt (Nn st) u.1)=some d:=by kernel_rfl):TB P w K mg (k+2) (fG T x st ps dx d):=λb=>by
 obtain⟨u,rfl⟩:=jN q;obtain⟨u',rfl⟩:=jN q';exact((t b).ax (Lr (F b) n (e.M b) (t b) u)).av (K8 (F b) n (e.M b) (t b).up u')
def Ev.nY(e:Ev P w K mg h C)(t:TB P w K mg k T)(n:Dn x x st ps)(F:Fact K x st)(q:(xS 90 (iV st C T) (L2.QE st)).map (λu=>Q8 (Nn st) u.1)=some dx:=by kernel_rfl)(q':(kK 90 (iV st C T) (L2.QE st)).map (λu=>Qt (Nn st) u.1)=some d:=by kernel_rfl):TB P w K mg (k+2) (fG T x st ps dx d):=e.Kd t n.s (λ_=>rV e.X e.G F n.b) q q'
def Ev.th(e:Ev P w K mg h C)(t:TB P w K mg k T)(n:Dn x x st ps)(F:Fact K x st)(q:(kK 90 (pF st C {} false false none false) (L2.QE st)).map (λu=>Qt (Nn st) u.1)=some d:=by kernel_rfl):TB P w K mg (k+1) (aH T x st ps d):=λb=>by
 obtain⟨u,rfl⟩:=jN q;exact(t b).ah (W7 (rV e.X e.G F n.b) n.s (e.M b) u)
def Ev.PZ(e:Ev P w K mg h C)(t:TB P w K mg k T)(n:Dn x q st ps)(F:xG K "Desk" x q st)(r:(xS 90 (iV st C T) (L2.QE st)).map (λu=>Q8 (Nn st) u.1)=some dx:=by kernel_rfl)(r':(kK 90 (iV st C T) (L2.QE st)).map (λu=>Qt (Nn st) u.1)=some d:=by kernel_rfl):TB P w K mg (k+2) (Ju T x q st ps dx d):=λb=>by
 obtain⟨u,rfl⟩:=jN r;obtain⟨u',rfl⟩:=jN r';exact((t b).ay (M4 (Bn F n.b) n.s (e.M b) (t b) u)).al (Wt (Bn F n.b) n.s (e.M b) (t b).up u')
def Ev.PL{d:bP}(e:Ev P w K mg h C)(t:TB P w K mg k T)(n:Dn x q st ps)(F:xG K "Desk" x q st)(r:(xS 90 (iV st C T) (L2.QE st)).map (λu=>Q8 (Nn st) u.1)=some dx:=by kernel_rfl)(r':(lN 90 (v5 st C T) (L2.QE st)).map (λu=>fC (Nn st) u.1)=some d:=by kernel_rfl)(hk:2<=k+1:=by decide):TB P w K mg (k+2) (Ec T x q st ps dx d):=λb=>by
 obtain⟨u,rfl⟩:=jN r;obtain⟨u',rfl⟩:=jN r';exact((t b).ay (M4 (Bn F n.b) n.s (e.M b) (t b) u)).am (S9 (Bn F n.b) n.s (e.M b) (t b).up hk u')
def Ev.td{d:bP}(e:Ev P w K mg h C)(t:TB P w K mg k T)(n:Dn x x st ps)(F:Fact K x st)(q:(lN 90 (v5 st C T) (L2.QE st)).map (λu=>fC (Nn st) u.1)=some d:=by kernel_rfl)(hk:2<=k:=by decide):TB P w K mg (k+1) (aD T x st ps d):=λb=>by
 obtain⟨u,rfl⟩:=jN q;exact(t b).ad (NS (rV e.X e.G F n.b) n.s (e.M b) (t b) hk u)
def Ev.tr{d:Q0}(e:Ev P w K mg h C)(t:TB P w K mg k T)(n:Dn x x st ps)(F:Fact K x st)(q:(lN 90 (MG st C T) (L2.QE st)).map (λu=>gW (Nn st) u.1)=some d:=by kernel_rfl)(hk:2<=k:=by decide):TB P w K mg (k+1) (aR T x st ps d):=λb=>by
 obtain⟨u,rfl⟩:=jN q;exact(t b).ae (VP (rV e.X e.G F n.b) n.s (e.M b) (t b) hk u)
def Ev.te{d:Q0}(e:Ev P w K mg h C)(t:TB P w K mg k T)(n:Dn x x st ps)(F:Fact K x st)(q:(lN 90 (xI st C T) (L2.QE st)).map (λu=>gU (Nn st) u.1)=some d:=by kernel_rfl)(hk:2<=k:=by decide):TB P w K mg (k+1) (aE T x st ps d):=λb=>by
 obtain⟨u,rfl⟩:=jN q;exact(t b).ae (YQ (rV e.X e.G F n.b) n.s (e.M b) (t b) hk u)
def Ev.Uz{d:Q0}{y:Str}{fa:Addr}(e:Ev P w K mg h C)(hmg:mg x=some (.ref fa))(t:TB P w K mg k T)(n:Dn x x st [y])(F:Fact K x st)(q:(lN 90 (xI st C T) (L2.QE st)).map (λu=>gU (Nn st) u.1)=some d:=by kernel_rfl)(hk:2<=k:=by decide):
  ∃fd:FuncData,(∀(s:Shared) (u:Value),BindsTo s fd ⟨[u],[]⟩ [(y,u)])/\∀base:Heap,o8 ⟨P,w,K,mg,base⟩ (k+1) fa fd [y] d:=by
 obtain⟨u,rfl⟩:=jN q;exact Wb e.X e.G hmg F n.s n.b e.M t hk u
end
end HN
namespace HS
open PySem L2
noncomputable def pairD(p:Int×Int):D:= .tup [.int p.1,.int p.2]
noncomputable def n8(p:Int×Int×Bool):D:= .tup [.int p.1,.int p.2.1,.bl p.2.2]
noncomputable def Q7(ns:List Int):D:= .lst (ns.map .int)
def Qr(ps:bE):D:= .lst (ps.map pairD)
def Qj(m:Int)(R L:bE):D:= .tup [.int m,Qr R,Qr L]
def n7{α:Type}{f:α->D}(h:∀a,(f a).flat=true):∀l:List α,QU (l.map f)=true
 | []=>rfl
 | a::l=>by simp[QU,h a,n7 h l]
@[simp] theorem Ě(i:Int):(D.int i).flat=true:=rfl
@[simp] theorem ħ(i:Bool):(D.bl i).flat=true:=rfl
@[simp] theorem Ĥ:D.aT.flat=true:=rfl
@[simp] theorem ĭ(x:Str):(D.str x).flat=true:=rfl
@[simp] theorem Ğ(xs:List D):(D.tup xs).flat=QU xs:=rfl
@[simp] theorem ğ:QU []=true:=rfl
@[simp] theorem Ĭ(d:D)(ds:List D):QU (d::ds)=(d.flat && QU ds):=rfl
@[simp] theorem Ģ(p:Int×Int):(pairD p).flat=true:=rfl
@[simp] theorem ī(p:Int×Int×Bool):(n8 p).flat=true:=rfl
@[simp] theorem ĥ(ns:List Int):(Q7 ns).flat=false:=rfl
@[simp] theorem Ĝ(ns:bE):(Qr ns).flat=false:=rfl
@[simp] theorem ġ(ps:bE):QU (ps.map pairD)=true:=n7 (λ_=>rfl) _
@[simp] theorem Ī(ps:List (Int×Int×Bool)):QU (ps.map n8)=true:=n7 (λ_=>rfl) _
@[simp] theorem zO(ns:List Int):QU (ns.map .int)=true:=n7 (λ_=>rfl) _
@[simp] theorem NP(xs ys:List D):QU (xs++ys)=(QU xs && QU ys):=GN xs ys
def Run(f:DS)(U:En)(Q:Out->Prop):Prop:=∃o,f U=some o/\Q o
def Nx(Q:En->Prop):Out->Prop
 | .nx U=>Q U
 | _=>False
def Rt(Q:D->Bool->Prop):Out->Prop
 | .rt d fr=>Q d fr
 | _=>False
def Run.mono(h:Run f U Q)(m:∀o,Q o->Q' o):Run f U Q':=let ⟨o,h1,h2⟩:=h;⟨o,h1,m o h2⟩
def Qw(h:Q (.nx U)):Run Qc U Q:=⟨_,rfl,h⟩
def run_seq(h:Run f U (Nx λU'=>Run g U' Q)):Run (Qa f g) U Q:=by
 obtain⟨o,h1,h2⟩:=h;cases o with
 | nx U'=>
  obtain⟨o',h3,h4⟩:=h2;exact⟨o',by simp[Qa,h1,h3],h4⟩
 | _=>exact False.elim h2
def fJ(h:Run f U λo=>match o with | .nx U'=>Run g U' Q | o=>Q o):Run (Qa f g) U Q:=by
 obtain⟨o,h1,h2⟩:=h;cases o with
 | nx U'=>
  obtain⟨o',h3,h4⟩:=h2;exact⟨o',by simp[Qa,h1,h3],h4⟩
 | bk U'=>exact⟨_,by simp[Qa,h1],h2⟩
 | ct U'=>exact⟨_,by simp[Qa,h1],h2⟩
 | rt d fr=>exact⟨_,by simp[Qa,h1],h2⟩
def Q5(h:fa U=some r)(q:Q (.nx (asg i r U))):Run (Qm i fa) U Q:=⟨_,by simp[Qm,h],q⟩
def AL(h:fa U=some r)(q:Q (.rt r.d (r.norm.fr && decide r.norm.M.Nodup))):Run (Qv fa) U Q:=⟨_,by simp[Qv,h],q⟩
def cY(h:g U=some b)(q1:b=true->Run f1 U Q)(q2:b=false->Run f2 U Q):Run (aQ g f1 f2) U Q:=by
 cases b with
 | true=>obtain⟨o,h1,h2⟩:=q1 rfl;exact⟨o,by simp[aQ,h,h1],h2⟩
 | false=>obtain⟨o,h1,h2⟩:=q2 rfl;exact⟨o,by simp[aQ,h,h1],h2⟩
def gO(h:Run f (Qy k ds) (Rt λd' fr'=>d'=d/\fr'=fr)):Qt k f ds=some (d,fr):=by
 obtain⟨o,h1,h2⟩:=h;unfold Qt;cases o with
 | rt d' fr'=>obtain⟨rfl,rfl⟩:=h2;rw[h1];rfl
 | _=>exact False.elim h2
def Ii{α:Type}{t:Tg}{fb:DS}{toD:α->D}{Q:Out->Prop}(I:Nat->En->Prop):∀(xs ys:List α) (U:En),I ys.length U→
  (∀i x U,(ys++xs)[i]? =some x->ys.length<=i->I i U->∃U1,gP t (toD x) U=some U1/\Run fb U1 λo=>match o with | .nx U2=>I (i+1) U2 | .ct U2=>I (i+1) U2 | .bk U2=>Q (.nx U2) | .rt d fr=>Q (.rt d fr))→
  (∀U,I (ys++xs).length U->Q (.nx U))->Run (jC t fb (xs.map toD)) U Q
 | [],ys,U,h0,_,fin=>⟨_,rfl,fin U (by simpa using h0)⟩
 | x::xs,ys,U,h0,turn,fin=>by
  obtain⟨U1,h1,o,h2,h3⟩:=turn ys.length x U ⋯ (Zu _) h0;have next:∀U2,I (ys.length+1) U2->Run (jC t fb (xs.map toD)) U2 Q:=λU2 hi=>
   Ii I xs (ys++[x]) U2 (by simpa using hi) (λi y U' e hl=>turn i y U' (by simpa using e) (by simp at hl;lia)) (λU' h=>fin U' (by simpa using h))
  cases o with
  | nx U2=>obtain⟨o',e1,e2⟩:=next U2 h3;exact⟨o',by simp[jC,h1,h2,e1],e2⟩
  | ct U2=>obtain⟨o',e1,e2⟩:=next U2 h3;exact⟨o',by simp[jC,h1,h2,e1],e2⟩
  | bk U2=>exact⟨_,by simp[jC,h1,h2],h3⟩
  | rt d fr=>exact⟨_,by simp[jC,h1,h2],h3⟩
def gX{α:Type}{fi:DI}{t:Tg}{fb:DS}{toD:α->D}{U:En}{ir:IR}{Q:Out->Prop}(xs:List α)(I:Nat->En->Prop)(h:fi U=some ir)(hx:ir.items=xs.map toD)(h0:I 0 (dH ir.M U))
  (turn:∀i x U,xs[i]? =some x->I i U->∃U1,gP t (toD x) U=some U1/\Run fb U1 λo=>match o with | .nx U2=>I (i+1) U2 | .ct U2=>I (i+1) U2 | .bk U2=>Q (.nx U2) | .rt d fr=>Q (.rt d fr))
  (fin:∀U,I xs.length U->Q (.nx U)):Run (bV fi t fb) U Q:=by
 obtain⟨o,h1,h2⟩:=Ii (t:=t) (fb:=fb) (toD:=toD) (Q:=Q) I xs [] (dH ir.M U) h0 (λi x U e _=>turn i x U (by simpa using e)) (λU h=>fin U (by simpa using h));exact⟨o,by simp[bV,h,hx,h1],h2⟩
def JF{α:Type}{t:Tg}{ft:DT}{fe:DE}{Uc:En}{toD:α->D}{keep:α->Bool}{out:α->D}:∀(xs:List α) (acc:List D),
  (∀x∈xs,∃U1,gP t (toD x) Uc=some U1/\ft U1=some (keep x)/\(keep x=true->∃r,fe U1=some r/\r.d=out x/\r.norm.fr=true))→
  (xs.map toD).foldlM (nV t ft fe Uc) (acc,true)=some (acc++(xs.filter keep).map out,true)
 | [],acc,_=>by simp
 | x::xs,acc,h=>by
  obtain⟨U1,h1,h2,h3⟩:=h x Zs;have ih:=λacc=>JF xs acc (λy hy=>h y (Zl _ hy));cases hk:keep x with
  | false=>
   have e:nV t ft fe Uc (acc,true) (toD x)=some (acc,true):=by simp[nV,h1,h2,hk]
   simp[Ac,e,ih,hk]
  | true=>
   obtain⟨r,h4,h5,h6⟩:=h3 hk;have e:nV t ft fe Uc (acc,true) (toD x)=some (acc++[out x],true):=by simp[nV,h1,h2,hk,h4,h5,h6]
   simp[Ac,e,ih,hk]
def tY{α:Type}{fi:DI}{t:Tg}{cap:List (Option Nat)}{ft:DT}{fe:DE}{U:En}{ir:IR}{toD:α->D}{keep:α->Bool}{out:α->D}(xs:List α)(h:fi U=some ir)(hx:ir.items=xs.map toD)
  (turn:∀x∈xs,∃U1,gP t (toD x) (iX cap U)=some U1/\ft U1=some (keep x)/\(keep x=true->∃r,fe U1=some r/\r.d=out x/\r.norm.fr=true)):
  Qz fi t cap ft fe U=some ⟨.lst ((xs.filter keep).map out),true,[]⟩:=by
 unfold Qz;rw[h,Option.bind_some,hx,JF xs [] turn];simp
def kP{α:Type}{fi:DI}{t:Tg}{cap:List (Option Nat)}{fe:DE}{U:En}{ir:IR}{toD:α->D}{out:α->D}(xs:List α)(h:fi U=some ir)(hx:ir.items=xs.map toD)
  (turn:∀x∈xs,∃U1,gP t (toD x) (iX cap U)=some U1/\∃r,fe U1=some r/\r.d=out x/\r.norm.fr=true):
  Qz fi t cap QJ fe U=some ⟨.lst (xs.map out),true,[]⟩:=by
 have:=tY (keep:=λ_=>true) (ft:=QJ) xs h hx (cap:=cap) (t:=t) (fe:=fe) (out:=out) λx hx=>by
  obtain⟨U1,h1,h2⟩:=turn x hx;exact⟨U1,h1,rfl,λ_=>h2⟩
 rw[this,D0.mpr λ_ _=>rfl]
@[simp] theorem ĩ(d:D):R.norm ⟨d,true,[]⟩=⟨d,true,[]⟩:=by unfold R.norm;split<;>rfl
@[simp] theorem lU(i:Nat)(d:D)(U:En):asg i ⟨d,true,[]⟩ U=U.set i (some (d,true)):=by unfold asg;simp[kill]
def eI{i:Nat}{fa:DE}{g:DS}{U:En}{d:D}{Q:Out->Prop}(h:fa U=some ⟨d,true,[]⟩)(q:Run g (U.set i (some (d,true))) Q):Run (Qa (Qm i fa) g) U Q:=run_seq (Q5 h (by rw[lU];exact q))
def Jx{n k k1:Nat}(h:(List.range n)[k]? =some k1):k<n/\k=k1:=by
 obtain⟨h1,h2⟩:=Zn.mp h;simp at h1 h2;exact⟨h1,h2⟩
def FH{i:Nat}{d:D}{fr:Bool}{M:List Nat}{U:En}(h:d.flat=true):asg i ⟨d,fr,M⟩ U=U.set i (some (d,true)):=by
 unfold asg R.norm;simp[h,kill]
def hZ{i:Nat}{U:En}{d:D}{b:Bool}(h:U[i]? =some (some (d,b))):Qd i U=some (if d.flat then⟨d,true,[]⟩else if b then⟨d,true,[i]⟩else⟨d,false,[]⟩):=by
 unfold Qd;rw[h];dsimp only;split
 .simp_all
 .split<;>simp_all
@[simp] theorem lD(d:D)(U:En):dC d U=some ⟨d,true,[]⟩:=rfl
def QS{g:D->D->Option D}{fa fb:DE}{U:En}{ra rb:R}{d:D}(ha:fa U=some ra)(hb:fb U=some rb)(h:g ra.d rb.d=some d):aB g fa fb U=some ⟨d,true,[]⟩:=by simp[aB,ha,hb,h]
def Qe{fa:DE}{fs:DA}{U:En}{r:R}{rs:RA}(ha:fa U=some r)(hs:fs U=some rs):Qb fa fs U=some ⟨r.d::rs.ds,r.fr && rs.fr,r.M++rs.M⟩:=by simp[Qb,ha,hs]
@[simp] theorem QC(U:En):Qq U=some ⟨[],true,[]⟩:=rfl
@[simp] theorem Pb(i j:Int)(h:0<=j):sW i j=i % j:=by unfold sW;rw[if_pos h]
@[simp] theorem Ys(i j:Int)(h:0<=j):uR i j=i / j:=by unfold uR;rw[if_pos h]
def Bq{i j:Int}(h:i.natAbs<2^64):oU i j=true:=by unfold oU;simp[h]
def yV{i j:Int}(h:j.natAbs<2^64):oU i j=true:=by unfold oU;simp[h]
def mE:(sizeLine:Nat)=16777216:=sizeLine_eq
noncomputable def Qi(m:Nat)(f:b8):D:= .lst ((List.range m).map λi=> .int (f i))
def eP(m n:Nat)(f:jU):D:= .lst ((List.range m).map λi=>Qi n (f i))
@[simp] theorem ĝ(m:Nat)(f:b8):(Qi m f).flat=false:=rfl
@[simp] theorem Ġ(m n:Nat)(f:jU):(eP m n f).flat=false:=rfl
@[simp] theorem Ĩ(m:Nat)(f:b8):QU ((List.range m).map λi=>D.int (f i))=true:=n7 (f:=λi=>D.int (f i)) (λ_=>rfl) _
noncomputable def up(f:b8)(i:Nat)(v:Int):Nat->Int:=λj=>if j=i then v else f j
def iG(f:jU)(i j:Nat)(v:Int):Nat->Nat->Int:=λk=>if k=i then up (f k) j v else f k
def wG{n:Nat}{i:Int}(h0:0<=i)(h:i<n):kI n i=some i.toNat:=by
 unfold kI;rw[if_pos ⋯,if_pos ⋯]
def vW{α:Type}{xs:List α}{i:Int}(h0:0<=i)(h:i<xs.length):eU xs i=xs[i.toNat]? :=by
 unfold eU;rw[wG h0 h];rfl
def Cc{α:Type}{m:Nat}{f:Nat->α}{i:Nat}{v:α}:((List.range m).map f).set i v=(List.range m).map λj=>if j=i then v else f j:=by
 apply DQ;intro k;rw[List.getElem?_set];simp only[Zh,ZP,Zy];by_cases hk:k<m
 .rw[pW hk];by_cases e:i=k
  .subst e;simp[hk]
  .simp[e,Ne.symm e]
 .rw[qT (by simp;lia)];by_cases e:i=k
  .subst e;simp[hk]
  .simp[e]
def LL{m:Nat}{f:b8}{i:Nat}{v:Int}:((List.range m).map λj=>D.int (f j)).set i (.int v)=(List.range m).map λj=>D.int (up f i v j):=by
 rw[Cc];congr 1;funext j;unfold up;split<;>rfl
def Ls{m:Nat}{f:b8}{i:Int}(h0:0<=i)(h:i<m):eU ((List.range m).map λj=>D.int (f j)) i=some (.int (f i.toNat)):=by
 rw[vW h0 (by simpa using h),Zy,pW ⋯];rfl
def Lv{m n:Nat}{f:jU}{i:Int}(h0:0<=i)(h:i<m):eU ((List.range m).map λj=>Qi n (f j)) i=some (Qi n (f i.toNat)):=by
 rw[vW h0 (by simpa using h),Zy,pW ⋯];rfl
def RQ{x m:Nat}{f:b8}{fi fa:DE}{U:En}{i:Int}{v:Int}{ri ra:R}{Q:Out->Prop}(hx:U[x]? =some (aA (Qi m f)))(hi:fi U=some ri)(ei:ri.d= .int i)(ha:fa U=some ra)(ea:ra.d= .int v)(h0:0<=i)(h:i<m)
  (q:Q (.nx (U.set x (aA (Qi m (up f i.toNat v)))))):Run (gC x cN fi fa) U Q:=by
 refine⟨_,?_,q⟩;have hn:ra.norm=(aY v):=by unfold R.norm;rw[ea];rfl
 unfold gC;rw[ha,Option.bind_some,hx];simp only[cN,Option.bind_some,hi,ei,eG,Qi,Zh,ZP,wG h0 h,hn,ea,eW,LL];simp[kill]
def Hr{g:D->D->Option D}{x m n:Nat}{f:jU}{fp fi fa:DE}{U:En}{i j w:Int}{rp ri ra:R}{Q:Out->Prop}(hx:U[x]? =some (aA (eP m n f)))(hp:fp U=some rp)(ep:rp.d= .int i)(hi:fi U=some ri)(ei:ri.d= .int j)(ha:fa U=some ra)
  (h0:0<=i) (h:i<m) (k0:0<=j) (k:j<n) (hg:g (.int (f i.toNat j.toNat)) ra.d=some (.int w)) (q:Q (.nx (U.set x (aA (eP m n (iG f i.toNat j.toNat w)))))):Run (pM g x (tR cN fp) fi fa) U Q:=by
 refine⟨_,?_,q⟩;have hj:((List.range n).map λk=>D.int (f i.toNat k))[j.toNat]? =some (.int (f i.toNat j.toNat)):=by rw[Zy,pW ⋯];rfl
 have hd:eG (eP m n f) [i]=some (Qi n (f i.toNat)):=by
  simp only[eG,eP,D.items,Option.bind_some,Lv h0 h]
 have hu:eW [i] (eP m n f) (.lst (((List.range n).map λk=>D.int (f i.toNat k)).set j.toNat (.int w)))=eP m n (iG f i.toNat j.toNat w):=by
  simp only[eW,eP,Zh,ZP,wG h0 h,LL];rw[Cc];congr 2;funext k;unfold iG;split
  .rename_i e;subst e;rfl
  .rfl
 unfold pM;rw[hx];simp only[tR,cN,Option.bind_some,hp,ep,Ax,hi,ei,hd,Qi,Zh,ZP,wG k0 k,hj,ha,hg,ZR];rw[hu]
def sU{n:Nat}(h:fa U=some r)(e:r.d= .int n)(hn:n<=16777216):jD fa U=some ⟨(List.range n).map λ(k:Nat)=> .int (k:Int),[]⟩:=by
 unfold jD;rw[h,Option.bind_some,e];dsimp only;rw[if_pos ⟨⋯,⋯⟩];simp[rE]
def zZ{α:Type}(x:α):∀n:Nat,(List.replicate n [x]).flatten=(List.range n).map λ_=>x
 | 0=>rfl
 | n+1=>by
  rw[qN,vO,zZ x n,List.range_succ_eq_map,Zp,ZG];rfl
def Io{n:Nat}(h:fb U=some r)(e:r.d= .int n)(hn:n<=16777216):bS (Qx (Qb (dC (.int z)) Qq)) fb U=some (aO (Qi n (λ_=>z))):=by
 have h1:Qx (Qb (dC (.int z)) Qq) U=some (aO (.lst [.int z])):=rfl;unfold bS;rw[h1,Option.bind_some,h,Option.bind_some,e];dsimp only;rw[if_pos ⟨by simp[mE];lia,⋯,⋯,rfl⟩];simp only[Zx,zZ];rfl
def CZ:DS:=(Qa (Qm 2 (Qz (QD aL) (.tp [1,2]) [none,none,none] QJ (cJ (bB aF aK)))) (Qa (Qm 3 (Qz (QD aL) (.tp [1,2]) [none,none,none] QJ (cJ (bB aK aF)))) (Qa (Qv (Qk (Qk aK aU) (dList (aG aF)))) Qc)))
def MJ(ha:fa U=some ra)(ea:ra.d=Qr A)(hb:fb U=some rb)(eb:rb.d=Qr B)(hl:A.length+B.length<=16777216):Qk fa fb U=some (aO (Qr (A++B))):=by
 unfold Qk;rw[ha,Option.bind_some,hb,Option.bind_some,ea,eb];simp only[Qr,Zh,mE,if_pos hl,eE];simp
def R0(h:fs U=some rs)(e:rs.ds=[Qr A])(_:True=True):dList fs U=some (aO (Qr A)):=by
 unfold dList;rw[h,Option.bind_some,e];simp[Qr,eE]
def fN(h:fa U=some r)(q:Q r.d (r.norm.fr && decide r.norm.M.Nodup)):Run (Qa (Qv fa) g) U (Rt Q):=fJ (AL h q)
def Gq{R L:bE}(hl:R.length+R.length+L.length<=16777216):Qt 4 CZ [Qr R,Qr L]=aA (Qr (R++R.map Prod.swap++L)):=by
 refine gO ?_;refine run_seq (Q5 (kP R rfl rfl λx _=>⟨[none,aI x.1,aI x.2],rfl,⟨pairD x,true,[]⟩,rfl,rfl,rfl⟩) ?_);refine run_seq (Q5 (kP R rfl rfl λx _=>⟨[none,aI x.1,aI x.2],rfl,⟨pairD x.swap,true,[]⟩,rfl,rfl,rfl⟩) ?_);have e1:(R.map λx=>pairD x.swap)=(R.map Prod.swap).map pairD:=by simp[ZG,Function.comp_def]
 rw[e1];exact fN (MJ (MJ rfl rfl rfl rfl (by simpa using(by lia:R.length+R.length<=16777216))) rfl (R0 rfl rfl rfl) rfl (by simpa using hl)) ⟨rfl,rfl⟩
def QO(h:fs U=some r)(hd:den (r.ds++dfl)=some (d,true))(hl:r.ds.length+dfl.length=n):Qh n den dfl fs U=some ⟨d,true,[]⟩:=by
 unfold Qh;rw[h,Option.bind_some,if_pos hl,hd];simp
def fB(h:fa U=some r)(e:r.d= .lst xs):QD fa U=some ⟨xs,r.M⟩:=by
 unfold QD;rw[h,Option.bind_some,e]
def stepT(m:Nat)(f:jU)(s:Int×Int):Nat->Nat->Int:=
 let f1:=if s.1<m then iG f s.1.toNat s.1.toNat (f s.1.toNat s.1.toNat-1)else f
 if s.1<m/\s.2<m then iG f1 s.1.toNat s.2.toNat (f1 s.1.toNat s.2.toNat+1)else f1
def dB(m:Nat)(S:bE):Nat->Nat->Int:=S.foldl (stepT m) λ_ _=>0
def Dk(d_steps:aC):DS:=(Qa (Qm 1 (QP (Qg aL aZ))) (Qa (Qm 2 (Qz (jD aF) (.nm 1) [none,none,some 1] QJ (bS (Qx (aG aZ)) aK))) (Qa (bV (QD (Qh 2 d_steps [] (bB (Qg aL bA) (Qg aL bR)))) (.tp [3,4]) (Qa (aQ (Qf (aB bZ aU aF)) (Qa (pM hH 2 (tR cN aU) aU bA) Qc) Qc) (Qa (aQ (iN (Qf (aB bZ aU aF)) (Qf (aB bZ bJ aF))) (Qa (pM (gI λi j=>some (.int (i+j))) 2 (tR cN aU) bJ bA) Qc) Qc) Qc))) (Qa (Qv aK) Qc))))
def ì{d_steps:aC}{m:Nat}{R L S:bE}(hm:m<=16777216)(hs:d_steps [Qr R,Qr L]=aA (Qr S))(hS:∀s∈S,0<=s.1/\0<=s.2):Qt 5 (Dk d_steps) [Qj m R L]=aA (eP m m (dB m S)):=by
 refine gO ?_;refine run_seq (Q5 rfl ?_);refine run_seq (Q5 (kP (List.range m) (sU rfl rfl hm) rfl λx _=>⟨[none,aI x,aI m],rfl,_,Io rfl rfl hm,rfl,rfl⟩) ?_);refine run_seq (gX S (λi U=>∃j1 j2,U=[aP (Qj m R L),aI m,aA (eP m m (dB m (S.take i))),j1,j2]) (ir:=⟨S.map pairD,[]⟩) ?_ rfl ⟨none,none,rfl⟩ ?_ ?_)
 .exact fB (QO (r:=⟨[Qr R,Qr L],false,[]⟩) rfl hs rfl) rfl
 .rintro i s U hi ⟨j1,j2,rfl⟩;refine⟨_,rfl,?_⟩;obtain⟨s1,s2⟩:=hS s (ZK hi);refine run_seq (Run.mono (Q:=Nx λU=>U=[aP (Qj m R L),aI m,aA (eP m m (if s.1<m then iG (dB m (S.take i)) s.1.toNat s.1.toNat (dB m (S.take i) s.1.toNat s.1.toNat-1)else dB m (S.take i))),aI s.1,aI s.2]) ?_ ?_)
  .refine cY rfl (λh=>?_) (λh=>?_)
   .have h:=of_decide_eq_true h;rw[if_pos h];exact run_seq (Hr rfl rfl rfl rfl rfl rfl s1 h s1 h rfl (Qw rfl))
   .have h:=of_decide_eq_false h;rw[if_neg h];exact Qw rfl
  .intro o ho;cases o with
   | nx U=>
    subst ho;have fin:dB m (S.take (i+1))=stepT m (dB m (S.take i)) s:=by
     unfold dB;rw[A7,hi,List.foldl_append];rfl
    refine run_seq (Run.mono (Q:=Nx λU=>U=[aP (Qj m R L),aI m,aA (eP m m (stepT m (dB m (S.take i)) s)),aI s.1,aI s.2]) ?_ ?_)
    .refine cY (b:=decide (s.1<m/\s.2<m)) ?_ (λh=>?_) (λh=>?_)
     .by_cases h:s.1<(m:Int)
      .simp[iN,Qf,aB,Qd,bZ,gI,D.fO,h]
      .simp[iN,Qf,aB,Qd,bZ,gI,D.fO,h]
     .have h:=of_decide_eq_true h;refine run_seq (Hr rfl rfl rfl rfl rfl rfl s1 h.1 s2 h.2 rfl (Qw ?_));unfold stepT;rw[if_pos h];rfl
     .have h:=of_decide_eq_false h;refine Qw ?_;unfold stepT;rw[if_neg h];rfl
    .intro o ho;cases o with
     | nx U=>
      subst ho;exact Qw ⟨_,_,by rw[fin]⟩
     | _=>exact False.elim ho
   | _=>exact False.elim ho
 .rintro U ⟨j1,j2,rfl⟩;rw[pE];exact fN rfl ⟨rfl,rfl⟩
noncomputable def hit(i j:Nat)(s:Int×Int):Int:=(if s.1=i/\s.2=j then 1 else 0)-(if s.1=i/\i=j then 1 else 0)
def HP:iG f a b v i j=if i=a/\j=b then v else f i j:=by
 unfold iG up;by_cases h1:i=a
 .by_cases h2:j=b
  .simp[h1,h2]
  .simp[h1,h2]
 .simp[h1]
def Oh(hi:i<m)(hj:j<m)(h1:0<=s.1)(h2:0<=s.2):stepT m f s i j=f i j+hit i j s:=by
 unfold stepT hit;have e1:(s.1=(i:Int))↔(i=s.1.toNat):= ⋯
 have e2:(s.2=(j:Int))↔(j=s.2.toNat):= ⋯
 simp only[e1,e2];by_cases c1:s.1<(m:Int)
 .by_cases c2:s.2<(m:Int)
  .simp only[c1,c2,and_self,if_true,HP];generalize s.1.toNat=a;generalize s.2.toNat=b;by_cases d1:i=a
   .subst d1;by_cases d2:j=b
    .subst d2;by_cases d3:i=j
     .subst d3;simp
     .have d4:¬j=i:=λz=>d3 z.symm;simp[d3,d4]
    .by_cases d3:i=j
     .subst d3;simp[d2];lia
     .have d4:¬j=i:=λz=>d3 z.symm;simp[d2,d3,d4]
   .simp[d1]
  .have d2:¬(j=s.2.toNat):= ⋯
   simp only[c1,c2,and_false,if_false,if_true,HP,d2];generalize s.1.toNat=a;by_cases d1:i=a
   .subst d1;by_cases d3:i=j
    .subst d3;simp;lia
    .have d4:¬j=i:=λz=>d3 z.symm;simp[d3,d4]
   .simp[d1]
 .have d1:¬(i=s.1.toNat):= ⋯
  simp[c1,d1]
def LM(hi:i<m)(hj:j<m):∀(S:bE) (f:jU),(∀s∈S,0<=s.1/\0<=s.2)->S.foldl (stepT m) f i j=f i j+(S.map (hit i j)).sum
 | [],f,_=>by simp
 | s::S,f,h=>by
  obtain⟨h1,h2⟩:=h s Zs;rw[Af,LM hi hj S _ (λt ht=>h t (Zl _ ht)),Oh hi hj h1 h2,Zp,kX];lia
def OV(hi:i<m)(hj:j<m)(h:∀s∈S,0<=s.1/\0<=s.2):dB m S i j=(S.map (hit i j)).sum:=by
 unfold dB;rw[LM hi hj S _ h];simp
noncomputable def bN(i:Nat)(a:Int):Int:=if a=i then 1 else 0
def cM(R L:bE)(i:Nat):Int:=(R.map λr=>bN i r.1+bN i r.2).sum+(L.map λl=>bN i l.1).sum
def sum_neg(S:bE)(i:Nat)(h:∀s∈S,s.1≠s.2):(S.map (hit i i)).sum= -(S.map λs=>bN i s.1).sum:=by
 induction S with
 | nil=>rfl
 | cons s S ih=>
  rw[Zp,kX,ih λt ht=>h t (Zl _ ht),Zp,kX];have hn:=h s Zs;unfold hit bN;by_cases e:s.1=(i:Int)
  .have:¬(s.2=(i:Int)):=λz=>hn (e.trans z.symm);simp[e,this];lia
  .simp[e]
noncomputable def QI(R L:bE):List (Int×Int):=R++R.map Prod.swap++L
def YX(R L:bE)(i:Nat):((QI R L).map λs=>bN i s.1).sum=cM R L i:=by
 unfold QI cM;rw[ZH,ZH,BR,BR];have:(R.map λr=>bN i r.1+bN i r.2).sum=(R.map λs=>bN i s.1).sum+((R.map Prod.swap).map λs=>bN i s.1).sum:=by
  induction R with
  | nil=>rfl
  | cons r R ih=>simp only[Zp,kX,ih,Prod.fst_swap];lia
 lia
def Good(m:Nat)(s:Int×Int):Prop:=0<=s.1/\0<=s.2/\s.1<=m/\s.2<=m/\s.1≠s.2
def BI{m:Nat}{R L:bE}(hR:∀s∈R,Good m s)(hL:∀s∈L,Good m s):∀s∈QI R L,Good m s:=λs hs=>by
 unfold QI at hs;rcases Zf.mp hs with hs | hs
 .rcases Zf.mp hs with hs | hs
  .exact hR s hs
  .obtain⟨t,ht,rfl⟩:=Zq.mp hs;obtain⟨h1,h2,h3,h4,h5⟩:=hR t ht;exact⟨h2,h1,h4,h3,λz=>h5 z.symm⟩
 .exact hL s hs
def BH(d:aC):Prop:=∀(m:Nat) (R L:bE),m<=1000->R.length+R.length+L.length<=1000000->(∀s∈R,Good m s)->(∀s∈L,Good m s)->d [Qj m R L]=some (eP m m (dB m (QI R L)),true)
def Dl:BH (Qt 5 (Dk (Qt 4 CZ))):=λm R L hm hl hR hL=>by
 refine ì ⋯ (Gq ⋯) λs hs=>?_;obtain⟨h1,h2,_⟩:=BI hR hL s hs;exact⟨h1,h2⟩
def FX(d_toll_table:aC):DS:=(Qa (Qv (Qz (qS (Qh 1 d_toll_table [] (aG aL))) (.tp [1,2]) [none,none,none] QJ (aB hH aZ (Qg aK aF)))) Qc)
def ċ{α:Type}(m:Nat)(f:Nat->D):pU ((List.range m).map f)=(List.range m).map λi=> .tup [.int i,f i]:=by
 apply DQ;intro k;unfold pU;simp only[Zy,List.getElem?_zipIdx,Nat.zero_add];by_cases hk:k<m
 .rw[pW hk];rfl
 .rw[qT (by simp;lia)];rfl
def ND{d:aC}(hd:BH d){m:Nat}{R L:bE}(hm:m<=1000)(hl:R.length+R.length+L.length<=1000000)(hR:∀s∈R,Good m s)(hL:∀s∈L,Good m s):Qt 1 (FX d) [Qj m R L]=aA (Qi m (cM R L)):=by
 refine gO ?_;refine fN (kP (toD:=λ(i:Nat)=> .tup [.int i,Qi m (dB m (QI R L) i)]) (out:=λ(i:Nat)=> .int (cM R L i)) (ir:=⟨pU ((List.range m).map λi=>Qi m (dB m (QI R L) i)),[]⟩) (List.range m) ?_ ?_ λi hi=>?_) ⟨rfl,rfl⟩
 .unfold qS;rw[QO (n:=1) (fs:=Qb (Qd 0) Qq) (U:=Qy 1 [Qj m R L]) (dfl:=[]) (r:=⟨[Qj m R L],false,[]⟩) rfl (hd m R L hm hl hR hL) rfl];rfl
 .exact ċ (α:=Nat) m _
 .have hi:=Zr.mp hi;refine⟨[none,aI i,aP (Qi m (dB m (QI R L) i))],rfl,aY (0-dB m (QI R L) i i),?_,?_,rfl⟩
  .have e:Qg (Qd 2) (Qd 1) [none,aI (i:Int),aP (Qi m (dB m (QI R L) i))]=some (aY (dB m (QI R L) i i)):=by
    show((D.items (Qi m (dB m (QI R L) i))).bind λxs=>(eU xs (i:Int)).map λd=>(HS.R.norm ⟨d,false,[]⟩))=_;unfold Qi;rw[show D.items (.lst ((List.range m).map λj=>D.int (dB m (QI R L) i j)))=some ((List.range m).map λj=>D.int (dB m (QI R L) i j))from rfl,Option.bind_some,Ls ⋯ ⋯];rfl
   exact QS (rfl) e rfl
  .have g:=BI hR hL;rw[OV hi hi λs hs=>⟨(g s hs).1,(g s hs).2.1⟩,sum_neg _ i λs hs=>(g s hs).2.2.2.2,YX];show D.int (0- -(cM R L i))=_;rw[show(0:Int)- -(cM R L i)=cM R L i by lia]
def Bb(a b:Int):dI (.int a) (.int b)=decide (a=b):=by
 show PyData.eqv (.int a) (.int b)=_;unfold PyData.eqv;exact Bool.beq_eq_decide_eq a b
def AI(ha:fa U=some ra)(ea:ra.d= .int a)(hb:fb U=some rb)(eb:rb.d= .int b):aB aW fa fb U=some (aO (.bl (decide (a=b)))):=by
 refine QS ha hb ?_;rw[ea,eb];show some (D.bl (dI (.int a) (.int b)))=_;rw[Bb]
def uV(ha:fa U=some ra)(ea:ra.d= .int a)(hb:fb U=some rb)(eb:rb.d= .int b):aB bX fa fb U=some (aO (.bl (!decide (a=b)))):=by
 refine QS ha hb ?_;rw[ea,eb];show some (D.bl (!dI (.int a) (.int b)))=_;rw[Bb]
def yW(ha:fa U=some (aO (.bl a)))(hb:fb U=some (aO (.bl b))):pK fa fb U=some (aO (.bl (a && b))):=by
 unfold pK;rw[ha];cases a<;>simp[D.fO,hb]
def QB(ha:fa U=some r)(e:r.d= .bl b):Qf fa U=some b:=by
 unfold Qf;rw[ha,Option.bind_some,e];rfl
def yJ(h:g U=some b):g8 g U=some (!b):=by unfold g8;rw[h];rfl
def rP(ha:g1 U=some a)(hb:g2 U=some b):cL g1 g2 U=some (a || b):=by
 unfold cL;rw[ha];cases a<;>simp[hb]
def AN(ha:g1 U=some a)(hb:g2 U=some b):iN g1 g2 U=some (a && b):=by
 unfold iN;rw[ha];cases a<;>simp[hb]
def o6(ha:fa U=some ra)(ea:ra.d= .int a)(hb:fb U=some rb)(eb:rb.d= .int b)(h:oU a b=true):bS fa fb U=some (aY (a*b)):=by
 unfold bS;rw[ha,Option.bind_some,hb,Option.bind_some,ea,eb];simp[h]
def eY(ha:fa U=some ra)(ea:ra.d= .int a)(hb:fb U=some rb)(eb:rb.d= .int b):Qk fa fb U=some (aY (a+b)):=by
 unfold Qk;rw[ha,Option.bind_some,hb,Option.bind_some,ea,eb]
def cZ(ha:fa U=some ra)(ea:ra.d= .int a)(hb:fb U=some rb)(eb:rb.d= .int b)(h:0<b):aB QX fa fb U=some (aY (a % b)):=by
 refine QS ha hb ?_;rw[ea,eb];show(if b≠0 then some (D.int (sW a b))else none)=_;rw[if_pos ⋯,Pb _ _ ⋯]
def m5(ha:fa U=some ra)(ea:ra.d= .int a)(hb:fb U=some rb)(eb:rb.d= .int b)(h:0<b)(h2:b<2^64):aB eJ fa fb U=some (aY (a / b)):=by
 refine QS ha hb ?_;rw[ea,eb];have:xU b=true:=by
  unfold xU;have h3:b.natAbs<2^8000:=wX (by lia:b.natAbs<2^64) (BP ∅ ∅);simp only[Ze,decide_eq_true_eq];exact⟨⋯,h3⟩
 show(if xU b=true then some (D.int (uR a b))else none)=_;rw[if_pos this,Ys _ _ ⋯]
def TN{fa fb:DE}{U:En}{ra rb:R}{m:Nat}{f:b8}{i:Int}(ha:fa U=some ra)(ea:ra.d=Qi m f)(hb:fb U=some rb)(eb:rb.d= .int i)(h0:0<=i)(h:i<m):Qg fa fb U=some (aY (f i.toNat)):=by
 unfold Qg;rw[ha,Option.bind_some,hb,Option.bind_some,ea,eb];simp only[Qi,D.items,Option.bind_some,Ls h0 h,ZR];rfl
def Oj{fa fb:DE}{U:En}{ra rb:R}{ns:List Int}{i:Int}{v:Int}(ha:fa U=some ra)(ea:ra.d= .lst (ns.map .int))(hb:fb U=some rb)(eb:rb.d= .int i)(h0:0<=i)(h:ns[i.toNat]? =some v):Qg fa fb U=some (aY v):=by
 have hl:i<ns.length:=by have:=(Zn.mp h).1;lia
 unfold Qg;rw[ha,Option.bind_some,hb,Option.bind_some,ea,eb];simp only[D.items,Option.bind_some];rw[vW h0 (by simpa using hl),Zy,h];rfl
def LF:DS:=(Qa (aQ (Qf (aB bZ aF (aS QN (aG aL)))) (Qa (Qv (Qg aL aF)) Qc) Qc) (Qa (Qv aZ) Qc))
def Ah(d:aC):Prop:=∀(ns:List Int) (k:Nat),d [.lst (ns.map .int),.int k]=some (.int (ns.getD k 0),true)
def BO:Ah (Qt 2 LF):=λns k=>by
 refine gO ?_;refine fJ (cY (b:=decide ((k:Int)<ns.length)) ?_ (λh=>?_) (λh=>?_))
 .refine QB (QS (rb:=aY ns.length) rfl ?_ rfl) rfl;show some (HS.R.mk (.int ((ns.map D.int).length:Int)) true [])=_;rw[Zh]
 .have h:=of_decide_eq_true h;have hk:k<ns.length:= ⋯
  have e:ns[k]? =some (ns.getD k 0):=by rw[Zz,Zt hk];rfl
  exact fJ (AL (Oj rfl rfl rfl rfl ⋯ (by simpa using e)) ⟨rfl,rfl⟩)
 .have h:=of_decide_eq_false h;have e:ns.getD k 0=0:=by rw[Zz,qT ⋯];rfl
  rw[e];exact Qw (fN rfl ⟨rfl,rfl⟩)
noncomputable def fQ(t k:Int):Int:=(t+17)*(k*k+7*k+11)*69621 % 2147483647
def kH(m t k:Int):Int:=if fQ t k % (k+1)<k then(fQ t k % (k+1)+t) % m else m
def qF(m t kind:Int)(k:Int):Int×Int×Bool:=((k+t) % m,kH m t k,decide (kind=2) || (decide (kind=3) && decide (fQ t k / 64 % 2=1)))
def jO(m:Nat)(t kind:Int):List (Int×Int×Bool):=(List.range m).map λ(k:Nat)=>qF m t kind k
def GoodW(m:Nat)(w:Int×Int×Bool):Prop:=Good m (w.1,w.2.1)/\(w.2.2=true->w.1<m)
def jA(W:List (Int×Int×Bool)):D:= .lst (W.map n8)
@[simp] theorem ě(W:List (Int×Int×Bool)):(jA W).flat=false:=rfl
def HE{a x n:Int}(h1:0<x)(h2:x<n):(a+x) % n≠a % n:=λh=>by
 have h3:(a+x-a) % n=0:=Int.emod_eq_emod_iff_emod_sub_eq_zero.mp h;rw[show a+x-a=x by lia,Er ⋯ h2]at h3;lia
def YJ{m:Nat}{t kind:Int}{k:Nat}(hk:k<m):GoodW m (qF m t kind k):=by
 have hm:(0:Int)<m:= ⋯
 have h1:=ZM ((k:Int)+t) (by lia:(m:Int)≠0);have h2:=ZQ ((k:Int)+t) hm;unfold qF kH;split
 .rename_i hlt;have h3:=ZM (fQ t k) (by lia:((k:Int)+1)≠0);have h4:=ZM (fQ t k % (k+1)+t) (by lia:(m:Int)≠0);have h5:=ZQ (fQ t k % (k+1)+t) hm;refine⟨⟨h1,h4,by dsimp only;lia,by dsimp only;lia,?_⟩,λ_=>by dsimp only;lia⟩;dsimp only;have h6:=HE (a:=fQ t k % (k+1)+t) (x:=k-fQ t k % (k+1)) (n:=m) ⋯ ⋯;rw[show fQ t k % (k+1)+t+(k-fQ t k % (k+1))=k+t by lia]at h6;exact h6
 .exact⟨⟨h1,by dsimp only;lia,by dsimp only;lia,by dsimp only;lia,by dsimp only;lia⟩,λ_=>by dsimp only;lia⟩
def yI(hx:U[x]? =some (aA (.lst xs)))(ha:fa U=some r)(hf:r.d.flat=true)(hl:xs.length<16777216)(q:Q (.nx (U.set x (aA (.lst (xs++[r.d])))))):Run (lA x cN fa) U Q:=by
 refine⟨_,?_,q⟩;have hn:r.norm=⟨r.d,true,[]⟩:=by unfold HS.R.norm;rw[if_pos hf]
 unfold lA;rw[hx];simp only[cN,Option.bind_some,ha,eG,BF,hn,eW,kill,mE];simp[hl]
def Run.nx(h:Run f U (Nx Q))(m:∀U,Q U->Q' U):Run f U (Nx Q'):=h.mono λo ho=>by
 cases o with
 | nx U=>exact m U ho
 | _=>exact ho.elim
def lI(h:Run f U (Nx P))(k:∀U',P U'->Run g U' Q):Run (Qa f g) U Q:=run_seq (h.nx k)
noncomputable def iW(c:Int):Int:=c*48271 % 2147483647
def mStart(m c:Int):Int:=iW c % (m+1)
def yL(m c:Int):Int:=(mStart m c+1+iW c / 9 % m) % (m+1)
def IL(m kind c:Int):Int×Int×Bool:=(mStart m c,yL m c,decide (mStart m c<m) && (decide (kind=2) || (decide (kind=3) && decide (iW c / 72 % 3=1))))
def Un{m:Nat}(hm:0<m)(kind c:Int):GoodW m (IL m kind c):=by
 have h1:=ZM (iW c) (by lia:(m:Int)+1≠0);have h2:=ZQ (iW c) (by lia:(0:Int)<m+1);have h3:=ZM (iW c / 9) (by lia:(m:Int)≠0);have h4:=ZQ (iW c / 9) (by lia:(0:Int)<m);have h5:=ZM (mStart m c+1+iW c / 9 % m) (by lia:(m:Int)+1≠0);have h6:=ZQ (mStart m c+1+iW c / 9 % m) (by lia:(0:Int)<m+1);have h7:=HE (a:=mStart m c) (x:=1+iW c / 9 % m) (n:=(m:Int)+1) ⋯ ⋯;rw[← Int.add_assoc,show mStart m c % ((m:Int)+1)=mStart m c from Er h1 h2]at h7;refine⟨⟨h1,h5,?_,?_,λz=>h7 z.symm⟩,λh=>?_⟩
 .show mStart m c<=m;unfold mStart;lia
 .show yL m c<=m;unfold yL;lia
 .have:(IL m kind c).2.2=(decide (mStart m c<m) && (decide (kind=2) || (decide (kind=3) && decide (iW c / 72 % 3=1)))):=rfl;rw[this,Ze,decide_eq_true_eq]at h;exact h.1
noncomputable def nK(w:Int×Int×Bool):Int×Int:=(if w.2.1<w.1 then w.2.1 else w.1,if w.2.1>w.1 then w.2.1 else w.1)
noncomputable def CE(w:Int×Int×Bool):Int×Int:=(w.1,w.2.1)
def gZ(W:List (Int×Int×Bool)):List (Int×Int):=(W.filter λw=> !w.2.2).map nK
def eV(W:List (Int×Int×Bool)):List (Int×Int):=(W.filter λw=>w.2.2).map CE
def BX{m:Nat}{W:List (Int×Int×Bool)}(h:∀w∈W,GoodW m w):∀s∈gZ W,Good m s/\s.1<s.2:=λs hs=>by
 obtain⟨w,hw,rfl⟩:=Zq.mp hs;obtain⟨⟨h1,h2,h3,h4,h5⟩,_⟩:=h w (mH.mp hw).1;simp only at h1 h2 h3 h4 h5;unfold nK Good;simp only;split<;>split<;>lia
def AG{m:Nat}{W:List (Int×Int×Bool)}(h:∀w∈W,GoodW m w):∀s∈eV W,Good m s/\s.1<m:=λs hs=>by
 obtain⟨w,hw,rfl⟩:=Zq.mp hs;obtain⟨h1,h2⟩:=h w (mH.mp hw).1;exact⟨h1,h2 (by simpa using(mH.mp hw).2)⟩
def VV{fa:DE}{U:En}{r:R}{W:List (Int×Int×Bool)}(h:fa U=some r)(e:r.d=jA W):Qz (QD fa) (.tp [1,2,3]) [none,none,none,none] (g8 (Qf (Qd 3))) (cJ (Qb (aS gM (Qb (Qd 1) (Qb (Qd 2) Qq))) (Qb (aS gD (Qb (Qd 1) (Qb (Qd 2) Qq))) Qq))) U=some (aO (Qr (gZ W))):=by
 rw[tY W (fB h e) rfl λw _=>⟨[none,aI w.1,aI w.2.1,aA (.bl w.2.2)],rfl,yJ (QB rfl rfl),λ_=>⟨⟨pairD (nK w),true,[]⟩,rfl,rfl,rfl⟩⟩];unfold Qr gZ;rw[ZG];rfl
def Wr{fa:DE}{U:En}{r:R}{W:List (Int×Int×Bool)}(h:fa U=some r)(e:r.d=jA W):Qz (QD fa) (.tp [1,2,3]) [none,none,none,none] (Qf (Qd 3)) (cJ (Qb (Qd 1) (Qb (Qd 2) Qq))) U=some (aO (Qr (eV W))):=by
 rw[tY W (fB h e) rfl λw _=>⟨[none,aI w.1,aI w.2.1,aA (.bl w.2.2)],rfl,QB rfl rfl,λ_=>⟨⟨pairD (CE w),true,[]⟩,rfl,rfl,rfl⟩⟩];unfold Qr eV;rw[ZG];rfl
def Su{m:Nat}{t kind:Int}:∀w∈jO m t kind,GoodW m w:=λw hw=>by
 obtain⟨k,hk,rfl⟩:=Zq.mp hw;exact YJ (Zr.mp hk)
def AW(m:Nat)(t kind:Int):(jO m t kind).length=m:=by simp[jO]
def sO{fa:DE}{U:En}{r:R}{m:Int}{R L:bE}(h:fa U=some r)(e:r.d=Qj m R L):
  Qg fa (dC (.int 0)) U=some (aY m)/\Qg fa (dC (.int 1)) U=some ⟨Qr R,r.fr,r.M⟩/\Qg fa (dC (.int 2)) U=some ⟨Qr L,r.fr,r.M⟩:=by
 unfold Qg;rw[h];simp only[Option.bind_some,e,lD];exact⟨rfl,rfl,rfl⟩
def o9(h:fa U=some r)(e:r.d= .lst xs):aS QN (Qb fa Qq) U=some (aY xs.length):=by
 unfold aS;rw[Qe h (QC _),Option.bind_some];simp[e,QN]
def Ww(n:Nat)(ps:bE):(Qr ps).sim (n+2)=true:=by
 unfold Qr;simp only[D.sim,BL,ZN];intro p _;cases n<;>rfl
def Yr(ha:fa U=some ra)(hb:fb U=some rb)(h1:ra.d.sim 8=true)(h2:rb.d.sim 8=true):aB aW fa fb U=some (aO (.bl (dI ra.d rb.d))):=by
 refine QS ha hb ?_;unfold aW;rw[h1,h2];rfl
def BS(d:aC):Prop:=∀(m:Nat) (R L:bE),m<=1000->R.length+R.length+L.length<=1000000->(∀s∈R,Good m s)->(∀s∈L,Good m s)->d [Qj m R L]=some (Qi m (cM R L),true)
def Kr(h:BH d):BS (Qt 1 (FX d)):=λm R L h1 h2 h3 h4=>ND h h1 h2 h3 h4
def vM(m:Nat)(W:List (Int×Int×Bool)):Prop:=∀A:Nat->Prop,(∃p,p<m/\A p)->∃w∈W,w.1<m/\A w.1.toNat/\(w.2.1=m∨¬A w.2.1.toNat)
def vM.mono{m:Nat}{W W':List (Int×Int×Bool)}(h:vM m W)(s:∀w∈W,w∈W'):vM m W':=λA hA=>let ⟨w,hw,r⟩:=h A hA;⟨w,s w hw,r⟩
noncomputable def cA(m:Nat)(g:b8):Int:=((List.range m).map g).sum
def tH(m:Nat)(g:b8):cA (m+1) g=cA m g+g m:=by
 unfold cA;rw[As,ZH,BR];simp
def sI(h:∀i,i<m->f i=g i):cA m f=cA m g:=by
 unfold cA;rw[w7 λi hi=>h i (Zr.mp hi)]
def AB(m:Nat)(f g:b8):cA m (λi=>f i+g i)=cA m f+cA m g:=by
 induction m with
 | zero=>rfl
 | succ m ih=>rw[tH,tH,tH,ih];lia
def Pr(m:Nat):cA m (λ_=>0)=0:=by
 induction m with
 | zero=>rfl
 | succ m ih=>rw[tH,ih];rfl
def vT:DS:=(Qa (bV (QD aF) (.nm 2) (Qa (aQ (Qf (aB bX (aS QN (aG aK)) (Qg aL aZ))) (Qa Qn Qc) Qc) Qc)) Qc)
def FA(d:aC):Prop:=∀(m:Nat) (R L:bE) (fs:List (Nat->Int)),d [Qj m R L,.lst (fs.map λf=>Qi m f)]=some (.aT,true)
def CW:FA (Qt 3 vT):=λm R L fs=>by
 have key:Run vT (Qy 3 [Qj m R L,.lst (fs.map λf=>Qi m f)]) (Nx λ_=>True):=by
  refine run_seq (gX fs (λ_ U=>∃j2,U=[aP (Qj m R L),aP (.lst (fs.map λf=>Qi m f)),j2]) rfl rfl ⟨none,rfl⟩ ?_ ?_)
  .rintro i f U _ ⟨j2,rfl⟩;refine⟨_,rfl,?_⟩;refine run_seq (cY (b:=false) (QB (uV (o9 rfl rfl) rfl (sO rfl rfl).1 rfl) ⋯) (λh=>by cases h) (λ_=>Qw (Qw ⟨_,rfl⟩)))
  .rintro U ⟨j2,rfl⟩;exact Qw trivial
 obtain⟨o,h1,h2⟩:=key;unfold Qt;rw[h1];cases o with
 | nx U=>rfl
 | _=>exact h2.elim
def VL(d_need_rows:aC)(d_toll_table:aC):DS:=(Qa (cP (Qh 2 d_need_rows [] (bB aL (Qx (bB aF aK))))) (Qa (Qm 3 (dList (aG aF))) (Qa (bV (iC (Qh 1 d_toll_table [] (aG aL)) aK) (.tp [4,5]) (Qa (Qm 3 (Qz (iC aU bJ) (.tp [1,2]) [none,none,none,some 5] QJ (Qk aF (bS aU aK)))) Qc)) (Qa (Qv aU) Qc))))
def qX(h:fa U=some r)(q:Q (.nx U)):Run (cP fa) U Q:=⟨_,by simp[cP,h],q⟩
def Pj(f g:Nat->D):mB ((List.range m).map f) ((List.range m).map g)=(List.range m).map λi=> .tup [f i,g i]:=by
 generalize List.range m=l
 induction l with
 | nil=>rfl
 | cons n ns ih=>unfold mB at ih ⊢;simp only[Zp,ZI,ih]
def VI(ha:fa U=some ra)(ea:ra.d= .lst ((List.range m).map f))(hb:fb U=some rb)(eb:rb.d= .lst ((List.range m).map g)):iC fa fb U=some ⟨(List.range m).map λi=> .tup [f i,g i],ra.M++rb.M⟩:=by
 unfold iC;rw[ha,Option.bind_some,hb,Option.bind_some,ea,eb];simp only[Pj]
def Vl{a b:Nat}(ha:fa U=some ra)(ea:ra.d=Q7 cs)(hl:fl U=some rl)(el:rl.d= .int a)(hh:fh U=some rh)(eh:rh.d= .int b):Q6 fa (QL fl) (QL fh) U=some (aO (Q7 ((cs.drop (min a cs.length)).take (min b cs.length-min a cs.length)))):=by
 unfold Q6 QL;simp only[ha,hl,hh,Option.bind_some,ea,el,eh,Q7,cutD,Zh,HT.Ai,← CB,← BA,eE,zO,if_true]
def H8{i:Nat}(ha:fa U=some ra)(ea:ra.d=Qi m f)(hb:fb U=some rb)(eb:rb.d= .int i)(h:i<m):Qg fa fb U=some (aY (f i)):=by
 have:=TN ha ea hb eb ⋯ ⋯;rw[Zx]at this;exact this
def Ht(m:Nat)(S:bE):Prop:=∀A:Nat->Prop,(∃p,p<m/\A p)->∃s∈S,s.1<m/\A s.1.toNat/\(s.2=m∨¬A s.2.toNat)
def RL(h:vM m W):Ht m (QI (gZ W) (eV W)):=λA hA=>by
 obtain⟨w,hw,h1,h2,h3⟩:=h A hA;refine⟨(w.1,w.2.1),?_,h1,h2,h3⟩;unfold QI;cases e:w.2.2 with
 | true=>exact Za _ (Zq.mpr ⟨w,mH.mpr ⟨hw,e⟩,rfl⟩)
 | false=>
  have hr:nK w∈gZ W:=Zq.mpr ⟨w,mH.mpr ⟨hw,by simp[e]⟩,rfl⟩;by_cases hlt:w.2.1<w.1
  .refine Zc _ (Za _ (Zq.mpr ⟨nK w,hr,?_⟩));unfold nK;rw[if_pos hlt,if_neg ⋯];rfl
  .refine Zc _ (Zc _ ?_);have:nK w=(w.1,w.2.1):=by
    unfold nK;rw[if_neg hlt];by_cases hgt:w.2.1>w.1
    .rw[if_pos hgt]
    .rw[if_neg hgt];rw[show w.2.1=w.1 by lia]
   rw[← this];exact hr
def WN{P:Nat->Prop}(h:∃n,P n):∃n,P n/\∀k,k<n->¬P k:=by
 obtain⟨n,hn⟩:=h
 induction n using Nat.strongRecOn with
 | _ n ih=>
  by_cases h:∃k,k<n/\P k
  .obtain⟨k,hk,h⟩:=h;exact ih k hk h
  .exact⟨n,hn,λk hk hx=>h ⟨k,hk,hx⟩⟩
def DJ{α:Type}{g:α->Int}{X:Int}:∀S:List α,(∀s∈S,g s<=X)->(S.map g).sum<=S.length*X
 | [],_=>by simp
 | a::S,h=>by
  have h1:=h a ⋯;have h2:=DJ S λs hs=>h s (by simp[hs]);simp only[Zp,kX,ZA,Int.natCast_add,Int.add_mul];rw[show((1:Nat):Int)*X=X by simp];lia
def Dh{α:Type}{g:α->Int}:∀S:List α,(∀s∈S,0<=g s)->0<=(S.map g).sum
 | [],_=>by simp
 | a::S,h=>by
  have h1:=h a ⋯;have h2:=Dh S λs hs=>h s (by simp[hs]);simp only[Zp,kX];lia
def TX(m:Nat)(f:b8):Qi m f= .lst (((List.range m).map f).map D.int):=by
 unfold Qi;rw[ZG];rfl
def Iu:∀{ns:List Int},ns≠[]->∃m,pV ns=some m
 | [],h=>absurd rfl h
 | [n],_=>⟨n,rfl⟩
 | n::k::r,_=>by
  obtain⟨m,hm⟩:=Iu (ns:=k::r) ⋯;exact⟨if m<n then m else n,by simp only[pV,hm,ZR]⟩
def Ą(h:0<m)(f:b8):(List.range m).map f≠[]:=by
 intro z;have:=congrArg List.length z;simp at this;lia
def I6(m0:0<m)(f:b8):∃v,(∃i,i<m/\v=f i)/\(∀i,i<m->v<=f i)/\∀{fa:DE}{U:En}{r:R},fa U=some r->r.d=Qi m f->aS mP (Qb fa Qq) U=some (aY v):=by
 obtain⟨v,hv⟩:=Iu (Ą m0 f);obtain⟨h1,h2⟩:=DW hv;refine⟨v,?_,λi hi=>h2 _ (Zq.mpr ⟨i,Zr.mpr hi,rfl⟩),λ{fa U r} h e=>?_⟩
 .obtain⟨i,hi,e⟩:=Zq.mp h1;exact⟨i,Zr.mp hi,e.symm⟩
 .unfold aS;rw[Qe h (QC _),Option.bind_some];simp only[e,TX,mP,CG,Option.bind_some,hv,ZR]
def wN(d_need_rows:aC):DS:=(Qa (cP (Qh 2 d_need_rows [] (bB aL aF))) (Qa (bV (QD aF) (.nm 2) (Qa (aQ (Qf (aB bZ (aS mP (aG aK)) aZ)) (Qa Qn Qc) Qc) Qc)) Qc))
def Lf(d:aC):Prop:=∀(m:Nat) (R L:bE) (fs:List (Nat->Int)),0<m->(∀f∈fs,∀j,j<m->0<=f j)->d [Qj m R L,.lst (fs.map λf=>Qi m f)]=some (.aT,true)
def Kh(hn:FA dn):Lf (Qt 3 (wN dn)):=λm R L fs m0 hf=>by
 have key:Run (wN dn) (Qy 3 [Qj m R L,.lst (fs.map λf=>Qi m f)]) (Nx λ_=>True):=by
  refine run_seq (qX (QO rfl (hn m R L fs) rfl) ?_);refine run_seq (gX fs (λ_ U=>∃j2,U=[aP (Qj m R L),aP (.lst (fs.map λf=>Qi m f)),j2]) rfl rfl ⟨none,rfl⟩ ?_ ?_)
  .rintro i f U hi ⟨j2,rfl⟩;refine⟨_,rfl,?_⟩;obtain⟨v,⟨q,hq,e⟩,_,hv⟩:=I6 m0 f;have h0:=hf f (ZK hi) q hq;refine run_seq (cY (b:=false) (QB (QS (hv rfl rfl) rfl rfl) ?_) (λh=>by cases h) (λ_=>Qw (Qw ⟨_,rfl⟩)));show D.bl _=_;rw[decide_eq_false ⋯]
  .rintro U ⟨j2,rfl⟩;exact Qw trivial
 obtain⟨o,h1,h2⟩:=key;unfold Qt;rw[h1];cases o with
 | nx U=>rfl
 | _=>exact h2.elim
def Yd(d_need_heaps:aC)(d_toll_table:aC)(d_settled:aC):DS:=(Qa (cP (Qh 2 d_need_heaps [] (bB aL (Qx (aG aF))))) (Qa (Qm 2 (Qh 1 d_toll_table [] (aG aL))) (Qa (Qm 3 (bS (Qx (aG aZ)) (Qg aL aZ))) (Qa (Qm 4 (bS (Qx (aG aZ)) (Qg aL aZ))) (Qa (Qm 5 (cJ (bB aU bJ))) (Qa (Qm 6 (aS xM (aG aF))) (Qa (bV (FG (aB hH (E7 dJ) bA) (wM bA) (wM bA)) (.nm 7) (Qa (Qm 3 (Qz (iC (Qg bI aZ) aF) (.tp [1,2]) [none,none,none,some 7] QJ (Qk (bS bR aF) (aB QX (aB EU aK aU) bR)))) (Qa (Qm 4 (Qz (QD (Qg bI bA)) (.nm 1) [none,none] QJ (bS bR aF))) (Qa (Qm 5 (Qh 3 d_settled [] (bL aK aU bJ))) Qc)))) (Qa (Qv bI) Qc))))))))
def Up{m:Nat}{t kind:Int}:vM m (jO m t kind):=λA Z=>by
 obtain⟨p,hp,hA⟩:=Z;have ex:∃j:Nat,j<m/\A (((j:Int)+t) % m).toNat:=by
  have h1:=ZM ((p:Int)-t) (by lia:(m:Int)≠0);have h2:=ZQ ((p:Int)-t) (by lia:(0:Int)<m);refine⟨(((p:Int)-t) % m).toNat,⋯,?_⟩;have e:(((((p:Int)-t) % m).toNat:Int)+t) % m=p:=by
   rw[sJ h1,Int.emod_add_emod,Int.sub_add_cancel];exact Er ⋯ ⋯
  rw[e,Zx];exact hA
 obtain⟨j,⟨hj,hAj⟩,hmin⟩:=WN ex;have s1:=ZM ((j:Int)+t) (by lia:(m:Int)≠0);have s2:=ZQ ((j:Int)+t) (by lia:(0:Int)<m);refine⟨qF m t kind j,Zq.mpr ⟨j,Zr.mpr hj,rfl⟩,?_,hAj,?_⟩
 .exact s2
 .show kH m t j=m∨¬A (kH m t j).toNat
  unfold kH;split
  .rename_i h;have n1:=ZM (fQ t j) (by lia:(j:Int)+1≠0);right;intro z;refine hmin (fQ t j % ((j:Int)+1)).toNat ⋯ ⟨⋯,?_⟩;rw[sJ n1];exact z
  .exact .inl rfl
end HS
namespace HS
open PySem PySem.Spec L2 PyProof.Rows PySem.NumText
noncomputable def cp(x:Str):List Nat:=x.cps.toList
noncomputable def tx(l:List Nat):Str:=⟨l.toArray⟩
def cF(l:List Nat):cp (tx l)=l:=rfl
def kY(x:Str):tx (cp x)=x:=by cases x;rfl
def n6{x y:Str}(h:cp x=cp y):x=y:=by rw[← kY x,← kY y,h]
def dK(x:Str):x.length=(cp x).length:=by unfold cp Str.length;exact Fe.symm
def JC(x y:Str):cp (x++y)=cp x++cp y:=cps_toList_append x y
noncomputable def dig(n:Nat):List Nat:=(Nat.toDigits 10 n).map Char.toNat
def Lz:∀d:Nat,d<10->(Nat.digitChar d).toNat=48+d:= ∅
def yF{n:Nat}(h:n<10):dig n=[48+n]:=by
 unfold dig;rw[Nat.toDigits_of_lt_base h,Zp,Lz n h];rfl
def BW{n:Nat}(h:10<=n):dig n=dig (n / 10)++[48+n % 10]:=by
 have e:n=10*(n / 10)+n % 10:= ⋯
 have:=Nat.toDigits_append_toDigits (b:=10) (n:=n / 10) (d:=n % 10) ∅ ⋯ ⋯;rw[← e]at this;unfold dig;rw[← this,ZH,Nat.toDigits_of_lt_base (show n % 10<10 by lia),Zp,Lz _ ⋯];rfl
def Bg{P:Nat->Prop}(h1:∀n,n<10->P n)(h2:∀n,10<=n->P (n / 10)->P n)(n:Nat):P n:=by
 induction n using Nat.strongRecOn with
 | ind n ih=>
  by_cases h:n<10
  .exact h1 n h
  .exact h2 n ⋯ (ih _ ⋯)
def pZ(n:Nat):AllDigits (dig n):=by
 refine Bg (P:=λn=>AllDigits (dig n)) (λn h=>?_) (λn h ih=>?_) n
 .rw[yF h];intro c hc;rw[Zg]at hc;lia
 .rw[BW h];intro c hc;rcases Zf.mp hc with hc | hc
  .exact ih c hc
  .rw[Zg]at hc;lia
def ME(n:Nat):digitsVal (dig n)=n:=by
 refine Bg (P:=λn=>digitsVal (dig n)=n) (λn h=>?_) (λn h ih=>?_) n
 .rw[yF h];show 0*10+(48+n-48)=n;lia
 .rw[BW h,digitsVal_snoc,ih];lia
def Sz{n:Nat}(h0:0<n):∃c r,dig n=c::r/\49<=c:=by
 revert h0;refine Bg (P:=λn=>0<n->∃c r,dig n=c::r/\49<=c) (λn h h0=>?_) (λn h ih h0=>?_) n
 .exact⟨_,[],yF h,⋯⟩
 .obtain⟨c,r,e,hc⟩:=ih ⋯;exact⟨c,r++[48+n % 10],by rw[BW h,e];rfl,hc⟩
def uD(n:Nat):dig n≠[]:=by
 refine Bg (P:=λn=>dig n≠[]) (λn h=>?_) (λn h ih=>?_) n
 .rw[yF h];simp
 .rw[BW h];simp
def Fj{n k:Nat}(hk:0<k)(h:n<10^k):(dig n).length<=k:=by
 unfold dig;rw[Zh,← Nat.toList_repr,String.length_toList];exact(Nat.length_repr_le_iff hk).mpr h
noncomputable def QQ(i:Int):Str:=Str.ofString (toString i)
def rK(i:Int):cp (QQ i)=if i<0 then 45::dig i.natAbs else dig i.natAbs:=by
 show(Str.ofString (toString i)).cps.toList=_;rw[signs_ofString];cases i with
 | ofNat m=>
  rw[if_neg ⋯];show(Nat.repr m).toList.map Char.toNat=_;rw[Nat.toList_repr];rfl
 | negSucc m=>
  rw[if_pos (Int.negSucc_lt_zero m)];show("-" ++Nat.repr (m+1)).toList.map Char.toNat=_;rw[String.toList_append,ZH,Nat.toList_repr];rfl
def Jg(i:Int):32∉cp (QQ i):=by
 rw[rK];intro h;split at h
 .rcases Zj.mp h with h | h
  .lia
  .have:=pZ _ _ h;lia
 .have:=pZ _ _ h;lia
def EW(i:Int):cp (QQ i)≠[]:=by
 rw[rK];split
 .simp
 .exact uD _
def B1{i:Int}{k:Nat}(hk:0<k)(h:i.natAbs<10^k):(QQ i).length<=k+1:=by
 rw[dK,rK];have:=Fj hk h;split<;>simp<;>lia
def Cw{i:Int}{k:Nat}(hk:0<k)(h:i.natAbs<10^k)(hk':k<=4000):intText? (QQ i)=some i:=by
 have hl:=B1 hk h;have hc:=rK i;by_cases hi:i<0
 .rw[if_pos hi]at hc;rw[intText_neg (x:=QQ i) (cs:=dig i.natAbs) hc (pZ _) (uD _) ⋯,ME];congr 1;lia
 .rw[if_neg hi]at hc;have hc':(QQ i).cps.toList=dig i.natAbs:=hc;rw[intText_digits (x:=QQ i) (by rw[hc'];exact pZ _) (by rw[hc'];exact uD _) ⋯,hc',ME];congr 1;lia
noncomputable def jn(c:Nat):List (List Nat)->List Nat
 | []=>[]
 | [x]=>x
 | x::y::r=>x++c::jn c (y::r)
def oE(c:Nat):∀ts:List Str,cp (Str.join (tx [c]) ts)=jn c (ts.map cp)
 | []=>rfl
 | [x]=>rfl
 | x::y::r=>by
  rw[join_cons_cons,JC,JC,oE c (y::r)];show(cp x++[c])++_=cp x++c::_;rw[ZX];rfl
def Ku{c:Nat}:∀{a b r s:List Nat},c∉a->c∉b->a++c::r=b++c::s->a=b/\r=s
 | [],[],r,s,_,_,h=>⟨rfl,by simpa using h⟩
 | [],y::b,r,s,_,hb,h=>by simp at h;exact absurd (by simp[h.1]) hb
 | x::a,[],r,s,ha,_,h=>by simp at h;exact absurd (by simp[h.1]) ha
 | x::a,y::b,r,s,ha,hb,h=>by
  simp only[rB,List.cons.injEq]at h;obtain⟨e1,e2⟩:=Ku (λm=>ha (Zl _ m)) (λm=>hb (Zl _ m)) h.2;exact⟨by rw[h.1,e1],e2⟩
def Dx{c:Nat}:∀{a b:List (List Nat)},a≠[]->b≠[]->(∀x∈a,c∉x)->(∀x∈b,c∉x)->jn c a=jn c b->a=b
 | [],_,h,_,_,_,_=>absurd rfl h
 | _,[],_,h,_,_,_=>absurd rfl h
 | [x],[y],_,_,_,_,h=>by rw[show x=y from h]
 | [x],y::z::r,_,_,hx,_,h=>absurd (show c∈x from by rw[show x=y++c::jn c (z::r)from h];simp) (hx x ⋯)
 | y::z::r,[x],_,_,_,hx,h=>absurd (show c∈x from by rw[show x=y++c::jn c (z::r)from h.symm];simp) (hx x ⋯)
 | x::z::r,y::w::s,_,_,ha,hb,h=>by
  obtain⟨e1,e2⟩:=Ku (ha x ⋯) (hb y ⋯) (show x++c::jn c (z::r)=y++c::jn c (w::s)from h);rw[e1,Dx ⋯ ⋯ (λu hu=>ha u (Zl _ hu)) (λu hu=>hb u (Zl _ hu)) e2]
def Jc(x y:Str)(hy:y≠x->True):Txt.split x y=[]->x=Str.empty:=λh=>by
 have:=StrLaws.join_split x y;rw[h]at this;exact this.symm
def Hj:∀{a b:List Str},a.map cp=b.map cp->a=b
 | [],[],_=>rfl
 | [],_::_,h=>by simp at h
 | _::_,[],h=>by simp at h
 | x::a,y::b,h=>by
  simp only[Zp,List.cons.injEq]at h;rw[n6 h.1,Hj h.2]
def LH{c:Nat}{ts:List Str}(h0:∀t∈ts,c∉cp t)(h1:ts≠[])(h2:Txt.split (Str.join (tx [c]) ts) (tx [c])≠[]):Txt.split (Str.join (tx [c]) ts) (tx [c])=ts:=by
 refine Hj (Dx (c:=c) ?_ ?_ ?_ ?_ ?_)
 .simpa using h2
 .simpa using h1
 .intro x hx;obtain⟨t,ht,rfl⟩:=Zq.mp hx;exact StrLaws.split_free _ c t ht
 .intro x hx;obtain⟨t,ht,rfl⟩:=Zq.mp hx;exact h0 t ht
 .rw[← oE,← oE,StrLaws.join_split]
def Co:Str.ofString "-" =tx [45]:= ∅
def yN:Str.ofString " " =tx [32]:= ∅
def Ff:Str.ofString "" =tx []:= ∅
def Pu:Str.ofString "0123456789" =tx [48,49,50,51,52,53,54,55,56,57]:= ∅
def HL:Str.ofString "0" =tx [48]:= ∅
section
variable {fa fb:DE}{U:En}{ra rb r:R}
def sF{g:D->D->Option D}{d:D}(ha:fa U=some ra)(hb:fb U=some rb)(h:g ra.d rb.d=some d):eM g fa (Qb fb Qq) U=some ⟨d,true,[]⟩:=by
 unfold eM;rw[ha,Option.bind_some,Qe hb (QC _),Option.bind_some];show(g ra.d rb.d).map _=_;rw[h];rfl
def kZ{g:List D->Option D}{d:D}(h:fa U=some r)(e:g [r.d]=some d):aS g (Qb fa Qq) U=some ⟨d,true,[]⟩:=by
 unfold aS;rw[Qe h (QC _),Option.bind_some];show(g [r.d]).map _=_;rw[e];rfl
def Mq{x:Str}(h:fa U=some r)(e:r.d= .str x)(hl:x.length<=16000000):QD fa U=some ⟨(cp x).map λc=> .str (tx [c]),[]⟩:=by
 unfold QD;rw[h,Option.bind_some,e];exact if_pos (by rw[iI];exact ZE hl ∅)
def qJ{x:Str}(h:fa U=some r)(e:r.d= .str x)(hl:x.length<=16000000):aS QN (Qb fa Qq) U=some (aY x.length):=
 kZ h (by rw[e];exact if_pos (by rw[iI];exact ZE hl ∅))
def rJ{x y:Str}(ha:fa U=some ra)(ea:ra.d= .str x)(hb:fb U=some rb)(eb:rb.d= .str y)(hl:x.length+y.length<=16000000):Qk fa fb U=some (aO (.str (x++y))):=by
 unfold Qk;rw[ha,Option.bind_some,hb,Option.bind_some,ea,eb];exact if_pos (by rw[iI];exact ZE hl ∅)
def u3{x:Str}{n:Nat}(h:∀c∈cp x,c<200):(D.str x).sim n=true:=by
 have:(D.str x).sim n=x.cps.all (· <0x110000):=by cases n<;>rfl
 rw[this,← Array.all_toList,ZN];intro c hc;have:=h c hc;exact decide_eq_true ⋯
def Mw(x y:Str):dI (.str x) (.str y)=(x == y):=rfl
def Dc{x y:Str}(ha:fa U=some ra)(ea:ra.d= .str x)(hb:fb U=some rb)(eb:rb.d= .str y)(hx:∀c∈cp x,c<200)(hy:∀c∈cp y,c<200):aB aW fa fb U=some (aO (.bl (x == y))):=
 QS ha hb (by rw[ea,eb];unfold aW;rw[u3 hx,u3 hy,Mw];rfl)
def Rb{x y:Str}(ha:fa U=some ra)(ea:ra.d= .str x)(hb:fb U=some rb)(eb:rb.d= .str y)(hx:∀c∈cp x,c<200)(hy:∀c∈cp y,c<200):aB bX fa fb U=some (aO (.bl (!(x == y)))):=
 QS ha hb (by rw[ea,eb];unfold bX;rw[u3 hx,u3 hy,Mw];rfl)
def G6{α:Type}:∀ks:List α,nU (ks.map λ_=>D.bl false)=some (ks.map λ_=>false)
 | []=>rfl
 | k::ks=>by
  show(nU (ks.map λ_=>D.bl false)).map _=_;rw[G6 ks];rfl
def HJ{α:Type}{ks:List α}(h:fa U=some r)(e:r.d= .lst (ks.map λ_=> .bl false)):aS oN (Qb fa Qq) U=some (aO (.bl false)):=by
 refine kZ h ?_;rw[e];simp only[oN,G6,ZR];congr 2;rw[List.any_map];simp
end
def JY{w:Str}{c:Nat}{r:List Nat}(h:cp w=c::r):Txt.startswith w "-" =(c == 45):=by
 have e:w=tx (c::r):=n6 h;subst e;show Txt.startswith (tx (c::r)) (Str.ofString "-")=_;rw[Co];simp[Txt.startswith,Builtin.Str.subAt,tx,Str.length,List.extract_toArray]
def OE{w:Str}{c:Nat}{r:List Nat}(h:cp w=c::r):Txt.slice w (some 1) none=tx r:=by
 have hl:w.length=r.length+1:=by rw[dK,h];rfl
 have e:Txt.slice w (some 1) none=StrLaws.sliceText w (some ((1:Nat):Int)) (some (w.length:Int)):=by
  show StrLaws.sliceText w (some 1) none=_;unfold StrLaws.sliceText;rw[StrLaws.sliceIdx_none_hi];rfl
 rw[e,StrLaws.sliceText_nat w ⋯ (Zu _)];show tx (((cp w).drop 1).take (w.length-1))=_;rw[h,hl];show tx (r.take (r.length+1-1))=_;rw[Nat.add_sub_cancel,pE]
def E1{n c:Nat}(h:c∈dig n):c<200:=by have:=pZ n c h;lia
def C9{i:Int}{c:Nat}(h:c∈cp (QQ i)):c<200:=by
 rw[rK]at h;split at h
 .rcases Zj.mp h with h | h
  .lia
  .exact E1 h
 .exact E1 h
def UK{n c:Nat}(h:c∈dig n):bQ true (.str (tx [c])) (.str "0123456789")=some (.bl false):=by
 have f:=StrLaws.found_one (Str.ofString "0123456789") c;have hc:=pZ n c h;show some (D.bl (!(!(Builtin.Str.occurrences (Str.ofString "0123456789") ⟨#[c]⟩ 0 (Str.ofString "0123456789").length 1).isEmpty)))=_;rw[f,Pu];have:c∈(tx [48,49,50,51,52,53,54,55,56,57]).cps.toList:=by
  show c∈[48,49,50,51,52,53,54,55,56,57];simp only[Zj,q6,or_false];lia
 rw[decide_eq_true this];rfl
def JT:DS:=(Qa (Qm 1 (jP (Qf (eM mV aL (aG (dS "-")))) (Q6 aL (QL bA) Q3) aL)) (Qa (aQ (Qf (aS oN (aG (Qz (QD aF) (.nm 1) [none,none] QJ (aB (bQ true) aF (dS "0123456789")))))) (Qa Qn Qc) Qc) (Qa (aQ (cL (Qf (aB bZ (aS QN (aG aF)) bA)) (Qf (aB cS (aS QN (aG aF)) MF))) (Qa Qn Qc) Qc) (Qa (aQ (iN (Qf (aB aW (Qg aF aZ) (dS "0"))) (Qf (aB bX aL (dS "0")))) (Qa Qn Qc) Qc) (Qa (Qv (aS n9 (aG aL))) Qc)))))
def zL(d:aC):Prop:=∀i:Int,i.natAbs<10^18->d [.str (QQ i)]=some (.int i,true)
def zJ:zL (Qt 2 JT):=λi h=>by
 have hl:=B1 ∅ h;have hf:=Fj ∅ h;have hc:=rK i;refine gO ?_;have hs:Txt.startswith (QQ i) "-" =decide (i<0):=by
  by_cases hi:i<0
  .rw[if_pos hi]at hc;rw[JY hc,decide_eq_true hi];rfl
  .rw[if_neg hi]at hc;cases hd:dig i.natAbs with
   | nil=>exact absurd hd (uD _)
   | cons c r=>
    rw[hd]at hc;have:=pZ i.natAbs c (by rw[hd];simp);rw[JY hc,decide_eq_false hi];exact beq_eq_false_iff_ne.mpr ⋯
 have e1:jP (Qf (eM mV (Qd 0) (Qb (dC (.str "-")) Qq))) (Q6 (Qd 0) (QL (dC (.int 1))) Q3) (Qd 0) (Qy 2 [.str (QQ i)])=some (aO (.str (tx (dig i.natAbs)))):=by
  have h0:Qf (eM mV (Qd 0) (Qb (dC (.str "-")) Qq)) (Qy 2 [.str (QQ i)])=some (decide (i<0)):=
   QB (r:=aO (.bl (Txt.startswith (QQ i) "-"))) (sF (ra:=aO (.str (QQ i))) (rb:=aO (.str "-")) rfl rfl rfl) (by rw[hs])
  unfold jP;rw[h0,Option.bind_some];by_cases hi:i<0
  .rw[if_pos (decide_eq_true hi)];rw[if_pos hi]at hc;show(if(QQ i).length<=sizeLine then some (HS.R.mk (.str (Txt.slice (QQ i) (some 1) none)) true [])else none)=_;rw[if_pos (by rw[iI];lia),OE hc]
  .rw[if_neg (by rw[decide_eq_false hi];decide)];rw[if_neg hi]at hc;show some (HS.R.mk (.str (QQ i)) true [])=_;rw[show QQ i=tx (dig i.natAbs)from n6 hc]
 refine run_seq (Q5 e1 ?_);change Nx _ (.nx [aA (.str (QQ i)),aA (.str (tx (dig i.natAbs)))]);have hfl:(tx (dig i.natAbs)).length<=18:=by rw[dK];exact hf
 refine fJ (cY (b:=false) (QB (r:=aO (.bl false)) (HJ (ks:=dig i.natAbs) (kP (toD:=λc=> .str (tx [c])) (out:=λ_=> .bl false) (dig i.natAbs) (Mq (x:=tx (dig i.natAbs)) rfl rfl ⋯) rfl (λc hc=>⟨[none,aA (.str (tx [c]))],rfl,aO (.bl false),QS (ra:=aO (.str (tx [c]))) (rb:=aO (.str "0123456789")) rfl rfl (UK hc),rfl,rfl⟩)) rfl) rfl) (λh=>by cases h) (λ_=>Qw ?_));have hg:1<=(tx (dig i.natAbs)).length:=by
  rw[dK];exact List.length_pos_iff.mpr (uD _)
 refine fJ (cY (b:=false) ?_ (λh=>by cases h) (λ_=>Qw ?_))
 .have:=rP (a:=decide (((tx (dig i.natAbs)).length:Int)<1)) (b:=decide ((18:Int)<(tx (dig i.natAbs)).length)) (g1:=Qf (aB bZ (aS QN (Qb (Qd 1) Qq)) (dC (.int 1)))) (g2:=Qf (aB cS (aS QN (Qb (Qd 1) Qq)) (dC (.int 18)))) (U:=[aA (.str (QQ i)),aA (.str (tx (dig i.natAbs)))])
   (QB (QS (ra:=aO (.int (tx (dig i.natAbs)).length)) (rb:=aY 1) (qJ rfl rfl ⋯) rfl rfl) rfl) (QB (QS (ra:=aO (.int (tx (dig i.natAbs)).length)) (rb:=aY 18) (qJ rfl rfl ⋯) rfl rfl) rfl)
  rw[this,decide_eq_false ⋯,decide_eq_false ⋯];rfl
 have hw:(QQ i == tx [48])=decide (i=0):=by
  by_cases h0:i=0
  .subst h0;decide
  .rw[decide_eq_false h0];refine beq_eq_false_iff_ne.mpr λe=>h0 ?_;have e2:=Cw (i:=i) ∅ h ∅;rw[e,show tx [48]=QQ 0 by decide,Cw (i:=0) (k:=1) ∅ ∅ ∅]at e2;exact(Option.some.inj e2).symm
 refine fJ (cY (b:=false) ?_ (λh=>by cases h) (λ_=>Qw ?_))
 .cases hd:dig i.natAbs with
  | nil=>exact absurd hd (uD _)
  | cons c r=>
   have ei:Qg (Qd 1) (dC (.int 0)) [aA (.str (QQ i)),aA (.str (tx (c::r)))]=some (aO (.str (tx [c]))):=by
    show(if 0<=(0:Int)/\(0:Int)<2^63/\(0:Int)<(tx (c::r)).length then((tx (c::r)).cps[(0:Int).toNat]?).map λc=>HS.R.mk (.str ⟨#[c]⟩) true []else none)=_;rw[if_pos ⟨∅,∅,by rw[dK,cF];simp⟩];rfl
   have hcl:c<200:=E1 (n:=i.natAbs) (by rw[hd];simp)
   have:=AN (a:=tx [c] == tx [48]) (b:= !(QQ i == tx [48])) (g1:=Qf (aB aW (Qg (Qd 1) (dC (.int 0))) (dC (.str "0")))) (g2:=Qf (aB bX (Qd 0) (dC (.str "0")))) (U:=[aA (.str (QQ i)),aA (.str (tx (c::r)))])
    (QB (Dc (rb:=aO (.str "0")) ei rfl rfl (congrArg D.str HL) (λc' h'=>by rw[cF,Zg]at h';lia) (λc' h'=>by rw[cF,Zg]at h';lia)) rfl)
    (QB (Rb (ra:=aO (.str (QQ i))) (rb:=aO (.str "0")) rfl rfl rfl (congrArg D.str HL) (λc' h'=>C9 h') (λc' h'=>by rw[cF,Zg]at h';lia)) rfl)
   rw[this,hw];by_cases h0:i=0
   .rw[decide_eq_true h0,CF,Al]
   .obtain⟨c',r',e',hc'⟩:=Sz (n:=i.natAbs) ⋯;rw[hd]at e';obtain⟨rfl,rfl⟩:=List.cons.inj e';rw[beq_eq_false_iff_ne.mpr (λe=>by have:=congrArg cp e;rw[cF,cF]at this;simp at this;lia),Bh]
 refine fN (kZ (r:=aO (.str (QQ i))) (d:= .int i) rfl ?_) ⟨rfl,rfl⟩;show(if(QQ i).length<=640 then(intText? (QQ i)).map D.int else none)=_;rw[if_pos ⋯,Cw ∅ h ∅];rfl
def c0(ns:List Int):Str:=Str.join (tx [32]) (ns.map QQ)
def Small(k:Nat)(ns:List Int):Prop:=ns.length<=63/\∀n∈ns,n.natAbs<10^k
def Small.up{ns:List Int}{k l:Nat}(h:Small k ns)(hk:k<=l):Small l ns:=⟨h.1,λn hn=>wX (h.2 n hn) (BP ∅ hk)⟩
def J1{ns:List Int}{k:Nat}(hk:0<k)(h:Small k ns):∀y∈ns.map QQ,y.length<=k+1:=λy hy=>by
 obtain⟨n,hn,rfl⟩:=Zq.mp hy;exact B1 hk (h.2 n hn)
def zY{ns:List Int}{k:Nat}(hk:0<k)(h:Small k ns):(c0 ns).length<=63*(k+2):=by
 have h1:=StrLaws.join_length_le (tx [32]) (ns.map QQ);have h2:=StrLaws.sumLen_le (B:=k+1) (ns.map QQ) (J1 hk h);rw[Zh]at h1 h2;have e:(tx [32]).length=1:=rfl;rw[e,Nat.mul_one]at h1;have h3:ns.length*(k+1)<=63*(k+1):=Nat.mul_le_mul_right _ h.1;have h4:63*(k+2)=63*(k+1)+63:= ⋯
 have:=h.1;show(Str.join (tx [32]) (ns.map QQ)).length<=_;lia
def II{c b:Nat}(hc:c<b):∀{l:List (List Nat)},(∀x∈l,∀d∈x,d<b)->∀d∈jn c l,d<b
 | [],_,d,h=>by simp[jn]at h
 | [x],hx,d,h=>hx x ⋯ d h
 | x::y::r,hx,d,h=>by
  rcases Zf.mp (show d∈x++c::jn c (y::r)from h)with h | h
  .exact hx x ⋯ d h
  .rcases Zj.mp h with h | h
   .lia
   .exact II hc (λz hz=>hx z (Zl _ hz)) d h
def P7{ns:List Int}:∀c∈cp (c0 ns),c<200:=by
 unfold c0;rw[oE];refine II ∅ λx hx d hd=>?_;rw[ZG]at hx;obtain⟨n,_,rfl⟩:=Zq.mp hx;exact C9 hd
def I4{c:Nat}:∀{l:List (List Nat)},l≠[]->(∀x∈l,x≠[])->jn c l≠[]
 | [],h,_=>absurd rfl h
 | [x],_,hx=>hx x ⋯
 | x::z::r,_,hx=>by show x++c::_≠[];simp
def Sm{ns:List Int}(h:ns≠[]):c0 ns≠tx []:=λe=>by
 have:=congrArg cp e;unfold c0 at this;rw[oE,cF]at this;refine I4 (by simpa using h) (λx hx=>?_) this;rw[ZG]at hx;obtain⟨n,_,rfl⟩:=Zq.mp hx;exact EW n
def C7:∀ts:List Str,qA (ts.map .str)=some ts
 | []=>rfl
 | t::ts=>by
  show(qA (ts.map .str)).map _=_;rw[C7 ts];rfl
def GL{n:Int}(h:n.natAbs<10^60):f9 [.int n]=some (.str (QQ n)):=by
 show(if n.natAbs.log2<1920 then some (D.str (QQ n))else none)=_;refine if_pos ?_;by_cases h0:n.natAbs=0
 .rw[h0];decide
 .exact(Nat.log2_lt h0).mpr (wX h (ZE (by decide:10^60<=2^200) (BP ∅ ∅)))
def DK:DS:=(Qa (Qv (eM iU (dS " ") (aG (Qz (QD aL) (.nm 1) [none,none] QJ (aS f9 (aG aF)))))) Qc)
def Pm(d:aC):Prop:=∀ns,Small 60 ns->d [Q7 ns]=some (.str (c0 ns),true)
def MK:Pm (Qt 1 DK):=λns h=>by
 refine gO (fN (sF (g:=iU) (d:= .str (c0 ns)) (ra:=aO (.str " ")) (rb:=aO (.lst (ns.map λn=> .str (QQ n)))) rfl (kP (toD:=D.int) (out:=λn=> .str (QQ n)) ns (fB (xs:=ns.map D.int) (r:=cU (.lst (ns.map .int))) rfl rfl) rfl λn hn=>⟨[none,aI n],rfl,aO (.str (QQ n)),kZ (r:=aY n) rfl (GL (h.2 n hn)),rfl,rfl⟩) ?_) ⟨rfl,rfl⟩);show(qA (ns.map λn=>D.str (QQ n))).bind (λts=>if JoinOk (Str.ofString " ") ts=true then some (D.str (Txt.join (Str.ofString " ") ts))else none)=_;have e:(ns.map λn=>D.str (QQ n))=(ns.map QQ).map D.str:=by rw[ZG];rfl
 rw[e,C7,Option.bind_some,yN];have hj:JoinOk (tx [32]) (ns.map QQ)=true:=by
  unfold JoinOk;rw[StrLaws.joinFits (J1 ∅ h) ?_]
  .rfl
  .have:=h.1;have e:(tx [32]).length=1:=rfl;rw[Zh,e];lia
 rw[if_pos hj];show some (D.str (Builtin.Str.glued (tx [32]) (ns.map QQ)))=_;rw[StrLaws.glued_eq_join];rfl
def GK:DS:=(Qa (aQ (g8 (Qf (mM "str" aL))) (Qa Qn Qc) Qc) (Qa (Qv (eM nP aL (aG (dS " ")))) Qc))
def CP(d:aC):Prop:=∀x:Str,x.length<=16000000->(Txt.split x (tx [32])).length<=16000000->d [.str x]=some (.lst ((Txt.split x (tx [32])).map .str),true)
def HK:CP (Qt 1 GK):=λx h1 h2=>by
 refine gO (fJ (cY (b:=false) (yJ (b:=true) (QB (b:=true) rfl rfl)) (λh=>by cases h) (λ_=>Qw ?_)));refine fN (sF (ra:=aO (.str x)) (rb:=aO (.str " ")) rfl rfl ?_) ⟨rfl,rfl⟩;show(if(((Str.ofString " ").length == 0)=false/\x.length<=16000000)/\(Txt.split x (Str.ofString " ")).length<=16000000 then some (D.lst ((Txt.split x (Str.ofString " ")).map .str))else none)=_;rw[yN,if_pos ⟨⟨rfl,h1⟩,h2⟩]
def LJ(d_text_words:aC)(d_read_number:aC):DS:=(Qa (Qm 1 (Qh 1 d_text_words [] (aG aL))) (Qa (aQ (Qf (aB aW aF (Qx (aG (dS ""))))) (Qa (Qv (Qx Qq)) Qc) Qc) (Qa (Qv (Qz (QD aF) (.nm 1) [none,none] QJ (Qh 1 d_read_number [] (aG aF)))) Qc)))
def NC(d:aC):Prop:=∀ns,Small 18 ns->d [.str (c0 ns)]=some (Q7 ns,true)
def Fq{ts:List Str}(h:∀t∈ts,∀c∈cp t,c<200):(D.lst (ts.map .str)).sim 8=true:=by
 show(ts.map D.str).all (D.sim 7)=true;rw[ZN];intro d hd;obtain⟨t,ht,rfl⟩:=Zq.mp hd;exact u3 (h t ht)
def U6{dw dn:aC}(hw:CP dw)(hn:zL dn):NC (Qt 2 (LJ dw dn)):=λns h=>by
 have hT:=zY ∅ h;refine gO ?_;by_cases h0:ns=[]
 .subst h0;have es:Txt.split (c0 []) (tx [32])=[tx []]:=rfl;have hd:=hw (c0 []) ⋯ (by rw[es];decide);rw[es]at hd;refine run_seq (Q5 (QO (r:=⟨[.str (c0 [])],true,[]⟩) rfl hd rfl) ?_);change Nx _ (.nx [aA (.str (c0 [])),aA (.lst [.str (tx [])])]);refine fJ (cY (b:=true) ?_ (λ_=>?_) (λh=>by cases h))
  .refine QB (QS (ra:=⟨.lst [.str (tx [])],true,[1]⟩) (rb:=aO (.lst [.str (tx [])])) (d:= .bl true) rfl ?_ ?_) rfl
   .show some (HS.R.mk (.lst [.str (Str.ofString "")]) true [])=_;rw[Ff]
   .show(if(D.lst ([tx []].map .str)).sim 8 && (D.lst ([tx []].map .str)).sim 8 then some (D.bl (dI (.lst [.str (tx [])]) (.lst [.str (tx [])])))else none)=_;rw[Fq (ts:=[tx []]) (λt ht c hc=>by rw[Zg]at ht;rw[ht,cF]at hc;simp at hc)];show some (D.bl ((tx [] == tx []) && true))=_;rw[beq_self_eq_true];rfl
  .exact fJ (AL (r:=aO (.lst [])) rfl ⟨rfl,rfl⟩)
 .have es:Txt.split (c0 ns) (tx [32])=ns.map QQ:=by
   refine LH (λt ht=>?_) (by simpa using h0) λe=>Sm h0 (Jc _ _ (λ_=>trivial) e);obtain⟨n,_,rfl⟩:=Zq.mp ht;exact Jg n
  have hd:=hw (c0 ns) ⋯ (by rw[es,Zh];have:=h.1;lia);rw[es]at hd;refine run_seq (Q5 (QO (r:=⟨[.str (c0 ns)],true,[]⟩) rfl hd rfl) ?_);change Nx _ (.nx [aA (.str (c0 ns)),aA (.lst ((ns.map QQ).map .str))]);refine fJ (cY (b:=false) ?_ (λh=>by cases h) (λ_=>Qw ?_))
  .refine QB (QS (ra:=⟨.lst ((ns.map QQ).map .str),true,[1]⟩) (rb:=aO (.lst [.str (tx [])])) (d:= .bl false) rfl ?_ ?_) rfl
   .show some (HS.R.mk (.lst [.str (Str.ofString "")]) true [])=_;rw[Ff]
   .show(if(D.lst ((ns.map QQ).map .str)).sim 8 && (D.lst ([tx []].map .str)).sim 8 then some (D.bl (dI (.lst ((ns.map QQ).map .str)) (.lst [.str (tx [])])))else none)=_;rw[Fq (ts:=ns.map QQ) (λt ht c hc=>by obtain⟨n,_,rfl⟩:=Zq.mp ht;exact C9 hc),Fq (ts:=[tx []]) (λt ht c hc=>by rw[Zg]at ht;rw[ht,cF]at hc;simp at hc)];cases ns with
    | nil=>exact absurd rfl h0
    | cons n r=>
     show some (D.bl ((QQ n == tx []) && _))=_;rw[beq_eq_false_iff_ne.mpr λe=>EW n (by rw[e,cF]),Bh]
  .refine fN (kP (toD:=λn=> .str (QQ n)) (out:=D.int) ns (fB (xs:=(ns.map QQ).map .str) (r:=⟨.lst ((ns.map QQ).map .str),true,[1]⟩) rfl rfl) (by rw[ZG];rfl) λn hm=>⟨[none,aA (.str (QQ n))],rfl,aY n,QO (r:=⟨[.str (QQ n)],true,[]⟩) rfl (hn n (h.2 n hm)) rfl,rfl,rfl⟩) ⟨rfl,rfl⟩
def Vh{fa:DE}{U:En}{r:R}{cs:List Int}(h:fa U=some r)(e:r.d=Q7 cs):dList (Qb fa Qq) U=some (aO (Q7 cs)):=by
 unfold dList;rw[Qe h (QC _),Option.bind_some];simp only[e,Q7,eE,zO,if_true]
end HS
namespace HS
open PySem PySem.Spec L2
def Ap(f:DS)(fx:DX):Prop:=∀U,fx U≠none->f U=none
def l8(d:aC)(xd:List D->Option Str):Prop:=∀ds,xd ds≠none->d ds=none
def Ez{f:DS}:Ap f aJ:=λU h=>absurd rfl h
def uN{x:Str}{fs:DA}:Ap Qn (cR x fs):=λU h=>rfl
def FO{f g:DS}{fx gx:DX}(a:Ap f fx)(b:Ap g gx):Ap (Qa f g) (Qo f fx gx):=λU h=>by
 unfold Qo at h;unfold Qa;split at h
 .rename_i U' e;rw[e];exact b U' h
 .exact absurd rfl h
 .rename_i e;rw[e];rfl
def De{c:DT}{f g:DS}{fx gx:DX}(a:Ap f fx)(b:Ap g gx):Ap (aQ c f g) (bG c fx gx):=λU h=>by
 unfold bG at h;unfold aQ;cases e:c U with
 | none=>rfl
 | some v=>
  rw[e,Option.bind_some]at h;rw[Option.bind_some];cases v with
  | true=>rw[if_pos rfl]at h ⊢;exact a U h
  | false=>rw[if_neg ZL]at h ⊢;exact b U h
def AV{fi:DI}{t:Tg}{fb:DS}{fx:DX}(a:Ap fb fx):Ap (bV fi t fb) (iH fi t fb fx):=λU h=>by
 unfold iH at h;unfold bV;cases e:fi U with
 | none=>rfl
 | some ir=>
  rw[e,Option.bind_some]at h;rw[Option.bind_some];clear e;revert h;generalize ir.items=ds;generalize dH ir.M U=U0
  induction ds generalizing U0 with
  | nil=>exact λh=>absurd rfl h
  | cons d ds ih=>
   intro h;unfold kG at h;unfold jC;cases e1:gP t d U0 with
   | none=>rfl
   | some U1=>
    rw[e1,Option.bind_some]at h;rw[Option.bind_some];split at h
    .rename_i U2 e2;rw[e2,Option.bind_some];exact ih U2 h
    .rename_i U2 e2;rw[e2,Option.bind_some];exact ih U2 h
    .exact absurd rfl h
    .rename_i e2;rw[e2];rfl
def Oz{n:Nat}{d:aC}{xd:List D->Option Str}{fs:DA}(a:l8 d xd){U:En}(h:cK n xd fs U≠none):Qh n d [] fs U=none:=by
 unfold cK at h;unfold Qh;cases e:fs U with
 | none=>rfl
 | some r=>
  rw[e,Option.bind_some]at h;rw[Option.bind_some];split at h
  .rename_i hl;rw[if_pos (by simpa using hl),Zo,a r.ds (λz=>h (by rw[z];rfl))];rfl
  .exact absurd rfl h
def Dw{n:Nat}{d:aC}{xd:List D->Option Str}{fs:DA}(a:l8 d xd):Ap (cP (Qh n d [] fs)) (cK n xd fs):=λU h=>by unfold cP;rw[Oz a h];rfl
def Az{k:Nat}{f:DS}{fx:DX}(a:Ap f fx):l8 (Qt k f) (Q8 k fx):=λds h=>by
 unfold Q8 at h;unfold Qt;rw[a _ λz=>h (by rw[z];rfl)];rfl
def jG(f:DX)(U:En)(x:Str):Prop:=∃U',f U=some (x,U')
def Ew{x:Str}{fs:DA}{U:En}{r:RA}(h:fs U=some r)(hl:r.ds.length<=1):jG (cR x fs) U x:=⟨U,by unfold cR;rw[h,Option.bind_some,if_pos hl]⟩
def PD{n:Nat}{xd:List D->Option Str}{fs:DA}{U:En}{r:RA}{x:Str}(h:fs U=some r)(hl:r.ds.length=n)(hx:xd r.ds=some x):jG (cK n xd fs) U x:=⟨U,by unfold cK;rw[h,Option.bind_some,if_pos hl,hx];rfl⟩
def Dt{g:DT}{fa fb:DX}{b:Bool}{U:En}{x:Str}(h:g U=some b)(q1:b=true->jG fa U x)(q2:b=false->jG fb U x):jG (bG g fa fb) U x:=by
 cases b with
 | true=>obtain⟨o,h1⟩:=q1 rfl;exact⟨o,by simp[bG,h,h1]⟩
 | false=>obtain⟨o,h1⟩:=q2 rfl;exact⟨o,by simp[bG,h,h1]⟩
def nF{f:DS}{fx fr:DX}{U:En}{x:Str}(a:Ap f fx)(q:jG fx U x):jG (Qo f fx fr) U x:=by
 obtain⟨o,h⟩:=q;exact⟨o,by unfold Qo;rw[a U (by rw[h];exact λz=>by cases z)];exact h⟩
def Oy{f:DS}{fx fr:DX}{U:En}{x:Str}(h:Run f U (Nx λU'=>jG fr U' x)):jG (Qo f fx fr) U x:=by
 obtain⟨o,h1,h2⟩:=h;cases o with
 | nx U'=>obtain⟨o,h3⟩:=h2;exact⟨o,by unfold Qo;rw[h1];exact h3⟩
 | _=>exact h2.elim
def Hw{α:Type}{fi:DI}{t:Tg}{fb:DS}{fx:DX}{toD:α->D}{U:En}{ir:IR}{c:Str}(a:Ap fb fx)(xs:List α)(I:Nat->En->Prop)(k:Nat)(hk:k<xs.length)(h:fi U=some ir)(hx:ir.items=xs.map toD)(h0:I 0 (dH ir.M U))
  (turn:∀i x U,i<k->xs[i]? =some x->I i U->∃U1,gP t (toD x) U=some U1/\Run fb U1 (Nx λU2=>I (i+1) U2))
  (here:∀x U,xs[k]? =some x->I k U->∃U1,gP t (toD x) U=some U1/\jG fx U1 c):jG (iH fi t fb fx) U c:=by
 unfold jG iH;rw[h,Option.bind_some,hx];clear h hx;have gen:∀(n:Nat) (i:Nat) (U:En),k-i=n->i<=k->I i U->∃U',kG t fb fx ((xs.drop i).map toD) U=some (c,U'):=by
  intro n
  induction n with
  | zero=>
   intro i U e hi hI;obtain rfl:i=k:= ⋯
   rw[uT hk,Zp];unfold kG;obtain⟨U1,e1,U2,e2⟩:=here xs[i] U (by simp[hk]) hI;refine⟨U2,?_⟩;rw[e1,Option.bind_some,a U1 (by rw[e2];exact λz=>by cases z)];exact e2
  | succ n ih=>
   intro i U e hi hI;have hlt:i<xs.length:= ⋯
   rw[uT hlt,Zp];unfold kG;obtain⟨U1,e1,o,e2,e3⟩:=turn i xs[i] U ⋯ (by simp[hlt]) hI;cases o with
   | nx U2=>
    obtain⟨U',e4⟩:=ih (i+1) U2 ⋯ ⋯ e3;exact⟨U',by rw[e1,Option.bind_some,e2];exact e4⟩
   | _=>exact e3.elim
 have:=gen (k-0) 0 _ rfl (sG _) h0;simpa using this
def AM{k:Nat}{f:DX}{ds:List D}{x:Str}(h:jG f (Qy k ds) x):Q8 k f ds=some x:=by
 obtain⟨U,e⟩:=h;unfold Q8;rw[e];rfl
def zN:DX:=(Qo (bV (QD aF) (.nm 2) (Qa (aQ (Qf (aB bX (aS QN (aG aK)) (Qg aL aZ))) (Qa Qn Qc) Qc) Qc)) (iH (QD aF) (.nm 2) (Qa (aQ (Qf (aB bX (aS QN (aG aK)) (Qg aL aZ))) (Qa Qn Qc) Qc) Qc) (Qo (aQ (Qf (aB bX (aS QN (aG aK)) (Qg aL aZ))) (Qa Qn Qc) Qc) (bG (Qf (aB bX (aS QN (aG aK)) (Qg aL aZ))) (Qo Qn (cR "NoRow" (aG (dS "a row has one number for each place of the net, a full row one more"))) aJ) aJ) aJ)) aJ)
local macro_rules | `(tactic|ac_rfl)=> `(tactic|repeat (first | exact Ez | exact uN | assumption | apply FO | apply De | apply AV | apply Dw | apply ap_asg | apply ap_ret))
def M7:l8 (Qt 3 vT) (Q8 3 zN):=Az (by unfold vT zN;ac_rfl)
def MH(xd:List D->Option Str):Prop:=∀(m:Int) (R L:bE) (xs:List (List D)) (k:Nat),k<xs.length->(∀i x,i<k->xs[i]? =some x->(x.length:Int)=m)->(∀x,xs[k]? =some x->(x.length:Int)≠m)->xd [Qj m R L,.lst (xs.map .lst)]=some "NoRow"
def Z2:MH (Q8 3 zN):=λm R L xs k hk h1 h2=>by
 refine AM (nF (AV (by ac_rfl)) (Hw (by ac_rfl) (toD:=λx=> .lst x) xs (λ_ U=>∃j2,U=[aP (Qj m R L),aP (.lst (xs.map .lst)),j2]) k hk (ir:=⟨xs.map .lst,[]⟩) rfl rfl ⟨none,rfl⟩ ?_ ?_))
 .rintro i x U hi hx ⟨j2,rfl⟩;refine⟨_,rfl,?_⟩;refine run_seq (cY (b:=false) (QB (uV (o9 (xs:=x) (r:=cU (.lst x)) rfl rfl) rfl (sO (m:=m) (R:=R) (L:=L) (r:=cU (Qj m R L)) rfl rfl).1 rfl) (by simp[h1 i x hi hx])) (λh=>by cases h) (λ_=>Qw (Qw ⟨_,rfl⟩)))
 .rintro x U hx ⟨j2,rfl⟩;refine⟨_,rfl,?_⟩;refine nF (by ac_rfl) (Dt (b:=true) (QB (uV (o9 (xs:=x) (r:=cU (.lst x)) rfl rfl) rfl (sO (m:=m) (R:=R) (L:=L) (r:=cU (Qj m R L)) rfl rfl).1 rfl) (by simp[h2 x hx])) (λ_=>?_) (λh=>by cases h));exact nF uN (Ew rfl (Zu _))
end HS
namespace HS
open PySem L2
def u7(i:Nat)(a:Int):0<=bN i a/\bN i a<=1:=by unfold bN;split<;>lia
def XK(R L:bE)(k:Nat):0<=cM R L k/\cM R L k<=2*R.length+L.length:=by
 unfold cM;have h1:=Dh (g:=λr:Int×Int=>bN k r.1+bN k r.2) R λs _=>by
  have:=u7 k s.1;have:=u7 k s.2;show 0<=bN k s.1+bN k s.2;lia
 have h2:=Dh (g:=λr:Int×Int=>bN k r.1) L λs _=>(u7 k s.1).1;have h3:=DJ (g:=λr:Int×Int=>bN k r.1+bN k r.2) (X:=2) R λs _=>by
  have:=u7 k s.1;have:=u7 k s.2;show bN k s.1+bN k s.2<=2;lia
 have h4:=DJ (g:=λr:Int×Int=>bN k r.1) (X:=1) L λs _=>(u7 k s.1).2;lia
def UU(h:fs U=some rs)(hl:rs.ds.length<=64):Qx fs U=some ⟨.lst rs.ds,rs.fr,rs.M⟩:=by
 unfold Qx;rw[h,Option.bind_some,if_pos hl]
def Tn{fa fb:DE}{U:En}{ra rb:R}{xs ys:List D}(ha:fa U=some ra)(ea:ra.d= .lst xs)(hb:fb U=some rb)(eb:rb.d= .lst ys)(hf:QU (xs++ys)=true)(hl:xs.length+ys.length<=16777216):Qk fa fb U=some (aO (.lst (xs++ys))):=by
 unfold Qk;rw[ha,Option.bind_some,hb,Option.bind_some,ea,eb];dsimp only;rw[if_pos (by exact hl)];unfold eE;rw[if_pos hf]
noncomputable def eO(l:List Nat):D:= .lst (l.map λ(p:Nat)=> .int (p:Int))
noncomputable def Ba(T:jU)(p:Nat)(l:List Nat):Int:=((l.filter λo=>decide (o≠p)).map (T p)).sum
def fS(T:jU)(a:b8)(l:List Nat):List Nat:=l.filter λp=>decide (Ba T p l<=a p)
def yO(T:jU)(a:b8)(l:List Nat):List Nat:=l.filter λp=> !(fS T a l).contains p
def Xp{fa fb:DE}{U:En}{ra rb:R}{m n:Nat}{f:jU}{i:Int}(ha:fa U=some ra)(ea:ra.d=eP m n f)(hb:fb U=some rb)(eb:rb.d= .int i)(h0:0<=i)(h:i<m):Qg fa fb U=some ⟨Qi n (f i.toNat),ra.fr,ra.M⟩:=by
 unfold Qg;rw[ha,Option.bind_some,hb,Option.bind_some,ea,eb];simp only[eP,D.items,Option.bind_some,Lv h0 h,ZR];rfl
def Jw:DS:=(Qa (Qv (aB aW (aS QN (aG (Qg aL bR))) aZ)) Qc)
def Bu(d:aC):Prop:=∀(m:Int) (R L:bE),d [Qj m R L]=some (.bl (decide ((L.length:Int)=0)),true)
def ES:Bu (Qt 1 Jw):=λm R L=>by
 refine gO ?_;refine fN (AI (o9 (sO (r:=cU (Qj m R L)) rfl rfl).2.2 rfl) rfl rfl rfl) ⟨?_,rfl⟩;simp
def Vp{fa:DE}{U:En}{r:R}{ns:List Int}(h:fa U=some r)(e:r.d= .lst (ns.map D.int)):aS vK (Qb fa Qq) U=some (aY ns.sum):=by
 unfold aS;rw[Qe h (QC _),Option.bind_some];simp only[e,vK,CG,ZR]
def Ip:DS:=(Qa (Qv (aS vK (aG (Qz (QD aK) (.nm 1) [none,none,some 1,some 0] (Qf (aB bX aF aK)) (Qg aU aF))))) Qc)
def MP(d:aC):Prop:=∀(m:Nat) (t:b8) (p:Nat) (l:List Nat),(∀o∈l,o<m)->d [Qi m t,.int p,eO l]=some (.int (((l.filter λo=>decide (o≠p)).map t).sum),true)
def So:MP (Qt 3 Ip):=λm t p l hl=>by
 refine gO ?_
 have e:=tY (fi:=QD (Qd 2)) (t:= .nm 1) (cap:=[none,none,some 1,some 0]) (ft:=Qf (aB bX (Qd 1) (Qd 2))) (fe:=Qg (Qd 3) (Qd 1)) (U:=[aP (Qi m t),aI p,aP (eO l)])
  (toD:=λ(o:Nat)=> .int (o:Int)) (keep:=λo=>decide (o≠p)) (out:=λ(o:Nat)=> .int (t o)) l (fB (r:=cU (eO l)) rfl rfl) rfl λo ho=>by
   refine⟨[none,aI o,aI p,aP (Qi m t)],rfl,?_,λ_=>⟨_,H8 (m:=m) (f:=t) (i:=o) (ra:=cU (Qi m t)) rfl rfl rfl rfl (hl o ho),rfl,rfl⟩⟩;refine(QB (uV (a:=o) (b:=p) rfl rfl rfl rfl) rfl).trans ?_;congr 1;by_cases h:o=p
   .subst h;simp
   .simp[h];lia
 refine fN (Vp (ns:=(l.filter λo=>decide (o≠p)).map t) e ?_) ⟨rfl,rfl⟩;show D.lst _=D.lst _;rw[ZG];rfl
def w0(d_is_plain:aC):DS:=(Qa (aQ (g8 (Qf (Qh 1 d_is_plain [] (aG aL)))) (Qa Qn Qc) Qc) Qc)
def Jj(d:aC):Prop:=∀(m:Nat) (R:bE),d [Qj m R []]=some (.aT,true)
def OY(hp:Bu dp):Jj (Qt 1 (w0 dp)):=λm R=>by
 have key:Run (w0 dp) (Qy 1 [Qj m R []]) (Nx λ_=>True):=by
  refine run_seq (cY (b:=false) (yJ (b:=true) (QB (b:=true) (QO (r:=⟨[Qj m R []],false,[]⟩) rfl (hp m R []) rfl) rfl)) (λh=>by cases h) (λ_=>Qw (Qw trivial)))
 obtain⟨o,h1,h2⟩:=key;unfold Qt;rw[h1];cases o with
 | nx U=>rfl
 | _=>exact h2.elim
def S6{o:Nat}{l:List Nat}:(l.map λ(p:Nat)=>D.int (p:Int)).any (λy=>dI y (.int o))=l.contains o:=by
 induction l with
 | nil=>rfl
 | cons a l ih=>
  rw[Zp,List.any_cons,ih,Bb,D3];congr 1;by_cases h:a=o
  .subst h;simp
  .rw[decide_eq_false ⋯];exact(beq_eq_false_iff_ne.mpr (λz=>h z.symm)).symm
def O4(n:Nat)(l:List Nat):(eO l).sim (n+1)=true:=by
 unfold eO;simp only[D.sim,BL,ZN];intro p _;cases n<;>rfl
def Y7{o:Nat}(ha:fa U=some ra)(ea:ra.d= .int o)(hb:fb U=some rb)(eb:rb.d=eO l):aB (bQ neg) fa fb U=some (aO (.bl (if neg then !l.contains o else l.contains o))):=by
 refine QS ha hb ?_;rw[ea,eb];have:(D.int (o:Int)).sim 8=true:=rfl;show(if(D.int (o:Int)).sim 8 && (eO l).sim 8 then some (D.bl (if neg then !((l.map λ(p:Nat)=>D.int (p:Int)).any λy=>dI y (.int o))else(l.map λ(p:Nat)=>D.int (p:Int)).any λy=>dI y (.int o)))else none)=_;rw[this,O4 7 l,S6];rfl
noncomputable def fE:Option Int->D
 | none=> .aT
 | some i=> .int i
@[simp] theorem MV(o:Option Int):(fE o).flat=true:=by cases o<;>rfl
def bT(m:Nat)(F:Nat->Option Int):D:= .lst ((List.range m).map λi=>fE (F i))
@[simp] theorem ģ(m:Nat)(F:Nat->Option Int):(bT m F).flat=false:=rfl
@[simp] theorem PM(m:Nat)(F:Nat->Option Int):QU ((List.range m).map λi=>fE (F i))=true:=n7 (f:=λi=>fE (F i)) (λ_=>MV _) _
noncomputable def pI(F:Nat->Option Int)(i:Nat)(v:Option Int):Nat->Option Int:=λj=>if j=i then v else F j
def Yv{m:Nat}{F:Nat->Option Int}{i:Int}(h0:0<=i)(h:i<m):eU ((List.range m).map λj=>fE (F j)) i=some (fE (F i.toNat)):=by
 rw[vW h0 (by simpa using h),Zy,pW ⋯];rfl
def O7(h:d.flat=true):HS.R.norm ⟨d,fr,M⟩=⟨d,true,[]⟩:=by unfold HS.R.norm;rw[if_pos h]
def JB{fa fb:DE}{U:En}{ra rb:R}{m:Nat}{F:Nat->Option Int}{i:Int}(ha:fa U=some ra)(ea:ra.d=bT m F)(hb:fb U=some rb)(eb:rb.d= .int i)(h0:0<=i)(h:i<m):Qg fa fb U=some ⟨fE (F i.toNat),true,[]⟩:=by
 unfold Qg;rw[ha,Option.bind_some,hb,Option.bind_some,ea,eb];simp only[bT,D.items,Option.bind_some,Yv h0 h,ZR,O7 (MV _)]
def HM{x m:Nat}{F:Nat->Option Int}{fi fa:DE}{U:En}{i v:Int}{ri ra:R}{Q:Out->Prop}(hx:U[x]? =some (aA (bT m F)))(hi:fi U=some ri)(ei:ri.d= .int i)(ha:fa U=some ra)(ea:ra.d= .int v)(h0:0<=i)(h:i<m)
  (q:Q (.nx (U.set x (aA (bT m (pI F i.toNat (some v))))))):Run (gC x cN fi fa) U Q:=by
 refine⟨_,?_,q⟩;have hn:ra.norm=(aY v):=by unfold HS.R.norm;rw[ea];rfl
 have hs:((List.range m).map λj=>fE (F j)).set i.toNat (.int v)=(List.range m).map λj=>fE (pI F i.toNat (some v) j):=by
  rw[Cc];congr 1;funext j;unfold pI;split<;>rfl
 unfold gC;rw[ha,Option.bind_some,hx];simp only[cN,Option.bind_some,hi,ei,eG,bT,Zh,ZP,wG h0 h,hn,ea,eW,hs];simp[kill]
def Yw{m n:Nat}{F:Nat->Option Int}(h:n<=m):cutD ((List.range m).map λi=>fE (F i)) none (some (n:Int))=(List.range n).map λi=>fE (F i):=by
 unfold cutD;simp only[Zh,ZP,HT.FR,HT.Ai,List.drop_zero,Nat.sub_zero,Dj h];rw[← BA,List.take_range,Dj h]
def Ol{fa fb:DE}{U:En}{ra rb:R}{m n:Nat}{F:Nat->Option Int}(ha:fa U=some ra)(ea:ra.d=bT m F)(hb:fb U=some rb)(eb:rb.d= .int n)(h:n<=m):Q6 fa Q3 (QL fb) U=some (aO (bT n F)):=by
 unfold Q6 Q3 QL;rw[ha,Option.bind_some,hb,ea];simp only[Option.bind_some,eb,bT,Yw h,eE,PM,if_true]
def HU{n:Nat}(h:fb U=some r)(e:r.d= .int n)(hn:n<=16777216):bS (Qx (Qb (dC .aT) Qq)) fb U=some (aO (bT n (λ_=>none))):=by
 have h1:Qx (Qb (dC .aT) Qq) U=some (aO (.lst [.aT])):=rfl;unfold bS;rw[h1,Option.bind_some,h,Option.bind_some,e];dsimp only;rw[if_pos ⟨by simp[mE];lia,⋯,⋯,rfl⟩];simp only[Zx,zZ];rfl
def PU(o:Option Int)(t:Int):dI (fE o) (.int t)=decide (o=some t):=by
 cases o with
 | none=>rfl
 | some a=>
  show dI (.int a) (.int t)=_;rw[Bb];by_cases h:a=t<;>simp[h]
def Yb(n:Nat)(o:Option Int):(fE o).sim n=true:=by cases o<;>cases n<;>rfl
def gK(t:Int)(F:Nat->Option Int)(s:Int×Int):Nat->Option Int:=if F s.1.toNat=none/\F s.2.toNat=some t then pI F s.1.toNat (some (t+1))else F
def dA(S:bE)(F:Nat->Option Int):Nat->Nat->Option Int
 | 0=>F
 | t+1=>S.foldl (gK t) (dA S F t)
def JS(d_steps:aC):DS:=(Qa (Qm 3 (Qk (bS (Qx (aG (dC .aT))) aL) (Qx (aG aZ)))) (Qa (Qm 4 (Qh 2 d_steps [] (bB aF aK))) (Qa (bV (jD aL) (.nm 5) (Qa (bV (QD bJ) (.tp [6,7]) (Qa (aQ (iN (Qf (aB (gJ false) (Qg aU dJ) (dC .aT))) (Qf (aB aW (Qg aU jW) bI))) (Qa (gC 3 cN dJ (Qk bI bA)) Qc) Qc) Qc)) Qc)) (Qa (Qv (Q6 aU Q3 (QL aL))) Qc))))
noncomputable def cI(m:Nat):Nat->Option Int:=λi=>if i=m then some 0 else none
def Vq:D.lst (((List.range m).map λ_=>D.aT)++[.int 0])=bT (m+1) (cI m):=by
 unfold bT;rw[As,ZH];congr 2
 .refine w7 λi hi=>?_;have:=Zr.mp hi;unfold cI;rw[if_neg ⋯];rfl
 .simp[cI,fE]
def C6(d:aC):Prop:=∀(m:Nat) (R L:bE),0<m->m<=1000->R.length+R.length+L.length<=1000000->(∀s∈R,Good m s)->(∀s∈L,Good m s)->d [.int m,Qr R,Qr L]=some (bT m (dA (QI R L) (cI m) m),true)
def WL{ds:aC}(hs:∀R L:List (Int×Int),R.length+R.length+L.length<=1000000->ds [Qr R,Qr L]=aA (Qr (QI R L))):C6 (Qt 8 (JS ds)):=λm R L m0 hm hl hR hL=>by
 have gS:=BI hR hL;refine gO ?_;refine run_seq (Q5 (r:=aO (bT (m+1) (cI m))) ?_ ?_)
 .unfold Qk;rw[HU (n:=m) (r:=aY m) rfl rfl ⋯];show(if((List.range m).map λi=>D.aT).length+[D.int 0].length<=sizeLine then some (eE (((List.range m).map λi=>D.aT)++[D.int 0]) [])else none)=_;rw[if_pos (by simp[mE];lia)];unfold eE;rw[if_pos (by rw[NP];simp[n7 (f:=λ_:Nat=>D.aT) (λ_=>rfl)]),Vq]
 rw[lU];refine eI (QO (r:=⟨[Qr R,Qr L],false,[]⟩) rfl (hs R L hl) rfl) ?_;refine lI (P:=λU=>∃j5 j6 j7 b,U=[aI m,aP (Qr R),aP (Qr L),aA (bT (m+1) (dA (QI R L) (cI m) m)),some (Qr (QI R L),b),j5,j6,j7]) ?_ ?_
 .refine gX (List.range m) (λi U=>∃j5 j6 j7 b,U=[aI m,aP (Qr R),aP (Qr L),aA (bT (m+1) (dA (QI R L) (cI m) i)),some (Qr (QI R L),b),j5,j6,j7]) (sU (n:=m) (r:=aY m) rfl rfl ⋯) rfl ⟨none,none,none,true,rfl⟩ ?_ ?_
  .rintro i k U hi ⟨j5,j6,j7,b,rfl⟩;have hk:i<m/\i=k:=by
    obtain⟨h1,h2⟩:=Zn.mp hi;simp at h1 h2;exact⟨h1,h2⟩
   obtain⟨hk,rfl⟩:=hk;refine⟨_,rfl,?_⟩;refine run_seq (g:=Qc) (Run.mono (Q:=Nx λU=>∃j6 j7,U=[aI m,aP (Qr R),aP (Qr L),aA (bT (m+1) (dA (QI R L) (cI m) (i+1))),aP (Qr (QI R L)),aI i,j6,j7]) ?_ ?_)
   .refine gX (toD:=pairD) (QI R L) (λj U=>∃j6 j7,U=[aI m,aP (Qr R),aP (Qr L),aA (bT (m+1) (((QI R L).take j).foldl (gK i) (dA (QI R L) (cI m) i))),aP (Qr (QI R L)),aI i,j6,j7]) (ir:=⟨(QI R L).map pairD,if b=true then [4]else []⟩) ?_ rfl ⟨j6,j7,?_⟩ ?_ ?_
    .have:=fB (hZ (i:=4) (d:=Qr (QI R L)) (b:=b) (U:=[aI m,aP (Qr R),aP (Qr L),aA (bT (m+1) (dA (QI R L) (cI m) i)),some (Qr (QI R L),b),aI i,j6,j7]) rfl) (xs:=(QI R L).map pairD) (by cases b<;>rfl);cases b<;>exact this
    .cases b<;>rfl
    .rintro j s U hj ⟨j6,j7,rfl⟩;obtain⟨s1,s2,s3,s4,s5⟩:=gS s (ZK hj);have c1:s.1<((m+1:Nat):Int):= ⋯
     have c2:s.2<((m+1:Nat):Int):= ⋯
     refine⟨_,rfl,?_⟩;generalize eF:((QI R L).take j).foldl (gK i) (dA (QI R L) (cI m) i)=F;have step:((QI R L).take (j+1)).foldl (gK i) (dA (QI R L) (cI m) i)=gK i F s:=by
      rw[A7,hj,List.foldl_append,eF];rfl
     have e6:=JB (fa:=Qd 3) (fb:=Qd 6) (F:=F) (m:=m+1) (i:=s.1) (ra:=⟨bT (m+1) F,true,[3]⟩) (U:=[aI m,aP (Qr R),aP (Qr L),aA (bT (m+1) F),aP (Qr (QI R L)),aI i,aI s.1,aI s.2]) rfl rfl rfl rfl s1 c1;have e7:=JB (fa:=Qd 3) (fb:=Qd 7) (F:=F) (m:=m+1) (i:=s.2) (ra:=⟨bT (m+1) F,true,[3]⟩) (U:=[aI m,aP (Qr R),aP (Qr L),aA (bT (m+1) F),aP (Qr (QI R L)),aI i,aI s.1,aI s.2]) rfl rfl rfl rfl s2 c2;have t1:Qf (aB (gJ false) (Qg (Qd 3) (Qd 6)) (dC .aT)) [aI m,aP (Qr R),aP (Qr L),aA (bT (m+1) F),aP (Qr (QI R L)),aI i,aI s.1,aI s.2]=some (decide (F s.1.toNat=none)):=by
      refine QB (QS e6 (rb:=⟨.aT,true,[]⟩) rfl (d:= .bl (decide (F s.1.toNat=none))) ?_) rfl;cases F s.1.toNat<;>rfl
     have t2:Qf (aB aW (Qg (Qd 3) (Qd 7)) (Qd 5)) [aI m,aP (Qr R),aP (Qr L),aA (bT (m+1) F),aP (Qr (QI R L)),aI i,aI s.1,aI s.2]=some (decide (F s.2.toNat=some (i:Int))):=by
      have:=Yr e7 (fb:=Qd 5) (rb:=aY i) rfl (Yb 8 _) rfl;refine QB this ?_;show D.bl (dI (fE (F s.2.toNat)) (.int i))=_;rw[PU]
     refine run_seq (cY (b:=decide (F s.1.toNat=none/\F s.2.toNat=some (i:Int))) ?_ (λh=>?_) (λh=>?_))
     .exact(AN t1 t2).trans (by rw[Bool.decide_and])
     .have h:=of_decide_eq_true h;refine run_seq (HM (i:=s.1) (v:=i+1) (F:=F) (m:=m+1) rfl rfl rfl (eY (a:=(i:Int)) (b:=1) rfl rfl rfl rfl) rfl s1 c1 (Qw (Qw ⟨aI s.1,aI s.2,?_⟩)));rw[step];unfold gK;rw[if_pos h];rfl
     .have h:=of_decide_eq_false h;refine Qw (Qw ⟨aI s.1,aI s.2,?_⟩);rw[step];unfold gK;rw[if_neg h];rfl
    .rintro U ⟨j6,j7,rfl⟩;rw[pE];exact⟨j6,j7,rfl⟩
   .intro o ho;cases o with
    | nx U=>
     obtain⟨j6,j7,rfl⟩:=ho;exact Qw ⟨_,_,_,false,rfl⟩
    | _=>exact ho.elim
  .rintro U ⟨j5,j6,j7,b,rfl⟩;rw[ZP];exact⟨j5,j6,j7,b,rfl⟩
 rintro U ⟨j5,j6,j7,b,rfl⟩;exact fN (Ol (m:=m+1) (n:=m) (hZ (d:=bT (m+1) (dA (QI R L) (cI m) m)) (b:=true) rfl) rfl rfl rfl ⋯) ⟨rfl,rfl⟩
def pN(T:jU)(h:b8)(m:Nat):Nat->List Nat
 | 0=>List.range m
 | k+1=>yO T h (pN T h m k)
def hJ(T:jU)(h:b8)(m:Nat):Nat->Nat->Option Int
 | 0,_=>none
 | k+1,p=>if p∈fS T h (pN T h m k)then some ((k:Int)+1)else hJ T h m k p
def P8:p∈yO T h l↔p∈l/\p∉fS T h l:=by
 unfold yO;rw[mH];simp
def WY:p∈fS T h l↔p∈l/\Ba T p l<=h p:=by
 unfold fS;rw[mH];simp
def Ru(hkj:k<=j)(hp:p∈pN T h m j):p∈pN T h m k:=by
 induction j with
 | zero=>rw[show k=0 by lia];exact hp
 | succ j ih=>
  by_cases e:k=j+1
  .rw[e];exact hp
  .exact ih ⋯ (P8.mp hp).1
def Vu(hp:p∈pN T h m k):p<m:=Zr.mp (Ru (sG k) hp)
def J9(d_need_plain:aC)(d_need_heaps:aC)(d_toll_table:aC)(d_roads_among:aC):DS:=(Qa (cP (Qh 1 d_need_plain [] (aG aL))) (Qa (cP (Qh 2 d_need_heaps [] (bB aL (Qx (aG aF))))) (Qa (Qm 2 (Qh 1 d_toll_table [] (aG aL))) (Qa (Qm 3 (bS (Qx (aG (dC .aT))) (Qg aL aZ))) (Qa (Qm 4 (u9 (Qg aL aZ))) (Qa (bV (oQ bA (Qk (Qg aL aZ) bA)) (.nm 5) (Qa (Qm 7 (Qz (QD bJ) (.nm 1) [none,none,some 4,some 1,some 2] (Qf (aB mL (Qg aU aF) (Qh 3 d_roads_among [] (bL (Qg bJ aF) aF aK)))) aF)) (Qa (bV (QD jW) (.nm 6) (Qa (gC 3 cN dJ bI) Qc)) (Qa (Qm 4 (Qz (QD bJ) (.nm 1) [none,none,some 7] (Qf (aB (bQ true) aF aK)) aF)) Qc)))) (Qa (Qv aU) Qc)))))))
def Uj{fa fb:DE}{U:En}{ra rb:R}{i j:Int}{n:Nat}(ha:fa U=some ra)(ea:ra.d= .int i)(hb:fb U=some rb)(eb:rb.d= .int j)(hn:(n:Int)=j-i)(hl:n<=16777216)(h1: -(2^62)<=i)(h2:i<2^61):oQ fa fb U=some ⟨(List.range n).map λ(k:Nat)=> .int (i+k),[]⟩:=by
 unfold oQ;rw[ha,Option.bind_some,hb,Option.bind_some,ea,eb];show(if j-i<=16777216/\_ then _ else _)=_;rw[if_pos ⟨⋯,⋯,⋯,⋯,⋯⟩,show(j-i).toNat=n by lia];rfl
def F5(d:aC):Prop:=∀(m:Nat) (R:bE) (h:b8),0<m->m<=1000->R.length<=1000->(∀s∈R,Good m s)->(∀j,j<m->0<=h j)->d [Qj m R [],Qi m h]=some (bT m (hJ (dB m (QI R [])) h m m),true)
def WE{n:Nat}(h:fa U=some r)(e:r.d= .int n)(hn:n<=1000000):u9 fa U=some (aO (eO (List.range n))):=by
 unfold u9;rw[h,Option.bind_some,e];show(if 0<=(n:Int)/\(n:Int)<=1000000 then some (HS.R.mk (.lst ((List.range (n:Int).toNat).map λ(k:Nat)=> .int (k:Int))) true [])else none)=_;rw[if_pos ⟨⋯,⋯⟩,Zx];rfl
def SY(h:∀i,i<m->F i=G i):bT m F=bT m G:=by
 unfold bT;congr 1;exact w7 λi hi=>by rw[h i (Zr.mp hi)]
def Nc(hp:Jj dp)(hh:Lf dh)(ht:BH dt)(ha:MP da):F5 (Qt 8 (J9 dp dh dt da)):=λm R h m0 hm hRl hR hpos=>by
 have htoll:=ht m R [] hm (by simp;lia) hR (λs hs=>absurd hs ⋯);have hneed:=hh m R [] [h] m0 (λg hg' j hj=>by rw[Zg.mp hg'];exact hpos j hj);generalize dB m (QI R [])=T at *;refine gO ?_;refine run_seq (qX (QO (r:=⟨[Qj m R []],false,[]⟩) rfl (hp m R) rfl) ?_);refine run_seq (qX (QO (r:=⟨[Qj m R [],.lst [Qi m h]],false,[]⟩) rfl hneed rfl) ?_);refine eI (QO (r:=⟨[Qj m R []],false,[]⟩) rfl htoll rfl) ?_;refine eI (HU (n:=m) (r:=aY m) rfl rfl ⋯) ?_;refine eI (WE (n:=m) (r:=aY m) rfl rfl ⋯) ?_;refine lI (P:=λU=>∃j4 j5 j6 j7,U=[aP (Qj m R []),aP (Qi m h),aA (eP m m T),aA (bT m (hJ T h m m)),j4,j5,j6,j7]) ?_ ?_
 .refine gX (toD:=λ(k:Nat)=> .int (1+(k:Int))) (List.range m) (λk U=>∃j5 j6 j7,U=[aP (Qj m R []),aP (Qi m h),aA (eP m m T),aA (bT m (hJ T h m k)),aA (eO (pN T h m k)),j5,j6,j7]) (Uj (n:=m) (i:=1) (j:=(m:Int)+1) rfl rfl (eY (a:=m) (b:=1) rfl rfl rfl rfl) rfl ⋯ ⋯ ∅ ∅) rfl ⟨none,none,none,rfl⟩ ?_ ?_
  .rintro k k' U hk ⟨j5,j6,j7,rfl⟩;obtain⟨hkm,rfl⟩:=Jx hk;refine⟨_,rfl,?_⟩;generalize el:pN T h m k=l;have hl:∀p∈l,p<m:=λp hp=>by rw[← el]at hp;exact Vu hp
   have enext:pN T h m (k+1)=yO T h l:=by rw[← el];rfl
   have efire:∀p,hJ T h m (k+1) p=if p∈fS T h l then some ((k:Int)+1)else hJ T h m k p:=λp=>by rw[← el];rfl
   rw[enext];refine run_seq (Q5 (r:=aO (eO (fS T h l))) ?_ ?_)
   .refine tY (fi:=QD (Qd 4)) (t:= .nm 1) (cap:=[none,none,some 4,some 1,some 2]) (ft:=Qf (aB mL (Qg (Qd 3) (Qd 1)) (Qh 3 da [] (Qb (Qg (Qd 4) (Qd 1)) (Qb (Qd 1) (Qb (Qd 2) Qq)))))) (fe:=Qd 1) (U:=[aP (Qj m R []),aP (Qi m h),aA (eP m m T),aA (bT m (hJ T h m k)),aA (eO l),aI (1+(k:Int)),j6,j7])
     (toD:=λ(p:Nat)=> .int (p:Int)) (keep:=λp=>decide (Ba T p l<=h p)) (out:=λ(p:Nat)=> .int (p:Int)) l (fB (r:=⟨eO l,true,[4]⟩) rfl rfl) rfl λp hp=>⟨[none,aI p,aP (eO l),aP (Qi m h),aP (eP m m T)],rfl,?_,λ_=>⟨_,rfl,rfl,rfl⟩⟩
    have hpm:=hl p hp;refine QB (QS (d:= .bl (decide (Ba T p l<=h p))) (H8 (m:=m) (f:=h) (i:=p) (ra:=cU (Qi m h)) rfl rfl rfl rfl hpm) (QO (Qe (Xp (m:=m) (n:=m) (f:=T) (i:=p) (ra:=cU (eP m m T)) rfl rfl rfl rfl ⋯ ⋯) (rs:=⟨[.int p,eO l],false,[]⟩) rfl) (ha m (T (p:Int).toNat) p l λo ho=>hl o ho) rfl) ?_) rfl;show some (D.bl (decide (((l.filter λo=>decide (o≠p)).map (T (p:Int).toNat)).sum<=h p)))=_;rw[Zx];rfl
   rw[lU];refine lI (P:=λU=>∃j6 b7,U=[aP (Qj m R []),aP (Qi m h),aA (eP m m T),aA (bT m (hJ T h m (k+1))),aA (eO l),aI (1+(k:Int)),j6,some (eO (fS T h l),b7)]) ?_ ?_
   .refine gX (toD:=λ(p:Nat)=> .int (p:Int)) (fS T h l) (λi U=>∃F j6,(∀p,F p=if p∈(fS T h l).take i then some ((k:Int)+1)else hJ T h m k p)/\U=[aP (Qj m R []),aP (Qi m h),aA (eP m m T),aA (bT m F),aA (eO l),aI (1+(k:Int)),j6,aP (eO (fS T h l))]) (fB (r:=⟨eO (fS T h l),true,[7]⟩) rfl rfl) rfl ⟨hJ T h m k,j6,λp=>⋯,rfl⟩ ?_ ?_
    .rintro i p U hi ⟨F,j6,hF,rfl⟩;have hpm:=hl p (WY.mp (ZK hi)).1;refine⟨_,rfl,run_seq (HM (m:=m) (F:=F) (i:=p) (v:=1+(k:Int)) rfl rfl rfl rfl rfl ⋯ ⋯ (Qw ⟨_,_,λq=>?_,rfl⟩))⟩;have etake:(fS T h l).take (i+1)=(fS T h l).take i++[p]:=by
      rw[List.take_succ,hi];rfl
     rw[etake];unfold pI;rw[Zx];by_cases hq:q=p
     .subst hq;rw[if_pos rfl,if_pos ⋯];congr 1;lia
     .rw[if_neg hq,hF q];by_cases h2:q∈(fS T h l).take i
      .rw[if_pos h2,if_pos (Zc _ h2)]
      .rw[if_neg h2,if_neg (λz=>by
        rcases Zf.mp z with z | z
        .exact h2 z
        .exact hq (Zg.mp z))]
    .rintro U ⟨F,j6,hF,rfl⟩;rw[pE]at hF;refine⟨j6,false,?_⟩;rw[SY (F:=F) (G:=hJ T h m (k+1)) λp _=>by rw[hF p,efire p]]
   rintro U ⟨j6,b7,rfl⟩;refine run_seq (Q5 (r:=aO (eO (yO T h l))) ?_ (Qw ?_))
   .refine tY (fi:=QD (Qd 4)) (t:= .nm 1) (cap:=[none,none,some 7]) (ft:=Qf (aB (bQ true) (Qd 1) (Qd 2))) (fe:=Qd 1)
     (toD:=λ(p:Nat)=> .int (p:Int)) (keep:=λp=> !(fS T h l).contains p) (out:=λ(p:Nat)=> .int (p:Int)) l (fB (r:=⟨eO l,true,[4]⟩) rfl rfl) rfl λp hp=>⟨[none,aI p,aP (eO (fS T h l))],by cases b7<;>rfl,QB (Y7 (neg:=true) (o:=p) (l:=fS T h l) rfl rfl (rb:=cU (eO (fS T h l))) rfl rfl) rfl,λ_=>⟨_,rfl,rfl,rfl⟩⟩
   rw[lU];exact⟨_,_,_,rfl⟩
  .rintro U ⟨j5,j6,j7,rfl⟩;rw[ZP];exact⟨_,_,_,_,rfl⟩
 rintro U ⟨j4,j5,j6,j7,rfl⟩;exact fN (r:=⟨bT m (hJ T h m m),true,[3]⟩) rfl ⟨rfl,rfl⟩
def Ub(ha:fa U=some ra)(ea:ra.d= .int a)(hb:fb U=some rb)(eb:rb.d= .int b):aS gM (Qb fa (Qb fb Qq)) U=some (aY (if b<a then b else a)):=by
 unfold aS;rw[Qe ha (Qe hb (QC _)),Option.bind_some];simp only[ea,eb,gM,ZR]
def R7{fa fb:DE}{U:En}{ra rb:R}{a b:Int}(ha:fa U=some ra)(ea:ra.d= .int a)(hb:fb U=some rb)(eb:rb.d= .int b):aS gD (Qb fa (Qb fb Qq)) U=some (aY (if b>a then b else a)):=by
 unfold aS;rw[Qe ha (Qe hb (QC _)),Option.bind_some];simp only[ea,eb,gD,ZR]
def GG:∀bs:List Bool,nU (bs.map D.bl)=some bs
 | []=>rfl
 | b::bs=>by
  show Option.bind (some b) (λi=>(nU (bs.map D.bl)).map λr=>i::r)=_;rw[GG bs];rfl
def R5{fa:DE}{U:En}{r:R}{m:Nat}{g:Nat->Bool}(h:fa U=some r)(e:r.d= .lst ((List.range m).map λi=> .bl (g i))):aS sZ (Qb fa Qq) U=some (aO (.bl ((List.range m).all g))):=by
 unfold aS;rw[Qe h (QC _),Option.bind_some];have:((List.range m).map λi=>D.bl (g i))=(((List.range m).map g).map D.bl):=by rw[ZG];rfl
 simp only[e,sZ,this,GG,ZR];rw[BL];rfl
def Uo(n m:Nat)(F:Nat->Option Int):(bT m F).sim (n+1)=true:=by
 unfold bT;simp only[D.sim,BL,ZN];intro p _;show(fE (F p)).sim n=true;cases F p<;>cases n<;>rfl
def OQ{m:Nat}{F:Nat->Option Int}:((List.range m).map λi=>fE (F i)).any (λy=>dI y .aT)=(List.range m).any λi=>(F i).isNone:=by
 rw[List.any_map];congr 1;funext i;show dI (fE (F i)) .aT=(F i).isNone;cases F i<;>rfl
def Gr{neg:Bool}{fb:DE}{U:En}{rb:R}{m:Nat}{F:Nat->Option Int}(hb:fb U=some rb)(eb:rb.d=bT m F):aB (bQ neg) (dC .aT) fb U=some (aO (.bl (if neg then !((List.range m).any λi=>(F i).isNone)else(List.range m).any λi=>(F i).isNone))):=by
 refine QS (ra:=⟨.aT,true,[]⟩) rfl hb ?_;rw[eb];show(if D.aT.sim 8 && (bT m F).sim 8 then some (D.bl (if neg then !(((List.range m).map λi=>fE (F i)).any λy=>dI y .aT)else((List.range m).map λi=>fE (F i)).any λy=>dI y .aT))else none)=_;rw[Uo 7 m F,OQ];rfl
def MB(d_fire:aC)(d_span_list:aC):DS:=(Qa (Qm 2 (Qh 2 d_fire [] (bB aL aF))) (Qa (Qm 3 (aS sZ (aG (Qz (iC aF (Qh 1 d_span_list [] (aG aL))) (.tp [1,2]) [none,none,none] QJ (aB bZ aF aK))))) (Qa (Qv (pK aU (aB (bQ true) (dC .aT) aK))) Qc)))
def F0(R:bE)(m:Nat)(h:b8)(F:Nat->Option Int):Bool:=(List.range m).all (λj=>decide (h j<cM R [] j)) && !((List.range m).any λi=>(F i).isNone)
def Mg(d:aC):Prop:=∀(m:Nat) (R:bE) (h:b8),0<m->m<=1000->R.length<=1000->(∀s∈R,Good m s)->(∀j,j<m->0<=h j)->d [Qj m R [],Qi m h]=some (.bl (F0 R m h (hJ (dB m (QI R [])) h m m)),true)
def ï{df ds:aC}(hf:F5 df)(hs:BS ds):Mg (Qt 4 (MB df ds)):=λm R h m0 hm hRl hR hpos=>by
 have ef:=hf m R h m0 hm hRl hR hpos;have es:=hs m R [] hm (by simp;lia) hR (λs hs=>absurd hs ⋯);generalize hJ (dB m (QI R [])) h m m=F at *;refine gO ?_;refine eI (QO (r:=⟨[Qj m R [],Qi m h],false,[]⟩) rfl ef rfl) ?_
 have ec:=kP (fi:=iC (Qd 1) (Qh 1 ds [] (Qb (Qd 0) Qq))) (t:= .tp [1,2]) (cap:=[none,none,none]) (fe:=aB bZ (Qd 1) (Qd 2)) (U:=[aP (Qj m R []),aP (Qi m h),aA (bT m F),none])
  (toD:=λ(i:Nat)=> .tup [.int (h i),.int (cM R [] i)]) (out:=λ(i:Nat)=> .bl (decide (h i<cM R [] i))) (List.range m) (VI (ra:=cU (Qi m h)) rfl rfl (QO (r:=⟨[Qj m R []],false,[]⟩) rfl es rfl) rfl) rfl λi _=>⟨[none,aI (h i),aI (cM R [] i)],rfl,aO (.bl (decide (h i<cM R [] i))),rfl,rfl,rfl⟩
 refine eI (R5 (m:=m) (g:=λi=>decide (h i<cM R [] i)) ec rfl) ?_;exact fN (yW (a:=(List.range m).all λj=>decide (h j<cM R [] j)) (b:= !((List.range m).any λi=>(F i).isNone)) rfl (Gr (neg:=true) (m:=m) (F:=F) (rb:=⟨bT m F,true,[2]⟩) rfl rfl)) ⟨rfl,rfl⟩
def Ga{t:Int}{v:Nat}:∀(S:bE) (F:Nat->Option Int),S.foldl (gK t) F v=if F v=none/\∃s∈S,s.1.toNat=v/\F s.2.toNat=some t then some (t+1)else F v
 | [],F=>by simp
 | s::S,F=>by
  rw[Af,Ga S];have key:∀w,(gK t F s w=some t↔F w=some t):=λw=>by
   unfold gK;split
   .rename_i h;unfold pI;split
    .rename_i e;subst e;rw[h.1];simp;lia
    .exact Iff.rfl
   .exact Iff.rfl
  by_cases c:F s.1.toNat=none/\F s.2.toNat=some t
  .by_cases hv:v=s.1.toNat
   .have e1:gK t F s v=some (t+1):=by unfold gK pI;rw[if_pos c,if_pos hv]
    rw[if_neg (by rw[e1];simp),e1,if_pos ⟨by rw[hv];exact c.1,s,Zs,hv.symm,c.2⟩]
   .have e1:gK t F s v=F v:=by unfold gK pI;rw[if_pos c,if_neg hv]
    rw[e1];simp only[key];by_cases h:F v=none/\∃s'∈S,s'.1.toNat=v/\F s'.2.toNat=some t
    .obtain⟨h1,s',h2,h3⟩:=h;rw[if_pos ⟨h1,s',h2,h3⟩,if_pos ⟨h1,s',Zl _ h2,h3⟩]
    .rw[if_neg h,if_neg];rintro⟨h1,s',h2,h3,h4⟩;rcases Zj.mp h2 with rfl | h2
     .exact hv h3.symm
     .exact h ⟨h1,s',h2,h3,h4⟩
  .have e1:gK t F s=F:=by unfold gK;rw[if_neg c]
   rw[e1];by_cases h:F v=none/\∃s'∈S,s'.1.toNat=v/\F s'.2.toNat=some t
   .obtain⟨h1,s',h2,h3⟩:=h;rw[if_pos ⟨h1,s',h2,h3⟩,if_pos ⟨h1,s',Zl _ h2,h3⟩]
   .rw[if_neg h,if_neg];rintro⟨h1,s',h2,h3,h4⟩;rcases Zj.mp h2 with rfl | h2
    .exact c ⟨h3▸h1,h4⟩
    .exact h ⟨h1,s',h2,h3,h4⟩
structure Y0 (m:Nat) (S:bE) (t:Nat) (F:Nat->Option Int):Prop where
 pit:F m=some 0
 val:∀v d,F v=some d->0<=d/\d<=t/\v<=m/\(v≠m->1<=d)
 pred:∀v d,v≠m->F v=some d->∃s∈S,s.1.toNat=v/\F s.2.toNat=some (d-1)
 low:∀v d,v≠m->F v=some d->∀s∈S,s.1.toNat=v->∀e,F s.2.toNat=some e->d-1<=e
 aT:∀v,F v=none->∀s∈S,s.1.toNat=v->∀e,F s.2.toNat=some e->e=t
def I1{m:Nat}{S:bE}(hS:∀s∈S,Good m s):∀t,Y0 m S t (dA S (cI m) t)
 | 0=>by
  have z:∀v d,cI m v=some d->v=m/\d=0:=λv d h=>by
   unfold cI at h;split at h
   .cases h;exact⟨by assumption,rfl⟩
   .cases h
  refine⟨by simp[dA,cI],λv d h=>?_,λv d hv h=>?_,λv d hv h=>?_,λv h s hs e1 e h2=>?_⟩
  .obtain⟨rfl,rfl⟩:=z v d h;exact⟨⋯,⋯,⋯,λh=>absurd rfl h⟩
  .exact absurd (z v d h).1 hv
  .exact absurd (z v d h).1 hv
  .obtain⟨_,rfl⟩:=z _ _ h2;rfl
 | t+1=>by
  have I:=I1 hS t;generalize hF:dA S (cI m) t=F at I;have nx:∀v,dA S (cI m) (t+1) v=if F v=none/\∃s∈S,s.1.toNat=v/\F s.2.toNat=some (t:Int)then some ((t:Int)+1)else F v:=λv=>by
   show S.foldl (gK t) (dA S (cI m) t) v=_;rw[Ga,hF]
  generalize dA S (cI m) (t+1)=F' at nx;have old:∀v d,F v=some d->F' v=some d:=λv d h=>by rw[nx,if_neg (by rw[h];simp)];exact h
  have new:∀v d,F' v=some d->F v=some d∨(F v=none/\d=t+1/\∃s∈S,s.1.toNat=v/\F s.2.toNat=some (t:Int)):=λv d h=>by
   rw[nx]at h;split at h
   .rename_i c;cases h;exact .inr ⟨c.1,rfl,c.2⟩
   .exact .inl h
  refine⟨old _ _ I.pit,λv d h=>?_,λv d hv h=>?_,λv d hv h s hs e1 e h2=>?_,λv h s hs e1 e h2=>?_⟩
  .rcases new v d h with h | ⟨h,rfl,s,hs,e1,_⟩
   .obtain⟨a,b,c,d⟩:=I.val v d h;exact⟨a,⋯,c,d⟩
   .have g:=hS s hs;exact⟨⋯,⋯,by have:=g.2.2.1;have:=g.1;lia,λ_=> ⋯⟩
  .rcases new v d h with h | ⟨h,rfl,s,hs,e1,e2⟩
   .obtain⟨s,hs,e1,e2⟩:=I.pred v d hv h;exact⟨s,hs,e1,old _ _ e2⟩
   .exact⟨s,hs,e1,by rw[old _ _ e2];congr 1;lia⟩
  .rcases new v d h with h | ⟨hq,rfl,_⟩
   .rcases new _ e h2 with h2 | ⟨_,rfl,_⟩
    .exact I.low v d hv h s hs e1 e h2
    .have:=(I.val v d h).2.1;lia
   .rcases new _ e h2 with h2 | ⟨_,rfl,_⟩
    .have:=I.aT v hq s hs e1 e h2;lia
    .lia
  .rw[nx]at h;split at h
   .cases h
   .rename_i c;rcases new _ e h2 with h2 | ⟨_,rfl,_⟩
    .exact absurd ⟨h,s,hs,e1,by rw[h2,I.aT v h s hs e1 e h2]⟩ c
    .lia
def Cj:∀(m:Nat) (l:List Nat),l.Nodup->(∀x∈l,x<m)->l.length<=m
 | 0,l,_,h=>by cases l with
  | nil=>simp
  | cons x l=>exact absurd (h x Zs) ⋯
 | m+1,l,nd,h=>by
  by_cases hm:m∈l
  .have:=Cj m (l.erase m) (nd.erase m) λx hx=>by
    have h1:=h x (List.mem_of_mem_erase hx);have h2:x≠m:=λz=>by subst z;exact(List.Nodup.not_mem_erase nd) hx
    lia
   rw[List.length_erase_of_mem hm]at this;lia
  .have:=Cj m l nd λx hx=>by
    have h1:=h x hx;have h2:x≠m:=λz=>hm (z▸hx);lia
   lia
def VZ{m:Nat}{S:bE}(m0:0<m)(hS:∀s∈S,Good m s){v:Nat}(hv:v<m)(hn:dA S (cI m) m v=none):∀s∈S,s.1.toNat=v->dA S (cI m) m s.2.toNat=none:=λs hs e1=>by
 have I:=I1 hS m;generalize dA S (cI m) m=F at I hn;cases h:F s.2.toNat with
 | none=>rfl
 | some e=>
  exfalso;have he:=I.aT v hn s hs e1 e h;have chain:∀k:Nat,k<=m->∃w,F w=some ((m:Int)-k):=λk=>by
   induction k with
   | zero=>intro _;exact⟨_,by rw[h,he];simp⟩
   | succ k ih=>
    intro hk;obtain⟨w,hw⟩:=ih ⋯;have hwm:w≠m:=λz=>by rw[z,I.pit]at hw;have:=Option.some.inj hw;lia
    obtain⟨s',_,_,h2⟩:=I.pred w _ hwm hw;exact⟨_,by rw[h2];congr 1;lia⟩
  have pick:∀k:Nat,∃w,k<m->F w=some ((k:Int)+1):=λk=>by
   by_cases hk:k<m
   .obtain⟨w,hw⟩:=chain (m-(k+1)) ⋯;exact⟨w,λ_=>by rw[hw];congr 1;lia⟩
   .exact⟨0,λz=>absurd z hk⟩
  obtain⟨f,this⟩:=Classical.axiomOfChoice pick;have hl:=Cj m (v::(List.range m).map f) ?_ ?_
  .simp at hl;lia
  .refine ZZ.mpr ⟨λhm=>?_,?_⟩
   .obtain⟨k,hk,ek⟩:=Zq.mp hm;have:=this k (Zr.mp hk);rw[ek,hn]at this;cases this
   .rw[List.nodup_iff_pairwise_ne,List.pairwise_map];refine List.Pairwise.imp_of_mem ?_ List.nodup_range;intro a b ha hb hab e;have h1:=this a (Zr.mp ha);have h2:=this b (Zr.mp hb);rw[e,h2]at h1;have:=Option.some.inj h1;lia
  .intro x hx;rcases Zj.mp hx with rfl | hx
   .exact hv
   .obtain⟨k,hk,rfl⟩:=Zq.mp hx;have h1:=this k (Zr.mp hk);have h2:=I.val _ _ h1;have h3:f k≠m:=λz=>by rw[z,I.pit]at h1;have:=Option.some.inj h1;lia
    lia
noncomputable def pJ(m:Int)(s:Int×Int):Bool:=decide (0<=s.1) && decide (0<=s.2) && decide (s.1<=m) && decide (s.2<=m) && !decide (s.1=s.2)
def Kz{m:Nat}{s:Int×Int}(h:pJ m s=true):Good m s:=by
 unfold pJ at h;simp only[Ze,decide_eq_true_eq,ZT,decide_eq_false_iff_not]at h;exact⟨h.1.1.1.1,h.1.1.1.2,h.1.1.2,h.1.2,h.2⟩
def Ur{m:Nat}{s:Int×Int}(h:Good m s):pJ m s=true:=by
 unfold pJ;simp only[Ze,decide_eq_true_eq,ZT,decide_eq_false_iff_not];exact⟨⟨⟨⟨h.1,h.2.1⟩,h.2.2.1⟩,h.2.2.2.1⟩,h.2.2.2.2⟩
def Ag:DS:=(Qa (Qm 1 (QP (Qg aL aZ))) (Qa (aQ (cL (Qf (aB bZ aF bA)) (Qf (aB cS aF kJ))) (Qa Qn Qc) Qc) (Qa (bV (QD (Qk (Qg aL bA) (Qg aL bR))) (.tp [2,3]) (Qa (aQ (cL (Qf (aB bZ (aS gM (bB aK aU)) aZ)) (Qf (aB cS (aS gD (bB aK aU)) aF))) (Qa Qn Qc) Qc) (Qa (aQ (Qf (aB aW aK aU)) (Qa Qn Qc) Qc) Qc))) (Qa (bV (QD (Qg aL bR)) (.tp [2,3]) (Qa (aQ (Qf (aB aW aK aF)) (Qa Qn Qc) Qc) Qc)) Qc))))
def Rg:DX:=(Qo (Qm 1 (QP (Qg aL aZ))) aJ (Qo (aQ (cL (Qf (aB bZ aF bA)) (Qf (aB cS aF kJ))) (Qa Qn Qc) Qc) (bG (cL (Qf (aB bZ aF bA)) (Qf (aB cS aF kJ))) (Qo Qn (cR "NoNet" (aG (dS "a net has from 1 to 8 places"))) aJ) aJ) (Qo (bV (QD (Qk (Qg aL bA) (Qg aL bR))) (.tp [2,3]) (Qa (aQ (cL (Qf (aB bZ (aS gM (bB aK aU)) aZ)) (Qf (aB cS (aS gD (bB aK aU)) aF))) (Qa Qn Qc) Qc) (Qa (aQ (Qf (aB aW aK aU)) (Qa Qn Qc) Qc) Qc))) (iH (QD (Qk (Qg aL bA) (Qg aL bR))) (.tp [2,3]) (Qa (aQ (cL (Qf (aB bZ (aS gM (bB aK aU)) aZ)) (Qf (aB cS (aS gD (bB aK aU)) aF))) (Qa Qn Qc) Qc) (Qa (aQ (Qf (aB aW aK aU)) (Qa Qn Qc) Qc) Qc)) (Qo (aQ (cL (Qf (aB bZ (aS gM (bB aK aU)) aZ)) (Qf (aB cS (aS gD (bB aK aU)) aF))) (Qa Qn Qc) Qc) (bG (cL (Qf (aB bZ (aS gM (bB aK aU)) aZ)) (Qf (aB cS (aS gD (bB aK aU)) aF))) (Qo Qn (cR "NoNet" (aG (dS "a road or lane has a number that is neither a place nor the pit"))) aJ) aJ) (Qo (aQ (Qf (aB aW aK aU)) (Qa Qn Qc) Qc) (bG (Qf (aB aW aK aU)) (Qo Qn (cR "NoNet" (aG (dS "a road or lane has one number twice"))) aJ) aJ) aJ))) (Qo (bV (QD (Qg aL bR)) (.tp [2,3]) (Qa (aQ (Qf (aB aW aK aF)) (Qa Qn Qc) Qc) Qc)) (iH (QD (Qg aL bR)) (.tp [2,3]) (Qa (aQ (Qf (aB aW aK aF)) (Qa Qn Qc) Qc) Qc) (Qo (aQ (Qf (aB aW aK aF)) (Qa Qn Qc) Qc) (bG (Qf (aB aW aK aF)) (Qo Qn (cR "NoNet" (aG (dS "a lane leads from the pit"))) aJ) aJ) aJ)) aJ))))
def Sa{U:En}{m a b:Int}(h1:U[1]? =some (aI m))(h2:U[2]? =some (aI a))(h3:U[3]? =some (aI b)):cL (Qf (aB bZ (aS gM (Qb (Qd 2) (Qb (Qd 3) Qq))) (dC (.int 0)))) (Qf (aB cS (aS gD (Qb (Qd 2) (Qb (Qd 3) Qq))) (Qd 1))) U=some (!(decide (0<=a) && decide (0<=b) && decide (a<=m) && decide (b<=m))):=by
 have v1:Qd 1 U=some (aY m):=(hZ h1).trans rfl;have v2:Qd 2 U=some (aY a):=(hZ h2).trans rfl;have v3:Qd 3 U=some (aY b):=(hZ h3).trans rfl;refine(rP (QB (QS (d:= .bl (decide ((if b<a then b else a)<0))) (rb:=aY 0) (Ub (a:=a) (b:=b) v2 rfl v3 rfl) rfl rfl) rfl) (QB (QS (d:= .bl (decide (m<(if b>a then b else a)))) (R7 (a:=a) (b:=b) v2 rfl v3 rfl) v1 rfl) rfl)).trans ?_;congr 1;by_cases c1:0<=a<;>by_cases c2:0<=b<;>by_cases c3:a<=m<;>by_cases c4:b<=m<;>simp only[c1,c2,c3,c4,decide_true,decide_false,lC,Al,CF,Bool.not_false,Bh,AP]<;>simp only[xZ,Fy,decide_eq_true_eq,decide_eq_false_iff_not]<;>(split<;>split<;>lia)
structure yX (m:Int) (R L:bE):Prop where
 lo:1<=m
 hi:m<=8
 ways:∀s∈R++L,pJ m s=true
 pit:∀s∈L,s.1≠m
def Mp(d:aC):Prop:=∀(m:Int) (R L:bE),R.length+L.length<=1000->yX m R L->d [Qj m R L]=some (.aT,true)
def RE{U:En}{m:Int}{R L:bE}(h:U[0]? =some (aP (Qj m R L)))(hl:R.length+L.length<=1000):QD (Qk (Qg (Qd 0) (dC (.int 1))) (Qg (Qd 0) (dC (.int 2)))) U=some ⟨(R++L).map pairD,[]⟩:=by
 obtain⟨_,e1,e2⟩:=sO (m:=m) (R:=R) (L:=L) ((hZ h).trans rfl) rfl;refine(fB (Tn (xs:=R.map pairD) (ys:=L.map pairD) e1 rfl e2 rfl (by rw[← ZH];exact n7 (λ_=>rfl) _) (by simp;lia)) rfl).trans ?_;rw[ZH]
def R9{m:Int}{R L:bE}{s:Int×Int}{j2 j3:Option (D×Bool)}(hg:pJ m s=true){Q:Out->Prop}(q:Q (.nx [aP (Qj m R L),aI m,aI s.1,aI s.2])):
  Run (Qa (aQ (cL (Qf (aB bZ (aS gM (Qb (Qd 2) (Qb (Qd 3) Qq))) (dC (.int 0)))) (Qf (aB cS (aS gD (Qb (Qd 2) (Qb (Qd 3) Qq))) (Qd 1)))) (Qa Qn Qc) Qc) (Qa (aQ (Qf (aB aW (Qd 2) (Qd 3))) (Qa Qn Qc) Qc) Qc)) [aP (Qj m R L),aI m,aI s.1,aI s.2] Q:=by
 unfold pJ at hg;rw[Ze]at hg;refine run_seq (cY (b:=false) ((Sa (m:=m) (a:=s.1) (b:=s.2) rfl rfl rfl).trans (by rw[hg.1];rfl)) (λh=>by cases h) (λ_=>Qw ?_));refine run_seq (cY (b:=false) (QB (AI (a:=s.1) (b:=s.2) (ra:=aY s.1) rfl rfl (rb:=aY s.2) rfl rfl) ?_) (λh=>by cases h) (λ_=>Qw (Qw q)));show D.bl _=_;have:=hg.2;simp only[ZT,decide_eq_false_iff_not]at this;rw[decide_eq_false this]
def Xe{m:Int}{R L:bE}(hl:R.length+L.length<=1000)(hg:∀s∈R++L,pJ m s=true){Q:Out->Prop}(q:∀j2 j3,Q (.nx [aP (Qj m R L),aI m,j2,j3])):
  Run (bV (QD (Qk (Qg (Qd 0) (dC (.int 1))) (Qg (Qd 0) (dC (.int 2))))) (.tp [2,3]) (Qa (aQ (cL (Qf (aB bZ (aS gM (Qb (Qd 2) (Qb (Qd 3) Qq))) (dC (.int 0)))) (Qf (aB cS (aS gD (Qb (Qd 2) (Qb (Qd 3) Qq))) (Qd 1)))) (Qa Qn Qc) Qc) (Qa (aQ (Qf (aB aW (Qd 2) (Qd 3))) (Qa Qn Qc) Qc) Qc))) [aP (Qj m R L),aI m,none,none] Q:=by
 refine gX (toD:=pairD) (R++L) (λ_ U=>∃j2 j3,U=[aP (Qj m R L),aI m,j2,j3]) (RE rfl hl) rfl ⟨none,none,rfl⟩ ?_ ?_
 .rintro i s U hi ⟨j2,j3,rfl⟩;exact⟨_,rfl,R9 (j2:=j2) (j3:=j3) (hg s (ZK hi)) ⟨_,_,rfl⟩⟩
 .rintro U ⟨j2,j3,rfl⟩;exact q _ _
def OB:Mp (Qt 4 Ag):=λm R L hl N=>by
 have key:Run Ag [aP (Qj m R L),none,none,none] (Nx λ_=>True):=by
  refine run_seq (Q5 (r:=cU (.int m)) rfl ?_);rw[FH rfl];refine run_seq (cY (b:=false) ((rP (a:=false) (b:=false) (QB (b:=false) (QS (d:= .bl (decide (m<1))) (ra:=aY m) (rb:=aY 1) rfl rfl rfl) ?_) (QB (b:=false) (QS (d:= .bl (decide (8<m))) (ra:=aY m) (rb:=aY 8) rfl rfl rfl) ?_))) (λh=>by cases h) (λ_=>Qw ?_))
  .show D.bl _=_;rw[decide_eq_false (by have:=N.lo;lia)]
  .show D.bl _=_;rw[decide_eq_false (by have:=N.hi;lia)]
  refine run_seq (Xe hl N.ways λj2 j3=>?_);refine run_seq (gX (toD:=pairD) L (λ_ U=>∃j2 j3,U=[aP (Qj m R L),aI m,j2,j3]) (fB (sO (m:=m) (R:=R) (L:=L) (r:=cU (Qj m R L)) rfl rfl).2.2 rfl) rfl ⟨j2,j3,rfl⟩ ?_ ?_)
  .rintro i s U hi ⟨j2,j3,rfl⟩;refine⟨_,rfl,?_⟩;refine run_seq (cY (b:=false) (QB (AI (a:=s.1) (b:=m) (ra:=aY s.1) rfl rfl (rb:=aY m) rfl rfl) ?_) (λh=>by cases h) (λ_=>Qw (Qw ⟨_,_,rfl⟩)));show D.bl _=_;rw[decide_eq_false (N.pit s (ZK hi))]
  .rintro U ⟨j2,j3,rfl⟩;exact Qw trivial
 obtain⟨o,h1,h2⟩:=key;show Option.bind (Ag [aP (Qj m R L),none,none,none]) outD=_;rw[h1];cases o with
 | nx U=>rfl
 | _=>exact h2.elim
def VR{m:Nat}{S:bE}(m0:0<m)(hS:∀s∈S,Good m s)(hE:Ht m S):∀p,p<m->dA S (cI m) m p≠none:=λp hp hn=>by
 have pit:dA S (cI m) m m≠none:=λh=>by
  have key:∀t,dA S (cI m) t m=some 0:=λt=>by
   induction t with
   | zero=>show cI m m=some 0;unfold cI;rw[if_pos rfl]
   | succ t ih=>
    show S.foldl (gK t) (dA S (cI m) t) m=some 0;rw[Ga,if_neg (λ⟨h1,_⟩=>by rw[ih]at h1;cases h1),ih]
  rw[key m]at h;cases h
 obtain⟨s,hs,h1,h2,h3⟩:=hE (λv=>dA S (cI m) m v=none) ⟨p,hp,hn⟩;have g:=hS s hs;have e:=VZ m0 hS (v:=s.1.toNat) (by have:=g.1;lia) h2 s hs rfl;rcases h3 with z | z
 .rw[z,Zx]at e;exact pit e
 .exact z e
def zP(d_leads:aC):DS:=(Qa (aQ (Qf (aB cS (Qk (aS QN (aG (Qg aL bA))) (aS QN (aG (Qg aL bR)))) qK)) (Qa Qn Qc) Qc) (Qa (aQ (Qf (aB (bQ false) (dC .aT) (Qh 3 d_leads [] (bL (Qg aL aZ) (Qg aL bA) (Qg aL bR))))) (Qa Qn Qc) Qc) Qc))
def VS(d_leads:aC):DX:=(Qo (aQ (Qf (aB cS (Qk (aS QN (aG (Qg aL bA))) (aS QN (aG (Qg aL bR)))) qK)) (Qa Qn Qc) Qc) (bG (Qf (aB cS (Qk (aS QN (aG (Qg aL bA))) (aS QN (aG (Qg aL bR)))) qK)) (Qo Qn (cR "NoNet" (aG (dS "a net has at most 40 roads and lanes"))) aJ) aJ) (Qo (aQ (Qf (aB (bQ false) (dC .aT) (Qh 3 d_leads [] (bL (Qg aL aZ) (Qg aL bA) (Qg aL bR))))) (Qa Qn Qc) Qc) (bG (Qf (aB (bQ false) (dC .aT) (Qh 3 d_leads [] (bL (Qg aL aZ) (Qg aL bA) (Qg aL bR))))) (Qo Qn (cR "NoNet" (aG (dS "a place has no way to the pit"))) aJ) aJ) aJ))
structure HG (m:Nat) (R L:bE):Prop where
 few:R.length+L.length<=40
 lead:∀p,p<m->dA (QI R L) (cI m) m p≠none
def LS(d:aC):Prop:=∀(m:Nat) (R L:bE),0<m->m<=8->R.length+L.length<=1000->(∀s∈R,Good m s)->(∀s∈L,Good m s)->HG m R L->d [Qj m R L]=some (.aT,true)
def Nh{m:Nat}{R L:bE}:Qf (aB cS (Qk (aS QN (Qb (Qg (Qd 0) (dC (.int 1))) Qq)) (aS QN (Qb (Qg (Qd 0) (dC (.int 2))) Qq))) (dC (.int 40))) [aP (Qj m R L)]=some (decide ((40:Int)<R.length+L.length)):=by
 obtain⟨_,e1,e2⟩:=sO (fa:=Qd 0) (U:=[aP (Qj m R L)]) (m:=m) (R:=R) (L:=L) (r:=cU (Qj m R L)) rfl rfl;refine QB (QS (d:= .bl (decide ((40:Int)<R.length+L.length))) (rb:=aY 40) (eY (a:=R.length) (b:=L.length) ((o9 (xs:=R.map pairD) e1 rfl).trans (by rw[Zh])) rfl ((o9 (xs:=L.map pairD) e2 rfl).trans (by rw[Zh])) rfl) rfl rfl) rfl
def Xb{dl:aC}(hl:C6 dl){m:Nat}{R L:bE}(m0:0<m)(m8:m<=8)(h:R.length+L.length<=1000)(hR:∀s∈R,Good m s)(hL:∀s∈L,Good m s):Qf (aB (bQ false) (dC .aT) (Qh 3 dl [] (Qb (Qg (Qd 0) (dC (.int 0))) (Qb (Qg (Qd 0) (dC (.int 1))) (Qb (Qg (Qd 0) (dC (.int 2))) Qq))))) [aP (Qj m R L)]=some ((List.range m).any λi=>(dA (QI R L) (cI m) m i).isNone):=
 QB (Gr (neg:=false) (m:=m) (F:=dA (QI R L) (cI m) m) (QO (r:=⟨[.int m,Qr R,Qr L],false,[]⟩) rfl (hl m R L m0 ⋯ ⋯ hR hL) rfl) rfl) rfl
def Tx{dl:aC}(hl:C6 dl):LS (Qt 1 (zP dl)):=λm R L m0 m8 h hR hL W=>by
 have key:Run (zP dl) [aP (Qj m R L)] (Nx λ_=>True):=by
  refine run_seq (cY (b:=false) (Nh.trans (by rw[decide_eq_false (by have:=W.few;lia)])) (λh=>by cases h) (λ_=>Qw ?_));refine run_seq (cY (b:=false) ((Xb hl m0 m8 h hR hL).trans ?_) (λh=>by cases h) (λ_=>Qw (Qw trivial)));congr 1;refine List.any_eq_false.mpr λi hi=>?_;have:=W.lead i (Zr.mp hi);cases e:dA (QI R L) (cI m) m i with
  | none=>exact absurd e this
  | some t=>exact ZL
 obtain⟨o,h1,h2⟩:=key;show Option.bind (zP dl [aP (Qj m R L)]) outD=_;rw[h1];cases o with
 | nx U=>rfl
 | _=>exact h2.elim
noncomputable def i7(f:b8):Nat->Int
 | 0=>1
 | k+1=>i7 f k*f k
def A5(d_is_plain:aC)(d_span_list:aC):DS:=(Qa (aQ (Qf (Qh 1 d_is_plain [] (aG aL))) (Qa xD Qc) Qc) (Qa (Qm 1 bA) (Qa (bV (QD (Qh 1 d_span_list [] (aG aL))) (.nm 2) (Qa (Qm 1 (bS aF aK)) Qc)) (Qa (aQ (Qf (aB cS aF CO)) (Qa Qn Qc) Qc) Qc))))
def JD(m:Nat)(R L:bE):Prop:=L=[]∨i7 (cM R L) m<=300
def G5(d:aC):Prop:=∀(m:Nat) (R L:bE),m<=8->R.length+L.length<=1000->(∀s∈R,Good m s)->(∀s∈L,Good m s)->JD m R L->d [Qj m R L]=some (.aT,true)
def č{ds:aC}(hs:BS ds){m:Nat}{R L:bE}(m8:m<=8)(h:R.length+L.length<=1000)(hR:∀s∈R,Good m s)(hL:∀s∈L,Good m s){Q:Out->Prop}(q:∀j2,Q (.nx [aP (Qj m R L),aI (i7 (cM R L) m),j2])):
  Run (bV (QD (Qh 1 ds [] (Qb (Qd 0) Qq))) (.nm 2) (Qa (Qm 1 (bS (Qd 1) (Qd 2))) Qc)) [aP (Qj m R L),aI 1,none] Q:=by
 refine gX (toD:=λ(k:Nat)=> .int (cM R L k)) (List.range m) (λk U=>∃j2,U=[aP (Qj m R L),aI (i7 (cM R L) k),j2]) (fB (QO (r:=⟨[Qj m R L],false,[]⟩) rfl (hs m R L ⋯ ⋯ hR hL) rfl) rfl) rfl ⟨none,rfl⟩ ?_ ?_
 .rintro k k' U hk ⟨j2,rfl⟩;obtain⟨hkm,rfl⟩:=Jx hk;have b:=XK R L k;refine⟨_,rfl,?_⟩;refine run_seq (Q5 (o6 (a:=i7 (cM R L) k) (b:=cM R L k) (ra:=aY (i7 (cM R L) k)) rfl rfl (rb:=aY (cM R L k)) rfl rfl (yV ⋯)) (Qw ?_));rw[lU];exact⟨_,rfl⟩
 .rintro U ⟨j2,rfl⟩;rw[ZP];exact q _
def Wz{dp ds:aC}(hp:Bu dp)(hs:BS ds):G5 (Qt 3 (A5 dp ds)):=λm R L m8 h hR hL hS=>by
 have key:Run (A5 dp ds) [aP (Qj m R L),none,none] λo=>match o with | .nx _=>True | .rt d fr=>d= .aT/\fr=true | _=>False:=by
  have ep:Qf (Qh 1 dp [] (Qb (Qd 0) Qq)) [aP (Qj m R L),none,none]=some (decide ((L.length:Int)=0)):=QB (QO (r:=⟨[Qj m R L],false,[]⟩) rfl (hp m R L) rfl) rfl;by_cases c:L=[]
  .refine fJ (cY (b:=true) (ep.trans (by rw[c];rfl)) (λ_=>?_) (λh=>by cases h));exact fJ ⟨_,rfl,rfl,rfl⟩
  .refine fJ (cY (b:=false) (ep.trans (by rw[decide_eq_false (by cases L with | nil=>exact absurd rfl c | cons a l=>simp;lia)])) (λh=>by cases h) (λ_=>Qw ?_));refine fJ (Q5 (r:=aY 1) rfl ?_);rw[lU];refine fJ (č hs m8 h hR hL λj2=>?_);refine fJ (cY (b:=false) (QB (QS (d:= .bl (decide (300<i7 (cM R L) m))) (ra:=aY (i7 (cM R L) m)) (rb:=aY 300) rfl rfl rfl) ?_) (λh=>by cases h) (λ_=>Qw (Qw trivial)));show D.bl _=_;have hle:i7 (cM R L) m<=300:=hS.elim (λz=>absurd z c) id;rw[decide_eq_false ⋯]
 obtain⟨o,h1,h2⟩:=key;show Option.bind (A5 dp ds [aP (Qj m R L),none,none]) outD=_;rw[h1];cases o with
 | nx U=>rfl
 | rt d fr=>obtain⟨rfl,rfl⟩:=h2;rfl
 | _=>exact h2.elim
noncomputable def iJ(p:Int×Int):Int×Int:=(if p.2<p.1 then p.2 else p.1,if p.2>p.1 then p.2 else p.1)
structure Bm (m:Int) (R L:bE):Prop where
 num:yX m R L
 way:HG m.toNat R L
 sml:JD m.toNat R L
def GV(d_need_numbers:aC)(d_need_ways:aC)(d_need_small_spans:aC):DS:=(Qa (Qm 3 (Qz (QD aF) (.tp [1,2]) [none,none,none] QJ (cJ (bB (aS gM (bB aF aK)) (aS gD (bB aF aK)))))) (Qa (Qm 4 (Qz (QD (nM aK (Qx Qq))) (.tp [1,2]) [none,none,none] QJ (cJ (bB aF aK)))) (Qa (Qm 5 (cJ (bL aL aU bJ))) (Qa (cP (Qh 1 d_need_numbers [] (aG bI))) (Qa (cP (Qh 1 d_need_ways [] (aG bI))) (Qa (cP (Qh 1 d_need_small_spans [] (aG bI))) (Qa (Qv bI) Qc)))))))
def J6(L:bE)(d:D):Prop:=d=Qr L∨(L=[]/\d= .aT)
def IF(d:aC):Prop:=∀(m:Int) (R L:bE) (l:D),J6 L l->R.length+L.length<=1000->Bm m (R.map iJ) L->d [.int m,Qr R,l]=some (Qj m (R.map iJ) L,true)
def õ{U:En}{R:bE}(h:U[1]? =some (aP (Qr R))):Qz (QD (Qd 1)) (.tp [1,2]) [none,none,none] QJ (cJ (Qb (aS gM (Qb (Qd 1) (Qb (Qd 2) Qq))) (Qb (aS gD (Qb (Qd 1) (Qb (Qd 2) Qq))) Qq))) U=some (aO (Qr (R.map iJ))):=by
 refine(kP (toD:=pairD) (out:=λs=>pairD (iJ s)) R (fB ((hZ h).trans rfl) rfl) rfl λs _=>⟨[none,aI s.1,aI s.2],rfl,⟨pairD (iJ s),true,[]⟩,rfl,rfl,rfl⟩).trans ?_;unfold Qr;rw[ZG];rfl
def Vo{U:En}{L:bE}{l:D}(hl:J6 L l){b:Bool}(h:U[2]? =some (some (l,b)))(hb:b=l.flat):Qz (QD (nM (Qd 2) (Qx Qq))) (.tp [1,2]) [none,none,none] QJ (cJ (Qb (Qd 1) (Qb (Qd 2) Qq))) U=some (aO (Qr L)):=by
 have e:∃M,QD (nM (Qd 2) (Qx Qq)) U=some ⟨L.map pairD,M⟩:=by
  rcases hl with rfl | ⟨rfl,rfl⟩
  .subst hb;cases L with
   | nil=>
    refine⟨_,fB (r:=aO (.lst [])) ?_ rfl⟩;unfold nM;rw[show Qd 2 U=some (cU (.lst []))from(hZ h).trans rfl];rfl
   | cons a l=>
    refine⟨_,fB (r:=cU (Qr (a::l))) ?_ rfl⟩;unfold nM;rw[show Qd 2 U=some (cU (Qr (a::l)))from(hZ h).trans rfl];rfl
  .refine⟨_,fB (r:=aO (.lst [])) ?_ rfl⟩;unfold nM;rw[show Qd 2 U=some ⟨.aT,true,[]⟩from(hZ h).trans rfl];rfl
 obtain⟨M,e⟩:=e;exact kP (toD:=pairD) (out:=pairD) L e rfl λs _=>⟨[none,aI s.1,aI s.2],rfl,⟨pairD s,true,[]⟩,rfl,rfl,rfl⟩
def yX.nat{m:Int}{R L:bE}(h:yX m R L):∃k:Nat,m=k/\0<k/\k<=8/\(∀s∈R,Good k s)/\∀s∈L,Good k s:=by
 have h1:=h.lo;have h2:=h.hi;obtain⟨k,rfl⟩:∃k:Nat,m=k:=⟨m.toNat,⋯⟩;exact⟨k,rfl,⋯,⋯,λs hs=>Kz (h.ways s (Zc _ hs)),λs hs=>Kz (h.ways s (Za _ hs))⟩
def Sb{dn dw ds:aC}(hn:Mp dn)(hw:LS dw)(hs:G5 ds):IF (Qt 6 (GV dn dw ds)):=λm R L l hL hl N=>by
 obtain⟨k,rfl,k0,k8,gR,gL⟩:=N.num.nat
 have lR:(R.map iJ).length=R.length:=Zh ..;refine gO ?_;refine eI (õ rfl) ?_;refine eI (Vo hL rfl rfl) ?_;refine run_seq (Q5 (r:=⟨Qj k (R.map iJ) L,true,[3,4]⟩) rfl ?_);change Run _ [aI k,aP (Qr R),some (l,l.flat),none,none,aA (Qj k (R.map iJ) L)] _;refine run_seq (qX (QO (r:=⟨[Qj k (R.map iJ) L],true,[5]⟩) rfl (hn k _ L ⋯ N.num) rfl) ?_);refine run_seq (qX (QO (r:=⟨[Qj k (R.map iJ) L],true,[5]⟩) rfl (hw k _ L k0 k8 ⋯ gR gL (by have:=N.way;rwa[Zx]at this)) rfl) ?_);refine run_seq (qX (QO (r:=⟨[Qj k (R.map iJ) L],true,[5]⟩) rfl (hs k _ L k8 ⋯ gR gL (by have:=N.sml;rwa[Zx]at this)) rfl) ?_);exact fN (r:=⟨Qj k (R.map iJ) L,true,[5]⟩) rfl ⟨rfl,rfl⟩
def hU(i:Nat)(w:Int×Int×Bool):Int:=bN i w.1+if w.2.2=true then 0 else bN i w.2.1
def eK(W:List (Int×Int×Bool))(i:Nat):Int:=(W.map (hU i)).sum
def AS(W:List (Int×Int×Bool))(w:Int×Int×Bool)(i:Nat):eK (w::W) i=hU i w+eK W i:=by
 unfold eK;rw[Zp,kX]
def Ka(i:Nat):∀W:List (Int×Int×Bool),cM (gZ W) (eV W) i=eK W i
 | []=>rfl
 | w::W=>by
  have ih:=Ka i W;rw[AS,← ih];unfold cM gZ eV hU;obtain⟨a,b,l⟩:=w;cases l with
  | true=>
   simp only[ZO,CF,xP,if_false,if_true,Zp,kX,CE];lia
  | false=>
   simp only[ZO,Bool.not_false,xP,if_false,if_true,Zp,kX,nK];have e:bN i (if b<a then b else a)+bN i (if b>a then b else a)=bN i a+bN i b:=by
    by_cases h1:b<a
    .rw[if_pos h1,if_neg ⋯];lia
    .rw[if_neg h1];by_cases h2:b>a
     .rw[if_pos h2]
     .have:a=b:= ⋯
      rw[if_neg h2,this]
   lia
def I3(i:Nat)(a:Int):0<=bN i a/\bN i a<=1:=by unfold bN;split<;>lia
def OS(i:Nat)(w:Int×Int×Bool):0<=hU i w/\hU i w<=2:=by
 have h1:=I3 i w.1;have h2:=I3 i w.2.1;unfold hU;split<;>lia
def Jy(i:Nat):∀W:List (Int×Int×Bool),0<=eK W i/\eK W i<=2*(W.length:Int)
 | []=>by unfold eK;simp
 | w::W=>by
  have ih:=Jy i W;have h:=OS i w;rw[AS,ZA];lia
def HA{f g:b8}:∀{n:Nat},(∀i,i<n->f i=g i)->i7 f n=i7 g n
 | 0,_=>rfl
 | n+1,h=>by
  unfold i7;rw[HA λi hi=>h i ⋯,h n ⋯]
def FL{m:Nat}(a:Int):cA m (λi=>bN i a)<=1:=by
 have key:∀n,cA n (λi=>bN i a)<=if 0<=a/\a<n then 1 else 0:=λn=>by
  induction n with
  | zero=>show(0:Int)<=_;split<;>lia
  | succ n ih=>
   rw[tH];unfold bN at *;split at ih<;>split<;>split<;>lia
 have:=key m;split at this<;>lia
def XW{m:Nat}:cA m (λi=>bN i (m:Int))=0:=by
 have key:∀n,n<=m->cA n (λi=>bN i (m:Int))=0:=λn=>by
  induction n with
  | zero=>intro _;rfl
  | succ n ih=>
   intro hn;rw[tH,ih ⋯];unfold bN;rw[if_neg ⋯];rfl
 exact key m (Zu m)
def Ih{m:Nat}(w:Int×Int×Bool):cA m (λi=>hU i w)<=2/\(w.2.1=m->cA m (λi=>hU i w)<=1):=by
 have h1:=FL (m:=m) w.1;have h2:=FL (m:=m) w.2.1;cases e:w.2.2 with
 | true=>
  have:cA m (λi=>hU i w)=cA m λi=>bN i w.1:=sI λi _=>by unfold hU;rw[e,if_pos rfl,BV]
  rw[this];exact⟨⋯,λ_=>h1⟩
 | false=>
  have:cA m (λi=>hU i w)=(cA m λi=>bN i w.1)+cA m λi=>bN i w.2.1:=by
   rw[← AB];exact sI λi _=>by unfold hU;rw[e,if_neg ZL]
  rw[this];exact⟨⋯,λz=>by rw[z,XW];lia⟩
def E9{m:Nat}:∀W:List (Int×Int×Bool),cA m (eK W)<=2*(W.length:Int)/\((∃w∈W,w.2.1=m)->cA m (eK W)<=2*(W.length:Int)-1)
 | []=>⟨by rw[show cA m (eK [])=0 from(sI λi _=>rfl).trans (Pr m)];simp,λ⟨w,h,_⟩=>by simp at h⟩
 | w::W=>by
  have ih:=E9 (m:=m) W;have hw:=Ih (m:=m) w;have e:cA m (eK (w::W))=cA m (λi=>hU i w)+cA m (eK W):=by
   rw[← AB];exact sI λi _=>AS W w i
  rw[e,ZA];refine⟨⋯,λ⟨v,hv,hz⟩=>?_⟩;rcases Zj.mp hv with rfl | hv
  .have:=hw.2 hz;lia
  .have:=ih.2 ⟨v,hv,hz⟩;lia
structure tZ (m:Nat) (W:List (Int×Int×Bool)):Prop where
 good:∀w∈W,GoodW m w
 few:W.length<=40
 esc:vM m W
 small:eV W=[]∨i7 (eK W) m<=300
def Ng{W:List (Int×Int×Bool)}(h:∀w∈W,w.2.2=false):eV W=[]:=by
 unfold eV;rw[EF.mpr λw hw=>by rw[h w hw];exact ZL];rfl
def tZ.ok{m:Nat}{W:List (Int×Int×Bool)}(m0:0<m)(m8:m<=8)(h:tZ m W):Bm m (gZ W) (eV W) where
 num:=⟨⋯,⋯,λs hs=>Ur (by
  rcases Zf.mp hs with z | z
  .exact(BX h.good s z).1
  .exact(AG h.good s z).1),λs hs=>by have:=(AG h.good s hs).2;lia⟩
 way:=by
  rw[Zx];refine⟨?_,VR m0 (BI (λs hs=>(BX h.good s hs).1) λs hs=>(AG h.good s hs).1) ?_⟩
  .unfold gZ eV;rw[Zh,Zh];have:=h.few;have e:∀W:List (Int×Int×Bool),(W.filter λw=> !w.2.2).length+(W.filter λw=>w.2.2).length=W.length:=λW=>by
    induction W with
    | nil=>rfl
    | cons w W ih=>
     rw[ZO,ZO];cases w.2.2<;>simp<;>lia
   rw[e W];exact this
  .exact RL h.esc
 sml:=by
  rw[Zx];rcases h.small with z | z
  .exact .inl z
  .exact .inr (by rw[HA λi _=>Ka i W];exact z)
def Ox{fa fb:DE}{U:En}{r:R}{n:Nat}{s:Int×Int}(ha:fa U=some (aO (.lst [pairD s])))(h:fb U=some r)(e:r.d= .int n)(hn:n<=1000):bS fa fb U=some (aO (Qr (List.replicate n s))):=by
 unfold bS;rw[ha,Option.bind_some,h,Option.bind_some,e];dsimp only;rw[if_pos ⟨by simp[mE];lia,⋯,⋯,rfl⟩];simp only[Zx,zZ];unfold Qr;rw[List.map_replicate,List.map_const',ZP]
def Pg{fs:DA}{U:En}{r:RA}(h:fs U=some r)(hl:r.ds.length<=64):cJ fs U=some ⟨.tup r.ds,r.fr,r.M⟩:=by
 unfold cJ;rw[h,Option.bind_some,if_pos hl]
end HS
namespace HS
open PySem PySem.Spec L2 PyProof.Rows PySem.NumText
def X5{c:Nat}{l:List Nat}(h:c∉l):Txt.partition (tx l) (tx [c])=(tx l,tx [],tx []):=by
 have f:=StrLaws.found_one (tx l) c;have hm:¬c∈(tx l).cps.toList:=h;rw[decide_eq_false hm]at f;unfold Txt.partition;have e:Builtin.Str.occurrences (tx l) (tx [c]) 0 (tx l).length 1=[]:=by
  have:Builtin.Str.occurrences (tx l) ⟨#[c]⟩ 0 (tx l).length 1=[]:=by
   simpa using f
  exact this
 rw[e];rfl
def é{c:Nat}{a b:List Nat}(h:c∉a):Txt.partition (tx (a++c::b)) (tx [c])=(tx a,tx [c],tx b):=by
 have hat:∀i,StrLaws.At (tx (a++c::b)) (tx [c]) (tx (a++c::b)).length i↔(a++c::b)[i]? =some c:=λi=>StrLaws.subAt_one (tx (a++c::b)) c i;unfold Txt.partition;rcases StrLaws.occ_head (tx (a++c::b)) (tx [c]) 1 (Zu _)with⟨_,hn⟩ | ⟨i,r,e,hi,hk⟩
 .exact absurd ((hat a.length).mpr ⋯) (hn _)
 .have h1:i=a.length:=by
   rcases Nat.lt_trichotomy i a.length with hl | hl | hl
   .have:=(hat i).mp hi;rw[Km hl]at this;exact absurd (ZK this) h
   .exact hl
   .exact absurd ((hat a.length).mpr ⋯) (hk _ hl)
  rw[e,h1];show(Builtin.Str.strSub _ _ _,_,Builtin.Str.strSub _ _ _)=_;have hl:(tx (a++c::b)).length=a.length+(b.length+1):=by rw[dK,cF];simp
  refine Prod.ext (n6 ?_) (Prod.ext rfl (n6 ?_))
  .show(Builtin.Str.strSub _ _ _).cps.toList=_;rw[StrLaws.strSub_toList];show((a++c::b).drop 0).take (a.length-0)=a;simp
  .show(Builtin.Str.strSub _ _ _).cps.toList=_;rw[StrLaws.strSub_toList,hl];show((a++c::b).drop (a.length+1)).take _=b;have:(a++c::b).drop (a.length+1)=b:=by rw[FD];simp
   rw[this,rM];have e1:(tx [c]).length=1:=rfl;lia
def R2:Str.ofString "*" =tx [42]:= ∅
def Gx:Str.ofString ">" =tx [62]:= ∅
def JM(n:Nat):QQ (n:Int)=tx (dig n):=n6 (by rw[rK,if_neg ⋯];rfl)
def rG{n:Nat}(h:n<10):QQ (n:Int)=tx [48+n]:=by rw[JM,yF h]
def L7(d_read_number:aC):DS:=(Qa (aQ (Qf (aB bX (aS QN (aG aL)) bA)) (Qa Qn Qc) Qc) (Qa (Qv (Qh 1 d_read_number [] (aG aL))) Qc))
def D8(d:aC):Prop:=∀n:Nat,n<10->d [.str (tx [48+n])]=some (.int n,true)
def GO{dn:aC}(hn:zL dn):D8 (Qt 1 (L7 dn)):=λn h=>by
 refine gO (fJ (cY (b:=false) ?_ (λh=>by cases h) (λ_=>Qw ?_)))
 .exact QB (b:=false) (r:=aO (.bl false)) ((uV (a:=1) (b:=1) (ra:=aY 1) (qJ (x:=tx [48+n]) rfl rfl (show 1<=16000000 by decide)) rfl rfl rfl).trans ⋯) rfl
 .have:=hn n ⋯;rw[rG h]at this;exact fN (QO (r:=⟨[.str (tx [48+n])],true,[]⟩) rfl this rfl) ⟨rfl,rfl⟩
def KA(d_read_number:aC):DS:=(Qa (Qm 1 (Qh 1 d_read_number [] (aG aL))) (Qa (aQ (cL (Qf (aB bZ aF bR)) (Qf (aB cS aF qK))) (Qa Qn Qc) Qc) (Qa (Qv aF) Qc)))
def Iw(d:aC):Prop:=∀k:Nat,2<=k->k<=40->d [.str (tx (dig k))]=some (.int k,true)
def RZ{dn:aC}(hn:zL dn):Iw (Qt 2 (KA dn)):=λk h2 h40=>by
 have e:=hn k ⋯;rw[JM]at e;refine gO (run_seq (Q5 (QO (r:=⟨[.str (tx (dig k))],true,[]⟩) rfl e rfl) ?_));change Nx _ (.nx [aA (.str (tx (dig k))),aI k]);refine fJ (cY (b:=false) ?_ (λh=>by cases h) (λ_=>Qw ?_))
 .have:=rP (a:=decide ((k:Int)<2)) (b:=decide ((40:Int)<k)) (g1:=Qf (aB bZ (Qd 1) (dC (.int 2)))) (g2:=Qf (aB cS (Qd 1) (dC (.int 40)))) (U:=[aA (.str (tx (dig k))),aI k]) (QB (QS rfl rfl rfl) rfl) (QB (QS rfl rfl rfl) rfl);rw[this,decide_eq_false ⋯,decide_eq_false ⋯];rfl
 .exact fN rfl ⟨rfl,rfl⟩
structure Wd where
 a:Nat
 b:Nat
 lane:Bool
 k:Nat
 star:Bool
noncomputable def Wd.sign(x:Wd):Nat:=if x.lane=true then 62 else 45
def Wd.l(x:Wd):List Nat:=[48+x.a,x.sign,48+x.b]++if x.star=true then 42::dig x.k else []
def Wd.t(x:Wd):Str:=tx x.l
structure Wd.Ok (x:Wd):Prop where
 a:x.a<10
 b:x.b<10
 k:if x.star=true then 2<=x.k/\x.k<=40 else x.k=1
noncomputable def Wd.p(x:Wd):Int×Int:=(x.a,x.b)
def Wd.low{x:Wd}(h:x.Ok):∀c∈x.l,c<200/\c≠32:=λc hc=>by
 have ha:=h.a;have hb:=h.b;unfold Wd.l at hc;rcases Zf.mp hc with hc | hc
 .simp only[Zj,q6,or_false]at hc;unfold Wd.sign at hc;split at hc<;>lia
 .split at hc
  .rcases Zj.mp hc with hc | hc
   .lia
   .have:=pZ _ _ hc;lia
  .simp at hc
def Wd.len{x:Wd}(h:x.Ok):x.t.length<=100:=by
 have hk:=h.k;rw[dK];show x.l.length<=100;unfold Wd.l;rw[Zm];split
 .rename_i hs;rw[if_pos hs]at hk;have:=Fj (n:=x.k) (k:=2) ∅ ⋯;simp;lia
 .simp
def Wd.part{x:Wd}(h:x.Ok):Txt.partition x.t (tx [42])=(tx [48+x.a,x.sign,48+x.b],if x.star=true then(tx [42],tx (dig x.k))else(tx [],tx [])):=by
 have ha:=h.a;have hb:=h.b;have h0:42∉[48+x.a,x.sign,48+x.b]:=λhc=>by
  simp only[Zj,q6,or_false]at hc;unfold Wd.sign at hc;split at hc<;>lia
 unfold Wd.t Wd.l;split
 .exact é h0
 .rw[Zo];exact X5 h0
def PH{c:Nat}(h:c=45∨c=62):bQ true (.str (tx [c])) (.tup [.str (tx [45]),.str (tx [62])])=some (.bl false):=by
 have s:∀c n,c<200->(D.str (tx [c])).sim n=true:=λc n h=>u3 λd hd=>by rw[cF,Zg]at hd;lia
 have st:(D.tup [.str (tx [45]),.str (tx [62])]).sim 8=true:=by
  show [D.str (tx [45]),.str (tx [62])].all (D.sim 7)=true;simp only[E3,List.all_nil,s 45 7 ∅,s 62 7 ∅,Bool.and_self]
 show(if(D.str (tx [c])).sim 8 && (D.tup [.str (tx [45]),.str (tx [62])]).sim 8 then some (D.bl (!([D.str (tx [45]),.str (tx [62])].any λy=>dI y (.str (tx [c])))))else none)=_;rw[s c 8 ⋯,st];rcases h with rfl | rfl<;>rfl
def Ig(d_read_alike:aC)(d_read_figure:aC):DS:=(Qa (Qm 1 (eM sN aL (aG (dS "*")))) (Qa (Qm 2 (QP (Qg aF aZ))) (Qa (aQ (cL (Qf (aB bX (aS QN (aG aK)) kB)) (Qf (aB (bQ true) (Qg aK bA) (cJ (bB (dS "-") (dS ">")))))) (Qa Qn Qc) Qc) (Qa (Qm 3 (jP (Qf (Qg aF bA)) (Qh 1 d_read_alike [] (aG (Qg aF bR))) bA)) (Qa (Qv (bS (Qx (aG (cJ (bB (Qh 1 d_read_figure [] (aG (Qg aK aZ))) (Qh 1 d_read_figure [] (aG (Qg aK bR))))))) aU)) Qc)))))
def K1(d:aC):Prop:=∀x:Wd,x.Ok->d [.str x.t]=some (Qr (List.replicate x.k x.p),true)
def Cv{fa fb:DE}{U:En}{ra rb:R}{l:List Nat}{i:Nat}{c:Nat}(ha:fa U=some ra)(ea:ra.d= .str (tx l))(hb:fb U=some rb)(eb:rb.d= .int i)(hi:l[i]? =some c)(hl:i<=1000):Qg fa fb U=some (aO (.str (tx [c]))):=by
 unfold Qg;rw[ha,Option.bind_some,hb,Option.bind_some,ea,eb];show(if 0<=(i:Int)/\(i:Int)<2^63/\(i:Int)<(tx l).length then((tx l).cps[(i:Int).toNat]?).map λc=>HS.R.mk (.str ⟨#[c]⟩) true []else none)=_;have hlen:=(Zn.mp hi).1;rw[if_pos ⟨⋯,⋯,by rw[dK,cF];lia⟩];have:(tx l).cps[(i:Int).toNat]? =some c:=by
  show l.toArray[(i:Int).toNat]? =some c;rw[Zx];simpa using hi
 rw[this];rfl
def UL{da df:aC}(ha:Iw da)(hf:D8 df):K1 (Qt 4 (Ig da df)):=λx h=>by
 have hlen:=Wd.len h;have hk:=h.k;have hsg:x.sign=45∨x.sign=62:=by unfold Wd.sign;split<;>simp
 refine gO ?_;refine run_seq (Q5 (r:=aO (.tup [.str (tx [48+x.a,x.sign,48+x.b]),.str (if x.star=true then tx [42]else tx []),.str (if x.star=true then tx (dig x.k)else tx [])])) (sF (ra:=aO (.str x.t)) (rb:=aO (.str "*")) rfl rfl ?_) ?_)
 .show(if((Str.ofString "*").length == 0)=false/\x.t.length<=sizeLine then some (D.tup [.str (Txt.partition x.t (Str.ofString "*")).1,.str (Txt.partition x.t (Str.ofString "*")).2.1,.str (Txt.partition x.t (Str.ofString "*")).2.2])else none)=_;rw[R2,if_pos ⟨rfl,by rw[iI];lia⟩,Wd.part h];split<;>rfl
 change Nx _ (.nx [aA (.str x.t),aA (.tup [.str (tx [48+x.a,x.sign,48+x.b]),.str (if x.star=true then tx [42]else tx []),.str (if x.star=true then tx (dig x.k)else tx [])]),none,none]);refine run_seq (Q5 (r:=cU (.str (tx [48+x.a,x.sign,48+x.b]))) rfl ?_);change Nx _ (.nx [aA (.str x.t),aA (.tup [.str (tx [48+x.a,x.sign,48+x.b]),.str (if x.star=true then tx [42]else tx []),.str (if x.star=true then tx (dig x.k)else tx [])]),aA (.str (tx [48+x.a,x.sign,48+x.b])),none]);refine fJ (cY (b:=false) ?_ (λh=>by cases h) (λ_=>Qw ?_))
 .refine rP (a:=false) (b:=false) (QB (b:=false) (r:=aO (.bl false)) ((uV (a:=3) (b:=3) (ra:=aY 3) (qJ (x:=tx [48+x.a,x.sign,48+x.b]) rfl rfl (show 3<=16000000 by decide)) rfl rfl rfl).trans ⋯) rfl) ?_;refine QB (b:=false) (QS (ra:=aO (.str (tx [x.sign]))) (rb:=aO (.tup [.str (tx [45]),.str (tx [62])])) (d:= .bl false) (Cv (l:=[48+x.a,x.sign,48+x.b]) (i:=1) (ra:=aO (.str (tx [48+x.a,x.sign,48+x.b]))) (rb:=aY 1) rfl rfl rfl rfl rfl ∅) ?_ ?_) rfl
  .show some (HS.R.mk (.tup [.str (Str.ofString "-"),.str (Str.ofString ">")]) true [])=_;rw[Co,Gx]
  .exact PH hsg
 have e3:jP (Qf (Qg (Qd 1) (dC (.int 1)))) (Qh 1 da [] (Qb (Qg (Qd 1) (dC (.int 2))) Qq)) (dC (.int 1)) [aA (.str x.t),aA (.tup [.str (tx [48+x.a,x.sign,48+x.b]),.str (if x.star=true then tx [42]else tx []),.str (if x.star=true then tx (dig x.k)else tx [])]),aA (.str (tx [48+x.a,x.sign,48+x.b])),none]=some (aY x.k):=by
  cases hs:x.star with
  | true=>
   rw[hs,if_pos rfl]at hk;show(some true).bind (λb:Bool=>if b=true then Qh 1 da [] (Qb (Qg (Qd 1) (dC (.int 2))) Qq) [aA (.str x.t),aA (.tup [.str (tx [48+x.a,x.sign,48+x.b]),.str (tx [42]),.str (tx (dig x.k))]),aA (.str (tx [48+x.a,x.sign,48+x.b])),none]else _)=_;rw[Option.bind_some,if_pos rfl];exact QO (r:=⟨[.str (tx (dig x.k))],true,[]⟩) rfl (ha x.k hk.1 hk.2) rfl
  | false=>
   rw[hs]at hk;have hk:x.k=1:=hk;rw[hk];rfl
 refine run_seq (Q5 e3 ?_);change Nx _ (.nx [aA (.str x.t),aA (.tup [.str (tx [48+x.a,x.sign,48+x.b]),.str (if x.star=true then tx [42]else tx []),.str (if x.star=true then tx (dig x.k)else tx [])]),aA (.str (tx [48+x.a,x.sign,48+x.b])),aI x.k]);have hk40:x.k<=1000:=by split at hk<;>lia
 refine fN (Ox (n:=x.k) (s:=x.p) (r:=aY x.k) ?_ rfl rfl hk40) ⟨rfl,rfl⟩;refine(UU (Qe (r:=⟨pairD x.p,true,[]⟩) (Pg (Qe (QO (r:=⟨[.str (tx [48+x.a])],true,[]⟩) (Qe (Cv (l:=[48+x.a,x.sign,48+x.b]) (i:=0) (ra:=aO (.str (tx [48+x.a,x.sign,48+x.b]))) (rb:=aY 0) rfl rfl rfl rfl rfl ∅) (QC _)) (hf x.a h.a) rfl) (Qe (QO (r:=⟨[.str (tx [48+x.b])],true,[]⟩) (Qe (Cv (l:=[48+x.a,x.sign,48+x.b]) (i:=2) (ra:=aO (.str (tx [48+x.a,x.sign,48+x.b]))) (rb:=aY 2) rfl rfl rfl rfl rfl ∅) (QC _)) (hf x.b h.b) rfl) (QC _))) (show 2<=64 by decide)) (QC _)) (show 1<=64 by decide)).trans rfl
def fV(ws:List Wd):List (Int×Int):=(ws.filter λx=> !x.lane).flatMap λx=>List.replicate x.k x.p
def fY(ws:List Wd):List (Int×Int):=(ws.filter λx=>x.lane).flatMap λx=>List.replicate x.k x.p
def QZ(m:Nat)(ws:List Wd):List Str:=QQ m::ws.map Wd.t
def dY(m:Nat)(ws:List Wd):Str:=Str.join (tx [32]) (QZ m ws)
def KQ(ws:List Wd)(x:Wd):fV (ws++[x])=fV ws++if x.lane=true then []else List.replicate x.k x.p:=by
 unfold fV;rw[rX,List.flatMap_append];cases h:x.lane<;>simp[ZO,h]
def LI(ws:List Wd)(x:Wd):fY (ws++[x])=fY ws++if x.lane=true then List.replicate x.k x.p else []:=by
 unfold fY;rw[rX,List.flatMap_append];cases h:x.lane<;>simp[ZO,h]
def RM{m:Nat}{ws:List Wd}(h:∀x∈ws,x.Ok):∀t∈QZ m ws,32∉cp t:=λt ht=>by
 rcases Zj.mp ht with rfl | ht
 .exact Jg _
 .obtain⟨x,hx,rfl⟩:=Zq.mp ht;exact λhc=>(Wd.low (h x hx) 32 hc).2 rfl
def Vz{m:Nat}{ws:List Wd}:∀t∈QZ m ws,cp t≠[]:=λt ht=>by
 rcases Zj.mp ht with rfl | ht
 .exact EW _
 .obtain⟨x,hx,rfl⟩:=Zq.mp ht;show x.l≠[];unfold Wd.l;simp
def VB{m:Nat}{ws:List Wd}:dY m ws≠tx []:=λe=>by
 have:=congrArg cp e;unfold dY at this;rw[oE,cF]at this;refine I4 (by simp[QZ]) (λx hx=>?_) this;obtain⟨t,ht,rfl⟩:=Zq.mp hx;exact Vz t ht
def Og{m:Nat}{ws:List Wd}(h:∀x∈ws,x.Ok):Txt.split (dY m ws) (tx [32])=QZ m ws:=
 LH (RM h) (by simp[QZ]) λe=>VB (Jc _ _ (λ_=>trivial) e)
def N5{m:Nat}{ws:List Wd}(hm:m<10)(h:∀x∈ws,x.Ok):∀y∈QZ m ws,y.length<=100:=λt ht=>by
 rcases Zj.mp ht with rfl | ht
 .rw[rG hm];exact(show 1<=100 by decide)
 .obtain⟨x,hx,rfl⟩:=Zq.mp ht;exact Wd.len (h x hx)
def Pq{m:Nat}{ws:List Wd}(hm:m<10)(h:∀x∈ws,x.Ok)(hl:ws.length<=1000):(dY m ws).length<=1000000:=by
 have h1:=StrLaws.join_length_le (tx [32]) (QZ m ws);have h2:=StrLaws.sumLen_le (B:=100) (QZ m ws) (N5 hm h);have e:(tx [32]).length=1:=rfl;have e2:(QZ m ws).length=ws.length+1:=by simp[QZ]
 rw[e,Nat.mul_one,e2]at h1;rw[e2]at h2;show(Str.join (tx [32]) (QZ m ws)).length<=_;lia
def SX:∀ts:List Str,QU (ts.map .str)=true:=AX
def MM{fa fb:DE}{U:En}{ra rb:R}{ts:List Str}{n:Nat}(ha:fa U=some ra)(ea:ra.d= .lst (ts.map .str))(hb:fb U=some rb)(eb:rb.d= .int n):Q6 fa (QL fb) Q3 U=some (aO (.lst ((ts.drop n).map .str))):=by
 unfold Q6 QL Q3;simp only[ha,hb,Option.bind_some,ea,eb,cutD,Zh,HT.FR,HT.Ai,← CB,← BA,eE,SX,if_true];congr 4;rw[rM (by rw[mS];lia)];by_cases h:n<=ts.length
 .rw[Dj h]
 .rw[Nat.min_eq_right ⋯,Jr (Zu _),Jr ⋯]
def EO{fa fb:DE}{U:En}{ra rb:R}{ts:List Str}{i:Nat}{t:Str}(ha:fa U=some ra)(ea:ra.d= .lst (ts.map .str))(hb:fb U=some rb)(eb:rb.d= .int i)(h:ts[i]? =some t):Qg fa fb U=some (aO (.str t)):=by
 have hl:i<ts.length:=(Zn.mp h).1;unfold Qg;rw[ha,Option.bind_some,hb,Option.bind_some,ea,eb];simp only[D.items,Option.bind_some];rw[vW ⋯ (by simp;lia),Zy,Zx,h];rfl
def M6{w a b:Nat}{gc:DT}{fe:DE}{U:En}{Q:Out->Prop}{c:Bool}{x:Nat}{A B:bE}{M:List Nat}{f:Bool}(hg:gc U=some c)(ex:(if c=true then a else b)=x)(hw:w<U.length)(hx:w≠x)(hs:(U.set w none)[x]? =some (aA (Qr A)))(he:fe (U.set w none)=some ⟨Qr B,f,M⟩)(hl:A.length+B.length<=16000000)(q:Q (.nx ((U.set w none).set x (aA (Qr (A++B)))))):Run (mF w a b gc fe) U Q:=by
 refine⟨_,?_,q⟩;unfold mF;rw[hg,Option.bind_some,ex,if_pos ⟨hw,hx⟩];unfold oI;rw[hs];simp only[cN,Option.bind_some,he,eG,Qr,eW,Zh,iI,n7 (f:=pairD) (λ_=>rfl) B];rw[if_pos (by simp;lia)];simp
def Vt{a b c:Nat}{l:List Nat}:Txt.slice (tx (a::b::c::l)) (some 1) (some 2)=tx [b]:=by
 have e:Txt.slice (tx (a::b::c::l)) (some 1) (some 2)=StrLaws.sliceText (tx (a::b::c::l)) (some ((1:Nat):Int)) (some ((2:Nat):Int)):=rfl;rw[e,StrLaws.sliceText_nat _ ⋯ (by rw[dK,cF];simp)];rfl
def IV(d_text_words:aC)(d_read_figure:aC)(d_read_ways:aC)(d_made_net:aC):DS:=(Qa (Qm 1 (Qh 1 d_text_words [] (aG aL))) (Qa (Qm 2 (Qh 1 d_read_figure [] (aG (Qg aF aZ)))) (Qa (Qm 3 (Qx Qq)) (Qa (Qm 4 (Qx Qq)) (Qa (bV (QD (Q6 aF (QL bA) Q3)) (.nm 5) (Qa (mF 6 4 3 (Qf (aB aW (Q6 bI (QL bA) (QL bR)) (dS ">"))) (Qh 1 d_read_ways [] (aG bI))) Qc)) (Qa (Qv (Qh 3 d_made_net [] (bL aK aU bJ))) Qc))))))
def IJ(d:aC):Prop:=∀(m:Nat) (ws:List Wd),m<10->ws.length<=1000->(∀x∈ws,x.Ok)->(fV ws).length+(fY ws).length<=1000->Bm m ((fV ws).map iJ) (fY ws)->d [.str (dY m ws)]=some (Qj m ((fV ws).map iJ) (fY ws),true)
def PC{ws:List Wd}{i:Nat}:(fV (ws.take i)).length<=(fV ws).length/\(fY (ws.take i)).length<=(fY ws).length:=by
 have e:ws=ws.take i++ws.drop i:=(List.take_append_drop i ws).symm;constructor
 .conv=>rhs;rw[e]
  unfold fV;rw[rX,List.flatMap_append,Zm];lia
 .conv=>rhs;rw[e]
  unfold fY;rw[rX,List.flatMap_append,Zm];lia
def Po{dw df dy dm:aC}(hw:CP dw)(hf:D8 df)(hy:K1 dy)(hm:IF dm):IJ (Qt 7 (IV dw df dy dm)):=λm ws m10 hl hx hn N=>by
 have hT:=Pq m10 hx hl;have es:=Og (m:=m) hx;have hd:=hw (dY m ws) ⋯ (by rw[es];simp[QZ];lia);rw[es]at hd;refine gO ?_;refine run_seq (Q5 (QO (r:=⟨[.str (dY m ws)],true,[]⟩) rfl hd rfl) ?_);change Nx _ (.nx [aA (.str (dY m ws)),aA (.lst ((QZ m ws).map .str)),none,none,none,none,none]);refine run_seq (Q5 (QO (d:= .int m) (r:=⟨[.str (QQ m)],true,[]⟩) (Qe (EO (ts:=QZ m ws) (i:=0) (ra:=⟨.lst ((QZ m ws).map .str),true,[1]⟩) (rb:=aY 0) rfl rfl rfl rfl rfl) (QC _)) (by rw[rG m10];exact hf m m10) rfl) ?_);change Nx _ (.nx [aA (.str (dY m ws)),aA (.lst ((QZ m ws).map .str)),aI m,none,none,none,none]);refine run_seq (Q5 (r:=aO (Qr [])) rfl ?_);refine run_seq (Q5 (r:=aO (Qr [])) rfl ?_);change Nx _ (.nx [aA (.str (dY m ws)),aA (.lst ((QZ m ws).map .str)),aI m,aA (Qr []),aA (Qr []),none,none]);refine lI (P:=λU=>∃j5 j6,U=[aA (.str (dY m ws)),aA (.lst ((QZ m ws).map .str)),aI m,aA (Qr (fV ws)),aA (Qr (fY ws)),j5,j6]) ?_ ?_
 .refine gX (toD:=λx=> .str x.t) ws (λi U=>∃j5 j6,U=[aA (.str (dY m ws)),aA (.lst ((QZ m ws).map .str)),aI m,aA (Qr (fV (ws.take i))),aA (Qr (fY (ws.take i))),j5,j6]) (fB (xs:=(ws.map Wd.t).map .str) (MM (ts:=QZ m ws) (n:=1) (ra:=⟨.lst ((QZ m ws).map .str),true,[1]⟩) (rb:=aY 1) rfl rfl rfl rfl) rfl) (by rw[ZG];rfl) ⟨none,none,rfl⟩ ?_ ?_
  .rintro i x U hi ⟨j5,j6,rfl⟩;have hxo:=hx x (ZK hi);have et:ws.take (i+1)=ws.take i++[x]:=by rw[List.take_succ,hi];rfl
   have hlt:=PC (ws:=ws) (i:=i);have hk:x.k<=40:=by have:=hxo.k;split at this<;>lia
   refine⟨[aA (.str (dY m ws)),aA (.lst ((QZ m ws).map .str)),aI m,aA (Qr (fV (ws.take i))),aA (Qr (fY (ws.take i))),aA (.str x.t),j6],rfl,?_⟩;have eg:Qf (aB aW (Q6 (Qd 5) (QL (dC (.int 1))) (QL (dC (.int 2)))) (dC (.str ">"))) [aA (.str (dY m ws)),aA (.lst ((QZ m ws).map .str)),aI m,aA (Qr (fV (ws.take i))),aA (Qr (fY (ws.take i))),aA (.str x.t),j6]=some x.lane:=by
    have e1:Q6 (Qd 5) (QL (dC (.int 1))) (QL (dC (.int 2))) [aA (.str (dY m ws)),aA (.lst ((QZ m ws).map .str)),aI m,aA (Qr (fV (ws.take i))),aA (Qr (fY (ws.take i))),aA (.str x.t),j6]=some (aO (.str (tx [x.sign]))):=by
     show(if x.t.length<=sizeLine then some (HS.R.mk (.str (Txt.slice x.t (some 1) (some 2))) true [])else none)=_;rw[if_pos (by have:=Wd.len hxo;rw[iI];lia)];have:Txt.slice x.t (some 1) (some 2)=tx [x.sign]:=Vt;rw[this]
    have hs:x.sign<200:=by unfold Wd.sign;split<;>decide
    refine(QB (Dc (x:=tx [x.sign]) (y:=tx [62]) (rb:=aO (.str ">")) e1 rfl rfl (congrArg D.str Gx) (λc hc=>by rw[cF,Zg]at hc;lia) (λc hc=>by rw[cF,Zg]at hc;lia)) rfl).trans ?_;unfold Wd.sign;cases x.lane<;>rfl
   have ef:∀j6',Qh 1 dy [] (Qb (Qd 5) Qq) [aA (.str (dY m ws)),aA (.lst ((QZ m ws).map .str)),aI m,aA (Qr (fV (ws.take i))),aA (Qr (fY (ws.take i))),aA (.str x.t),j6']=some (aO (Qr (List.replicate x.k x.p))):=λj6'=>QO (r:=⟨[.str x.t],true,[]⟩) rfl (hy x hxo) rfl;cases hxl:x.lane with
   | true=>
    rw[hxl]at eg;refine run_seq (M6 (x:=4) (A:=fY (ws.take i)) (B:=List.replicate x.k x.p) eg rfl (show 6<7 by decide) ∅ rfl (ef none) (by rw[List.length_replicate];lia) (Qw ⟨aA (.str x.t),none,?_⟩));rw[et,KQ,LI,hxl,if_pos rfl,if_pos rfl,Zo];rfl
   | false=>
    rw[hxl]at eg;refine run_seq (M6 (x:=3) (A:=fV (ws.take i)) (B:=List.replicate x.k x.p) eg rfl (show 6<7 by decide) ∅ rfl (ef none) (by rw[List.length_replicate];lia) (Qw ⟨aA (.str x.t),none,?_⟩));rw[et,KQ,LI,hxl,if_neg ∅,if_neg ∅,Zo];rfl
  .rintro U ⟨j5,j6,rfl⟩;rw[pE];exact⟨j5,j6,rfl⟩
 .rintro U ⟨j5,j6,rfl⟩;exact fN (QO (r:=⟨[.int m,Qr (fV ws),Qr (fY ws)],true,[3,4]⟩) rfl (hm m _ _ _ (.inl rfl) hn N) rfl) ⟨rfl,rfl⟩
end HS
namespace HS
open PySem L2
def Br(d_need_rows:aC)(x_need_rows:List D->Option Str):DX:=(Qo (cP (Qh 2 d_need_rows [] (bB aL aF))) (cK 2 x_need_rows (bB aL aF)) (Qo (bV (QD aF) (.nm 2) (Qa (aQ (Qf (aB bZ (aS mP (aG aK)) aZ)) (Qa Qn Qc) Qc) Qc)) (iH (QD aF) (.nm 2) (Qa (aQ (Qf (aB bZ (aS mP (aG aK)) aZ)) (Qa Qn Qc) Qc) Qc) (Qo (aQ (Qf (aB bZ (aS mP (aG aK)) aZ)) (Qa Qn Qc) Qc) (bG (Qf (aB bZ (aS mP (aG aK)) aZ)) (Qo Qn (cR "NoHeap" (aG (dS "a heap has no number below 0"))) aJ) aJ) aJ)) aJ))
local macro_rules | `(tactic|ac_rfl)=> `(tactic|repeat (first | exact Ez | exact uN | assumption | apply FO | apply De | apply AV | apply Dw | apply ap_asg | apply ap_ret))
def Xi{dn:aC}{xn:List D->Option Str}(h:l8 dn xn):l8 (Qt 3 (wN dn)) (Q8 3 (Br dn xn)):=Az (by unfold wN Br;ac_rfl)
structure JA (xd:List D->Option Str):Prop where
 row:∀(m:Int) (R L:bE) (xs:List D),(xs.length:Int)≠m->xd [Qj m R L,.lst [.lst xs]]=some "NoRow"
 heap:∀(m:Nat) (R L:bE) (f:b8) (j:Nat),j<m->f j<0->xd [Qj m R L,.lst [Qi m f]]=some "NoHeap"
def Sh{dn:aC}{xn:List D->Option Str}(h:l8 dn xn)(hn:FA dn)(hx:MH xn):JA (Q8 3 (Br dn xn)) where
 row:=λm R L xs hm=>by
  refine AM (nF (Dw h) (PD (r:=⟨[Qj m R L,.lst [.lst xs]],_,_⟩) rfl rfl ?_));exact hx m R L [xs] 0 ⋯ (λi x hi e=> ⋯) (λx e=>by cases e;exact hm)
 heap:=λm R L f j hj hf=>by
  obtain⟨v,_,hle,hv⟩:=I6 (by lia:0<m) f;have h0:=hle j hj;refine AM (Oy (qX (QO (r:=⟨[Qj m R L,.lst [Qi m f]],false,[]⟩) rfl (hn m R L [f]) rfl) ?_));refine nF (AV (by ac_rfl)) (Hw (by ac_rfl) (toD:=λf=>Qi m f) [f] (λ_ U=>U=[aP (Qj m R L),aP (.lst [Qi m f]),none]) 0 ⋯ (ir:=⟨[Qi m f],[]⟩) rfl rfl rfl (λi x U hi=>absurd hi ⋯) ?_);rintro x U hx rfl;cases hx;refine⟨_,rfl,?_⟩;refine nF (by ac_rfl) (Dt (b:=true) (QB (QS (rb:=aY 0) (d:= .bl (decide (v<0))) (hv (r:=cU (Qi m f)) rfl rfl) rfl rfl) ?_) (λ_=>nF uN (Ew rfl (Zu _))) (λh=>by cases h));show D.bl _=_;rw[decide_eq_true ⋯]
def wK(d_is_plain:aC):DX:=(Qo (aQ (g8 (Qf (Qh 1 d_is_plain [] (aG aL)))) (Qa Qn Qc) Qc) (bG (g8 (Qf (Qh 1 d_is_plain [] (aG aL)))) (Qo Qn (cR "NotPlain" (aG (dS "this is told of nets without lanes alone"))) aJ) aJ) aJ)
def ß{dp:aC}:l8 (Qt 1 (w0 dp)) (Q8 1 (wK dp)):=Az (by unfold w0 wK;ac_rfl)
def Z1(xd:List D->Option Str):Prop:=∀(m:Int) (R L:bE),L≠[]->xd [Qj m R L]=some "NotPlain"
def NT{dp:aC}(hp:Bu dp):Z1 (Q8 1 (wK dp)):=λm R L hL=>by
 have:decide ((L.length:Int)=0)=false:=decide_eq_false (by cases L with | nil=>exact absurd rfl hL | cons a l=>simp;lia);refine AM (nF (by ac_rfl) (Dt (b:=true) (yJ (b:=false) (QB (b:=false) (QO (r:=⟨[Qj m R L],false,[]⟩) rfl (hp m R L) rfl) ?_)) (λ_=>nF uN (Ew rfl (Zu _))) (λh=>by cases h)));show D.bl _=_;rw[this]
end HS
namespace HS
open PySem
open HN (fH fK bP Q0 fD jF fC gU gW cO gG mJ jH lO jB QH QT jJ gH fZ lB jX lK lL kE jS bY l4 lY fX gY dW kT QW QY mR dF gT w9 vV cG bD Qu isAt atK gA dP gF eN)
noncomputable def bW:iF:=[("net",["net"]),("heap",["name","row"]),("add",["name","heap","heap"]),("again",["name","heap"]),("drop",["heap"]),("names",[]),("show",["heap"]),("still",["heap"]),("counts",["heap"]),("fire",["heap"]),("comes",["heap"]),("alike",["heap","heap"]),("tree",["heap"]),("place",["heap"]),("rings",[]),("many",[]),("nought",[])]
def TY:DS:=(Qa (Qv (Qz (QD aL) (.nm 1) [none,none,some 1] QJ (Qg aF aK))) Qc)
def Vm(d_column:aC):DS:=(Qa (Qv (Qz (jD (aS QN (aG aL))) (.nm 1) [none,none,some 0] QJ (Qh 2 d_column [] (bB aK aF)))) Qc)
def Vs:DS:=(Qa (Qv (Qz (QD aL) (.nm 1) [none,none] QJ (aB hH aZ aF))) Qc)
def RG:DS:=(Qa (Qm 1 aZ) (Qa (bV (QD aL) (.nm 2) (Qa (Qm 3 (QP aK)) (Qa (vV (Qf (aB bX aU aZ)) (Qa (Qm 4 (aB QX aF aU)) (Qa (Qm 1 (QP aU)) (Qa (Qm 3 (QP bJ)) Qc)))) Qc))) (Qa (Qv (aS y6 (aG aF))) Qc)))
def NH(d_opposite:aC):DS:=(Qa (Qm 2 (Qz (oQ aF (aS QN (aG aL))) (.nm 1) [none,none,some 1,some 0] (Qf (aB bX (Qg (Qg aU aF) aK) aZ)) aF)) (Qa (aQ (cL (g8 (Qf aK)) (Qf (aB aW (Qg aK aZ) aF))) (Qa (Qv aL) Qc) Qc) (Qa (Qm 3 (dList (aG aL))) (Qa (gC 3 cN aF (Qg aL (Qg aK aZ))) (Qa (gC 3 cN (Qg aK aZ) (Qh 1 d_opposite [] (aG (Qg aL aF)))) (Qa (Qv aU) Qc))))))
def æ:DS:=(Qa (Qv (Qz (iC aL aF) (.tp [1,2]) [none,none,none,some 2,some 3,some 0,some 1] QJ (aB eJ (aB hH (bS (Qg dJ aU) aF) (bS (Qg bI aU) aK)) bJ))) Qc)
abbrev z3:DA:=Qb aF (aG aK)
def TL(d_with_pivot:aC)(d_taken_off:aC):DS:=(Qa (Qm 1 (QP aL)) (Qa (Qm 2 bA) (Qa (bV (jD (aS QN (aG aL))) (.nm 3) (Qa (Qm 1 (Qh 2 d_with_pivot [] (bB aF aU))) (Qa (Qm 4 (QP (Qg aF aU))) (Qa (aQ (Qf (aB aW (Qg bJ aU) aZ)) (Qa (Qv (cJ (bB aF aZ))) Qc) Qc) (Qa (Qm 1 (Qz (QD aF) (.nm 1) [none,none,some 3,some 2,some 4] QJ (Qh 4 d_taken_off [] (Qb aF (bL bJ aK aU))))) (Qa (gC 1 cN aU bJ) (Qa (Qm 2 (QP (Qg bJ aU))) Qc))))))) (Qa (Qv (cJ z3)) Qc))))
def Ć(d_cleared:aC):DS:=(Qa (Qm 1 (Qh 1 d_cleared [] (aG aL))) (Qa (aQ (Qf (aB aW (Qg aF bA) aZ)) (Qa Qn Qc) Qc) (Qa (Qv aF) Qc)))
def Uy(d_cleared_whole:aC)(d_turned:aC)(d_column:aC)(d_common:aC):DS:=(Qa (Qm 2 (aS QN (aG aL))) (Qa (aQ (Qf (aB bX (aS QN (aG aF)) aK)) (Qa Qn Qc) Qc) (Qa (Qm 3 (Qh 1 d_cleared_whole [] (aG (Qz (iC (Qh 1 d_turned [] (aG aL)) aF) (.tp [1,2]) [none,none,none] QJ (Qk aF (Qx (aG aK))))))) (Qa (Qm 4 (Qh 2 d_column [] (bB (Qg aU aZ) aK))) (Qa (Qm 5 (Qh 1 d_common [] (aG (Qk bJ (Qx (aG (Qg aU bA))))))) (Qa (aQ (Qf (aB bZ (Qg aU bA) aZ)) (Qa (Qm 5 (aB hH aZ bI)) Qc) Qc) (Qa (Qv (cJ (bB (Qz (QD bJ) (.nm 1) [none,none,some 5] QJ (aB eJ aF aK)) (aB eJ (Qg aU bA) bI)))) Qc)))))))
def XD(d_toll_table:aC)(d_opposite:aC):DS:=(Qa (Qv (Qz (QD (Qh 1 d_toll_table [] (aG aL))) (.nm 1) [none,none] QJ (Qh 1 d_opposite [] (aG aF)))) Qc)
def RD(d_is_plain:aC)(d_span_list:aC):DX:=(Qo (aQ (Qf (Qh 1 d_is_plain [] (aG aL))) (Qa xD Qc) Qc) (bG (Qf (Qh 1 d_is_plain [] (aG aL))) (Qo xD aJ aJ) aJ) (Qo (Qm 1 bA) aJ (Qo (bV (QD (Qh 1 d_span_list [] (aG aL))) (.nm 2) (Qa (Qm 1 (bS aF aK)) Qc)) (iH (QD (Qh 1 d_span_list [] (aG aL))) (.nm 2) (Qa (Qm 1 (bS aF aK)) Qc) (Qo (Qm 1 (bS aF aK)) aJ aJ)) (Qo (aQ (Qf (aB cS aF CO)) (Qa Qn Qc) Qc) (bG (Qf (aB cS aF CO)) (Qo Qn (cR "NoNet" (aG (dS "in a net with lanes the spans, multiplied, are at most 300"))) aJ) aJ) aJ))))
abbrev z5:DA:=Qb aU (aG bJ)
def NV(d_need_numbers:aC)(x_need_numbers:List D->Option Str)(d_need_ways:aC)(x_need_ways:List D->Option Str)(d_need_small_spans:aC)(x_need_small_spans:List D->Option Str):DX:=(Qo (Qm 3 (Qz (QD aF) (.tp [1,2]) [none,none,none] QJ (cJ (bB (aS gM z3) (aS gD z3))))) aJ (Qo (Qm 4 (Qz (QD (nM aK (Qx Qq))) (.tp [1,2]) [none,none,none] QJ (cJ z3))) aJ (Qo (Qm 5 (cJ (Qb aL z5))) aJ (Qo (cP (Qh 1 d_need_numbers [] (aG bI))) (cK 1 x_need_numbers (aG bI)) (Qo (cP (Qh 1 d_need_ways [] (aG bI))) (cK 1 x_need_ways (aG bI)) (Qo (cP (Qh 1 d_need_small_spans [] (aG bI))) (cK 1 x_need_small_spans (aG bI)) (Qo (Qv bI) aJ aJ)))))))
def Nf:DS:=(Qa (Qm 3 (dList (aG aF))) (Qa (Qm 4 (dList (aG aK))) (Qa (Qm 5 (dC (.bl true))) (Qa (vV (Qf bI) (Qa (Qm 5 (dC (.bl false))) (Qa (bV (qS aL) (.tp [6,7]) (Qa (Qm 8 (aB eJ (Qg aU dJ) (aB hH aZ (Qg jW dJ)))) (Qa (aQ (Qf (aB cS t8 aZ)) (Qa (Qm 5 (dC (.bl true))) (Qa (pM (gI λi j=>some (.int (i+j))) 4 cN dJ t8) (Qa (Qm 3 (Qz (iC aU jW) (.tp [1,2]) [none,none,none,some 8] QJ (Qk aF (bS aU aK)))) Qc))) Qc) Qc))) Qc))) (Qa (Qv (cJ z5)) Qc)))))
abbrev Cy:DS:=Qm 4 (Qz (QD bJ) (.nm 1) [none,none,some 7] (Qf (aB (bQ true) aF aK)) aF)
abbrev Ey:DS:=bV (QD jW) (.nm 6) (Qa (gC 3 cN dJ bI) Qc)
abbrev Cg:DA:=Qb aL (aG (Qx (aG aF)))
def Wc(d_need_plain:aC)(x_need_plain:List D->Option Str)(d_need_heaps:aC)(x_need_heaps:List D->Option Str)(d_toll_table:aC)(d_roads_among:aC):DX:=(Qo (cP (Qh 1 d_need_plain [] (aG aL))) (cK 1 x_need_plain (aG aL)) (Qo (cP (Qh 2 d_need_heaps [] Cg)) (cK 2 x_need_heaps Cg) (Qo (Qm 2 (Qh 1 d_toll_table [] (aG aL))) aJ (Qo (Qm 3 (bS (Qx (aG (dC .aT))) (Qg aL aZ))) aJ (Qo (Qm 4 (u9 (Qg aL aZ))) aJ (Qo (bV (oQ bA (Qk (Qg aL aZ) bA)) (.nm 5) (Qa (Qm 7 (Qz (QD bJ) (.nm 1) [none,none,some 4,some 1,some 2] (Qf (aB mL (Qg aU aF) (Qh 3 d_roads_among [] (Qb (Qg bJ aF) z3)))) aF)) (Qa Ey (Qa Cy Qc)))) (iH (oQ bA (Qk (Qg aL aZ) bA)) (.nm 5) (Qa (Qm 7 (Qz (QD bJ) (.nm 1) [none,none,some 4,some 1,some 2] (Qf (aB mL (Qg aU aF) (Qh 3 d_roads_among [] (Qb (Qg bJ aF) z3)))) aF)) (Qa Ey (Qa Cy Qc))) (Qo (Qm 7 (Qz (QD bJ) (.nm 1) [none,none,some 4,some 1,some 2] (Qf (aB mL (Qg aU aF) (Qh 3 d_roads_among [] (Qb (Qg bJ aF) z3)))) aF)) aJ (Qo Ey (iH (QD jW) (.nm 6) (Qa (gC 3 cN dJ bI) Qc) (Qo (gC 3 cN dJ bI) aJ aJ)) (Qo Cy aJ aJ)))) (Qo (Qv aU) aJ aJ)))))))
def Yq(d_shared_out:aC)(d_net_table:aC):DS:=(Qa (Qm 2 (Qh 2 d_shared_out [] (bB (Qh 1 d_net_table [] (aG aL)) aF))) (Qa (Qv (Qz (QD (Qg aK aZ)) (.nm 1) [none,none,some 2] QJ (aB eJ aF (Qg aK bA)))) Qc))
def Td(d_span_list:aC):DS:=(Qa (Qv (Qz (QD (Qh 1 d_span_list [] (aG aL))) (.nm 1) [none,none] QJ (bS bR aF))) Qc)
abbrev uO:DA:=Qb aL (aG aF)
def TV(d_need_rows:aC)(d_near_counts:aC)(d_after:aC)(d_still:aC)(d_doubled_spans:aC):DS:=(Qa (cP (Qh 2 d_need_rows [] Cg)) (Qa (Qm 2 (Qh 2 d_near_counts [] uO)) (Qa (Qm 3 (Qh 3 d_after [] (Qb aL z3))) (Qa (Qm 4 (Qh 2 d_still [] (bB aL (Qh 1 d_doubled_spans [] (aG aL))))) (Qa (Qm 5 (Qz (iC (Qh 1 d_doubled_spans [] (aG aL)) (Qg bJ aZ)) (.tp [1,2]) [none,none,none] QJ (aB hH aF aK))) (Qa (Qm 6 (Qk (aS xM (aG (Qk (Qx (aG aZ)) (Qz (iC aU bI) (.tp [1,2]) [none,none,none] QJ (aB hH aZ (aB eJ aF aK)))))) bA)) (Qa (Qm 7 (Qz (iC aU bI) (.tp [1,2]) [none,none,none,some 6] QJ (Qk aF (bS aU aK)))) (Qa (Qm 8 (Qh 2 d_still [] (bB aL jW))) (Qa (Qm 9 (Qz (FE aK (Qg bJ bA) (Qg t8 bA)) (.tp [1,2,3]) [none,none,none,none,some 6] QJ (Qk (aB hH aF (bS bJ aK)) aU))) (Qa (Qv (cJ (bB (Qg t8 aZ) uG))) Qc))))))))))
def WI(d_need_heaps:aC)(d_still:aC):DS:=(Qa (cP (Qh 2 d_need_heaps [] (bB aL (Qx z3)))) (Qa (Qv (Qg (Qh 2 d_still [] (bB aL (Qz (iC aF aK) (.tp [1,2]) [none,none,none] QJ (Qk aF aK)))) aZ)) Qc))
abbrev HX:DT:=cL (Qf (aB bZ (aS QN (aG aF)) bA)) (Qf (aB cS (aS QN (aG aF)) MF))
abbrev LB:DT:=Qf (aS oN (aG (Qz (QD aF) (.nm 1) [none,none] QJ (aB (bQ true) aF (dS "0123456789")))))
abbrev HO:DT:=iN (Qf (aB aW (Qg aF aZ) (dS "0"))) (Qf (aB bX aL (dS "0")))
def W3:DX:=(Qo (Qm 1 (jP (Qf (eM mV aL (aG (dS "-")))) (Q6 aL (QL bA) Q3) aL)) aJ (Qo (aQ LB (Qa Qn Qc) Qc) (bG LB (Qo Qn (cR "NoText" (aG (dS "a number has figures from 0 to 9 alone, or - ahead of them"))) aJ) aJ) (Qo (aQ HX (Qa Qn Qc) Qc) (bG HX (Qo Qn (cR "NoText" (aG (dS "a number has from one to eighteen figures"))) aJ) aJ) (Qo (aQ HO (Qa Qn Qc) Qc) (bG HO (Qo Qn (cR "NoText" (aG (dS "a number has no nought ahead, and 0 no -"))) aJ) aJ) (Qo (Qv (aS n9 (aG aL))) aJ aJ)))))
def OX(d_read_number:aC)(x_read_number:List D->Option Str):DX:=(Qo (aQ (Qf (aB bX (aS QN (aG aL)) bA)) (Qa Qn Qc) Qc) (bG (Qf (aB bX (aS QN (aG aL)) bA)) (Qo Qn (cR "NoText" (aG (dS "a number in a net's text has one figure"))) aJ) aJ) (Qo (Qv (Qh 1 d_read_number [] (aG aL))) (cK 1 x_read_number (aG aL)) aJ))
abbrev LN:DT:=cL (Qf (aB bZ aF bR)) (Qf (aB cS aF qK))
def Á(d_read_number:aC)(x_read_number:List D->Option Str):DX:=(Qo (Qm 1 (Qh 1 d_read_number [] (aG aL))) (cK 1 x_read_number (aG aL)) (Qo (aQ LN (Qa Qn Qc) Qc) (bG LN (Qo Qn (cR "NoText" (aG (dS "from 2 to 40 alike ways are told by one word"))) aJ) aJ) (Qo (Qv aF) aJ aJ)))
abbrev z9:DA:=Qb (Qg aK aZ) Qq
abbrev H3:DT:=cL (Qf (aB bX (aS QN (aG aK)) kB)) (Qf (aB (bQ true) (Qg aK bA) (cJ (bB (dS "-") (dS ">")))))
def UN(d_read_alike:aC)(x_read_alike:List D->Option Str)(d_read_figure:aC)(x_read_figure:List D->Option Str):DX:=(Qo (Qm 1 (eM sN aL (aG (dS "*")))) aJ (Qo (Qm 2 (QP (Qg aF aZ))) aJ (Qo (aQ H3 (Qa Qn Qc) Qc) (bG H3 (Qo Qn (cR "NoText" (aG (dS "a way is told by a figure, - or > and another figure"))) aJ) aJ) (Qo (Qm 3 (jP (Qf (Qg aF bA)) (Qh 1 d_read_alike [] (aG (Qg aF bR))) bA)) (bG (Qf (Qg aF bA)) (cK 1 x_read_alike (aG (Qg aF bR))) aJ) (Qo (Qv (bS (Qx (aG (cJ (bB (Qh 1 d_read_figure [] z9) (Qh 1 d_read_figure [] (aG (Qg aK bR))))))) aU)) (qO (cK 1 x_read_figure z9) (A4 (Qh 1 d_read_figure [] z9) (cK 1 x_read_figure (aG (Qg aK bR))))) aJ)))))
abbrev z7:DT:=Qf (aB aW (Q6 bI (QL bA) (QL bR)) (dS ">"))
def N9(d_text_words:aC)(d_read_figure:aC)(x_read_figure:List D->Option Str)(d_read_ways:aC)(x_read_ways:List D->Option Str)(d_made_net:aC)(x_made_net:List D->Option Str):DX:=(Qo (Qm 1 (Qh 1 d_text_words [] (aG aL))) aJ (Qo (Qm 2 (Qh 1 d_read_figure [] (aG (Qg aF aZ)))) (cK 1 x_read_figure (aG (Qg aF aZ))) (Qo (Qm 3 (Qx Qq)) aJ (Qo (Qm 4 (Qx Qq)) aJ (Qo (bV (QD (Q6 aF (QL bA) Q3)) (.nm 5) (Qa (mF 6 4 3 z7 (Qh 1 d_read_ways [] (aG bI))) Qc)) (iH (QD (Q6 aF (QL bA) Q3)) (.nm 5) (Qa (mF 6 4 3 z7 (Qh 1 d_read_ways [] (aG bI))) Qc) (Qo (mF 6 4 3 z7 (Qh 1 d_read_ways [] (aG bI))) (EY 6 4 3 z7 (cK 1 x_read_ways (aG bI))) aJ)) (Qo (Qv (Qh 3 d_made_net [] (Qb aK z5))) (cK 3 x_made_net (Qb aK z5)) aJ))))))
def Xo(d_text_words:aC)(d_read_number:aC)(x_read_number:List D->Option Str):DX:=(Qo (Qm 1 (Qh 1 d_text_words [] (aG aL))) aJ (Qo (aQ (Qf (aB aW aF (Qx (aG (dS ""))))) (Qa (Qv (Qx Qq)) Qc) Qc) (bG (Qf (aB aW aF (Qx (aG (dS ""))))) (Qo (Qv (Qx Qq)) aJ aJ) aJ) (Qo (Qv (Qz (QD aF) (.nm 1) [none,none] QJ (Qh 1 d_read_number [] (aG aF)))) (o5 (QD aF) (.nm 1) [none,none] QJ (Qh 1 d_read_number [] (aG aF)) (cK 1 x_read_number (aG aF))) aJ)))
abbrev Ek:DS:=lA 3 cN (Qg (Qg dJ aZ) (aB hH (Qg dJ bA) bI))
def XZ(d_fire:aC)(x_fire:List D->Option Str)(d_comes_again:aC):DX:=(Qo (Qm 2 (Qh 2 d_fire [] uO)) (cK 2 x_fire uO) (Qo (aQ (g8 (Qf (Qh 2 d_comes_again [] uO))) (Qa Qn Qc) Qc) (bG (g8 (Qf (Qh 2 d_comes_again [] uO))) (Qo Qn (cR "NotAgain" (aG (dS "the heap does not come again"))) aJ) aJ) (Qo (Qm 3 (Qx Qq)) aJ (Qo (bV (qS aF) (.tp [4,5]) (Qa Qn (Qa Ek Qc))) (iH (qS aF) (.tp [4,5]) (Qa Qn (Qa Ek Qc)) (Qo Qn aJ (Qo Ek aJ aJ))) (Qo Qn aJ aJ)))))
abbrev MR:DT:=cL (Qf (aB (bQ false) (dS "net") aK)) (Qf (aB (bQ false) (dS "row") aK))
abbrev Kx:DS:=Qm 1 (qG aL (bB (dS " ") (aS QN (aG aK))))
abbrev z8:DS:=aQ MR (Qa Kx Qc) Qc
abbrev CM:DT:=Qf (aB bX (aS QN (aG aF)) (Qk (aS QN (aG aK)) bA))
abbrev DH:DT:=mI bW true (Qg aF aZ)
def C8:DX:=(Qo (aQ (g8 (Qf (mM "str" aL))) (Qa Qn Qc) Qc) (bG (g8 (Qf (mM "str" aL))) (Qo Qn (cR "NoDeed" (aG (dS "a command is a text"))) aJ) aJ) (Qo (Qm 1 (eM nP aL (aG (dS " ")))) aJ (Qo (aQ DH (Qa Qn Qc) Qc) (bG DH (Qo Qn (cR "NoDeed" (aG (dS "there is no such command"))) aJ) aJ) (Qo (Qm 2 (QP (eD bW (Qg aF aZ)))) aJ (Qo z8 (bG MR (Qo Kx aJ aJ) aJ) (Qo (aQ CM (Qa Qn Qc) Qc) (bG CM (Qo Qn (cR "NoDeed" (aG (dS "the command has too few words or too many"))) aJ) aJ) (Qo (Qv aF) aJ aJ)))))))
def CY:DS:=(Qa (aQ (g8 (Qf (mM "str" aL))) (Qa Qn Qc) Qc) (Qa (Qm 1 (eM nP aL (aG (dS " ")))) (Qa (aQ DH (Qa Qn Qc) Qc) (Qa (Qm 2 (QP (eD bW (Qg aF aZ)))) (Qa z8 (Qa (aQ CM (Qa Qn Qc) Qc) (Qa (Qv aF) Qc)))))))
abbrev z2:DT:=cL (Qf (aB bZ (aS QN (aG aL)) bA)) (cL (Qf (aB cS (aS QN (aG aL)) kJ)) (Qf (aS oN (aG (Qz (QD aL) (.nm 1) [none,none] QJ (aB (bQ true) aF (dS "abcdefghijklmnopqrstuvwxyz")))))))
def Jv:DX:=(Qo (aQ z2 (Qa Qn Qc) Qc) (bG z2 (Qo Qn (cR "NoName" (aG (dS "a name has from one to eight small letters"))) aJ) aJ) aJ)
def AK:DS:=(Qa (aQ z2 (Qa Qn Qc) Qc) Qc)
def MZ(d_heap_sum:aC)(d_again:aC):DS:=(Qa (aQ (Qf (aB aW aF (dS "add"))) (Qa (Qv (Qh 3 d_heap_sum [] (bL aL (Qg aK aZ) (Qg aK bA)))) Qc) Qc) (Qa (aQ (Qf (aB aW aF (dS "again"))) (Qa (Qv (Qg (Qh 2 d_again [] (Qb aL z9)) aZ)) Qc) Qc) (Qa (Qv (Qg aK aZ)) Qc)))
abbrev z6:DA:=Qb aL (aG aK)
abbrev Cf:DE:=jP (Qf (aB (gJ false) aF (dC .aT))) (dS ".") (aS f9 (aG aF))
abbrev Ee:DT:=Qf (aB aW aF (dS "counts"))
def Vg(d_row_text:aC)(d_still:aC)(d_fire:aC)(x_fire:List D->Option Str)(x_tree_of:List D->Option Str):DX:=(Qo (aQ (Qf (aB aW aF (dS "still"))) (Qa (Qv (Qh 1 d_row_text [] (aG (Qg (Qh 2 d_still [] z6) aZ)))) Qc) Qc) (bG (Qf (aB aW aF (dS "still"))) (Qo (Qv (Qh 1 d_row_text [] (aG (Qg (Qh 2 d_still [] z6) aZ)))) aJ aJ) aJ) (Qo (aQ Ee (Qa (Qv (Qh 1 d_row_text [] (aG (Qg (Qh 2 d_still [] z6) bA)))) Qc) Qc) (bG Ee (Qo (Qv (Qh 1 d_row_text [] (aG (Qg (Qh 2 d_still [] z6) bA)))) aJ aJ) aJ) (Qo (aQ (Qf (aB aW aF (dS "fire"))) (Qa (Qv (eM iU (dS " ") (aG (Qz (QD (Qh 2 d_fire [] z6)) (.nm 1) [none,none] QJ Cf)))) Qc) Qc) (bG (Qf (aB aW aF (dS "fire"))) (Qo (Qv (eM iU (dS " ") (aG (Qz (QD (Qh 2 d_fire [] z6)) (.nm 1) [none,none] QJ Cf)))) (cK 2 x_fire z6) aJ) aJ) (Qo (aQ (Qf (aB aW aF (dS "comes"))) (Qa Qn Qc) Qc) (bG (Qf (aB aW aF (dS "comes"))) (Qo Qn aJ aJ) aJ) (Qo (aQ (Qf (aB aW aF (dS "tree"))) (Qa Qn Qc) Qc) (bG (Qf (aB aW aF (dS "tree"))) (Qo Qn (cK 2 x_tree_of z6) aJ) aJ) (Qo (aQ (Qf (aB aW aF (dS "place"))) (Qa Qn Qc) Qc) (bG (Qf (aB aW aF (dS "place"))) (Qo Qn aJ aJ) aJ) (Qo (Qv (Qh 1 d_row_text [] (aG aK))) aJ aJ)))))))
def YO(d_row_text:aC)(d_still:aC)(d_fire:aC):DS:=(Qa (aQ (Qf (aB aW aF (dS "still"))) (Qa (Qv (Qh 1 d_row_text [] (aG (Qg (Qh 2 d_still [] z6) aZ)))) Qc) Qc) (Qa (aQ Ee (Qa (Qv (Qh 1 d_row_text [] (aG (Qg (Qh 2 d_still [] z6) bA)))) Qc) Qc) (Qa (aQ (Qf (aB aW aF (dS "fire"))) (Qa (Qv (eM iU (dS " ") (aG (Qz (QD (Qh 2 d_fire [] z6)) (.nm 1) [none,none] QJ Cf)))) Qc) Qc) (Qa (aQ (Qf (aB aW aF (dS "comes"))) (Qa Qn Qc) Qc) (Qa (aQ (Qf (aB aW aF (dS "tree"))) (Qa Qn Qc) Qc) (Qa (aQ (Qf (aB aW aF (dS "place"))) (Qa Qn Qc) Qc) (Qa (Qv (Qh 1 d_row_text [] (aG aK))) Qc)))))))
abbrev CX:DT:=Qf (aB aW aF (dS "nought"))
def XF(d_heap_answer:aC)(x_heap_answer:List D->Option Str):DX:=(Qo (aQ (Qf (aB aW aF (dS "rings"))) (Qa Qn Qc) Qc) (bG (Qf (aB aW aF (dS "rings"))) (Qo Qn aJ aJ) aJ) (Qo (aQ (Qf (aB aW aF (dS "many"))) (Qa Qn Qc) Qc) (bG (Qf (aB aW aF (dS "many"))) (Qo Qn aJ aJ) aJ) (Qo (aQ CX (Qa Qn Qc) Qc) (bG CX (Qo Qn aJ aJ) aJ) (Qo (aQ (Qf (aB aW aF (dS "alike"))) (Qa Qn Qc) Qc) (bG (Qf (aB aW aF (dS "alike"))) (Qo Qn aJ aJ) aJ) (Qo (Qv (Qh 3 d_heap_answer [] (Qb aL (Qb aF z9)))) (cK 3 x_heap_answer (Qb aL (Qb aF z9))) aJ)))))
def PJ(d_heap_answer:aC):DS:=(Qa (aQ (Qf (aB aW aF (dS "rings"))) (Qa Qn Qc) Qc) (Qa (aQ (Qf (aB aW aF (dS "many"))) (Qa Qn Qc) Qc) (Qa (aQ CX (Qa Qn Qc) Qc) (Qa (aQ (Qf (aB aW aF (dS "alike"))) (Qa Qn Qc) Qc) (Qa (Qv (Qh 3 d_heap_answer [] (Qb aL (Qb aF z9)))) Qc)))))
abbrev zU:DA:=Qb (cO 0) (aG (Qx (aG aU)))
def Mf(d_read_net:aC)(x_read_net:List D->Option Str)(d_read_row:aC)(d_need_heaps:aC)(x_read_row:List D->Option Str)(x_need_heaps:List D->Option Str)(d_need_name:aC)(x_need_name:List D->Option Str):DX:=(Qo (aQ (Qf (aB aW aF (dS "net"))) (Qa (Qv (Qh 1 d_read_net [] (aG aK))) Qc) Qc) (bG (Qf (aB aW aF (dS "net"))) (Qo (Qv (Qh 1 d_read_net [] (aG aK))) (cK 1 x_read_net (aG aK)) aJ) aJ) (Qo (aQ (Qf (aB aW aF (dS "row"))) (Qa (Qm 3 (Qh 1 d_read_row [] (aG aK))) (Qa (cP (Qh 2 d_need_heaps [] zU)) (Qa (Qv aU) Qc))) Qc) (bG (Qf (aB aW aF (dS "row"))) (Qo (Qm 3 (Qh 1 d_read_row [] (aG aK))) (cK 1 x_read_row (aG aK)) (Qo (cP (Qh 2 d_need_heaps [] zU)) (cK 2 x_need_heaps zU) (Qo (Qv aU) aJ aJ))) aJ) (Qo (cP (Qh 1 d_need_name [] (aG aK))) (cK 1 x_need_name (aG aK)) (Qo (aQ (Qf (aB aW aF (dS "name"))) (Qa (Qv aK) Qc) Qc) (bG (Qf (aB aW aF (dS "name"))) (Qo (Qv aK) aJ aJ) aJ) (Qo (aQ (Qf (gG true aK 0)) (Qa Qn Qc) Qc) (bG (Qf (gG true aK 0)) (Qo Qn (cR "NoName" (aG (dS "no heap stands by this name"))) aJ) aJ) (Qo (Qv (mJ 0 aK)) aJ aJ))))))
def Gf(d_read_net:aC)(d_read_row:aC)(d_need_heaps:aC)(d_need_name:aC):DS:=(Qa (aQ (Qf (aB aW aF (dS "net"))) (Qa (Qv (Qh 1 d_read_net [] (aG aK))) Qc) Qc) (Qa (aQ (Qf (aB aW aF (dS "row"))) (Qa (Qm 3 (Qh 1 d_read_row [] (aG aK))) (Qa (cP (Qh 2 d_need_heaps [] zU)) (Qa (Qv aU) Qc))) Qc) (Qa (cP (Qh 1 d_need_name [] (aG aK))) (Qa (aQ (Qf (aB aW aF (dS "name"))) (Qa (Qv aK) Qc) Qc) (Qa (aQ (Qf (gG true aK 0)) (Qa Qn Qc) Qc) (Qa (Qv (mJ 0 aK)) Qc))))))
abbrev EX:DT:=iN (Qf (gG true aF 0)) (Qf (aB mL (jH 0) Iq))
def Pw:DX:=(Qo (aQ EX (Qa Qn Qc) Qc) (bG EX (Qo Qn (cR "TooMany" (aG (dS "a desk has at most 30 heaps"))) aJ) aJ) (Qo Qn aJ aJ))
def Ca:DS:=(Qa (aQ EX (Qa Qn Qc) Qc) (Qa (lL 0 aF aK) Qc))
abbrev z4:DT:=Qf (aB (bQ false) aU (cJ (bL (dS "heap") (dS "add") (dS "again"))))
abbrev vL:DE:=eM iU (dS " ") (aG (lO 0))
abbrev uX:DT:=Qf (aB aW aU (dS "names"))
abbrev E4:DT:=iN (Qf (aB (gJ false) (cO 0) (dC .aT))) (Qf (aB bX aU (dS "net")))
abbrev AU:DT:=Qf (aB aW aU (dS "drop"))
abbrev KL:DA:=Qb (cO 0) (bB aU (Q6 bJ (QL bA) Q3))
abbrev FN:DS:=Qm 3 (QP (Qg aK aZ))
def Iy(d_command_words:aC)(x_command_words:List D->Option Str)(l_read_part:aC)(y_read_part:List D->Option Str)(d_answer:aC)(d_made_heap:aC)(y_keep:List D->Option Str)(x_answer:List D->Option Str):DX:=(Qo (Qm 2 (Qh 1 d_command_words [] (aG aF))) (cK 1 x_command_words (aG aF)) (Qo FN aJ (Qo (aQ E4 (Qa Qn Qc) Qc) (bG E4 (Qo Qn (cR "NoNet" (aG (dS "no net has been told"))) aJ) aJ) (Qo (Qm 4 (Qz (fZ (eD bW aU) (Q6 aK (QL bA) Q3)) (.tp [1,2]) [none,none,none,some 0] QJ (jB ⟨3,[],l_read_part⟩ 3 z3))) (o5 (fZ (eD bW aU) (Q6 aK (QL bA) Q3)) (.tp [1,2]) [none,none,none,some 0] QJ (jB ⟨3,[],l_read_part⟩ 3 z3) (gH 3 y_read_part 3 z3)) (Qo (aQ (Qf (aB aW aU (dS "net"))) (Qa Qn (Qa Qn Qc)) (Qa (aQ AU (Qa Qn Qc) (Qa (aQ z4 (Qa Qn Qc) (Qa (aQ uX (Qa (Qv vL) Qc) (Qa (Qv (Qh 3 d_answer [] (Qb (cO 0) z5))) Qc)) Qc)) Qc)) Qc)) (bG (Qf (aB aW aU (dS "net"))) (Qo Qn aJ (Qo Qn aJ aJ)) (Qo (aQ AU (Qa Qn Qc) (Qa (aQ z4 (Qa Qn Qc) (Qa (aQ uX (Qa (Qv vL) Qc) (Qa (Qv (Qh 3 d_answer [] (Qb (cO 0) z5))) Qc)) Qc)) Qc)) (bG AU (Qo Qn aJ aJ) (Qo (aQ z4 (Qa Qn Qc) (Qa (aQ uX (Qa (Qv vL) Qc) (Qa (Qv (Qh 3 d_answer [] (Qb (cO 0) z5))) Qc)) Qc)) (bG z4 (Qo Qn (gH 3 y_keep 0 (bB (Qg bJ aZ) (Qh 3 d_made_heap [] KL))) aJ) (Qo (aQ uX (Qa (Qv vL) Qc) (Qa (Qv (Qh 3 d_answer [] (Qb (cO 0) z5))) Qc)) (bG uX (Qo (Qv vL) aJ aJ) (Qo (Qv (Qh 3 d_answer [] (Qb (cO 0) z5))) (cK 3 x_answer (Qb (cO 0) z5)) aJ)) aJ)) aJ)) aJ)) (Qo (Qv (dS "ok")) aJ aJ))))))
def Mv(d_command_words:aC)(l_read_part:aC)(m_keep:bP)(d_made_heap:aC)(d_answer:aC):DS:=(Qa (Qm 2 (Qh 1 d_command_words [] (aG aF))) (Qa FN (Qa (aQ E4 (Qa Qn Qc) Qc) (Qa (Qm 4 (Qz (fZ (eD bW aU) (Q6 aK (QL bA) Q3)) (.tp [1,2]) [none,none,none,some 0] QJ (jB ⟨3,[],l_read_part⟩ 3 z3))) (Qa (aQ (Qf (aB aW aU (dS "net"))) (Qa (jX 0 (Qg bJ aZ)) (Qa (lK 0) Qc)) (Qa (aQ AU (Qa (kE 0 (Qg aK bA)) Qc) (Qa (aQ z4 (Qa (l4 (QH ⟨3,m_keep⟩ 0 (bB (Qg bJ aZ) (Qh 3 d_made_heap [] KL)))) Qc) (Qa (aQ uX (Qa (fX (dW vL)) Qc) (Qa (fX (dW (Qh 3 d_answer [] (Qb (cO 0) z5)))) Qc)) Qc)) Qc)) Qc)) (Qa (fX (dW (dS "ok"))) Qc))))))
abbrev PR(d__law_cell_at:aC):DS:=Qm 2 (Qk bA (aB QX (Qh 2 d__law_cell_at [] (bB aL aZ)) aF))
abbrev Rc(d__law_cell_at:aC):DS:=Qm 3 (aB QX (aB eJ (Qh 2 d__law_cell_at [] (bB aL bA)) kB) Uq)
abbrev Ln:DS:=bV (jD aK) (.nm 5) (Qa (Qm 6 (aB QX (bS (bS (Qk aU Ò) (Qk (Qk (bS bI bI) (bS tG bI)) GB)) Hi) Mx)) (Qa (Qm 7 (QP aK)) (Qa (aQ (Qf (aB bZ (aB QX dJ (Qk bI bA)) bI)) (Qa (Qm 7 (aB QX (Qk (aB QX dJ (Qk bI bA)) aU) aK)) Qc) Qc) (Qa (lA 4 cN (cJ (bL (aB QX (Qk bI aU) aK) jW (dC (.bl false))))) Qc))))
abbrev KJ(d__law_cell_at:aC):DS:=bV (QD (Q6 aL (QL bR) (QL tG))) (.nm 8) (Qa (Qm 6 (aB QX (bS t8 RI) Mx)) (Qa (Qm 9 (aB QX dJ (Qk aK bA))) (Qa (Qm 10 (pK (aB aW (aB QX (Qh 2 d__law_cell_at [] (bB aL bA)) kB) bR) (aB bZ aK rL))) (Qa (Qm 11 (pK PI (pK (aB bZ uG aK) (aB bZ (aS QN (aG bJ)) (Qk aK bR))))) (Qa (lA 4 cN (cJ (bL uG (aB QX (Qk (Qk uG bA) (aB QX (aB eJ dJ Ay) aK)) (Qk aK bA)) Nj))) Qc)))))
abbrev YK:DS:=Qm 12 (Qz (QD bJ) (.tp [1,2,3]) [none,none,none,none] (g8 (Qf aU)) (cJ (bB (aS gM z3) (aS gD z3))))
abbrev O5:DS:=Qv (cJ (bL aK Tc (Qz (QD bJ) (.tp [1,2,3]) [none,none,none,none] (Qf aU) (cJ z3))))
def DF(d__law_cell_at:aC):DS:=(Qa (PR d__law_cell_at) (Qa (Rc d__law_cell_at) (Qa (Qm 4 (Qx Qq)) (Qa Ln (Qa (KJ d__law_cell_at) (Qa YK (Qa O5 Qc)))))))
abbrev X6:DS:=Qm 1 (Qx (bB (dS "net") (aS f9 (aG (Qg aL aZ)))))
abbrev IU:DS:=bV (QD (Qg aL bA)) (.tp [2,3]) (Qa (lA 1 cN (Qk (Qk (aS f9 (aG aU)) (dS "-")) (aS f9 (aG aK)))) Qc)
abbrev Gz:DS:=bV (QD (Qg aL bR)) (.tp [2,3]) (Qa (lA 1 cN (Qk (Qk (aS f9 (aG aK)) (dS ">")) (aS f9 (aG aU)))) Qc)
def Fi:DS:=(Qa X6 (Qa IU (Qa Gz (Qa (Qv (eM iU (dS " ") (aG aF))) Qc))))
abbrev VG(d__law_cell_at:aC):DS:=Qm 3 (aB QX (bS (Qh 2 d__law_cell_at [] uO) Hi) YE)
abbrev Lo:DS:=bV (jD (aB QX aU kJ)) (.nm 5) (Qa (Qm 4 (Qk bJ (Qg aK (aB QX (aB eJ aU (Qk bI kJ)) A9)))) Qc)
abbrev WJ:DS:=Qm 6 (aB QX (aB eJ aU kJ) (Qk (aS QN (aG bJ)) bA))
abbrev KD:DS:=bV (jD rL) (.nm 5) (Qa (Qm 8 (QP (Qg aK (aB QX (Qk (aB eJ aU ÿ) (bS rL bI)) A9)))) (Qa (lA 7 cN (Qk (Qk (Q6 bJ Q3 (QL dJ)) t8) (Q6 bJ (QL dJ) Q3))) Qc))
abbrev OP:DS:=Qm 9 (Qk (aS QN (aG bJ)) bR)
abbrev IH:DS:=aQ (Qf (aB cS uG kJ)) (Qa (Qm 9 tG) Qc) Qc
abbrev Ov:DS:=gC 7 cN kB (Q6 (Qk (Qg jW aZ) (Qg jW kB)) Q3 (QL uG))
def FQ(d__law_cell_at:aC):DS:=(Qa (Qm 2 (dS "abcdefghijklmnopqrstuvwxyz")) (Qa (VG d__law_cell_at) (Qa (Qm 4 (dS "")) (Qa Lo (Qa WJ (Qa (Qm 7 (Qx Qq)) (Qa KD (Qa OP (Qa IH (Qa Ov (Qa (Qv jW) Qc)))))))))))
def Nt(sub:Str->Str->Option Bool):DS:=(Qa (Qm 1 (Qx (Qb (kF sub ["NoDeed"] aL) (bL (kF sub ["NoNet"] aL) (kF sub ["NoName"] aL) (kF sub ["NoText"] aL))))) (Qa (Qm 1 (Qk aF (Qx (Qb (kF sub ["NoRow"] aL) (bL (kF sub ["NoHeap"] aL) (kF sub ["NotPlain"] aL) (kF sub ["NotAgain"] aL)))))) (Qa (Qv (Qk aF (Qx (bB (kF sub ["TooMany"] aL) (kF sub ["ValueError"] aL))))) Qc)))
abbrev z1:DS:=Qa (gY (dW (dC (.bl false)))) Qc
def Ge(y_say:List D->Option Str)(d__law_kinds:aC)(sub:Str->Str->Option Bool):DS:=(Qa (jJ (gH 2 y_say 0 (aG aF)) sub "HeapError" (some 3) (aB aW (Qh 1 d__law_kinds [] (aG aU)) (Qk (Qz (lB 3 Ay) (.nm 1) [none,none,some 2] QJ (aB aW aK aF)) (Qx (aG (dC (.bl true))))))) z1)
def Je(y_say:List D->Option Str)(sub:Str->Str->Option Bool):DS:=(Qa (jJ (gH 2 y_say 0 (aG aF)) sub "NoDeed" none (dC (.bl true))) z1)
def RS(m_say:bP):DS:=(Qa (lY 3 (QH ⟨2,m_say⟩ 0 (aG aF))) (Qa (fX (gT (dW (mM "str" aU)) (dW (aB aW aU aK)))) Qc))
abbrev Hv:DS:=Qm 2 (Qx (Qb (dS "") (Qb (dS " ") (Qb (dS "net") (Qb (dS "nets 1 0-1") (Qb (dS "Net 1 0-1") (Qb (dS " names") (Qb (dS "names ") (bL (dS "names a") (dS "show") (Qk (Qk (dS "show ") aF) (dS " ")))))))))))
abbrev K5:DS:=Qm 2 (Qk aK (Qx (Qb (dS "add") (Qb (Qk (Qk (Qk (dS "add ") aF) (dS " ")) aF) (Qb (dS "add a b c d") (bL (Qk (dS "again ") aF) (dS "drop") (Qk (dS "alike ") aF)))))))
abbrev J2:DS:=Qm 2 (Qk aK (Qx (aG (dS "heap"))))
abbrev JU:DS:=Qm 2 (Qk aK (Qx (Qb (Qk (dS "heap ") aF) (Qb (dS "still") (Qb (dS "counts") (Qb (Qk (Qk (Qk (dS "fire ") aF) (dS " ")) aF) (bL (dS "rings 1") (dS "many ") (dS "nought a"))))))))
abbrev HQ:DS:=Qm 2 (Qk aK (Qx (bL (dS "tree") (Qk rL (aB QX (aB eJ aL Jd) NY)) (dC .aT))))
def Nu:DS:=(Qa Hv (Qa K5 (Qa J2 (Qa JU (Qa HQ (Qa (Qv (Qg aK (aB QX aL Jd))) Qc))))))
abbrev Jt:DS:=Qm 2 (Qx (Qb (dS "names") (Qb (dS "rings") (Qb (dS "many") (Qb (dS "nought") (Qb (Qk (dS "show ") aF) (bL (Qk (Qk (dS "heap ") aF) (dS " 1")) (dS "heap A x") (dS "add a b c"))))))))
abbrev KG:DS:=Qm 2 (Qk aK (Qx (Qb (dS "again A B") (Qb (Qk (dS "drop ") aF) (Qb (dS "fire a") (Qb (dS "tree ") (Qb (dS "comes a") (bL (dS "place a") (dS "alike a b") (dS "counts a")))))))))
def NZ:DS:=(Qa Jt (Qa KG (Qa (Qv (Qg aK (aB QX aL KW))) Qc)))
abbrev L0:DS:=Qm 3 (QP (Qg (Qx (Qb (dS "") (Qb (dS "A") (Qb (dS "a1") (Qb (dS "abcdefghi") (Qb (dS "a-b") (bL (dS "aB") (dS "z_") (dS "{")))))))) (aB QX (aB eJ aF rL) kJ)))
abbrev J7:DS:=Qm 4 (Qx (bL (Qk (Qk (Qk (Qk (Qk (dS "add ") aK) (dS " ")) aK) (dS " ")) aU) (Qk (Qk (Qk (Qk (Qk (dS "add ") aK) (dS " ")) aU) (dS " ")) aK) (Qk (Qk (Qk (dS "again ") aK) (dS " ")) aU)))
abbrev MI:DS:=Qm 4 (Qk bJ (Qx (bB (Qk (Qk (Qk (dS "alike ") aU) (dS " ")) aK) (Qk (Qk (Qk (dS "alike ") aK) (dS " ")) aU))))
abbrev SU(e__law_refused:Q0):DS:=bY (dF (QY (QW (QT ⟨3,e__law_refused⟩ (bL aL (Qg bJ (aB QX aF rL)) bR)))) (QY (QW (QT ⟨3,e__law_refused⟩ (bL aL (Qk (dS "show ") aU) bR))))) z1 Qc
abbrev Ji:DS:=Qm 4 (Qx (Qb (Qk (Qk (Qk (Qk (Qk (dS "add ") aU) (dS " ")) aK) (dS " ")) aK) (bL (Qk (Qk (Qk (dS "again ") aU) (dS " ")) aK) (Qk (dS "drop ") aU) (Qk (dS "still ") aU))))
abbrev Oc(e__law_refused:Q0):DS:=gY (gT (QT ⟨3,e__law_refused⟩ (bL aL (Qg bJ (aB QX aF wQ)) bR)) (QT ⟨3,e__law_refused⟩ (bL aL (Qk (Qk (dS "heap ") aU) (dS " x")) bR)))
def OT(e__law_refused:Q0):DS:=(Qa L0 (Qa J7 (Qa MI (Qa (SU e__law_refused) (Qa Ji (Qa (Oc e__law_refused) Qc))))))
abbrev Ly:DS:=Qm 4 (Qx (Qb (dS "") (Qb (dS "x") (Qb (dS "2 0-1 ") (Qb (dS "2  0-2") (Qb (dS "2 0-1*1 1-2") (bL (dS "2 0-1*41") (dS "2 0-1*02") (dS "2 0>1* 1-2"))))))))
abbrev Iv:DS:=Qm 4 (Qk bJ (Qx (bL (dS "10 0-1") (dS "2 a-b") (dS "-1 0-1"))))
abbrev Tz(e__law_refused:Q0):DS:=bY (QY (QW (QT ⟨3,e__law_refused⟩ (bL aL (Qk (dS "net ") (Qg bJ (aB QX aF GB))) kB)))) z1 Qc
abbrev G7:DS:=Qm 4 (Qx (Qb (dS "0") (Qb (dS "9 0-1") (Qb (dS "1 0-0") (Qb (dS "2 0-1") (bL (dS "1 1>0 0-1") (dS "1 0-1*40 0-1") (dS "1 0-2 0-1")))))))
abbrev Xv(e__law_refused:Q0):DS:=bY (QY (QW (QT ⟨3,e__law_refused⟩ (bL aL (Qk (dS "net ") (Qg bJ (aB QX aF tG))) bA)))) z1 Qc
abbrev I5:DS:=Qm 4 (Qx (Qb (dS "x") (Qb (dS " 1") (Qb (dS "1  2") (Qb (dS "01") (Qb (dS "-0") (Qb (dS "+1") (Qb (dS "1 ") (Qb (dS "1.0") (Qb (dS "1000000000000000000") (bL (dS "1-") (dS "--1") (dS "1_0"))))))))))))
abbrev Df:DE:=Qk (Qk (dS "heap ") aK) (dS " ")
abbrev Uw(e__law_refused:Q0):DS:=bY (QY (QW (QT ⟨3,e__law_refused⟩ (bL aL (Qk Df (Qg bJ (aB QX aF H7))) kB)))) z1 Qc
abbrev FC:DS:=Qm 5 (aB QX aF (aS QN (aG aU)))
abbrev DR:DS:=gC 6 cN bI (aB hH (wM bA) (aB QX (aB eJ aF Ay) UO))
abbrev Hc:DS:=Qm 7 (QP (Qg (Qx (Qb (Qk aU (Qx (aG aZ))) (bL (Q6 aU (QL bA) Q3) (Q6 dJ (QL bA) Q3) (Qk dJ (Qx (aG bA)))))) (aB QX aF wQ)))
abbrev Wk(e__law_refused:Q0)(d__law_text:aC):DS:=bY (QY (QW (QT ⟨3,e__law_refused⟩ (bL aL (Qk Df (Qh 1 d__law_text [] (aG jW))) wQ)))) z1 Qc
abbrev Xz(e__law_refused:Q0)(d__law_text:aC):DS:=gY (QT ⟨3,e__law_refused⟩ (bL aL (Qk Df (Qh 1 d__law_text [] (aG dJ))) rL))
def Pk(e__law_refused:Q0)(d__law_text:aC):DS:=(Qa Ly (Qa Iv (Qa (Tz e__law_refused) (Qa G7 (Qa (Xv e__law_refused) (Qa I5 (Qa (Uw e__law_refused) (Qa FC (Qa (Qm 6 (dList (aG aU))) (Qa DR (Qa Hc (Qa (Wk e__law_refused d__law_text) (Qa (Xz e__law_refused d__law_text) Qc)))))))))))))
def P0(D__law_is:bP)(d__law_text:aC):DS:=(Qa (fX (gT (QH ⟨3,D__law_is⟩ 0 (bB (dS "names") aF)) (QH ⟨3,D__law_is⟩ 0 (bB (Qk (dS "show ") aF) (Qh 1 d__law_text [] (aG aK)))))) Qc)
abbrev LD(D__law_is:bP):DS:=bY (QY (QW (QH ⟨3,D__law_is⟩ 2 (bB (dS "net 1 0-1*3") (dS "ok"))))) z1 Qc
abbrev HC(D__law_is:bP):DS:=bV (jD Iq) (.nm 3) (Qa (bY (QY (QW (QH ⟨3,D__law_is⟩ 2 (bB (Qk (Qk (Qk (dS "heap ") (w9 (Qg aF (aB QX aU A9)) (Qk bA (aB eJ aU A9)))) (dS " ")) (aS f9 (aG aU))) (dS "ok"))))) z1 Qc) Qc)
abbrev Jh:DS:=Qm 4 (QP (Qg (Qx (bL (dS "heap zzz 1") (dS "add zzz a b") (dS "again zzz a"))) (aB QX aL kB)))
abbrev Mh(e__law_refused:Q0):DS:=bY (dF (QY (QW (QT ⟨3,e__law_refused⟩ (bL aK bJ kJ)))) (QY (QW (QT ⟨3,e__law_refused⟩ (bL aK (dS "heap zzz x") kB))))) z1 Qc
abbrev Ik(D__law_is:bP):DS:=bY (dF (QY (QW (QH ⟨3,D__law_is⟩ 2 (bB (Qg (Qx (bB (dS "add a a b") (dS "again a b"))) (aB QX (aB eJ aL kB) bR)) (dS "ok"))))) (QY (QW (QH ⟨3,D__law_is⟩ 2 (bB (dS "heap a 7") (dS "ok")))))) z1 Qc
abbrev GU:DS:=Qm 5 (QP (Qg aF (Qk bR (aB QX (aB eJ aL kB) Ud))))
abbrev I7:DS:=Qm 6 (QP (Qg (Qx (Qb (dS "add zzz a qq") (bL (dS "add zzz qq a") (dS "again zzz qq") (dS "add zzz a A")))) (aB QX aL wQ)))
abbrev Gd(e__law_refused:Q0):DS:=bY (QY (QW (QT ⟨3,e__law_refused⟩ (bL aK dJ bR)))) z1 Qc
abbrev IE(D__law_is:bP):DS:=bY (dF (QY (QW (QH ⟨3,D__law_is⟩ 2 (bB (Qk (dS "drop ") bI) (dS "ok"))))) (QY (QW (QH ⟨3,D__law_is⟩ 2 (bB bJ (dS "ok")))))) z1 Qc
abbrev Kf(D__law_is:bP)(e__law_refused:Q0):DS:=bY (dF (QY (QW (QT ⟨3,e__law_refused⟩ (bL aK (Qk (Qk (dS "heap ") bI) (dS " 1")) kJ)))) (QY (QW (QH ⟨3,D__law_is⟩ 2 (bB (dS "show a") (dS "7")))))) z1 Qc
abbrev JZ(D__law_is:bP):DS:=bY (dF (QY (QW (QH ⟨3,D__law_is⟩ 2 (bB (dS "net 2 0-1 1-2") (dS "ok"))))) (QY (QW (QH ⟨3,D__law_is⟩ 2 (bB (dS "heap zzz 1 0") (dS "ok")))))) z1 Qc
abbrev He(D__law_is:bP)(e__law_refused:Q0):DS:=gY (gT (QH ⟨3,D__law_is⟩ 2 (bB (dS "names") (dS "zzz"))) (QT ⟨3,e__law_refused⟩ (bL aK (dS "show a") bR)))
def MA(D__law_is:bP)(e__law_refused:Q0):DS:=(Qa (Qm 1 (dS "abcdefghijklmnopqrstuvwxyz")) (Qa (jS 2) (Qa (LD D__law_is) (Qa (HC D__law_is) (Qa Jh (Qa (Mh e__law_refused) (Qa (Ik D__law_is) (Qa GU (Qa I7 (Qa (Gd e__law_refused) (Qa (IE D__law_is) (Qa (Kf D__law_is e__law_refused) (Qa (JZ D__law_is) (Qa (He D__law_is e__law_refused) Qc))))))))))))))
abbrev y0(d__law_net:aC):DS:=Qm 1 (Qh 2 d__law_net [] (bB aL wQ))
abbrev Cz(d__law_names:aC):DS:=Qm 2 (Qh 2 d__law_names [] (bB aL tG))
abbrev Fm(d__law_cell_at:aC):DS:=Qm 4 (Qz (jD (Qg aF aZ)) (.nm 1) [none,none,some 0] QJ (aB QX (Qh 2 d__law_cell_at [] (bB aK (Qk kJ aF))) WG))
abbrev EP(d__law_cell_at:aC)(d__law_odd:aC):DS:=Qm 6 (Qh 2 d__law_odd [] (bB (Qh 2 d__law_cell_at [] (bB aL H7)) aU))
abbrev GQ(d__law_cell_at:aC)(e__law_refused:Q0)(d__law_no_net:aC):DS:=bY (dF (QY (QW (QT ⟨3,e__law_refused⟩ (bL bI (Qh 2 d__law_no_net [] (bB (Qh 2 d__law_cell_at [] (bB aL W9)) aU)) bA)))) (QY (QW (QT ⟨3,e__law_refused⟩ (bL bI dJ aZ))))) z1 Qc
abbrev HH(D__law_is:bP)(d__law_text:aC)(d__law_net_row:aC):DS:=bY (dF (QY (QW (QH ⟨3,D__law_is⟩ 5 (bB (Qh 1 d__law_net_row [] (aG aF)) (dS "ok"))))) (QY (QW (QH ⟨3,D__law_is⟩ 5 (bB (Qk (Qk (Qk (dS "heap ") aU) (dS " ")) (Qh 1 d__law_text [] (aG bJ))) (dS "ok")))))) z1 Qc
abbrev IY(e__law_refused:Q0)(D__law_kept:bP)(e__law_by_name:Q0):DS:=bY (dF (QY (QW (QT ⟨3,e__law_refused⟩ (bL bI dJ aZ)))) (dF (QY (QW (QT ⟨2,e__law_by_name⟩ (bB bI dJ)))) (QY (QW (QH ⟨3,D__law_kept⟩ 5 z5))))) z1 Qc
abbrev Gs(d__law_cell_at:aC)(D__law_kept:bP)(e__law_bad_names:Q0):DS:=bY (dF (QY (QW (QT ⟨3,e__law_bad_names⟩ (bL bI (Qh 2 d__law_cell_at [] (bB aL VQ)) aU)))) (QY (QW (QH ⟨3,D__law_kept⟩ 5 z5)))) z1 Qc
abbrev Kb(d__law_cell_at:aC)(D__law_kept:bP)(e__law_texts:Q0):DS:=bY (dF (QY (QW (QT ⟨4,e__law_texts⟩ (Qb bI (Qb (Qh 2 d__law_cell_at [] (bB aL WC)) z5))))) (QY (QW (QH ⟨3,D__law_kept⟩ 5 z5)))) z1 Qc
abbrev Mi(e__law_refused:Q0):DS:=bY (QY (QW (QT ⟨3,e__law_refused⟩ (bL bI (Qk (dS "show ") (Qg aK bA)) bR)))) z1 Qc
abbrev GA(D__law_is:bP)(d__law_text:aC):DS:=bY (QY (QW (QH ⟨3,D__law_is⟩ 5 (bB (Qk (Qk (Qk (dS "heap ") (Qg aK bA)) (dS " ")) (Qh 1 d__law_text [] (aG bJ))) (dS "ok"))))) z1 Qc
abbrev Kc(D__law_is:bP)(d__law_text:aC):DS:=bY (dF (QY (QW (QH ⟨3,D__law_is⟩ 5 (bB (Qk (dS "show ") (Qg aK bA)) (Qh 1 d__law_text [] (aG bJ)))))) (QY (QW (QH ⟨3,D__law_is⟩ 5 (bB (Qk (dS "drop ") (Qg aK bA)) (dS "ok")))))) z1 Qc
abbrev JK(D__law_is:bP)(d__law_text:aC):DS:=bY (QY (QW (QH ⟨3,D__law_is⟩ 5 (bB (Qk (Qk (Qk (dS "heap ") aU) (dS " ")) (Qh 1 d__law_text [] (aG (bS (Qx (aG qK)) (Qg aF aZ))))) (dS "ok"))))) z1 Qc
abbrev H5(e__law_refused:Q0):DS:=bY (mR (kT (Qf (aB bX (Qg aF bR) (Qx Qq)))) (QY (QW (QT ⟨3,e__law_refused⟩ (bL bI (Qk (dS "fire ") aU) Lq))))) z1 Qc
abbrev LC(e__law_refused:Q0):DS:=bY (QY (QW (QT ⟨3,e__law_refused⟩ (bL bI (Qk (dS "tree ") aU) (Qg (Qx (bB tG Lq)) (aS n9 (aG (aB bX (Qg aF bR) (Qx Qq))))))))) z1 Qc
abbrev Ja(d__law_cell_at:aC)(D__law_kept:bP)(e__law_full:Q0):DS:=gY (gT (QH ⟨3,D__law_kept⟩ 5 (bB aU (bS (Qx (aG qK)) (Qg aF aZ)))) (QT ⟨1,e__law_full⟩ (aG (Qh 2 d__law_cell_at [] (bB aL KW)))))
def Me(d__law_net:aC)(d__law_names:aC)(d__law_cell_at:aC)(d__law_odd:aC)(e__law_refused:Q0)(d__law_no_net:aC)(D__law_is:bP)(d__law_text:aC)(d__law_net_row:aC)(D__law_kept:bP)(e__law_by_name:Q0)(e__law_bad_names:Q0)(e__law_texts:Q0)(e__law_full:Q0):DS:=(Qa (y0 d__law_net) (Qa (Cz d__law_names) (Qa FN (Qa (Fm d__law_cell_at) (Qa (jS 5) (Qa (EP d__law_cell_at d__law_odd) (Qa (GQ d__law_cell_at e__law_refused d__law_no_net) (Qa (HH D__law_is d__law_text d__law_net_row) (Qa (IY e__law_refused D__law_kept e__law_by_name) (Qa (Gs d__law_cell_at D__law_kept e__law_bad_names) (Qa (Kb d__law_cell_at D__law_kept e__law_texts) (Qa (Mi e__law_refused) (Qa (GA D__law_is d__law_text) (Qa (Kc D__law_is d__law_text) (Qa (JK D__law_is d__law_text) (Qa (H5 e__law_refused) (Qa (LC e__law_refused) (Qa (Ja d__law_cell_at D__law_kept e__law_full) Qc))))))))))))))))))
end HS
namespace HS
open PySem PySem.Spec L2 PyProof.Rows PySem.NumText
section
def PY(l:List Nat):(tx l).length=l.length:=by rw[dK,cF]
end
def eL(l:List Nat):List (List Nat):=(Txt.split (tx l) (tx [32])).map cp
def G9(l:List Nat):Txt.split (tx l) (tx [32])=(eL l).map tx:=by
 unfold eL;rw[ZG]
 conv=>lhs;rw[← List.map_id (Txt.split (tx l) (tx [32]))]
 exact w7 λt _=>(kY t).symm
def BJ(l:List Nat):jn 32 (eL l)=l:=by
 unfold eL;rw[← oE,StrLaws.join_split,cF]
def E2(l:List Nat):eL l≠[]:=λh=>by
 have e:=BJ l;rw[h]at e;rw[← e]at h;cases h
def LO{c:Nat}:∀{L:List (List Nat)},L≠[]->(jn c L).length+1=(L.map λw=>w.length+1).sum
 | [],h=>absurd rfl h
 | [x],_=>by simp[jn]
 | x::y::r,_=>by
  have ih:=LO (c:=c) (L:=y::r) ⋯;show(x++c::jn c (y::r)).length+1=(x.length+1)+((y::r).map λw=>w.length+1).sum;rw[← ih,Zm,ZA];lia
def IK{k:Nat}:∀{L:List (List Nat)},(∀w∈L,k<=w.length)->(k+1)*L.length<=(L.map λw=>w.length+1).sum
 | [],_=>by simp
 | x::r,h=>by
  rw[Zp,kX,ZA];have:=IK (L:=r) λw hw=>h w (Zl _ hw);have:=h x ⋯;rw[Nat.mul_add];lia
def N4(l:List Nat):((eL l).map λw=>w.length+1).sum=l.length+1:=by rw[← LO (c:=32) (E2 l),BJ]
def X3(l:List Nat):(eL l).length<=l.length+1:=by have:=IK (k:=0) (L:=eL l) λ_ _=>sG _;rw[N4]at this;lia
def K4{l:List Nat}(hl:l.length<=600):nP (.str (tx l)) (.str " ")=some (.lst ((eL l).map λw=> .str (tx w))):=by
 have hc:=X3 l;show(if(((Str.ofString " ").length == 0)=false/\(tx l).length<=16000000)/\(Txt.split (tx l) (Str.ofString " ")).length<=16000000 then some (D.lst ((Txt.split (tx l) (Str.ofString " ")).map .str))else none)=_;rw[yN,if_pos ⟨⟨rfl,by rw[PY];lia⟩,by rw[G9,Zh];lia⟩,G9,ZG];rfl
def fI(c:Nat):Nat->Nat->List Nat->List Nat
 | _,_,[]=>[]
 | k,p,a::r=>if a=c/\0<k then p::fI c (k-1) (p+1) r else fI c k (p+1) r
def Cq(l:List Nat)(c limit:Nat):∀(r:List Nat) (p:Nat) (st:Array Nat×Nat),p+r.length=l.length->l.drop p=r->st.2<=p->(forIn (List.range' p (r.length+1)) st (StrLaws.occBody (tx l) (tx [c]) (tx l).length limit)).run.1.toList=st.1.toList++fI c (limit-st.1.size) p r
 | [],p,st,hp,hr,hs=>by
  have hl:(tx l).length=l.length:=by rw[dK,cF]
  rw[show List.range' p ([].length+1)=[p]from rfl,rQ];unfold StrLaws.occBody;rw[if_neg (λh=>by have:=h.1.2;rw[hl,show(tx [c]).length=1 from rfl]at this;simp at hp;lia)];show st.1.toList=st.1.toList++[];simp
 | a::r,p,st,hp,hr,hs=>by
  have hl:(tx l).length=l.length:=by rw[dK,cF]
  have ha:l[p]? =some a:=by
   have:=congrArg (·[0]?) hr;simpa[List.getElem?_drop]using this
  have hr':l.drop (p+1)=r:=by
   have:=congrArg (List.drop 1) hr;rwa[List.drop_drop]at this
  have hat:=StrLaws.subAt_one (tx l) c p;rw[show List.range' p ((a::r).length+1)=p::List.range' (p+1) (r.length+1)from rfl,rQ];unfold StrLaws.occBody;by_cases hc:a=c/\0<limit-st.1.size
  .obtain⟨h1,h2⟩:=hat.mpr (by show l[p]? =_;rw[ha,hc.1]);rw[if_pos ⟨⟨⟨⋯,hs⟩,h1⟩,h2⟩];have ih:=Cq l c limit r (p+1) (st.1.push p,p+(tx [c]).length) (by simp at hp;lia) hr' (by show p+1<=p+1;lia);refine ih.trans ?_;rw[fI,if_pos hc,Array.toList_push,Array.size_push,ZX];rfl
  .rw[if_neg (λh=>hc ⟨by
    have:=hat.mp ⟨h.1.2,h.2⟩;have:l[p]? =some c:=this;rw[ha]at this;exact Option.some.inj this,by have:=h.1.1.1;lia⟩)]
   have ih:=Cq l c limit r (p+1) (st.1,st.2) (by simp at hp;lia) hr' (by show st.2<=p+1;lia);refine ih.trans ?_;rw[fI,if_neg hc]
def T9(l:List Nat)(c limit:Nat):Builtin.Str.occurrences (tx l) (tx [c]) 0 (tx l).length limit=fI c limit 0 l:=by
 rw[StrLaws.occ_eq,show(tx l).length+1-0=l.length+1 by rw[dK,cF];rfl];have:=Cq l c limit l 0 (#[],0) ⋯ rfl (Zu _);simpa using this
def uJ{c k p:Nat}{b:List Nat}:∀{a:List Nat},c∉a->fI c k p (a++b)=fI c k (p+a.length) b
 | [],_=>rfl
 | x::a,h=>by
  rw[rB,fI,if_neg (λe=>h (by rw[e.1];simp)),uJ (λm=>h (Zl _ m))];congr 1;simp;lia
def pos_none{c k p:Nat}{a:List Nat}(h:c∉a):fI c k p a=[]:=by
 have:=uJ (k:=k) (p:=p) (b:=[]) h;rw[Zo]at this;rw[this];rfl
def sC(l:List Nat)(i j:Nat):Builtin.Str.strSub (tx l) i j=tx ((l.drop i).take (j-i)):=n6 (by
 show(Builtin.Str.strSub _ _ _).cps.toList=_;rw[StrLaws.strSub_toList];rfl)
def FT{l:List Nat}{k c:Nat}{r:List Nat}(h:fI 32 k 0 l=c::r):Txt.splitMax (tx l) (tx [32]) k=StrLaws.partsFrom (tx l) 1 0 (c::r):=by
 have hl:l≠[]:=λe=>by rw[e]at h;cases h
 unfold Txt.splitMax;rw[show limitOf (tx l) (k:Int)=k by unfold limitOf;rw[if_neg ⋯];rfl,T9,h];have e1:(decide ((tx l).length<(tx [32]).length) || decide (Builtin.Str.strKind (tx l)<Builtin.Str.strKind (tx [32])))=false:=by
  rw[Fy];refine⟨decide_eq_false ?_,decide_eq_false ?_⟩
  .rw[dK,cF,show(tx [32]).length=1 from rfl];have:=List.length_pos_iff.mpr hl;lia
  .rw[show Builtin.Str.strKind (tx [32])=1 by kernel_rfl];unfold Builtin.Str.strKind;split
   .lia
   .split<;>lia
 rw[e1,if_neg ∅,if_neg ⋯,StrLaws.partsBetween_eq];rfl
def El{c p:Nat}:∀{b:List Nat},fI c 0 p b=[]
 | []=>rfl
 | x::b=>by rw[fI,if_neg ⋯];exact El
def RW{a b:List Nat}(ha:32∉a):Txt.splitMax (tx (a++32::b)) (tx [32]) 1=[tx a,tx b]:=by
 have h:fI 32 1 0 (a++32::b)=[a.length]:=by
  rw[uJ ha,fI,if_pos ⟨rfl,Nat.one_pos⟩,Nat.zero_add,El]
 refine(FT (k:=1) h).trans ?_;show [_,_]=_;rw[sC,sC,dK,cF];simp;rw[rM ⋯]
def Č{a b c:List Nat}(ha:32∉a)(hb:32∉b):Txt.splitMax (tx (a++32::(b++32::c))) (tx [32]) 2=[tx a,tx b,tx c]:=by
 have h:fI 32 2 0 (a++32::(b++32::c))=[a.length,a.length+1+b.length]:=by
  rw[uJ ha,fI,if_pos ⟨rfl,∅⟩,uJ hb,fI,if_pos ⟨rfl,∅⟩,El];simp
 refine(FT (k:=2) h).trans ?_;show [_,_,_]=_;have e:a.length+1+b.length-(a.length+1)=b.length:= ⋯
 have e2:(a++32::(b++32::c)).drop (a.length+1)=b++32::c:=by rw[FD];simp
 have e3:(a++32::(b++32::c)).drop (a.length+1+b.length+1)=c:=by
  rw[show a.length+1+b.length+1=(a.length+1)+(b.length+1) by lia,← List.drop_drop,e2,FD];simp
 rw[sC,sC,sC,e,e2,e3,dK,cF,rM (l:=c) (by simp;lia)];simp
def Vc{a b:List Nat}(ha:32∉a)(hb:32∉b):Txt.splitMax (tx (a++32::b)) (tx [32]) 2=[tx a,tx b]:=by
 have h:fI 32 2 0 (a++32::b)=[a.length]:=by
  rw[uJ ha,fI,if_pos ⟨rfl,∅⟩,pos_none hb];simp
 refine(FT (k:=2) h).trans ?_;show [_,_]=_;rw[sC,sC,dK,cF];simp;rw[rM ⋯]
def Js{L:List (List Nat)}(h:∀w∈L,32∉w)(h1:L≠[]):eL (jn 32 L)=L:=
 Dx (E2 _) h1 (λx hx=>by
  unfold eL at hx;obtain⟨t,ht,rfl⟩:=Zq.mp hx;exact StrLaws.split_free _ 32 t ht) h (BJ _)
section
variable {f g:DS}{fx fr gx:DX}{U U':En}{d:D}{b:Bool}{q:Str×En}{c:DT}
def Qs(h:f U=some (.nx U')):Qa f g U=g U':=by unfold Qa;rw[h];rfl
def cT(h:f U=some (.rt d b)):Qa f g U=some (.rt d b):=by unfold Qa;rw[h];rfl
def cB(h:f U=some (.nx U')):Qo f fx fr U=fr U':=by unfold Qo;rw[h]
def dM(h:f U=none)(hx:fx U=some q):Qo f fx fr U=some q:=by unfold Qo;rw[h];exact hx
def QA(h:c U=some false):aQ c f g U=g U:=by unfold aQ;rw[h];rfl
def dX(h:c U=some true):aQ c f g U=f U:=by unfold aQ;rw[h];rfl
def l9(h:c U=some true):bG c fx gx U=fx U:=by unfold bG;rw[h];rfl
def BQ(h:c U=some false):bG c fx gx U=gx U:=by unfold bG;rw[h];rfl
def mU{n:Nat}{ds:List D}(h:f (Qy n ds)=some (.rt d b)):Qt n f ds=some (d,b):=by unfold Qt;rw[h];rfl
def hV{n:Nat}{ds:List D}(h:fx (Qy n ds)=some q):Q8 n fx ds=some q.1:=by unfold Q8;rw[h];rfl
def mW{n:Nat}{ds:List D}(h:f (Qy n ds)=none):Qt n f ds=none:=by unfold Qt;rw[h];rfl
end
abbrev kw(s:String):List Nat:=cp (Str.ofString s)
abbrev wD(L:List (List Nat)):D:= .lst (L.map λw=> .str (tx w))
abbrev cW:aC:=Qt 3 CY
abbrev xW:List D->Option Str:=Q8 3 C8
def Ċ:l8 cW xW:=Az (by unfold CY C8;repeat (first | exact Ez | exact uN | assumption | apply FO | apply De))
def cQ{i:Nat}{fa:DE}{U:En}{r:R}(h:fa U=some r):Qm i fa U=some (.nx (asg i r U)):=by unfold Qm;rw[h];rfl
def Ny:DS:=(Qa (aQ (mI bW true (Qg aF aZ)) (Qa Qn Qc) Qc) (Qa (Qm 2 (QP (eD bW (Qg aF aZ)))) (Qa (aQ (cL (Qf (aB (bQ false) (dS "net") aK)) (Qf (aB (bQ false) (dS "row") aK))) (Qa (Qm 1 (qG aL (bB (dS " ") (aS QN (aG aK))))) Qc) Qc) (Qa (aQ (Qf (aB bX (aS QN (aG aF)) (Qk (aS QN (aG aK)) bA))) (Qa Qn Qc) Qc) (Qa (Qv aF) Qc)))))
def YD:DX:=(Qo (aQ (mI bW true (Qg aF aZ)) (Qa Qn Qc) Qc) (bG (mI bW true (Qg aF aZ)) (Qo Qn (cR "NoDeed" (aG (dS "there is no such command"))) aJ) aJ) (Qo (Qm 2 (QP (eD bW (Qg aF aZ)))) aJ (Qo (aQ (cL (Qf (aB (bQ false) (dS "net") aK)) (Qf (aB (bQ false) (dS "row") aK))) (Qa (Qm 1 (qG aL (bB (dS " ") (aS QN (aG aK))))) Qc) Qc) (bG (cL (Qf (aB (bQ false) (dS "net") aK)) (Qf (aB (bQ false) (dS "row") aK))) (Qo (Qm 1 (qG aL (bB (dS " ") (aS QN (aG aK))))) aJ aJ) aJ) (Qo (aQ (Qf (aB bX (aS QN (aG aF)) (Qk (aS QN (aG aK)) bA))) (Qa Qn Qc) Qc) (bG (Qf (aB bX (aS QN (aG aF)) (Qk (aS QN (aG aK)) bA))) (Qo Qn (cR "NoDeed" (aG (dS "the command has too few words or too many"))) aJ) aJ) (Qo (Qv aF) aJ aJ)))))
section
variable {l n r:List Nat}{W:List (List Nat)}{d:D}{b:Bool}{q:Str×En}
def cw_v(hl:l.length<=600)(hw:eL l=W)(h:Ny [aA (.str (tx l)),some (wD W,true),none]=some (.rt d b)):cW [.str (tx l)]=some (d,b):=
 mU ((Qs (U':=Qy 3 [.str (tx l)]) rfl).trans ((Qs (cQ (r:=⟨wD W,true,[]⟩) (sF (ra:=aO (.str (tx l))) (rb:=aO (.str " ")) rfl rfl (hw▸K4 hl)))).trans h))
def cw_x(hl:l.length<=600)(hw:eL l=W)(h:YD [aA (.str (tx l)),some (wD W,true),none]=some q):xW [.str (tx l)]=some q.1:=
 hV ((cB (U':=Qy 3 [.str (tx l)]) rfl).trans ((cB (cQ (r:=⟨wD W,true,[]⟩) (sF (ra:=aO (.str (tx l))) (rb:=aO (.str " ")) rfl rfl (hw▸K4 hl)))).trans h))
def vE(ha:32∉n):eL (n++32::r)=n::eL r:=by
 have e:n++32::r=jn 32 (n::eL r):=by
  obtain⟨x,y,h⟩:=List.exists_cons_of_ne_nil (E2 r);have hj:=BJ r;rw[h]at hj ⊢;show _=n++32::jn 32 (x::y);rw[hj]
 rw[e];refine Js (λw hw=>?_) ⋯;rcases Zj.mp hw with rfl | hw
 .exact ha
 .unfold eL at hw;obtain⟨t,ht,rfl⟩:=Zq.mp hw;exact StrLaws.split_free _ 32 t ht
def OZ(ha:32∉n):eL n=[n]:=Js (L:=[n]) (λw hw=>by rw[Zg.mp hw];exact ha) ⋯
def eS{s:String}(h:(kw s).all (λc=>c != 32)=true):32∉kw s:=λm=>by have:=ZN.mp h 32 m;cases this
def Hz{U:En}{a:List Nat}(h:U[1]? =some (some (wD (a::W),true))):Qg (Qd 1) (dC (.int 0)) U=some (aO (.str (tx a))):=
 EO (ts:=(a::W).map tx) (i:=0) (ra:=⟨wD (a::W),true,[1]⟩) (rb:=aY 0) (by unfold Qd;rw[h];rfl) (by rw[ZG];rfl) rfl rfl rfl
def V3{k:Nat}{L:List (List Nat)}(hl:l.length<=600)(hL:L.length<=600)(hk:k<=9)(h:Txt.splitMax (tx l) (tx [32]) k=L.map tx):rO (.str (tx l)) [.str " ",.int k]=some (wD L):=by
 show(if((([]:List D).isEmpty && !((Str.ofString " ").length == 0)) && !(decide ((k:Int)< -(2^63:Int)) || decide ((k:Int)≥2^63)) && decide ((tx l).length<=16000000) && decide ((Txt.splitMax (tx l) (Str.ofString " ") k).length<=16000000))=true then some (D.lst ((Txt.splitMax (tx l) (Str.ofString " ") k).map .str))else none)=_;rw[yN,h,if_pos,ZG]
 .rfl
 .rw[decide_eq_false (show ¬(k:Int)< -(2^63:Int) by lia),decide_eq_false (show ¬(k:Int)≥2^63 by lia),decide_eq_true (show(tx l).length<=16000000 by rw[dK,cF];lia),decide_eq_true (show(L.map tx).length<=16000000 by rw[Zh];lia)];rfl
def cw_tail{a:List Nat}{ks:List Str}{L:List (List Nat)}(hl:l.length<=600)(hL:L.length<=600)(hk:ks.length<=9)(hw:∃R,eL l=a::R)(hc:look (tx a) bW=some ks)(hn:cL (Qf (aB (bQ false) (dC (.str "net")) (Qd 2))) (Qf (aB (bQ false) (dC (.str "row")) (Qd 2))) [none,none,aA (.tup (ks.map .str))]=some true)(h:Txt.splitMax (tx l) (tx [32]) ks.length=L.map tx):
  (L.length=ks.length+1->cW [.str (tx l)]=some (wD L,true))/\(L.length≠ks.length+1->xW [.str (tx l)]=some "NoDeed"):=by
 obtain⟨R,hw⟩:=hw;have i0:∀{x:Option (D×Bool)},Qg (Qd 1) (dC (.int 0)) [aA (.str (tx l)),some (wD (a::R),true),x]=some (aO (.str (tx a))):=Hz rfl;have c1:mI bW true (Qg (Qd 1) (dC (.int 0))) [aA (.str (tx l)),some (wD (a::R),true),none]=some false:=by unfold mI;rw[i0,Option.bind_some];show some ((look (tx a) bW).isSome != true)=_;rw[hc];rfl
 have c2:QP (eD bW (Qg (Qd 1) (dC (.int 0)))) [aA (.str (tx l)),some (wD (a::R),true),none]=some (cU (.tup (ks.map .str))):=by unfold QP eD;rw[i0,Option.bind_some];show Option.map _ ((look (tx a) bW).map _)=_;rw[hc];rfl
 have fl:(D.tup (ks.map .str)).flat=true:=by show QU (ks.map .str)=true;exact AX ks
 have ag:asg 2 (cU (.tup (ks.map .str))) [aA (.str (tx l)),some (wD (a::R),true),none]=[aA (.str (tx l)),some (wD (a::R),true),aA (.tup (ks.map .str))]:=by
  unfold asg HS.R.norm;rw[if_pos fl];rfl
 have c3:cL (Qf (aB (bQ false) (dC (.str "net")) (Qd 2))) (Qf (aB (bQ false) (dC (.str "row")) (Qd 2))) [aA (.str (tx l)),some (wD (a::R),true),aA (.tup (ks.map .str))]=some true:=hn;have ln:aS QN (Qb (Qd 2) Qq) [aA (.str (tx l)),some (wD (a::R),true),aA (.tup (ks.map .str))]=some (aY ks.length):=by
  refine kZ (r:=aO (.tup (ks.map .str))) ?_ ?_
  .show(if(D.tup (ks.map .str)).flat=true then _ else _)=_;rw[if_pos fl]
  .show some (D.int ((ks.map D.str).length:Nat))=_;rw[Zh]
 have c4:qG (Qd 0) (Qb (dC (.str " ")) (Qb (aS QN (Qb (Qd 2) Qq)) Qq)) [aA (.str (tx l)),some (wD (a::R),true),aA (.tup (ks.map .str))]=some ⟨wD L,true,[]⟩:=by
  unfold qG;rw[Qe (r:=aO (.str " ")) rfl (Qe ln (QC _))];show Option.map _ (rO (.str (tx l)) [.str " ",.int ks.length])=_;rw[V3 hl hL hk h];rfl
 have c5:Qa (Qm 1 (qG (Qd 0) (Qb (dC (.str " ")) (Qb (aS QN (Qb (Qd 2) Qq)) Qq)))) Qc [aA (.str (tx l)),some (wD (a::R),true),aA (.tup (ks.map .str))]=some (.nx [aA (.str (tx l)),some (wD L,true),aA (.tup (ks.map .str))]):=(Qs (cQ c4)).trans rfl;have ln2:aS QN (Qb (Qd 2) Qq) [aA (.str (tx l)),some (wD L,true),aA (.tup (ks.map .str))]=some (aY ks.length):=ln;have c6:Qf (aB bX (aS QN (Qb (Qd 1) Qq)) (Qk (aS QN (Qb (Qd 2) Qq)) (dC (.int 1)))) [aA (.str (tx l)),some (wD L,true),aA (.tup (ks.map .str))]=some (!decide ((L.length:Int)=ks.length+1)):=by
  refine QB (QS (ra:=aY L.length) (rb:=aY (ks.length+1)) ?_ ?_ rfl) rfl
  .exact kZ (r:=⟨wD L,true,[1]⟩) rfl (by show some (D.int ((L.map λw=>D.str (tx w)).length:Nat))=_;rw[Zh])
  .unfold Qk;rw[ln2];rfl
 refine⟨λe=>cw_v hl hw ?_,λe=>cw_x (q:=("NoDeed",[aA (.str (tx l)),some (wD L,true),aA (.tup (ks.map .str))])) hl hw ?_⟩
 .rw[decide_eq_true (show(L.length:Int)=ks.length+1 by lia)]at c6;exact(Qs (QA c1)).trans ((Qs (cQ c2)).trans (ag▸(Qs ((dX c3).trans c5)).trans ((Qs (QA c6)).trans rfl)))
 .rw[decide_eq_false (show ¬(L.length:Int)=ks.length+1 by lia)]at c6;exact(cB (QA c1)).trans ((cB (cQ c2)).trans (ag▸(cB ((dX c3).trans c5)).trans ((dM ((dX c6).trans rfl) ((l9 c6).trans rfl)).trans rfl)))
end
def cw_heap{n r:List Nat}(hn:32∉n)(h1:n.length<=100)(h2:r.length<=400):cW [.str (tx (kw "heap" ++32::(n++32::r)))]=some (wD [kw "heap",n,r],true):=by
 have e:(kw "heap").length=4:=by decide+kernel
 exact(cw_tail (a:=kw "heap") (ks:=["name","row"]) (L:=[kw "heap",n,r]) (by simp[e];lia) ⋯ ∅ ⟨_,vE (eS 'd')⟩ 'd' 'r' (Č (eS 'd') hn)).1 rfl
def cw_net{r:List Nat}(h2:r.length<=400):cW [.str (tx (kw "net" ++32::r))]=some (wD [kw "net",r],true):=by
 have e:(kw "net").length=3:=by decide+kernel
 exact(cw_tail (a:=kw "net") (ks:=["net"]) (L:=[kw "net",r]) (by simp[e];lia) ⋯ ∅ ⟨_,vE (eS 'd')⟩ 'd' 'r' (RW (eS 'd'))).1 rfl
def cw_heap1{n:List Nat}(hn:32∉n)(h1:n.length<=100):xW [.str (tx (kw "heap" ++32::n))]=some "NoDeed" :=by
 have e:(kw "heap").length=4:=by decide+kernel
 exact(cw_tail (a:=kw "heap") (ks:=["name","row"]) (L:=[kw "heap",n]) (by simp[e];lia) ⋯ ∅ ⟨_,vE (eS 'd')⟩ 'd' 'r' (Vc (eS 'd') hn)).2 ⋯
end HS
namespace HS
open PySem PySem.Spec L2 PyProof.Rows PySem.NumText
open HN (fH fK bP Q0 fD jF fC gU gW cO gG mJ jH lO jB QH QT jJ gH fZ lB jX lK lL kE jS bY l4 lY fX gY dW kT QW QY mR dF gT cG bD Qu isAt atK gA dP gF eN)
noncomputable abbrev dk(N:D)(ks:List Str)(rows:List D):D:= .obj (.ins "Desk" ks) (N::rows)
def Nm(l:List Nat):Prop:=(1<=l.length/\l.length<=8)/\∀c∈l,97<=c/\c<=122
def Nm.free{l:List Nat}(h:Nm l):32∉l:=λm=>by have:=h.2 32 m;lia
abbrev nN:aC:=Qt 1 AK
abbrev xN:List D->Option Str:=Q8 1 Jv
def HZ:Str.ofString "abcdefghijklmnopqrstuvwxyz" =tx ((List.range 26).map (97+ ·)):= 'd'
def R3{c:Nat}(h:97<=c/\c<=122):bQ true (.str (tx [c])) (.str "abcdefghijklmnopqrstuvwxyz")=some (.bl false):=by
 have f:=StrLaws.found_one (Str.ofString "abcdefghijklmnopqrstuvwxyz") c;show some (D.bl (!(!(Builtin.Str.occurrences (Str.ofString "abcdefghijklmnopqrstuvwxyz") ⟨#[c]⟩ 0 (Str.ofString "abcdefghijklmnopqrstuvwxyz").length 1).isEmpty)))=_;rw[f,HZ];have:c∈(tx ((List.range 26).map (97+ ·))).cps.toList:=by
  show c∈(List.range 26).map (97+ ·);exact Zq.mpr ⟨c-97,Zr.mpr ⋯,⋯⟩
 rw[decide_eq_true this];rfl
def rF{l:List Nat}(h:Nm l):nN [.str (tx l)]=some (.aT,true):=by
 have hl:(tx l).length=l.length:=by rw[dK,cF]
 have a1:Qf (aB bZ (aS QN (Qb (Qd 0) Qq)) (dC (.int 1))) [aA (.str (tx l))]=some false:=by
  refine QB (QS (qJ rfl rfl (by rw[hl];have:=h.1;lia)) rfl rfl) ?_;show D.bl (decide (((tx l).length:Int)<1))=_;rw[hl,decide_eq_false (by have:=h.1;lia)]
 have a2:Qf (aB cS (aS QN (Qb (Qd 0) Qq)) (dC (.int 8))) [aA (.str (tx l))]=some false:=by
  refine QB (QS (qJ rfl rfl (by rw[hl];have:=h.1;lia)) rfl rfl) ?_;show D.bl (decide ((8:Int)<(tx l).length))=_;rw[hl,decide_eq_false (by have:=h.1;lia)]
 have a3:Qf (aS oN (Qb (Qz (QD (Qd 0)) (.nm 1) [none,none] QJ (aB (bQ true) (Qd 1) (dC (.str "abcdefghijklmnopqrstuvwxyz")))) Qq)) [aA (.str (tx l))]=some false:=
  QB (HJ (kP l (Mq rfl rfl (by rw[hl];have:=h.1;lia)) rfl (λc hc=>⟨[none,aA (.str (tx [c]))],rfl,aO (.bl false),QS rfl rfl (R3 (h.2 c hc)),rfl,rfl⟩)) rfl) rfl
 have:=(Qs (g:=Qc) (QA (f:=Qa Qn Qc) (g:=Qc) (rP a1 (rP a2 a3)))).trans rfl;show(AK (Qy 1 [.str (tx l)])).bind _=_;rw[show AK (Qy 1 [.str (tx l)])=some (.nx [aA (.str (tx l))])from this];rfl
section
variable {rn rr nh nn:aC}{xrn xrr xnh xnn:List D->Option Str}{N d:D}{ks:List Str}{rows row:List D}{w c kd:Str}{b:Bool}
abbrev lP(rn rr nh nn:aC):aC:=Qt 4 (Gf rn rr nh nn)
abbrev yP(rn:aC)(xrn:List D->Option Str)(rr nh:aC)(xrr xnh:List D->Option Str)(nn:aC)(xnn:List D->Option Str):List D->Option Str:=Q8 4 (Mf rn xrn rr nh xrr xnh nn xnn)
def Q4{i:Nat}{U:En}{x y:Str}{v:Bool}(h:U[i]? =some (aA (.str x)))(e:aW (.str x) (.str y)=some (.bl v)):Qf (aB aW (Qd i) (dC (.str y))) U=some v:=
 QB (QS (by unfold Qd;rw[h];rfl) rfl e) rfl
def gB{n:Nat}{f:aC}{fs:DA}{U:En}{r:RA}{d:D}{b:Bool}(e:fs U=some r)(hl:r.ds.length=n)(h:f r.ds=some (d,b)):Qh n f [] fs U=some (if b=true then⟨d,true,[]⟩else HS.R.norm ⟨d,false,r.M⟩):=by
 unfold Qh;rw[e,Option.bind_some,if_pos (by simpa using hl),Zo,h];rfl
def fF{n:Nat}{f:aC}{fs:DA}{U:En}{r:RA}(e:fs U=some r)(h:f r.ds=none):Qh n f [] fs U=none:=by
 unfold Qh;rw[e,Option.bind_some,Zo,h];split<;>rfl
def kS{n:Nat}{xd:List D->Option Str}{fs:DA}{U:En}{r:RA}{c:Str}(e:fs U=some r)(hl:r.ds.length=n)(h:xd r.ds=some c):cK n xd fs U=some (c,U):=by
 unfold cK;rw[e,Option.bind_some,if_pos hl,h];rfl
def wH{fa:DE}{U:En}{r:R}(h:fa U=some r):cP fa U=some (.nx U):=by unfold cP;rw[h];rfl
def qL{fa:DE}{U:En}(h:fa U=none):cP fa U=none:=by unfold cP;rw[h];rfl
def uE{i:Nat}{fa:DE}{U:En}(h:fa U=none):Qm i fa U=none:=by unfold Qm;rw[h];rfl
def mG{fa:DE}{U:En}(h:fa U=none):Qv fa U=none:=by unfold Qv;rw[h];rfl
def oC{fa:DE}{U:En}{r:R}(h:fa U=some r):Qv fa U=some (.rt r.d (r.norm.fr && decide r.norm.M.Nodup)):=by unfold Qv;rw[h];rfl
def A6(h:nn [.str w]=some (.aT,b)):lP rn rr nh nn [dk N ks rows,.str "name",.str w]=aA (.str w):=
 mU ((Qs (QA (Q4 rfl 'r'))).trans ((Qs (QA (Q4 rfl 'r'))).trans ((Qs (wH (gB (r:=⟨[.str w],true,[]⟩) rfl rfl h))).trans ((cT ((dX (Q4 rfl 'r')).trans (cT (oC rfl)))).trans rfl))))
def V4(h:nn [.str w]=some (.aT,b))(hk:ks.contains w=true)(ha:atK ks rows w=some (.lst row)):lP rn rr nh nn [dk N ks rows,.str "heap",.str w]=aP (.lst row):=by
 refine mU ((Qs (QA (Q4 rfl 'r'))).trans ((Qs (QA (Q4 rfl 'r'))).trans ((Qs (wH (gB (r:=⟨[.str w],true,[]⟩) rfl rfl h))).trans ((Qs (QA (Q4 rfl 'r'))).trans ((Qs (QA ?_)).trans (cT ((oC (r:=cU (.lst row)) ?_).trans rfl)))))))
 .refine QB rfl ?_;rw[hk];rfl
 .show Option.map (λd=>HS.R.norm ⟨d,false,[]⟩) (atK ks rows w)=_;rw[ha];rfl
def Yc{N':D}(h:rn [.str w]=some (N',true)):lP rn rr nh nn [dk N ks rows,.str "net",.str w]=some (N',true):=
 mU ((cT ((dX (Q4 rfl 'r')).trans ((cT ((oC (gB (r:=⟨[.str w],true,[]⟩) rfl rfl h)).trans rfl)).trans rfl))).trans (by
  show some (Out.rt N' ((HS.R.norm ⟨N',true,[]⟩).fr && decide (HS.R.norm ⟨N',true,[]⟩).M.Nodup))=_;unfold HS.R.norm;split<;>rfl))
def Xh(hk:kd= "name" ∨kd= "heap")(h0:nn [.str w]=none)(h:xnn [.str w]=some c):yP rn xrn rr nh xrr xnh nn xnn [dk N ks rows,.str kd,.str w]=some c:=by
 rcases hk with rfl | rfl<;>
  exact hV ((cB (QA (Q4 rfl 'r'))).trans ((cB (QA (Q4 rfl 'r'))).trans (dM (qL (fF rfl h0)) (kS (r:=⟨[.str w],true,[]⟩) rfl rfl h))))
def WX(h:nn [.str w]=some (.aT,b))(hk:ks.contains w=false):yP rn xrn rr nh xrr xnh nn xnn [dk N ks rows,.str "heap",.str w]=some "NoName" :=by
 have e:Qf (gG true (Qd 2) 0) [some (dk N ks rows,false),aA (.str "heap"),aA (.str w),none]=some true:=by
  refine QB rfl ?_;rw[hk];rfl
 exact hV (q:=("NoName",[some (dk N ks rows,false),aA (.str "heap"),aA (.str w),none])) ((cB (QA (Q4 rfl 'r'))).trans ((cB (QA (Q4 rfl 'r'))).trans ((cB (wH (gB (r:=⟨[.str w],true,[]⟩) rfl rfl h))).trans ((cB (QA (Q4 rfl 'r'))).trans (dM ((dX e).trans rfl) ((l9 e).trans rfl))))))
def CR{x y:Option (D×Bool)}:∃f M,Qb (cO 0) (Qb (Qx (Qb (Qd 3) Qq)) Qq) [some (dk N ks rows,false),x,y,aA (.lst row)]=some ⟨[N,.lst [.lst row]],f,M⟩:=by
 unfold Qb cO;dsimp only[List.getElem?_cons_zero,Option.bind_some];unfold HS.R.norm;split<;>exact⟨_,_,rfl⟩
def yY(h:rr [.str w]=aA (.lst row)):Qm 3 (Qh 1 rr [] (Qb (Qd 2) Qq)) [some (dk N ks rows,false),aA (.str "row"),aA (.str w),none]=some (.nx [some (dk N ks rows,false),aA (.str "row"),aA (.str w),aA (.lst row)]):=(cQ (gB (r:=⟨[.str w],true,[]⟩) rfl rfl h)).trans rfl
def eC{f g:DS}{U:En}(h:f U=none):Qa f g U=none:=by unfold Qa;rw[h];rfl
def å(h:rr [.str w]=aA (.lst row))(h2:nh [N,.lst [.lst row]]=some (d,b)):lP rn rr nh nn [dk N ks rows,.str "row",.str w]=aA (.lst row):=by
 obtain⟨f,M,e⟩:=CR;exact mU ((Qs (QA (Q4 rfl 'r'))).trans (cT ((dX (Q4 rfl 'r')).trans ((Qs (yY h)).trans ((Qs (wH (gB e rfl h2))).trans ((cT (oC rfl)).trans rfl))))))
def XQ(h0:rr [.str w]=none)(h:xrr [.str w]=some c):yP rn xrn rr nh xrr xnh nn xnn [dk N ks rows,.str "row",.str w]=some c:=by
 exact hV ((cB (QA (Q4 rfl 'r'))).trans (dM ((dX (Q4 rfl 'r')).trans (eC (uE (fF rfl h0)))) ((l9 (Q4 rfl 'r')).trans (dM (uE (fF rfl h0)) (kS (r:=⟨[.str w],true,[]⟩) rfl rfl h)))))
def Ti(h0:nh [N,.lst [.lst row]]=none)(h:rr [.str w]=aA (.lst row))(h2:xnh [N,.lst [.lst row]]=some c):yP rn xrn rr nh xrr xnh nn xnn [dk N ks rows,.str "row",.str w]=some c:=by
 obtain⟨f,M,e2⟩:=CR;exact hV ((cB (QA (Q4 rfl 'r'))).trans (dM ((dX (Q4 rfl 'r')).trans ((Qs (yY h)).trans (eC (qL (fF e2 h0))))) ((l9 (Q4 rfl 'r')).trans ((cB (yY h)).trans (dM (qL (fF e2 h0)) (kS e2 rfl h2))))))
def NR(h0:rn [.str w]=none)(h:xrn [.str w]=some c):yP rn xrn rr nh xrr xnh nn xnn [dk N ks rows,.str "net",.str w]=some c:=by
 exact hV (dM ((dX (Q4 rfl 'r')).trans (eC (mG (fF rfl h0)))) ((l9 (Q4 rfl 'r')).trans (dM (mG (fF rfl h0)) (kS (r:=⟨[.str w],true,[]⟩) rfl rfl h))))
def S3(hk:kd= "name" ∨kd= "heap")(h0:nn [.str w]=none):lP rn rr nh nn [dk N ks rows,.str kd,.str w]=none:=by
 rcases hk with rfl | rfl<;>
  exact mW ((Qs (QA (Q4 rfl 'r'))).trans ((Qs (QA (Q4 rfl 'r'))).trans (eC (qL (fF rfl h0)))))
def Tp(h:nn [.str w]=some (.aT,b))(hk:ks.contains w=false):lP rn rr nh nn [dk N ks rows,.str "heap",.str w]=none:=by
 have e:Qf (gG true (Qd 2) 0) [some (dk N ks rows,false),aA (.str "heap"),aA (.str w),none]=some true:=by
  refine QB rfl ?_;rw[hk];rfl
 exact mW ((Qs (QA (Q4 rfl 'r'))).trans ((Qs (QA (Q4 rfl 'r'))).trans ((Qs (wH (gB (r:=⟨[.str w],true,[]⟩) rfl rfl h))).trans ((Qs (QA (Q4 rfl 'r'))).trans (eC ((dX e).trans rfl))))))
def Vd(h0:rn [.str w]=none):lP rn rr nh nn [dk N ks rows,.str "net",.str w]=none:=
 mW (eC ((dX (Q4 rfl 'r')).trans (eC (mG (fF rfl h0)))))
def U9(h0:rr [.str w]=none):lP rn rr nh nn [dk N ks rows,.str "row",.str w]=none:=
 mW ((Qs (QA (Q4 rfl 'r'))).trans (eC ((dX (Q4 rfl 'r')).trans (eC (uE (fF rfl h0))))))
def PT(h:rr [.str w]=aA (.lst row))(h0:nh [N,.lst [.lst row]]=none):lP rn rr nh nn [dk N ks rows,.str "row",.str w]=none:=by
 obtain⟨f,M,e2⟩:=CR;exact mW ((Qs (QA (Q4 rfl 'r'))).trans (eC ((dX (Q4 rfl 'r')).trans ((Qs (yY h)).trans (eC (qL (fF e2 h0)))))))
end
def oO(l:aC)(y:List D->Option Str)(bC:D):List (Str×Str)->Option Str
 | []=>none
 | p::r=>match l [bC,.str p.1,.str p.2]with
  | some _=>oO l y bC r
  | none=>y [bC,.str p.1,.str p.2]
noncomputable abbrev lG(p:Str×Str):D:= .tup [.str p.1,.str p.2]
abbrev lM(l:aC):DE:=jB ⟨3,[],l⟩ 3 (bB aF aK)
abbrev r3(N:D)(ks:List Str)(rows:List D)(t:Str)(a:List Nat)(W:List (List Nat))(x:Option (D×Bool)):En:=[some (dk N ks rows,false),some (.str t,true),some (wD (a::W),true),some (.str (tx a),true),x]
section
variable {l an mh:aC}{y yk xa:List D->Option Str}{N d:D}{ks:List Str}{rows row:List D}{t c k w k2 w2:Str}{a n:List Nat}{W:List (List Nat)}{P:List (Str×Str)}{mk:bP}{b:Bool}{x:Option (D×Bool)}
def uY:lM l [none,aA (.str k),aA (.str w),some (dk N ks rows,false)]=(l [dk N ks rows,.str k,.str w]).map λq=>if q.2=true then⟨q.1,true,[]⟩else HS.R.norm ⟨q.1,false,[]⟩:=rfl
def Hx:∀P:List (Str×Str),pB (.tp [1,2]) QJ (lM l) (gH 3 y 3 (Qb (Qd 1) (Qb (Qd 2) Qq))) [none,none,none,some (dk N ks rows,false)] (P.map lG)=oO l y (dk N ks rows) P
 | []=>rfl
 | p::r=>by
  show(match lM l [none,aA (.str p.1),aA (.str p.2),some (dk N ks rows,false)]with
   | some _=>pB (.tp [1,2]) QJ (lM l) (gH 3 y 3 (Qb (Qd 1) (Qb (Qd 2) Qq))) [none,none,none,some (dk N ks rows,false)] (r.map lG)
   | none=>Option.map (λq:Str×En=>q.1) (Option.map (λc=>(c,[none,aA (.str p.1),aA (.str p.2),some (dk N ks rows,false)])) (y [dk N ks rows,.str p.1,.str p.2])))=_
  rw[uY,Hx r]
  show _=(match l [dk N ks rows,.str p.1,.str p.2]with
   | some _=>oO l y (dk N ks rows) r
   | none=>y [dk N ks rows,.str p.1,.str p.2])
  cases l [dk N ks rows,.str p.1,.str p.2]with
  | some q=>rfl
  | none=>cases y [dk N ks rows,.str p.1,.str p.2]<;>rfl
def MD:∀(P:List (Str×Str)) (acc:List D×Bool),oO l y (dk N ks rows) P=some c->(P.map lG).foldlM (nV (.tp [1,2]) QJ (lM l) [none,none,none,some (dk N ks rows,false)]) acc=none
 | [],_,h=>by cases h
 | p::r,acc,h=>by
  rw[Zp,Ac];show(Option.map _ (lM l [none,aA (.str p.1),aA (.str p.2),some (dk N ks rows,false)])).bind _=none;rw[uY];unfold oO at h;cases e:l [dk N ks rows,.str p.1,.str p.2]with
  | none=>rfl
  | some q=>rw[e]at h;exact MD r _ h
abbrev uC:DI:=fZ (eD bW aU) (Q6 aK (QL bA) Q3)
abbrev z0:DT:=iN (Qf (aB (gJ false) (cO 0) (dC .aT))) (Qf (aB bX aU (dS "net")))
abbrev sX(l:aC)(y:List D->Option Str)(an mh:aC)(yk xa:List D->Option Str):List D->Option Str:=Q8 5 (Iy cW xW l y an mh yk xa)
def OG{t:D}(ht:t.flat=true)(h:xW [t]=some c):sX l y an mh yk xa [dk N ks rows,t]=some c:=by
 have e:Qb (Qd 1) Qq (Qy 5 [dk N ks rows,t])=some ⟨[t],true,[]⟩:=by
  show(Qd 1 [some (dk N ks rows,false),some (t,t.flat),none,none,none]).bind _=_;rw[show Qd 1 [some (dk N ks rows,false),some (t,t.flat),none,none,none]=some ⟨t,true,[]⟩ by unfold Qd;dsimp only[List.getElem?_cons_succ,List.getElem?_cons_zero];rw[if_pos ht]];rfl
 exact hV (dM (uE (fF e (Ċ _ (by rw[h];nofun)))) (kS e rfl h))
def p1(h:cW [.str t]=some (wD (a::W),true)):Qm 2 (Qh 1 cW [] (Qb (Qd 1) Qq)) (Qy 5 [dk N ks rows,.str t])=some (.nx [some (dk N ks rows,false),aA (.str t),some (wD (a::W),true),none,none]):=(cQ (gB (r:=⟨[.str t],true,[]⟩) rfl rfl h)).trans rfl
def p2:Qm 3 (QP (Qg (Qd 2) (dC (.int 0)))) [some (dk N ks rows,false),aA (.str t),some (wD (a::W),true),none,none]=some (.nx (r3 N ks rows t a W none)):=by
 have e:Qg (Qd 2) (dC (.int 0)) [some (dk N ks rows,false),aA (.str t),some (wD (a::W),true),none,none]=some (aO (.str (tx a))):=
  EO (ts:=(a::W).map tx) (i:=0) (ra:=⟨wD (a::W),true,[2]⟩) (rb:=aY 0) rfl (by rw[ZG];rfl) rfl rfl rfl
 refine(cQ (r:=cU (.str (tx a))) ?_).trans rfl;unfold QP;rw[e];rfl
def Pz(h:cW [.str t]=some (wD (a::W),true))(h3:z0 (r3 N ks rows t a W none)=some true):sX l y an mh yk xa [dk N ks rows,.str t]=some "NoNet" :=
 hV (q:=("NoNet",r3 N ks rows t a W none)) ((cB (p1 h)).trans ((cB p2).trans (dM ((dX h3).trans rfl) ((l9 h3).trans rfl))))
def V8(h:cW [.str t]=some (wD (a::W),true))(h3:z0 (r3 N ks rows t a W none)=some false){M:List Nat}(hz:uC (r3 N ks rows t a W none)=some ⟨P.map lG,M⟩)(hp:oO l y (dk N ks rows) P=some c):sX l y an mh yk xa [dk N ks rows,.str t]=some c:=by
 refine hV (q:=(c,r3 N ks rows t a W none)) ((cB (p1 h)).trans ((cB p2).trans ((cB (QA h3)).trans (dM (uE ?_) ?_))))
 .unfold Qz;rw[show fZ (eD bW (Qd 3)) (Q6 (Qd 2) (QL (dC (.int 1))) Q3) (r3 N ks rows t a W none)=_ from hz,Option.bind_some];show Option.map _ ((P.map lG).foldlM (nV (.tp [1,2]) QJ (lM l) [none,none,none,some (dk N ks rows,false)]) ([],true))=none;rw[MD P _ hp];rfl
 .unfold o5;rw[show fZ (eD bW (Qd 3)) (Q6 (Qd 2) (QL (dC (.int 1))) Q3) (r3 N ks rows t a W none)=_ from hz,Option.bind_some];show Option.map _ (pB (.tp [1,2]) QJ (lM l) (gH 3 y 3 (Qb (Qd 1) (Qb (Qd 2) Qq))) [none,none,none,some (dk N ks rows,false)] (P.map lG))=_;rw[Hx,hp];rfl
abbrev qD(l:aC):DE:=Qz (fZ (eD bW aU) (Q6 aK (QL bA) Q3)) (.tp [1,2]) [none,none,none,some 0] QJ (jB ⟨3,[],l⟩ 3 (bB aF aK))
def Yo(hz:uC (r3 N ks rows t a W none)=some ⟨[],[]⟩):Qm 4 (qD l) (r3 N ks rows t a W none)=some (.nx (r3 N ks rows t a W (aA (.lst [])))):=by
 refine(cQ (r:=aO (.lst [])) ?_).trans rfl;unfold qD Qz;rw[show fZ (eD bW (Qd 3)) (Q6 (Qd 2) (QL (dC (.int 1))) Q3) (r3 N ks rows t a W none)=_ from hz];rfl
def FJ(hz:uC (r3 N ks rows t a W none)=some ⟨[lG (k,w)],[]⟩)(hl:l [dk N ks rows,.str k,.str w]=aP (.lst row)):Qm 4 (qD l) (r3 N ks rows t a W none)=some (.nx (r3 N ks rows t a W (aP (.lst [.lst row])))):=by
 refine(cQ (r:=cU (.lst [.lst row])) ?_).trans rfl;unfold qD Qz;rw[show fZ (eD bW (Qd 3)) (Q6 (Qd 2) (QL (dC (.int 1))) Q3) (r3 N ks rows t a W none)=_ from hz,Option.bind_some];show Option.map _ ((Option.map _ (lM l [none,aA (.str k),aA (.str w),some (dk N ks rows,false)])).bind _)=_;rw[uY,hl];rfl
def RH(hz:uC (r3 N ks rows t a W none)=some ⟨[lG (k,w)],[]⟩)(hf:d.flat=false)(hl:l [dk N ks rows,.str k,.str w]=some (d,true)):Qm 4 (qD l) (r3 N ks rows t a W none)=some (.nx (r3 N ks rows t a W (aA (.lst [d])))):=by
 refine(cQ (r:=aO (.lst [d])) ?_).trans rfl;unfold qD Qz;rw[show fZ (eD bW (Qd 3)) (Q6 (Qd 2) (QL (dC (.int 1))) Q3) (r3 N ks rows t a W none)=_ from hz,Option.bind_some];show Option.map _ ((Option.map _ (lM l [none,aA (.str k),aA (.str w),some (dk N ks rows,false)])).bind _)=_;rw[uY,hl];show some (if(true && (HS.R.norm ⟨d,true,[]⟩).fr)=true then _ else _)=_;unfold HS.R.norm;rw[if_neg (show ¬d.flat=true by rw[hf];decide)];rfl
def O0(hz:uC (r3 N ks rows t a W none)=some ⟨[lG (k,w),lG (k2,w2)],[]⟩)(h1:l [dk N ks rows,.str k,.str w]=aA (.str w))(h2:l [dk N ks rows,.str k2,.str w2]=aA (.lst row)):Qm 4 (qD l) (r3 N ks rows t a W none)=some (.nx (r3 N ks rows t a W (aA (.lst [.str w,.lst row])))):=by
 refine(cQ (r:=aO (.lst [.str w,.lst row])) ?_).trans rfl;unfold qD Qz;rw[show fZ (eD bW (Qd 3)) (Q6 (Qd 2) (QL (dC (.int 1))) Q3) (r3 N ks rows t a W none)=_ from hz,Option.bind_some];show Option.map _ ((Option.map _ (lM l [none,aA (.str k),aA (.str w),some (dk N ks rows,false)])).bind λacc=>(Option.map _ (lM l [none,aA (.str k2),aA (.str w2),some (dk N ks rows,false)])).bind _)=_;rw[uY,uY,h1,h2];rfl
abbrev sV(l:aC)(mk:bP)(mh an:aC):bP:=fC 5 (Mv cW l mk mh an)
def rR{m:Nat}{f:DS}{ds:List D}{d1 d2:D}{b:Bool}(h:f (Qy m ds)=some (.rt (.obj .pair [d1,d2]) b)):fC m f ds=some (d1,d2):=by unfold fC;rw[h];rfl
def pX(h:Qu row=true):bD (.lst row)=true:=by unfold bD;exact h
def Cd:∀W:List (List Nat),Qu (W.map λw=>D.str (tx w))=true
 | []=>by unfold Qu;rfl
 | w::W=>by rw[Zp];unfold Qu;rw[Cd W];rfl
def BM{N:D}{ks:List Str}{rows:List D}{d4:D}{b:Bool}(h:bD d4=true):cG 0 (r3 N ks rows t a W (some (d4,b)))=true:=by
 have hw:bD (wD (a::W))=true:=pX (Cd (a::W));show((decide (0=0) || bD (dk N ks rows)) && ((decide (1=0) || bD (.str t)) && ((decide (2=0) || bD (wD (a::W))) && ((decide (3=0) || bD (.str (tx a))) && ((decide (4=0) || bD d4) && true)))))=true;rw[hw,h];rfl
def CN{U:En}{p:D×Bool}(h:U[0]? =some (some p)):Qa (fX (dW (dC (.str "ok")))) Qc U=some (.rt (.obj .pair [.str "ok",p.1]) false):=by
 refine cT ?_;show Option.map _ ((U[0]?).bind id)=_;rw[h];rfl
def Av(N:D)(ks:List Str)(rows:List D)(r:En):∃f M,cO 0 (some (dk N ks rows,false)::r)=some ⟨N,f,M⟩:=by
 show ∃f M,some (HS.R.norm ⟨N,false,[]⟩)=some ⟨N,f,M⟩;unfold HS.R.norm;split<;>exact⟨_,_,rfl⟩
def sQ{Ns:List D}:z0 (r3 (.tup Ns) ks rows t a W x)=some false:=by
 obtain⟨f,M,e⟩:=Av (.tup Ns) ks rows [aA (.str t),some (wD (a::W),true),aA (.str (tx a)),x];have e1:Qf (aB (gJ false) (cO 0) (dC .aT)) (r3 (.tup Ns) ks rows t a W x)=some false:=QB (QS e rfl rfl) rfl;show(Qf (aB (gJ false) (cO 0) (dC .aT)) (r3 (.tup Ns) ks rows t a W x)).bind _=_;rw[e1];rfl
def zp{kk:List Str}{ws:List (List Nat)}(hc:look (tx a) bW=some kk)(hl:kk.length=ws.length)(hw:ws.length<=3):uC (r3 N ks rows t a ws x)=some ⟨(kk.zip (ws.map tx)).map lG,[]⟩:=by
 have e1:eD bW (Qd 3) (r3 N ks rows t a ws x)=some (aO (.tup (kk.map .str))):=by
  show Option.map _ (look (tx a) bW)=_;rw[hc];rfl
 have e2:Q6 (Qd 2) (QL (dC (.int 1))) Q3 (r3 N ks rows t a ws x)=some (aO (.lst (ws.map λw=> .str (tx w)))):=by
  have:=MM (fa:=Qd 2) (fb:=dC (.int 1)) (U:=r3 N ks rows t a ws x) rfl (by rw[ZG];rfl) rfl rfl;rw[this,Zp,List.drop_succ_cons,List.drop_zero,ZG];rfl
 show(eD bW (Qd 3) (r3 N ks rows t a ws x)).bind _=_;rw[e1,Option.bind_some,e2,Option.bind_some];have nk:∀kk:List Str,Qu (kk.map D.str)=true:=λkk=>by
  induction kk with
  | nil=>unfold Qu;rfl
  | cons k kk ih=>rw[Zp];unfold Qu;rw[ih];rfl
 show(if(decide ((kk.map D.str).length=(ws.map λw=>D.str (tx w)).length) && (Qu (kk.map D.str) && Qu (ws.map λw=>D.str (tx w))))=true then some (IR.mk (mB (kk.map D.str) (ws.map λw=>D.str (tx w))) ([]++[]))else none)=_;rw[if_pos (by rw[nk,Cd,decide_eq_true (by simpa using hl)];rfl)];congr 2;clear e1 e2 hc hw
 induction kk generalizing ws with
 | nil=>rfl
 | cons k kk ih=>cases ws with
  | nil=>cases hl
  | cons w ws=>show D.tup [_,_]::mB _ _=_;rw[ih (Nat.succ.inj hl)];rfl
def Ó{N':D}(h:cW [.str t]=some (wD (kw "net" ::[n]),true))(hf:N'.flat=false)(hn:bD N'=true)(hl:l [dk .aT [] [],.str "net",.str (tx n)]=some (N',true)):sV l mk mh an [dk .aT [] [],.str t]=some (.str "ok",dk N' [] []):=by
 have c1:z0 (r3 .aT [] [] t (kw "net") [n] none)=some false:=by
  have:iN (Qf (aB (gJ false) (dC .aT) (dC .aT))) (Qf (aB bX (dC (.str (tx (kw "net")))) (dC (.str "net")))) []=some false:=by kernel_rfl
  exact this
 have n1:bD (.lst [N'])=true:=pX (by unfold Qu Qu;rw[hn];rfl);have ix:Qg (Qd 4) (dC (.int 0)) (r3 .aT [] [] t (kw "net") [n] (aA (.lst [N'])))=some ⟨N',true,[4]⟩:=by
  show some (HS.R.norm ⟨N',true,[4]⟩)=_;unfold HS.R.norm;rw[if_neg (show ¬N'.flat=true by rw[hf];decide)]
 have e1:jX 0 (Qg (Qd 4) (dC (.int 0))) (r3 .aT [] [] t (kw "net") [n] (aA (.lst [N'])))=some (.nx (r3 N' [] [] t (kw "net") [n] (aP (.lst [N'])))):=by
  unfold HN.jX;dsimp only[List.getElem?_cons_zero];rw[ix,Option.bind_some,if_pos (by rw[BM n1];show(true && (bD N' && Qu []))=true;rw[hn];unfold Qu;rfl)];rfl
 have e2:lK 0 (r3 N' [] [] t (kw "net") [n] (aP (.lst [N'])))=some (.nx (r3 N' [] [] t (kw "net") [n] (aP (.lst [N'])))):=by
  show(if(cG 0 (r3 N' [] [] t (kw "net") [n] (aP (.lst [N']))) && bD N')=true then _ else _)=_;rw[if_pos (by rw[BM n1,hn];rfl)];rfl
 exact rR ((Qs (p1 h)).trans ((Qs p2).trans ((Qs (QA c1)).trans ((Qs (RH (zp (kk:=["net"]) 'd' rfl ⋯) hf hl)).trans ((Qs ((dX (Q4 rfl 'r')).trans ((Qs e1).trans ((Qs e2).trans rfl)))).trans (CN (p:=(dk N' [] [],false)) rfl))))))
abbrev mK:bP:=fC 3 Ca
def Ā(hk:ks.length<30)(hb:Qu (N::rows)=true)(hr:Qu row=true):mK [dk N ks rows,.str w,.lst row]=some (.aT,dk N (gA ks w) (dP ks rows w (.lst row))):=by
 have hl:(jH 0 [some (dk N ks rows,false),aA (.str w),aP (.lst row)])=some (aY ks.length):=by
  show(if ks.length<=1000 then some (HS.R.mk (.int ks.length) true [])else none)=_;rw[if_pos ⋯]
 have e1:iN (Qf (gG true (Qd 1) 0)) (Qf (aB mL (jH 0) (dC (.int 30)))) [some (dk N ks rows,false),aA (.str w),aP (.lst row)]=some false:=by
  have a1:Qf (gG true (Qd 1) 0) [some (dk N ks rows,false),aA (.str w),aP (.lst row)]=some (ks.contains w != true):=QB rfl rfl;have a2:Qf (aB mL (jH 0) (dC (.int 30))) [some (dk N ks rows,false),aA (.str w),aP (.lst row)]=some false:=QB (QS hl rfl (by show some (D.bl (decide ((30:Int)<=ks.length)))=_;rw[decide_eq_false ⋯])) rfl;have:=AN a1 a2;rw[this,Al]
 have e2:lL 0 (Qd 1) (Qd 2) [some (dk N ks rows,false),aA (.str w),aP (.lst row)]=some (.nx [some (dk N (gA ks w) (dP ks rows w (.lst row)),false),aA (.str w),aP (.lst row)]):=by
  show(if(cG 0 [some (dk N ks rows,false),aA (.str w),aP (.lst row)] && (bD (.lst row) && Qu (N::rows)) && decide (ks.length<=1000))=true then _ else _)=_;rw[if_pos (by
   rw[pX hr,hb,decide_eq_true (show ks.length<=1000 by lia)];show((((decide (0=0) || bD (dk N ks rows)) && ((decide (1=0) || bD (.str w)) && ((decide (2=0) || bD (.lst row)) && true))) && (true && true)) && true)=true;rw[pX hr];rfl)]
  rfl
 unfold mK fC;rw[show Ca (Qy 3 [dk N ks rows,.str w,.lst row])=_ from(Qs (QA e1)).trans ((Qs e2).trans rfl)];rfl
def Py{ds da:aC}:Qt 3 (MZ ds da) [N,.str (tx (kw "heap")),.lst [.lst row]]=aP (.lst row):=by
 have c:∀{y:Str}{v:Bool},aW (.str (tx (kw "heap"))) (.str y)=some (.bl v)->Qf (aB aW (Qd 1) (dC (.str y))) (Qy 3 [N,.str (tx (kw "heap")),.lst [.lst row]])=some v:=λe=>Q4 rfl e;exact mU ((Qs (QA (c 'r'))).trans ((Qs (QA (c 'r'))).trans (cT ((oC rfl).trans rfl))))
end
end HS
namespace HS
open PySem PySem.Spec L2 PyProof.Rows PySem.NumText
section
variable {fa:DE}{U:En}{ra:R}
def JJ{ts:List Str}(ha:fa U=some ra)(ea:ra.d= .lst (ts.map .str))(hl:ts.length<=1000)(hb:∀y∈ts,y.length<=100):eM iU (dC (.str " ")) (Qb fa Qq) U=some (aO (.str (Str.join (tx [32]) ts))):=by
 refine sF (ra:=aO (.str " ")) rfl ha ?_;rw[ea];show(qA (ts.map .str)).bind (λts=>if JoinOk (Str.ofString " ") ts=true then some (D.str (Txt.join (Str.ofString " ") ts))else none)=_;rw[C7,Option.bind_some,yN];have hj:JoinOk (tx [32]) ts=true:=by
  unfold JoinOk;rw[StrLaws.joinFits hb ?_]
  .rfl
  .have e:(tx [32]).length=1:=rfl;rw[e];lia
 rw[if_pos hj];show some (D.str (Builtin.Str.glued (tx [32]) ts))=_;rw[StrLaws.glued_eq_join]
end
end HS
namespace HS
open PySem PySem.Spec L2 PyProof.Rows PySem.NumText
open HN (fH fK bP Q0 fD jF fC gU gW cO gG mJ jH lO jB QH QT jJ gH fZ lB jX lK lL kE jS bY l4 lY fX gY dW kT QW QY mR dF gT cG bD Qu isAt atK gA dP gF eN)
section
variable {l an mh:aC}{mk:bP}{y yk xa:List D->Option Str}{N d:D}{ks:List Str}{rows row Ns:List D}{t c s:Str}{a n r:List Nat}{W:List (List Nat)}{x:Option (D×Bool)}
abbrev zI:DT:=Qf (aB (bQ false) aU (cJ (bL (dS "heap") (dS "add") (dS "again"))))
def Dz{v:Bool}(h:zI [none,none,none,aA (.str (tx a))]=some v):zI (r3 N ks rows t a W x)=some v:=h
def N7{ra:RA}{o:Ob}{es:List D}{q:D}{fs:DA}{U:En}(h0:U[0]? =some (some (dk N ks rows,false)))(e:fs U=some ra)(hl:cG 0 U=true)(hb:Qu (N::rows)=true)(hr:Qu ra.ds=true)(hn:ra.ds.length=2)(hm:mk (dk N ks rows::ra.ds)=some (q,.obj o es)):QH ⟨3,mk⟩ 0 fs U=some (q,(dH ra.M U).set 0 (some (.obj o es,false))):=by
 unfold HN.QH;rw[h0];dsimp only;rw[e,Option.bind_some,if_pos (by rw[hl,hb,hr,hn];rfl),hm];rfl
def í(h:cW [.str t]=some (wD (kw "heap" ::[n,r]),true))(h1:l [dk (.tup Ns) ks rows,.str "name",.str (tx n)]=aA (.str (tx n)))(h2:l [dk (.tup Ns) ks rows,.str "row",.str (tx r)]=aA (.lst row))(hmh:mh [.tup Ns,.str (tx (kw "heap")),.lst [.lst row]]=aP (.lst row))(hb:Qu (.tup Ns::rows)=true)(hr:Qu row=true){o:Ob}{es:List D}(hm:mk [dk (.tup Ns) ks rows,.str (tx n),.lst row]=some (.aT,.obj o es)):sV l mk mh an [dk (.tup Ns) ks rows,.str t]=some (.str "ok",.obj o es):=by
 have hr':bD (.lst row)=true:=pX hr;have n4:bD (.lst [.str (tx n),.lst row])=true:=pX (by unfold Qu Qu Qu;rw[hr'];rfl);obtain⟨f0,M0,e0⟩:=Av (.tup Ns) ks rows [aA (.str t),some (wD (kw "heap" ::[n,r]),true),aA (.str (tx (kw "heap"))),aA (.lst [.str (tx n),.lst row])];have es':Q6 (Qd 4) (QL (dC (.int 1))) Q3 (r3 (.tup Ns) ks rows t (kw "heap") [n,r] (aA (.lst [.str (tx n),.lst row])))=some ⟨.lst [.lst row],false,[4]⟩:=rfl
 have e1:Qh 3 mh [] (Qb (cO 0) (Qb (Qd 3) (Qb (Q6 (Qd 4) (QL (dC (.int 1))) Q3) Qq))) (r3 (.tup Ns) ks rows t (kw "heap") [n,r] (aA (.lst [.str (tx n),.lst row])))=some ⟨.lst row,false,M0++([]++([4]++[]))⟩:=
  (gB (Qe e0 (Qe rfl (Qe es' (QC _)))) rfl hmh).trans rfl
 have e2:Qb (Qg (Qd 4) (dC (.int 0))) (Qb (Qh 3 mh [] (Qb (cO 0) (Qb (Qd 3) (Qb (Q6 (Qd 4) (QL (dC (.int 1))) Q3) Qq)))) Qq) (r3 (.tup Ns) ks rows t (kw "heap") [n,r] (aA (.lst [.str (tx n),.lst row])))=some ⟨[.str (tx n),.lst row],_,_⟩:=Qe (r:=aO (.str (tx n))) rfl (Qe e1 (QC _));have e3:=N7 rfl e2 (BM n4) hb (by show Qu [_,_]=true;unfold Qu Qu Qu;rw[hr'];rfl) rfl hm;obtain⟨U',e4,e5⟩:∃U',l4 (QH ⟨3,mk⟩ 0 (Qb (Qg (Qd 4) (dC (.int 0))) (Qb (Qh 3 mh [] (Qb (cO 0) (Qb (Qd 3) (Qb (Q6 (Qd 4) (QL (dC (.int 1))) Q3) Qq)))) Qq))) (r3 (.tup Ns) ks rows t (kw "heap") [n,r] (aA (.lst [.str (tx n),.lst row])))=some (.nx U')/\U'[0]? =some (some (.obj o es,false)):=by
  refine⟨_,by unfold HN.l4;rw[e3];rfl,ZS ?_⟩;rw[(iT _ _).1];exact Nat.succ_pos 4
 exact rR ((Qs (p1 h)).trans ((Qs p2).trans ((Qs (QA sQ)).trans ((Qs (O0 (zp (kk:=["name","row"]) 'd' rfl ⋯) h1 h2)).trans ((Qs ((QA (Q4 rfl 'r')).trans ((Qs ((QA (Q4 rfl 'r')).trans ((Qs ((dX (Dz 'r')).trans ((Qs e4).trans rfl))).trans rfl))).trans rfl))).trans (CN e5))))))
def Ux(h:cW [.str t]=some (wD (kw "drop" ::[n]),true))(h1:l [dk (.tup Ns) ks rows,.str "heap",.str (tx n)]=aP (.lst row))(ha:atK ks rows (tx n)=some (.lst row))(hk:ks.length<=1000)(hb:Qu (.tup Ns::rows)=true)(hr:Qu row=true):sV l mk mh an [dk (.tup Ns) ks rows,.str t]=some (.str "ok",dk (.tup Ns) (gF ks (tx n)) (eN ks rows (tx n))):=by
 have n4:bD (.lst [.lst row])=true:=pX (by unfold Qu Qu;rw[pX hr];rfl);have e1:kE 0 (Qg (Qd 2) (dC (.int 1))) (r3 (.tup Ns) ks rows t (kw "drop") [n] (aP (.lst [.lst row])))=some (.nx (r3 (.tup Ns) (gF ks (tx n)) (eN ks rows (tx n)) t (kw "drop") [n] (aP (.lst [.lst row])))):=by
  have ix:Qg (Qd 2) (dC (.int 1)) (r3 (.tup Ns) ks rows t (kw "drop") [n] (aP (.lst [.lst row])))=some (aO (.str (tx n))):=rfl;unfold HN.kE;dsimp only[List.getElem?_cons_zero];rw[ix,Option.bind_some];dsimp only;rw[if_pos (by rw[BM n4,hb,decide_eq_true hk,ha];rfl)];rfl
 exact rR ((Qs (p1 h)).trans ((Qs p2).trans ((Qs (QA sQ)).trans ((Qs (FJ (zp (kk:=["heap"]) 'd' rfl ⋯) h1)).trans ((Qs ((QA (Q4 rfl 'r')).trans ((Qs ((dX (Q4 rfl 'r')).trans ((Qs e1).trans rfl))).trans rfl))).trans (CN (p:=(dk (.tup Ns) (gF ks (tx n)) (eN ks rows (tx n)),false)) rfl))))))
def Ky{fa:DE}{U:En}{r:R}{p:D×Bool}(h:fa U=some r)(hi:isAt r.d=true)(h0:U[0]? =some (some p)):fX (dW fa) U=some (.rt (.obj .pair [r.d,p.1]) false):=by
 unfold HN.fX HN.dW;rw[h,Option.bind_some,if_pos hi];show Option.map _ ((U[0]?).bind id)=_;rw[h0];rfl
def Rv(h:cW [.str t]=some (wD (kw "names" ::[]),true))(hs:s.length<=100):sV l mk mh an [dk (.tup Ns) [s] rows,.str t]=some (.str s,dk (.tup Ns) [s] rows):=by
 have e1:eM iU (dC (.str " ")) (Qb (lO 0) Qq) (r3 (.tup Ns) [s] rows t (kw "names") [] (aA (.lst [])))=some (aO (.str s)):=JJ (ts:=[s]) rfl rfl ⋯ (λy hy=>by rw[Zg.mp hy];exact hs);exact rR ((Qs (p1 h)).trans ((Qs p2).trans ((Qs (QA sQ)).trans ((Qs (Yo (zp (kk:=[]) 'd' rfl ⋯))).trans ((cT ((QA (Q4 rfl 'r')).trans ((cT ((QA (Q4 rfl 'r')).trans ((cT ((QA (Dz 'r')).trans ((cT ((dX (Q4 rfl 'r')).trans (cT (Ky e1 rfl rfl)))).trans rfl))).trans rfl))).trans rfl))).trans rfl)))))
def Ã(h:cW [.str t]=some (wD (kw "show" ::[n]),true))(h1:l [dk (.tup Ns) ks rows,.str "heap",.str (tx n)]=aP (.lst row))(ha:an [.tup Ns,.str (tx (kw "show")),.lst [.lst row]]=aA (.str s)):sV l mk mh an [dk (.tup Ns) ks rows,.str t]=some (.str s,dk (.tup Ns) ks rows):=by
 obtain⟨f0,M0,e0⟩:=Av (.tup Ns) ks rows [aA (.str t),some (wD (kw "show" ::[n]),true),aA (.str (tx (kw "show"))),aP (.lst [.lst row])]
 have e1:Qh 3 an [] (Qb (cO 0) (Qb (Qd 3) (Qb (Qd 4) Qq))) (r3 (.tup Ns) ks rows t (kw "show") [n] (aP (.lst [.lst row])))=some (aO (.str s)):=
  (gB (Qe e0 (Qe rfl (Qe rfl (QC _)))) rfl ha).trans rfl
 exact rR ((Qs (p1 h)).trans ((Qs p2).trans ((Qs (QA sQ)).trans ((Qs (FJ (zp (kk:=["heap"]) 'd' rfl ⋯) h1)).trans ((cT ((QA (Q4 rfl 'r')).trans ((cT ((QA (Q4 rfl 'r')).trans ((cT ((QA (Dz 'r')).trans ((cT ((QA (Q4 rfl 'r')).trans (cT (Ky e1 rfl rfl)))).trans rfl))).trans rfl))).trans rfl))).trans rfl)))))
def LW(h0:an [.tup Ns,.str (tx a),.lst [.lst row]]=none)(h:cW [.str t]=some (wD (a::[n]),true))(hc:look (tx a) bW=some [("heap" :Str)])(q1:aW (.str (tx a)) (.str "net")=some (.bl false))(q2:aW (.str (tx a)) (.str "drop")=some (.bl false))(q3:zI [none,none,none,aA (.str (tx a))]=some false)(q4:aW (.str (tx a)) (.str "names")=some (.bl false))(h1:l [dk (.tup Ns) ks rows,.str "heap",.str (tx n)]=aP (.lst row))(ha:xa [.tup Ns,.str (tx a),.lst [.lst row]]=some c):sX l y an mh yk xa [dk (.tup Ns) ks rows,.str t]=some c:=by
 obtain⟨f0,M0,e0⟩:=Av (.tup Ns) ks rows [aA (.str t),some (wD (a::[n]),true),aA (.str (tx a)),aP (.lst [.lst row])];have e1:Qb (cO 0) (Qb (Qd 3) (Qb (Qd 4) Qq)) (r3 (.tup Ns) ks rows t a [n] (aP (.lst [.lst row])))=some ⟨[.tup Ns,.str (tx a),.lst [.lst row]],_,_⟩:=Qe e0 (Qe (r:=aO (.str (tx a))) rfl (Qe (r:=cU (.lst [.lst row])) rfl (QC _)));have n1:Qa (Qv (Qh 3 an [] (Qb (cO 0) (Qb (Qd 3) (Qb (Qd 4) Qq))))) Qc (r3 (.tup Ns) ks rows t a [n] (aP (.lst [.lst row])))=none:=eC (mG (fF e1 h0));have x1:=kS e1 rfl ha;have c1:=Q4 (i:=3) (U:=r3 (.tup Ns) ks rows t a [n] (aP (.lst [.lst row]))) rfl q1;have c2:=Q4 (i:=3) (U:=r3 (.tup Ns) ks rows t a [n] (aP (.lst [.lst row]))) rfl q2;have c4:=Q4 (i:=3) (U:=r3 (.tup Ns) ks rows t a [n] (aP (.lst [.lst row]))) rfl q4;have c3:zI (r3 (.tup Ns) ks rows t a [n] (aP (.lst [.lst row])))=some false:=q3;exact hV ((cB (p1 h)).trans ((cB p2).trans ((cB (QA sQ)).trans ((cB (FJ (zp hc rfl ⋯) h1)).trans (dM ((QA c1).trans (eC ((QA c2).trans (eC ((QA c3).trans (eC ((QA c4).trans n1))))))) ((BQ c1).trans (dM ((QA c2).trans (eC ((QA c3).trans (eC ((QA c4).trans n1))))) ((BQ c2).trans (dM ((QA c3).trans (eC ((QA c4).trans n1))) ((BQ c3).trans (dM ((QA c4).trans n1) ((BQ c4).trans (dM (mG (fF e1 h0)) x1)))))))))))))
end
noncomputable abbrev jL:List Str:=["NoDeed","NoNet","NoName","NoText","NoRow","NoHeap","NotPlain","NotAgain","TooMany","NoRings"]
def qZ:Str->Str->Option Bool:=GJ (jL.map λx=>(x,(([("HeapError",true)]:List (Str×Bool))++jL.map λ(y:Str)=>(y,x == y))++([("ValueError",true)]:List (Str×Bool))))
def GW:List D->Option Str:=Q8 3 (zN)
def vP:aC:=Qt 3 (vT)
def nG:List D->Option Str:=Q8 3 (Br vP GW)
def lT:aC:=Qt 3 (wN vP)
def Ds:aC:=Qt 2 (TY)
def GH:aC:=Qt 1 (Vm Ds)
def EN:aC:=Qt 1 (Vs)
def HI:aC:=Qt 5 (RG)
def Hl:aC:=Qt 4 (NH EN)
def JI:aC:=Qt 4 (æ)
def H2:aC:=Qt 5 (TL Hl JI)
def MT:aC:=Qt 2 (Ć H2)
def Jm:aC:=Qt 6 (Uy MT GH Ds HI)
def FY:aC:=Qt 4 (CZ)
def qQ:aC:=Qt 5 (Dk FY)
def yQ:aC:=Qt 1 (FX qQ)
def Lh:aC:=Qt 6 (VL vP qQ)
def IB:aC:=Qt 1 (XD qQ EN)
def Kw:List D->Option Str:=Q8 4 (Rg)
def Cu:aC:=Qt 4 (Ag)
def C3:aC:=Qt 8 (JS FY)
def L5:List D->Option Str:=Q8 1 (VS C3)
def CK:aC:=Qt 1 (zP C3)
def uA:aC:=Qt 1 (Jw)
def MQ:List D->Option Str:=Q8 3 (RD uA yQ)
def Du:aC:=Qt 3 (A5 uA yQ)
def M8:List D->Option Str:=Q8 6 (NV Cu Kw CK L5 Du MQ)
def Eg:aC:=Qt 6 (GV Cu CK Du)
def Cm:List D->Option Str:=Q8 1 (wK uA)
def AZ:aC:=Qt 1 (w0 uA)
def KS:aC:=Qt 9 (Nf)
def xO:aC:=Qt 8 (Yd lT qQ KS)
def EE:aC:=Qt 3 (Ip)
def Bl:List D->Option Str:=Q8 8 (Wc AZ Cm lT nG qQ EE)
def kL:aC:=Qt 8 (J9 AZ lT qQ EE)
def Au:aC:=Qt 4 (MB kL yQ)
def IT:aC:=Qt 3 (Yq Jm IB)
def GP:aC:=Qt 1 (Td yQ)
def I2:aC:=Qt 10 (TV vP IT Lh xO GP)
def J8:aC:=Qt 3 (WI lT xO)
def w5:aC:=Qt 1 (GK)
def Bo:List D->Option Str:=Q8 2 (W3)
def qI:aC:=Qt 2 (JT)
def Ce:List D->Option Str:=Q8 1 (OX qI Bo)
def yS:aC:=Qt 1 (L7 qI)
def Hh:List D->Option Str:=Q8 2 (Á qI Bo)
def D9:aC:=Qt 2 (KA qI)
def Mr:List D->Option Str:=Q8 4 (UN D9 Hh yS Ce)
def CL:aC:=Qt 4 (Ig D9 yS)
def uS:List D->Option Str:=Q8 7 (N9 w5 yS Ce CL Mr Eg M8)
def oB:aC:=Qt 7 (IV w5 yS CL Eg)
def BY:List D->Option Str:=Q8 2 (Xo w5 qI Bo)
def rT:aC:=Qt 2 (LJ w5 qI)
def An:aC:=Qt 1 (DK)
def r8:List D->Option Str:=Q8 7 (XZ kL Bl Au)
def I0:List D->Option Str:=Q8 3 (C8)
def EB:aC:=Qt 3 (CY)
def Kv:List D->Option Str:=Q8 1 (Jv)
def D4:aC:=Qt 1 (AK)
def Ej:aC:=Qt 3 (MZ J8 I2)
def v8:List D->Option Str:=Q8 3 (Vg An xO kL Bl r8)
def rA:aC:=Qt 3 (YO An xO kL)
def Fw:List D->Option Str:=Q8 3 (XF rA v8)
def xY:aC:=Qt 3 (PJ rA)
def Bx:List D->Option Str:=Q8 4 (Mf oB uS rT lT BY nG D4 Kv)
def oJ:aC:=Qt 4 (Gf oB rT lT D4)
def Ml:List D->Option Str:=Q8 3 (Pw)
def M5:bP:=fC 3 (Ca)
def QK:List D->Option Str:=Q8 5 (Iy EB I0 oJ Bx xY Ej Ml Fw)
def uL:bP:=fC 5 (Mv EB oJ M5 Ej xY)
def QR:aC:=Qt 2 (LF)
def qR:aC:=Qt 13 (DF QR)
def v7:aC:=Qt 4 (Fi)
def jK:aC:=Qt 1 (DK)
def sP:aC:=Qt 10 (FQ QR)
def CT:aC:=Qt 2 (Nt qZ)
def QG:Q0:=gW 4 (Ge QK CT qZ)
def uM:Q0:=gW 2 (Je QK qZ)
def QM:bP:=fC 4 (RS uL)
def rD:aC:=Qt 3 (Nu)
def uP:aC:=Qt 3 (NZ)
def yU:Q0:=gW 5 (OT QG)
def xC:Q0:=gW 8 (Pk QG jK)
def oA:bP:=fC 3 (P0 QM jK)
def tW:Q0:=gU 7 (MA QM QG)
def zT:Q0:=gU 7 (Me qR sP QR rD QG uP QM jK v7 oA uM yU xC tW)
end HS
namespace HS
open PySem PySem.Spec L2 PyProof.Rows PySem.NumText
def Ab(l:List Nat):Prop:=∀c∈l,97<=c/\c<=122
def oG(a b:List Nat):tx a++tx b=tx (a++b):=n6 (by
 show(a.toArray++b.toArray).toList=a++b;simp)
noncomputable abbrev eR:Str:= "abcdefghijklmnopqrstuvwxyz"
def IX{U:En}{e:DE}{i:Int}(h2:U[2]? =some (aA (.str eR)))(he:e U=some (aY i))(h0:0<=i)(h26:i<26):Qg (Qd 2) e U=some (aO (.str (tx [97+i.toNat]))):=by
 have hv:Qd 2 U=some (aO (.str eR)):=by unfold Qd;rw[h2];rfl
 unfold Qg;rw[hv,he,Option.bind_some,Option.bind_some];show(if 0<=i/\i<2^63/\i<eR.length then(eR.cps[i.toNat]?).map λc=>HS.R.mk (.str ⟨#[c]⟩) true []else none)=_;have hl:eR.length=26:=by decide+kernel
 rw[if_pos ⟨h0,⋯,by rw[hl];exact h26⟩];have:eR.cps[i.toNat]? =some (97+i.toNat):=by
  rw[show eR.cps=((List.range 26).map (97+ ·)).toArray from congrArg Str.cps HZ];rw[List.getElem?_toArray,Zy,pW ⋯];rfl
 rw[this];rfl
def ė{l:List Nat}{p:Nat}(h:p<=l.length):Txt.slice (tx l) none (some (p:Int))=tx (l.take p):=by
 have e:Txt.slice (tx l) none (some (p:Int))=StrLaws.sliceText (tx l) (some ((0:Nat):Int)) (some (p:Int)):=by
  show StrLaws.sliceText (tx l) none (some (p:Int))=_;unfold StrLaws.sliceText;rw[StrLaws.sliceIdx_none_lo];rfl
 rw[e,StrLaws.sliceText_nat _ (sG p) (by rw[dK,cF];exact h)];rfl
def Rj{l:List Nat}{p:Nat}(h:p<=l.length):Txt.slice (tx l) (some (p:Int)) none=tx (l.drop p):=by
 have hl:(tx l).length=l.length:=by rw[dK,cF]
 have e:Txt.slice (tx l) (some (p:Int)) none=StrLaws.sliceText (tx l) (some (p:Int)) (some ((tx l).length:Int)):=by
  show StrLaws.sliceText (tx l) (some (p:Int)) none=_;unfold StrLaws.sliceText;rw[StrLaws.sliceIdx_none_hi]
 rw[e,StrLaws.sliceText_nat _ (by rw[hl];exact h) (Zu _),hl];show tx ((l.drop p).take (l.length-p))=_;rw[rM (by rw[mS];exact Zu _)]
abbrev cX(l:List Nat)(p:Nat)(N:Int)(k:Nat):List Nat:=l.take p++[97+((N / 64+5*k) % 26).toNat]++l.drop p
def BZ{l:List Nat}{p:Nat}{N:Int}{k:Nat}(h:Ab l)(hl:l.length<=7)(hp:p<=l.length):Nm (cX l p N k):=by
 refine⟨?_,λc hc=>?_⟩
 .simp only[Zm,pP,mS,ZA,List.length_nil];lia
 .rcases Zf.mp hc with hc | hc
  .rcases Zf.mp hc with hc | hc
   .exact h c (List.mem_of_mem_take hc)
   .rw[Zg.mp hc];lia
  .exact h c (List.mem_of_mem_drop hc)
def OK{l:List Nat}{p:Nat}{N:Int}:cX l p N 0≠cX l p N 1:=λe=>by
 have:=List.append_cancel_right e;have:=List.append_cancel_left this;have:=(List.cons.inj this).1;lia
noncomputable abbrev iB(ns:List Int):Option (D×Bool):=some (.lst (ns.map .int),false)
def fL(l:List Nat):(tx l).length=l.length:=by rw[dK,cF]
def Yi{ns:List Int}{N:Int}{j1 j6 j7 j8 j9:Option (D×Bool)}:Run (Lo) [iB ns,j1,aA (.str eR),aI N,aA (.str ""),none,j6,j7,j8,j9] (Nx λU=>∃l j5,Ab l/\l.length<=7/\U=[iB ns,j1,aA (.str eR),aI N,aA (.str (tx l)),j5,j6,j7,j8,j9]):=by
 obtain⟨n,en,hn⟩:∃n:Nat,N % 8=n/\n<=7:=⟨(N % 8).toNat,⋯,⋯⟩;refine gX (List.range n) (λi U=>∃l j5,Ab l/\l.length=i/\U=[iB ns,j1,aA (.str eR),aI N,aA (.str (tx l)),j5,j6,j7,j8,j9]) (sU (en▸cZ rfl rfl rfl rfl ∅) rfl ⋯) rfl ⟨[],none,λc hc=>by simp at hc,rfl,by rw[show(D.str "" :D)= .str (tx [])from congrArg D.str Ff];rfl⟩ ?_ ?_
 .rintro i k U hi ⟨l,j5,hA,hl,rfl⟩;have hk:i<n/\i=k:=by
   obtain⟨h1,h2⟩:=Zn.mp hi;simp at h1 h2;exact⟨h1,h2⟩
  obtain⟨hk,rfl⟩:=hk;refine⟨_,rfl,?_⟩;have q0:=ZM (N / ((i:Int)+8)) (by decide:(26:Int)≠0);have q1:=ZQ (N / ((i:Int)+8)) (by decide:(0:Int)<26);refine eI (rJ rfl rfl (IX rfl (cZ (m5 rfl rfl (eY rfl rfl rfl rfl) rfl ⋯ ⋯) rfl rfl rfl ∅) q0 q1) rfl (by rw[fL,fL,hl];simp;lia)) ?_;rw[oG];refine Qw ⟨l++[97+(N / ((i:Int)+8) % 26).toNat],aI i,λc hc=>?_,by rw[Zm,hl];rfl,rfl⟩;rcases Zf.mp hc with z | z
  .exact hA c z
  .rw[Zg.mp z];lia
 .rintro U ⟨l,j5,hA,hl,rfl⟩;rw[ZP]at hl;exact⟨l,j5,hA,⋯,rfl⟩
def N3{ns:List Int}{N:Int}{l:List Nat}{p:Nat}{j1 j5 j9:Option (D×Bool)}(hA:Ab l)(hl:l.length<=7)(hp:p<=l.length):Run (KD) [iB ns,j1,aA (.str eR),aI N,aA (.str (tx l)),j5,aI p,aA (.lst []),none,j9] (Nx λU=>∃j5 j8,U=[iB ns,j1,aA (.str eR),aI N,aA (.str (tx l)),j5,aI p,aA (.lst ((List.range 5).map λk=> .str (tx (cX l p N k)))),j8,j9]):=by
 refine gX (toD:=λ(k:Nat)=>D.int (k:Int)) (List.range 5) (λi U=>∃j5 j8,U=[iB ns,j1,aA (.str eR),aI N,aA (.str (tx l)),j5,aI p,aA (.lst ((List.range i).map λk=> .str (tx (cX l p N k)))),j8,j9]) (sU rfl rfl ∅) rfl ⟨j5,none,rfl⟩ ?_ ?_
 .rintro i k U hi ⟨j5,j8,rfl⟩;have hk:i<5/\i=k:=by
   obtain⟨h1,h2⟩:=Zn.mp hi;simp at h1 h2;exact⟨h1,h2⟩
  obtain⟨hk,rfl⟩:=hk;refine⟨_,rfl,?_⟩;have q0:=ZM (N / 64+5*(i:Int)) (by decide:(26:Int)≠0);have q1:=ZQ (N / 64+5*(i:Int)) (by decide:(0:Int)<26);have e8:=IX (U:=[iB ns,j1,aA (.str eR),aI N,aA (.str (tx l)),aI i,aI p,aA (.lst ((List.range i).map λk=> .str (tx (cX l p N k)))),j8,j9]) rfl (cZ (eY (m5 (fa:=Qd 3) (fb:=dC (.int 64)) rfl rfl rfl rfl ∅ ∅) rfl (o6 (fa:=dC (.int 5)) (fb:=Qd 5) rfl rfl rfl rfl (Bq ∅)) rfl) rfl (lD (.int 26) _) rfl ∅) q0 q1;refine run_seq (Q5 (congrArg (Option.map λr:HS.R=>HS.R.mk r.d false r.M) e8) ?_);rw[FH rfl];generalize hc:[97+((N / 64+5*(i:Int)) % 26).toNat]=c8;have lc:c8.length=1:=by rw[← hc];rfl
  change Run _ [iB ns,j1,aA (.str eR),aI N,aA (.str (tx l)),aI i,aI p,aA (.lst ((List.range i).map λk=> .str (tx (cX l p N k)))),aA (.str (tx c8)),j9] _;have s1:Q6 (Qd 4) Q3 (QL (Qd 6)) [iB ns,j1,aA (.str eR),aI N,aA (.str (tx l)),aI i,aI p,aA (.lst ((List.range i).map λk=> .str (tx (cX l p N k)))),aA (.str (tx c8)),j9]=some (aO (.str (tx (l.take p)))):=by
   show(if(tx l).length<=sizeLine then some (HS.R.mk (.str (Txt.slice (tx l) none (some (p:Int)))) true [])else none)=_;rw[if_pos (by rw[fL,mE];lia),ė hp]
  have s2:Q6 (Qd 4) (QL (Qd 6)) Q3 [iB ns,j1,aA (.str eR),aI N,aA (.str (tx l)),aI i,aI p,aA (.lst ((List.range i).map λk=> .str (tx (cX l p N k)))),aA (.str (tx c8)),j9]=some (aO (.str (tx (l.drop p)))):=by
   show(if(tx l).length<=sizeLine then some (HS.R.mk (.str (Txt.slice (tx l) (some (p:Int)) none)) true [])else none)=_;rw[if_pos (by rw[fL,mE];lia),Rj hp]
  have s3:=rJ (rJ (fb:=Qd 8) s1 rfl rfl rfl (by rw[fL,fL,pP];lia)) rfl s2 rfl (by rw[oG,fL,fL,Zm,pP,mS];lia);refine run_seq (yI rfl s3 rfl (by simp;lia) ?_);rw[oG,oG];refine Qw ⟨aI i,aA (.str (tx c8)),?_⟩;show [iB ns,j1,_,_,_,_,_,aA (D.lst (((List.range i).map λk=>D.str (tx (cX l p N k)))++[D.str (tx (l.take p++c8++l.drop p))])),_,j9]=_;rw[As,ZH,← hc];rfl
 .rintro U ⟨j5,j8,rfl⟩;exact⟨j5,j8,rfl⟩
def Xd{dc:aC}(hc:Ah dc)(ns:List Int):∃a b c d e:List Nat,Qt 10 (FQ dc) [.lst (ns.map .int),.int 7]=aA (.lst [.str (tx a),.str (tx b),.str (tx c),.str (tx d),.str (tx e)])/\Nm a/\Nm b/\a≠b:=by
 have key:Run (FQ dc) (Qy 10 [.lst (ns.map .int),.int 7]) (Rt λD fr=>∃a b c d e:List Nat,D= .lst [.str (tx a),.str (tx b),.str (tx c),.str (tx d),.str (tx e)]/\fr=true/\Nm a/\Nm b/\a≠b):=by
  have cell:∀(U:En) (k:Nat),U[0]? =some (aP (.lst (ns.map .int)))->U[1]? =some (aI k)->Qh 2 dc [] (Qb (Qd 0) (Qb (Qd 1) Qq)) U=some (aY (ns.getD k 0)):=λU k h0 h1=>QO (Qe (hZ h0) (Qe (hZ h1) (QC _))) (hc ns k) rfl;refine eI rfl ?_;refine eI (cZ (o6 (cell _ 7 rfl rfl) rfl rfl rfl (yV ∅)) rfl rfl rfl ∅) ?_;have hN:=ZM (ns.getD 7 0*69621) (by decide:(2147483629:Int)≠0);generalize ns.getD 7 0*69621 % 2147483629=N at hN;refine eI rfl ?_;refine lI Yi ?_;rintro U ⟨l,j5,hA,hl,rfl⟩;obtain⟨p,ep,hp⟩:∃p:Nat,N / 8 % ((l.length:Int)+1)=p/\p<=l.length:=by
   have h1:=ZM (N / 8) (by lia:(l.length:Int)+1≠0);have h2:=ZQ (N / 8) (by lia:(0:Int)<(l.length:Int)+1);exact⟨(N / 8 % ((l.length:Int)+1)).toNat,⋯,⋯⟩
  have lenE:∀(U:En),U[4]? =some (aA (.str (tx l)))->aS QN (Qb (Qd 4) Qq) U=some (aY l.length):=λU h=>(qJ (by unfold Qd;rw[h];rfl) rfl (by rw[fL];lia)).trans (by rw[fL]);refine eI (cZ (m5 rfl rfl rfl rfl ∅ ∅) rfl (eY (lenE _ rfl) rfl rfl rfl) rfl ⋯) ?_;rw[ep];refine eI rfl ?_;refine lI (N3 hA hl hp) ?_;rintro U ⟨j5,j8,rfl⟩;refine eI (eY (lenE _ rfl) rfl rfl rfl) ?_;have hsz:∃z:Nat,z<=9/\Run IH [iB ns,aI 7,aA (.str eR),aI N,aA (.str (tx l)),j5,aI p,aA (.lst ((List.range 5).map λk=> .str (tx (cX l p N k)))),j8,aI ((l.length:Int)+2)] (Nx λU=>U=[iB ns,aI 7,aA (.str eR),aI N,aA (.str (tx l)),j5,aI p,aA (.lst ((List.range 5).map λk=> .str (tx (cX l p N k)))),j8,aI z]):=by
   by_cases h:(8:Int)<(l.length:Int)+2
   .exact⟨7,∅,cY (QB (QS rfl rfl (show some (D.bl (decide ((8:Int)<(l.length:Int)+2)))=_ by rw[decide_eq_true h])) rfl) (λ_=>run_seq (Q5 rfl (Qw rfl))) (λh=>by cases h)⟩
   .exact⟨l.length+2,⋯,cY (QB (QS rfl rfl (show some (D.bl (decide ((8:Int)<(l.length:Int)+2)))=_ by rw[decide_eq_false h])) rfl) (λh=>by cases h) (λ_=>Qw rfl)⟩
  obtain⟨z,hz,hr⟩:=hsz;refine lI hr ?_;rintro U rfl;have hk:∀k,(tx (cX l p N k)).length<=8:=λk=>by rw[fL];exact(BZ hA hl hp).1.2
  obtain⟨x3,e3⟩:∃x3,Q6 (Qk (Qg (Qd 7) (dC (.int 0))) (Qg (Qd 7) (dC (.int 3)))) Q3 (QL (Qd 9)) [iB ns,aI 7,aA (.str eR),aI N,aA (.str (tx l)),j5,aI p,aA (.lst ((List.range 5).map λk=> .str (tx (cX l p N k)))),j8,aI z]=some (aO (.str (tx x3))):=by
   have e:=rJ (U:=[iB ns,aI 7,aA (.str eR),aI N,aA (.str (tx l)),j5,aI p,aA (.lst ((List.range 5).map λk=> .str (tx (cX l p N k)))),j8,aI z]) (fa:=Qg (Qd 7) (dC (.int 0))) (fb:=Qg (Qd 7) (dC (.int 3))) rfl rfl rfl rfl (by have:=hk 0;have:=hk 3;lia);refine⟨cp (Txt.slice (tx (cX l p N 0)++tx (cX l p N 3)) none (some (z:Int))),?_⟩;unfold Q6;rw[e,Option.bind_some];show(if(tx (cX l p N 0)++tx (cX l p N 3)).length<=sizeLine then some (HS.R.mk (.str (Txt.slice (tx (cX l p N 0)++tx (cX l p N 3)) none (some (z:Int)))) true [])else none)=_;rw[if_pos (by rw[oG,fL,Zm,mE];have:=hk 0;have:=hk 3;rw[fL]at *;lia)];rfl
  refine run_seq (f:=gC _ _ _ _) ⟨.nx [iB ns,aI 7,aA (.str eR),aI N,aA (.str (tx l)),j5,aI p,aA (.lst [.str (tx (cX l p N 0)),.str (tx (cX l p N 1)),.str (tx (cX l p N 2)),.str (tx x3),.str (tx (cX l p N 4))]),j8,aI z],?_,?_⟩
  .unfold gC;rw[e3];rfl
  .exact fN rfl ⟨cX l p N 0,cX l p N 1,cX l p N 2,x3,cX l p N 4,rfl,rfl,BZ hA hl hp,BZ hA hl hp,OK⟩
 obtain⟨o,h1,h2⟩:=key;cases o with
 | rt D fr=>
  obtain⟨a,b,c,d,e,rfl,rfl,h⟩:=h2;exact⟨a,b,c,d,e,by unfold Qt;rw[h1];rfl,h⟩
 | _=>exact h2.elim
def Ke(x:Int):0<=x*x:=by
 rcases Int.le_total 0 x with h | h
 .exact xH h h
 .have:=xH (show 0<= -x by lia) (show 0<= -x by lia);rwa[Int.neg_mul_neg]at this
def EC{a b c d:Int}(ha:0<=a)(hb:0<=b)(hc:0<=c)(hd:0<=d)(h:a+b+c+d<=16):a*b*c*d<=300:=by
 have sq:∀x y:Int,4*(x*y)<=(x+y)*(x+y):=λx y=>by
  have:=Ke (x-y)
  grind
 have h1:=sq a b;have h2:=sq c d;have h3:=sq (a+b) (c+d);have n1:=xH ha hb;have n2:=xH hc hd;generalize hu:a+b=u at *;generalize hv:c+d=v at *;have u0:0<=u:= ⋯
 have v0:0<=v:= ⋯
 have h4:(u+v)*(u+v)<=16*16:=B0 ⋯ ⋯ ⋯ ∅;have uv:=xH u0 v0;have h5:u*v<=64:= ⋯
 have h6:(u*v)*(u*v)<=64*64:=B0 h5 h5 uv ∅;have h7:=B0 h1 h2 ⋯ (Ke u);have e1:4*(a*b)*(4*(c*d))=16*(a*b*c*d):=by grind
 have e2:u*u*(v*v)=u*v*(u*v):=by grind
 lia
def OF{f:b8}(h0:∀i,0<=f i):∀{m:Nat},m<=4->cA m f<=12+m->i7 f m<=300
 | 0,_,_=>by show(1:Int)<=300;decide
 | 1,_,h=>by
  have h:f 0+0<=12+1:=h;show 1*f 0<=300;lia
 | 2,_,h=>by
  have h:f 0+(f 1+0)<=12+2:=h;have:=EC (h0 0) (h0 1) (show(0:Int)<=1 by decide) (show(0:Int)<=1 by decide) ⋯;show 1*f 0*f 1<=300;lia
 | 3,_,h=>by
  have h:f 0+(f 1+(f 2+0))<=12+3:=h;have:=EC (h0 0) (h0 1) (h0 2) (show(0:Int)<=1 by decide) ⋯;show 1*f 0*f 1*f 2<=300;lia
 | 4,_,h=>by
  have h:f 0+(f 1+(f 2+(f 3+0)))<=12+4:=h;have:=EC (h0 0) (h0 1) (h0 2) (h0 3) ⋯;show 1*f 0*f 1*f 2*f 3<=300;lia
 | m+5,h,_=>absurd h ⋯
def HB{m:Nat}:∀W:List (Int×Int×Bool),eV W≠[]->cA m (eK W)<=2*(W.length:Int)-1
 | [],h=>absurd rfl h
 | w::W,h=>by
  have hw:=Ih (m:=m) w;have hW:=(E9 (m:=m) W).1;have e:cA m (eK (w::W))=cA m (λi=>hU i w)+cA m (eK W):=by
   rw[← AB];exact sI λi _=>AS W w i
  rw[e,ZA];cases hl:w.2.2 with
  | true=>
   have h1:=FL (m:=m) w.1;have:cA m (λi=>hU i w)=cA m λi=>bN i w.1:=sI λi _=>by unfold hU;rw[hl,if_pos rfl,BV]
   lia
  | false=>
   have:=HB (m:=m) W (λz=>h (by unfold eV at *;rw[ZO,if_neg (by rw[hl];decide)];exact z));lia
def Tr(A:List (Int×Int×Bool)):∀(B:List (Int×Int×Bool)) (i:Nat),eK (A++B) i=eK A i+eK B i:=λB i=>by
 unfold eK;rw[ZH,BR]
def XH{m:Nat}{t:Int}{W:List (Int×Int×Bool)}(m0:0<m)(m4:m<=4)(hg:∀w∈W,GoodW m w)(hl:W.length<=5):tZ m (jO m t 0++W) where
 good:=λw hw=>(Zf.mp hw).elim (Su w) (hg w)
 few:=by rw[Zm,AW];lia
 esc:=Up.mono λw hw=>Zc _ hw
 small:=by
  by_cases hz:eV W=[]
  .left;unfold eV at hz ⊢;rw[rX,ZH,hz,Zo];exact Ng λw hw=>by obtain⟨k,_,rfl⟩:=Zq.mp hw;rfl
  .right;have hp:∃w∈jO m t 0,w.2.1=m:=by
    refine⟨qF m t 0 (0:Nat),Zq.mpr ⟨0,Zr.mpr m0,rfl⟩,?_⟩;show kH m t (0:Nat)=m;unfold kH;rw[if_neg (by have:=ZM (fQ t (0:Nat)) (by decide:((0:Nat):Int)+1≠0);lia)]
   have h1:=(E9 (jO m t 0)).2 hp;have h2:=HB (m:=m) W hz;rw[AW]at h1;have e:cA m (eK (jO m t 0++W))=cA m (eK (jO m t 0))+cA m (eK W):=by
    rw[← AB];exact sI λi _=>Tr _ _ i
   exact OF (λi=>(Jy i _).1) m4 ⋯
noncomputable abbrev nS(ns:List Int):Option (D×Bool):=some (.lst (ns.map .int),false)
abbrev uW(m:Nat)(t:Int)(i:Nat):List D:=((List.range i).map λ(k:Nat)=>qF m t 0 k).map n8
def WO{ns:List Int}{m:Nat}{t:Int}{j1 j8 j9 j10 j11 j12:Option (D×Bool)}(h0:0<m)(hm:m<=1000)(ht:0<=t)(ht2:t<2000000):Run (Ln) [nS ns,j1,aI m,aI t,aA (.lst []),none,none,none,j8,j9,j10,j11,j12] (Nx λU=>∃j5 j6 j7,U=[nS ns,j1,aI m,aI t,aA (jA (jO m t 0)),j5,j6,j7,j8,j9,j10,j11,j12]):=by
 refine gX (List.range m) (λi U=>∃j5 j6 j7,U=[nS ns,j1,aI m,aI t,aA (.lst (uW m t i)),j5,j6,j7,j8,j9,j10,j11,j12]) (sU rfl rfl ⋯) rfl ⟨none,none,none,rfl⟩ ?_ ?_
 .rintro i k U hi ⟨j5,j6,j7,rfl⟩;have hk:i<m/\i=k:=by
   obtain⟨h1,h2⟩:=Zn.mp hi;simp at h1 h2;exact⟨h1,h2⟩
  obtain⟨hk,rfl⟩:=hk;refine⟨_,rfl,?_⟩;have n1:(t+17).natAbs<2^64:= ⋯
  have n2:(69621:Int).natAbs<2^64:= ∅
  refine run_seq (Q5 (r:=aY (fQ t i)) ?_ ?_)
  .exact cZ (o6 (o6 (eY rfl rfl rfl rfl) rfl (eY (eY (o6 rfl rfl rfl rfl (Bq ⋯)) rfl (o6 rfl rfl rfl rfl (Bq ∅)) rfl) rfl (lD (.int 11) _) rfl) rfl (Bq n1)) rfl (lD (.int 69621) _) rfl (yV n2)) rfl (lD (.int 2147483647) _) rfl ∅
  .rw[lU];refine run_seq (Q5 rfl ?_);rw[FH rfl];refine run_seq (Run.mono (Q:=Nx λU=>U=[nS ns,j1,aI m,aI t,aA (.lst (uW m t i)),aI i,aI (fQ t i),aI (kH m t i),j8,j9,j10,j11,j12]) ?_ ?_)
   .have e1:∀(U:En),U=[nS ns,j1,aI m,aI t,aA (.lst (uW m t i)),aI i,aI (fQ t i),aI m,j8,j9,j10,j11,j12]->aB QX (Qd 6) (Qk (Qd 5) (dC (.int 1))) U=some (aY (fQ t i % (i+1))):=by
     rintro U rfl;exact cZ rfl rfl (eY rfl rfl rfl rfl) rfl ⋯
    refine cY (QB (QS (e1 _ rfl) rfl rfl) rfl) (λh=>?_) (λh=>?_)
    .have h:=of_decide_eq_true h;refine run_seq (Q5 (cZ (eY (e1 _ rfl) rfl rfl rfl) rfl rfl rfl ⋯) (Qw ?_));rw[lU];unfold kH;rw[if_pos h];rfl
    .have h:=of_decide_eq_false h;refine Qw ?_;unfold kH;rw[if_neg h];rfl
   .intro o ho;cases o with
    | nx U=>
     subst ho;refine run_seq (yI (r:=⟨n8 (qF m t 0 i),true,[]⟩) rfl ?_ rfl (by simp;lia) ?_)
     .have e2:aB QX (Qk (Qd 5) (Qd 3)) (Qd 2) [nS ns,j1,aI m,aI t,aA (.lst (uW m t i)),aI i,aI (fQ t i),aI (kH m t i),j8,j9,j10,j11,j12]=some (aY ((i+t) % m)):=
       cZ (eY rfl rfl rfl rfl) rfl rfl rfl ⋯
      unfold cJ;show(Qb _ (Qb _ (Qb _ Qq)) _).bind _=_;rw[Qe e2 (Qe rfl (Qe rfl (QC _)))];rfl
     .refine Qw ⟨aI i,aI (fQ t i),aI (kH m t i),?_⟩;show [nS ns,j1,aA (D.int m),aA (D.int t),aA (D.lst (uW m t i++[n8 (qF m t 0 i)])),_,_,_,j8,j9,j10,j11,j12]=_;unfold uW;rw[As,ZH,ZH];rfl
    | _=>exact False.elim ho
 .rintro U ⟨j5,j6,j7,rfl⟩;rw[ZP];exact⟨j5,j6,j7,rfl⟩
abbrev BG(m:Nat)(b:Bool)(c:Int):Int×Int×Bool:=(mStart m c,yL m c,b)
def Ot{m:Nat}(m0:0<m){b:Bool}{c:Int}(h:b=true->mStart m c<m):GoodW m (BG m b c):=⟨(Un m0 0 c).1,h⟩
def NA{dc:aC}(hc:Ah dc){ns:List Int}{m:Nat}{B:List (Int×Int×Bool)}{j1 j3 j5 j6 j7 j12:Option (D×Bool)}(m0:0<m)(m4:m<=4)(hB:B.length=m):Run ((KJ dc)) [nS ns,j1,aI m,j3,aA (jA B),j5,j6,j7,none,none,none,none,j12] (Nx λU=>∃W j5 j6 j7 j8 j9 j10 j11,W.length<=5/\(∀w∈W,GoodW m w)/\U=[nS ns,j1,aI m,j3,aA (jA (B++W)),j5,j6,j7,j8,j9,j10,j11,j12]):=by
 obtain⟨cs,hcs,esl⟩:∃cs:List Int,cs.length<=5/\Q6 (Qd 0) (QL (dC (.int 2))) (QL (dC (.int 7))) [nS ns,j1,aI m,j3,aA (jA B),j5,j6,j7,none,none,none,none,j12]=some (aO (Q7 cs)):=
  ⟨_,by rw[pP,mS];lia,Vl rfl rfl rfl rfl rfl rfl⟩
 refine gX cs (λi U=>∃W j6 j8 j9 j10 j11,W.length=i/\(∀w∈W,GoodW m w)/\U=[nS ns,j1,aI m,j3,aA (jA (B++W)),j5,j6,j7,j8,j9,j10,j11,j12]) (fB esl rfl) rfl ⟨[],j6,none,none,none,none,rfl,λw hw=>by simp at hw,by rw[Zo];rfl⟩ ?_ ?_
 .rintro i c U hi ⟨W,j6,j8,j9,j10,j11,hW,hg,rfl⟩;have hi':=(Zn.mp hi).1;refine⟨_,rfl,?_⟩;refine eI (cZ (o6 rfl rfl rfl rfl (yV ∅)) rfl rfl rfl ∅) ?_;refine eI (cZ rfl rfl (eY rfl rfl rfl rfl) rfl ⋯) ?_;refine eI (yW (AI (cZ (QO (Qe (hZ rfl) (Qe (lD _ _) (QC _))) (hc ns 1) rfl) rfl rfl rfl ∅) rfl rfl rfl) (QS rfl rfl rfl)) ?_;generalize (decide (ns.getD 1 0 % 3=2) && decide ((m:Int)<5))=b1;change Run _ [nS ns,j1,aI m,j3,aA (jA (B++W)),j5,aI (iW c),j7,aI c,aI (mStart m c),aA (.bl b1),j11,j12] _;refine eI (yW rfl (yW (QS rfl rfl rfl) (QS ((o9 rfl rfl).trans (by rw[Zh])) (eY rfl rfl rfl rfl) rfl))) ?_;generalize hb:(b1 && (decide (mStart m c<m) && decide (((B++W).length:Int)<m+2)))=b2;have hb2:b2=true->mStart m c<m:=λe=>by
   rw[e,Ze,Ze,decide_eq_true_eq]at hb;exact hb.2.1
  change Run _ [nS ns,j1,aI m,j3,aA (jA (B++W)),j5,aI (iW c),j7,aI c,aI (mStart m c),aA (.bl b1),aA (.bl b2),j12] _;refine run_seq (yI (r:=⟨n8 (BG m b2 c),true,[]⟩) rfl ?_ rfl (by rw[Zh,Zm];lia) ?_)
  .have e2:aB QX (Qk (Qk (Qd 9) (dC (.int 1))) (aB QX (aB eJ (Qd 6) (dC (.int 9))) (Qd 2))) (Qk (Qd 2) (dC (.int 1))) [nS ns,j1,aI m,j3,aA (jA (B++W)),j5,aI (iW c),j7,aI c,aI (mStart m c),aA (.bl b1),aA (.bl b2),j12]=some (aY (yL m c)):=
    cZ (eY (eY rfl rfl rfl rfl) rfl (cZ (m5 rfl rfl rfl rfl ∅ ∅) rfl rfl rfl ⋯) rfl) rfl (eY rfl rfl rfl rfl) rfl ⋯
   unfold cJ;show(Qb _ (Qb _ (Qb _ Qq)) _).bind _=_;rw[Qe rfl (Qe e2 (Qe rfl (QC _)))];rfl
  .refine Qw ⟨W++[BG m b2 c],aI (iW c),aI c,aI (mStart m c),aA (.bl b1),aA (.bl b2),by rw[Zm,hW];rfl,λw hw=>?_,?_⟩
   .rcases Zf.mp hw with z | z
    .exact hg w z
    .rw[Zg.mp z];exact Ot m0 hb2
   .show [nS ns,j1,aA (D.int m),j3,aA (D.lst ((B++W).map n8++[n8 (BG m b2 c)])),_,_,_,_,_,_,_,j12]=_;rw[← ZX];unfold jA;rw[ZH (l₁:=B++W)];rfl
 .rintro U ⟨W,j6,j8,j9,j10,j11,hW,hg,rfl⟩;exact⟨W,j5,j6,j7,j8,j9,j10,j11,⋯,hg,rfl⟩
def V5{dc:aC}(hc:Ah dc)(ns:List Int):∃(m:Nat) (W:List (Int×Int×Bool)),Qt 13 (DF dc) [.lst (ns.map .int),.int 4]=aA (Qj m (gZ W) (eV W))/\0<m/\m<=4/\W.length<=9/\tZ m W:=by
 obtain⟨m,em⟩:∃m:Nat,(m:Int)=1+ns.getD 0 0 % 4:=⟨(1+ns.getD 0 0 % 4).toNat,⋯⟩;have t1:=ZM (ns.getD 1 0 / 3) (by decide:(1000003:Int)≠0);have t2:=ZQ (ns.getD 1 0 / 3) (by decide:(0:Int)<1000003);generalize et:ns.getD 1 0 / 3 % 1000003=t at t1 t2;have m0:0<m:= ⋯
 have m4:m<=4:= ⋯
 have key:Run (DF dc) (Qy 13 [.lst (ns.map .int),.int 4]) (Rt λd fr=>∃W,d=Qj m (gZ W) (eV W)/\fr=true/\W.length<=9/\tZ m W):=by
  have cell:∀(U:En) (k:Nat),U[0]? =some (aP (.lst (ns.map .int)))->Qh 2 dc [] (Qb (Qd 0) (Qb (dC (.int k)) Qq)) U=some (aY (ns.getD k 0)):=λU k h0=>QO (Qe (hZ h0) (Qe (lD _ _) (QC _))) (hc ns k) rfl;refine eI (eY rfl rfl (cZ (cell _ 0 rfl) rfl rfl rfl ∅) rfl) ?_;rw[← em];refine eI (cZ (m5 (cell _ 1 rfl) rfl rfl rfl ∅ ∅) rfl rfl rfl ∅) ?_;rw[et];refine eI rfl ?_;refine lI (WO m0 ⋯ t1 ⋯) ?_;rintro U ⟨j5,j6,j7,rfl⟩;refine lI (NA hc m0 m4 (AW m t 0)) ?_;rintro U ⟨W,j5,j6,j7,j8,j9,j10,j11,hl,hg,rfl⟩;refine eI (VV (hZ rfl) rfl) ?_;refine fJ (AL (r:=⟨Qj m (gZ (jO m t 0++W)) (eV (jO m t 0++W)),true,[12]⟩) ?_ ⟨_,rfl,rfl,by rw[Zm,AW];lia,XH m0 m4 hg hl⟩);generalize hW:jO m t 0++W=V;have e:=Qe (U:=[nS ns,aI 4,aI m,aI t,aA (jA V),j5,j6,j7,j8,j9,j10,j11,aA (Qr (gZ V))]) (fa:=Qd 2) rfl (Qe (fa:=Qd 12) rfl (Qe (Wr (fa:=Qd 4) rfl rfl) (QC _)));show Option.bind (Qb _ _ [nS ns,aI 4,aI m,aI t,aA (jA V),j5,j6,j7,j8,j9,j10,j11,aA (Qr (gZ V))]) _=_;rw[e];rfl
 obtain⟨o,h1,h2⟩:=key;cases o with
 | rt d fr=>
  obtain⟨W,rfl,rfl,hl,hW⟩:=h2;exact⟨m,W,by unfold Qt;rw[h1];rfl,m0,m4,hl,hW⟩
 | _=>exact h2.elim
end HS
namespace HS
open PySem PySem.Spec L2 PyProof.Rows PySem.NumText
open HN (fH fK bP Q0 fD jF fC gU gW cO gG mJ jH lO jB QH QT jJ gH fZ lB jX lK lL kE jS bY l4 lY fX gY dW kT QW QY mR dF gT cG bD Qu isAt atK gA dP gF eN)
noncomputable def wR(p:Int×Int):Wd:=⟨p.2.toNat,p.1.toNat,false,1,false⟩
noncomputable def wL(p:Int×Int):Wd:=⟨p.1.toNat,p.2.toNat,true,1,false⟩
abbrev gE(R L:bE):List Wd:=R.map wR++L.map wL
structure Fg (p:Int×Int):Prop where
 a0:0<=p.1
 b0:0<=p.2
 a9:p.1<=9
 b9:p.2<=9
def VC{p:Int×Int}(h:Fg p):(wR p).Ok:=by
 obtain⟨a,b,c,d⟩:=h;refine⟨?_,?_,?_⟩<;>simp[wR]<;>lia
def Wp{p:Int×Int}(h:Fg p):(wL p).Ok:=by
 obtain⟨a,b,c,d⟩:=h;refine⟨?_,?_,?_⟩<;>simp[wL]<;>lia
def RU{R L:bE}(h:∀p∈R,Fg p):fV (gE R L)=R.map λp=>(p.2,p.1):=by
 unfold fV gE;rw[rX,(D0).mpr (λx hx=>by obtain⟨p,_,rfl⟩:=Zq.mp hx;rfl),(EF).mpr (λx hx=>by obtain⟨p,_,rfl⟩:=Zq.mp hx;exact ZL),Zo]
 induction R with
 | nil=>rfl
 | cons p R ih=>
  rw[Zp,List.flatMap_cons,ih (λq hq=>h q (Zl _ hq)),Zp];obtain⟨a,b,c,d⟩:=h p Zs;show [(((p.2.toNat:Nat):Int),((p.1.toNat:Nat):Int))]++_=_;rw[sJ a,sJ b];rfl
def XI{R L:bE}(h:∀p∈L,Fg p):fY (gE R L)=L:=by
 unfold fY gE;rw[rX,(D0 (l:=L.map wL)).mpr (λx hx=>by obtain⟨p,_,rfl⟩:=Zq.mp hx;rfl),(EF).mpr (λx hx=>by obtain⟨p,_,rfl⟩:=Zq.mp hx;exact ZL),Ax]
 induction L with
 | nil=>rfl
 | cons p L ih=>
  rw[Zp,List.flatMap_cons,ih (λq hq=>h q (Zl _ hq))];obtain⟨a,b,c,d⟩:=h p Zs;show [(((p.1.toNat:Nat):Int),((p.2.toNat:Nat):Int))]++_=_;rw[sJ a,sJ b];rfl
def P9{R:bE}(h:∀p∈R,p.1<p.2):(R.map λp=>(p.2,p.1)).map iJ=R:=by
 rw[ZG];refine(w7 λp hp=>?_).trans (List.map_id R);have:=h p hp;show((if p.1<p.2 then p.1 else p.2,if p.1>p.2 then p.1 else p.2):Int×Int)=p;rw[if_pos this,if_neg ⋯]
def Dg{fa:DE}{U:En}{r:HS.R}{n:Int}(h:fa U=some r)(e:r.d= .int n)(h0:0<=n)(h9:n<=9):aS f9 (Qb fa Qq) U=some (aO (.str (tx [48+n.toNat]))):=by
 refine kZ h ?_;rw[e,GL ⋯];have:=rG (n:=n.toNat) ⋯;rw[sJ h0]at this;rw[this]
def RR:Str.ofString ">" =tx [62]:= ∅
def KR{fa fb:DE}{U:En}{ra rb:HS.R}{a b:Int}{c:Str}{k:Nat}(hc:c=tx [k])(ha:fa U=some ra)(ea:ra.d= .int a)(hb:fb U=some rb)(eb:rb.d= .int b)(a0:0<=a)(a9:a<=9)(b0:0<=b)(b9:b<=9):Qk (Qk (aS f9 (Qb fa Qq)) (dC (.str c))) (aS f9 (Qb fb Qq)) U=some (aO (.str (tx [48+a.toNat,k,48+b.toNat]))):=by
 subst hc;rw[rJ (rJ (Dg ha ea a0 a9) rfl rfl rfl (by rw[fL,fL];simp)) rfl (Dg hb eb b0 b9) rfl (by rw[oG,fL,fL];simp)];rw[oG,oG];rfl
noncomputable abbrev lS(ts:List Str):D:= .lst (ts.map .str)
def Ss{R L:bE}{m:Int}{ts:List Str}{j2 j3:Option (D×Bool)}(h:∀p∈R,Fg p)(hl:ts.length+R.length<=100):Run (IU) [aP (Qj m R L),some (lS ts,true),j2,j3] (Nx λU=>∃j2 j3,U=[aP (Qj m R L),some (lS (ts++R.map λp=>(wR p).t),true),j2,j3]):=by
 refine gX R (λi U=>∃j2 j3,U=[aP (Qj m R L),some (lS (ts++(R.take i).map λp=>(wR p).t),true),j2,j3]) (fB rfl rfl) rfl ⟨j2,j3,by rw[List.take_zero,List.map_nil,Zo];rfl⟩ ?_ ?_
 .rintro i p U hi ⟨j2,j3,rfl⟩;have hp:p∈R:=ZK hi;have hi':=(Zn.mp hi).1;obtain⟨a0,b0,a9,b9⟩:=h p hp;refine⟨[aP (Qj m R L),some (lS (ts++(R.take i).map λp=>(wR p).t),true),aI p.1,aI p.2],rfl,?_⟩;refine run_seq (yI rfl (KR Co rfl rfl rfl rfl ⋯ ⋯ ⋯ ⋯) rfl (by simp only[Zh,Zm,pP];lia) (Qw ⟨aI p.1,aI p.2,?_⟩));show [aP (Qj m R L),aA (D.lst ((ts++(R.take i).map λp=>(wR p).t).map .str++[D.str (wR p).t])),_,_]=_;rw[A7,hi,Option.toList_some,ZH (l₁:=R.take i),← ZX,lS,ZH (l₂:=[p].map _)];rfl
 .rintro U ⟨j2,j3,rfl⟩;rw[pE];exact⟨j2,j3,rfl⟩
def NF{R L:bE}{m:Int}{ts:List Str}{j2 j3:Option (D×Bool)}(h:∀p∈L,Fg p)(hl:ts.length+L.length<=100):Run (Gz) [aP (Qj m R L),some (lS ts,true),j2,j3] (Nx λU=>∃j2 j3,U=[aP (Qj m R L),some (lS (ts++L.map λp=>(wL p).t),true),j2,j3]):=by
 refine gX L (λi U=>∃j2 j3,U=[aP (Qj m R L),some (lS (ts++(L.take i).map λp=>(wL p).t),true),j2,j3]) (fB rfl rfl) rfl ⟨j2,j3,by rw[List.take_zero,List.map_nil,Zo];rfl⟩ ?_ ?_
 .rintro i p U hi ⟨j2,j3,rfl⟩;have hp:p∈L:=ZK hi;have hi':=(Zn.mp hi).1;obtain⟨a0,b0,a9,b9⟩:=h p hp;refine⟨[aP (Qj m R L),some (lS (ts++(L.take i).map λp=>(wL p).t),true),aI p.1,aI p.2],rfl,?_⟩;refine run_seq (yI rfl (KR RR rfl rfl rfl rfl ⋯ ⋯ ⋯ ⋯) rfl (by simp only[Zh,Zm,pP];lia) (Qw ⟨aI p.1,aI p.2,?_⟩));show [aP (Qj m R L),aA (D.lst ((ts++(L.take i).map λp=>(wL p).t).map .str++[D.str (wL p).t])),_,_]=_;rw[A7,hi,Option.toList_some,ZH (l₁:=L.take i),← ZX,lS,ZH (l₂:=[p].map _)];rfl
 .rintro U ⟨j2,j3,rfl⟩;rw[pE];exact⟨j2,j3,rfl⟩
def SK{m:Nat}{ws:List Wd}:Str.join (tx [32]) (("net" :Str)::QZ m ws)=tx (kw "net" ++32::cp (dY m ws)):=n6 (by
 unfold dY;rw[oE,cF,oE];rfl)
def sS{m:Nat}(hm:m<=9){p:Int×Int}(h:Good m p):Fg p:=by
 obtain⟨a,b,c,d,e⟩:=h;exact⟨a,b,⋯,⋯⟩
def J3{R L:bE}:∀x∈gE R L,x.t.length=3:=λx hx=>by
 rcases Zf.mp hx with z | z<;>(obtain⟨p,_,rfl⟩:=Zq.mp z;rfl)
def Vr{m:Nat}{R L:bE}(hm:m<10)(hl:R.length+L.length<=20):(cp (dY m (gE R L))).length<=400:=by
 have h1:=StrLaws.join_length_le (tx [32]) (QZ m (gE R L));have h2:=StrLaws.sumLen_le (QZ m (gE R L)) (λt ht=>by
  rcases Zj.mp ht with rfl | ht
  .rw[rG hm];exact(show 1<=3 by decide)
  .obtain⟨x,hx,rfl⟩:=Zq.mp ht;rw[J3 x hx];exact Zu 3)
 have e:(tx [32]).length=1:=rfl;have e2:(QZ m (gE R L)).length=R.length+L.length+1:=by simp[QZ]
 rw[e,Nat.mul_one,e2]at h1;rw[e2]at h2;rw[← dK];show(Str.join (tx [32]) (QZ m (gE R L))).length<=_;lia
def ã{m:Nat}{R L:bE}(m9:m<=9)(hR:∀p∈R,Good m p)(hL:∀p∈L,Good m p)(hl:R.length+L.length<=20):Qt 4 Fi [Qj m R L]=aA (.str (tx (kw "net" ++32::cp (dY m (gE R L))))):=by
 have key:Run Fi (Qy 4 [Qj m R L]) (Rt λd fr=>d= .str (tx (kw "net" ++32::cp (dY m (gE R L))))/\fr=true):=by
  have es:=Dg (fa:=Qg (Qd 0) (dC (.int 0))) (U:=[aP (Qj m R L),none,none,none]) rfl rfl ⋯ ⋯;refine run_seq (Q5 (r:=⟨lS ["net",QQ m],true,[]⟩) ?_ ?_)
  .have e:Qb (dC (.str "net")) (Qb (aS f9 (Qb (Qg (Qd 0) (dC (.int 0))) Qq)) Qq) [aP (Qj m R L),none,none,none]=some ⟨[.str "net",.str (tx [48+m])],true,[]⟩:=(Qe rfl (Qe es (QC _))).trans (by rw[Zx];rfl);unfold Qx;show(Qb _ (Qb _ Qq) _).bind _=_;rw[show Qy 4 [Qj m R L]=[aP (Qj m R L),none,none,none]from rfl,e,rG ⋯];rfl
  rw[lU];refine lI (Ss (λp hp=>sS m9 (hR p hp)) (by simp;lia)) ?_;rintro U ⟨j2,j3,rfl⟩;refine lI (NF (λp hp=>sS m9 (hL p hp)) (by simp;lia)) ?_;rintro U ⟨j2,j3,rfl⟩;have ets:(([("net" :Str),QQ m]:List Str)++R.map λp=>(wR p).t)++L.map (λp=>(wL p).t)=("net" :Str)::QZ m (gE R L):=by
   unfold QZ gE;rw[ZH,ZG,ZG];simp;rfl
  refine fN (JJ (by rw[ets];rfl) rfl (by simp[QZ];lia) (λt ht=>?_)) ⟨by rw[SK],rfl⟩;rcases Zj.mp ht with rfl | ht
  .exact(show 3<=100 by decide)
  .rcases Zj.mp ht with rfl | ht
   .rw[rG ⋯];exact(show 1<=100 by decide)
   .obtain⟨x,hx,rfl⟩:=Zq.mp ht;rw[J3 x hx];decide
 obtain⟨o,h1,h2⟩:=key;cases o with
 | rt d fr=>
  obtain⟨rfl,rfl⟩:=h2;unfold Qt;rw[h1];rfl
 | _=>exact h2.elim
def cw_pl{l a:List Nat}{ks:List Str}{R:List (List Nat)}(hl:l.length<=600)(hw:eL l=a::R)(hc:look (tx a) bW=some ks)(hn:cL (Qf (aB (bQ false) (dC (.str "net")) (Qd 2))) (Qf (aB (bQ false) (dC (.str "row")) (Qd 2))) [none,none,aA (.tup (ks.map .str))]=some false):
  (R.length=ks.length->cW [.str (tx l)]=some (wD (a::R),true))/\(R.length≠ks.length->xW [.str (tx l)]=some "NoDeed"):=by
 have i0:∀{x:Option (D×Bool)},Qg (Qd 1) (dC (.int 0)) [aA (.str (tx l)),some (wD (a::R),true),x]=some (aO (.str (tx a))):=Hz rfl;have c1:mI bW true (Qg (Qd 1) (dC (.int 0))) [aA (.str (tx l)),some (wD (a::R),true),none]=some false:=by unfold mI;rw[i0,Option.bind_some];show some ((look (tx a) bW).isSome != true)=_;rw[hc];rfl
 have c2:QP (eD bW (Qg (Qd 1) (dC (.int 0)))) [aA (.str (tx l)),some (wD (a::R),true),none]=some (cU (.tup (ks.map .str))):=by unfold QP eD;rw[i0,Option.bind_some];show Option.map _ ((look (tx a) bW).map _)=_;rw[hc];rfl
 have fl:(D.tup (ks.map .str)).flat=true:=by show QU (ks.map .str)=true;exact AX ks
 have ag:asg 2 (cU (.tup (ks.map .str))) [aA (.str (tx l)),some (wD (a::R),true),none]=[aA (.str (tx l)),some (wD (a::R),true),aA (.tup (ks.map .str))]:=by
  unfold asg HS.R.norm;rw[if_pos fl];rfl
 have c3:cL (Qf (aB (bQ false) (dC (.str "net")) (Qd 2))) (Qf (aB (bQ false) (dC (.str "row")) (Qd 2))) [aA (.str (tx l)),some (wD (a::R),true),aA (.tup (ks.map .str))]=some false:=hn;have ln:aS QN (Qb (Qd 2) Qq) [aA (.str (tx l)),some (wD (a::R),true),aA (.tup (ks.map .str))]=some (aY ks.length):=by
  refine kZ (r:=aO (.tup (ks.map .str))) ?_ ?_
  .show(if(D.tup (ks.map .str)).flat=true then _ else _)=_;rw[if_pos fl]
  .show some (D.int ((ks.map D.str).length:Nat))=_;rw[Zh]
 have c6:Qf (aB bX (aS QN (Qb (Qd 1) Qq)) (Qk (aS QN (Qb (Qd 2) Qq)) (dC (.int 1)))) [aA (.str (tx l)),some (wD (a::R),true),aA (.tup (ks.map .str))]=some (!decide (((a::R).length:Int)=ks.length+1)):=by
  refine QB (QS (ra:=aO (.int (a::R).length)) (rb:=aY (ks.length+1)) ?_ ?_ rfl) rfl
  .exact kZ (r:=⟨wD (a::R),true,[1]⟩) rfl (by show some (D.int (((a::R).map λw=>D.str (tx w)).length:Nat))=_;rw[Zh])
  .unfold Qk;rw[ln];rfl
 rw[ZA]at c6;have c2':Qm 2 (QP (eD bW (Qg (Qd 1) (dC (.int 0))))) [aA (.str (tx l)),some (wD (a::R),true),none]=some (.nx [aA (.str (tx l)),some (wD (a::R),true),aA (.tup (ks.map .str))]):=(cQ c2).trans (by rw[ag]);refine⟨λe=>cw_v hl hw ?_,λe=>cw_x (q:=("NoDeed",[aA (.str (tx l)),some (wD (a::R),true),aA (.tup (ks.map .str))])) hl hw ?_⟩
 .rw[decide_eq_true (show((R.length+1:Nat):Int)=ks.length+1 by lia)]at c6;exact(Qs (QA c1)).trans ((Qs c2').trans ((Qs (QA c3)).trans ((Qs (QA c6)).trans rfl)))
 .rw[decide_eq_false (show ¬((R.length+1:Nat):Int)=ks.length+1 by lia)]at c6;exact(cB (QA c1)).trans ((cB c2').trans ((cB (QA c3)).trans ((dM ((dX c6).trans rfl) ((l9 c6).trans rfl)).trans rfl)))
abbrev Lw:DE:=aB aW (Qh 1 CT [] (aG aU)) (Qk (Qz (lB 3 Ay) (.nm 1) [none,none,some 2] QJ (aB aW aK aF)) (Qx (aG (dC (.bl true)))))
section
variable {N row:D}{ks:List Str}{rows:List D}{t:Str}{k:Nat}{s0 s1:Option (D×Bool)}
def RP:((List.range 9).map λk:Nat=>Lw [s0,s1,aI k,some (.exc (jL.getD k ""),true)])=(List.range 9).map λ_=>some (aO (.bl true)):= 'r'
def V9:((List.range 9).map λk:Nat=>qZ (jL.getD k "") "HeapError")=(List.range 9).map λ_=>some true:= 'r'
def rf(hk:k<9)(hf:row.flat=true)(h:QK [dk N ks rows,row]=some (jL.getD k "")):QG [dk N ks rows,row,.int k]=some (.bl true):=by
 have e1:=List.map_inj_left.mp (RP (s0:=some (dk N ks rows,false)) (s1:=some (row,true))) k (Zr.mpr hk);have e2:=List.map_inj_left.mp V9 k (Zr.mpr hk);have es:Qy 4 [dk N ks rows,row,.int k]=[some (dk N ks rows,false),some (row,true),aI k,none]:=by
  show [some (dk N ks rows,false),some (row,row.flat),_,_]=_;rw[hf];rfl
 have ex:gH 2 QK 0 (Qb (Qd 1) Qq) [some (dk N ks rows,false),some (row,true),aI k,none]=some (jL.getD k "",[some (dk N ks rows,false),some (row,true),aI k,none]):=by
  have ev:Qd 1 [some (dk N ks rows,false),some (row,true),aI k,none]=some ⟨row,true,[]⟩:=by
   unfold Qd;dsimp only[List.getElem?_cons_succ,List.getElem?_cons_zero];rw[if_pos hf]
  show(Qb (Qd 1) Qq [some (dk N ks rows,false),some (row,true),aI k,none]).bind _=_;rw[Qe ev (QC _),Option.bind_some];show Option.map _ (QK [dk N ks rows,row])=_;rw[h];rfl
 unfold QG gW Ge;rw[es,cT (d:= .bl true) (b:=true)]
 .rfl
 .unfold HN.jJ;rw[ex,Option.bind_some];dsimp only;rw[e2,Option.bind_some,if_pos rfl];show Option.bind (Lw [some (dk N ks rows,false),some (row,true),aI k,some (.exc (jL.getD k ""),true)]) _=_;rw[e1];rfl
def bn(hf:row.flat=true)(h:QK [dk N ks rows,row]=some "NoDeed"):uM [dk N ks rows,row]=some (.bl true):=by
 have es:Qy 2 [dk N ks rows,row]=[some (dk N ks rows,false),some (row,true)]:=by
  show [some (dk N ks rows,false),some (row,row.flat)]=_;rw[hf]
 have ex:gH 2 QK 0 (Qb (Qd 1) Qq) [some (dk N ks rows,false),some (row,true)]=some (("NoDeed" :Str),[some (dk N ks rows,false),some (row,true)]):=by
  have ev:Qd 1 [some (dk N ks rows,false),some (row,true)]=some ⟨row,true,[]⟩:=by
   unfold Qd;dsimp only[List.getElem?_cons_succ,List.getElem?_cons_zero];rw[if_pos hf]
  show(Qb (Qd 1) Qq [some (dk N ks rows,false),some (row,true)]).bind _=_;rw[Qe ev (QC _),Option.bind_some];show Option.map _ (QK [dk N ks rows,row])=_;rw[h];rfl
 have e2:qZ "NoDeed" "NoDeed" =some true:=by kernel_rfl
 unfold uM gW Je;rw[es,cT (d:= .bl true) (b:=true)]
 .rfl
 .unfold HN.jJ;rw[ex,Option.bind_some];dsimp only;rw[e2];rfl
def yH{s:Str}{N':D}{ks':List Str}{rows':List D}(hb:Qu (N::rows)=true)(hs:∀c∈cp s,c<200)(h:uL [dk N ks rows,.str t]=some (.str s,dk N' ks' rows')):QM [dk N ks rows,.str t,.str s]=some (.bl true,dk N' ks' rows'):=by
 have e1:QH ⟨2,uL⟩ 0 (Qb (Qd 1) Qq) [some (dk N ks rows,false),aA (.str t),aA (.str s),none]=some (.str s,[some (dk N' ks' rows',false),aA (.str t),aA (.str s),none]):=by
  unfold HN.QH;dsimp only[List.getElem?_cons_zero];rw[show Qb (Qd 1) Qq [some (dk N ks rows,false),aA (.str t),aA (.str s),none]=some ⟨[.str t],true,[]⟩from rfl,Option.bind_some,if_pos (by
   show(((decide (0=0) || bD (dk N ks rows)) && ((decide (1=0) || bD (.str t)) && ((decide (2=0) || bD (.str s)) && (true && true)))) && (Qu (N::rows) && Qu [.str t]) && decide (1+1=2))=true;rw[hb];unfold Qu Qu;rfl)]
  show Option.bind (uL [dk N ks rows,.str t]) _=_;rw[h];rfl
 have e2:aB aW (Qd 3) (Qd 2) [some (dk N' ks' rows',false),aA (.str t),aA (.str s),aA (.str s)]=some (aO (.bl true)):=by
  rw[Dc (x:=s) (y:=s) (ra:=aO (.str s)) (rb:=aO (.str s)) rfl rfl rfl rfl hs hs,beq_self_eq_true]
 have e3:lY 3 (QH ⟨2,uL⟩ 0 (Qb (Qd 1) Qq)) [some (dk N ks rows,false),aA (.str t),aA (.str s),none]=some (.nx [some (dk N' ks' rows',false),aA (.str t),aA (.str s),aA (.str s)]):=by
  unfold HN.lY;rw[e1];rfl
 have e4:fX (gT (dW (mM "str" (Qd 3))) (dW (aB aW (Qd 3) (Qd 2)))) [some (dk N' ks' rows',false),aA (.str t),aA (.str s),aA (.str s)]=some (.rt (.obj .pair [.bl true,dk N' ks' rows']) false):=by
  have a1:dW (mM "str" (Qd 3)) [some (dk N' ks' rows',false),aA (.str t),aA (.str s),aA (.str s)]=some (.bl true,[some (dk N' ks' rows',false),aA (.str t),aA (.str s),aA (.str s)]):=by
   have:mM "str" (Qd 3) [some (dk N' ks' rows',false),aA (.str t),aA (.str s),aA (.str s)]=some (aO (.bl true)):=by kernel_rfl
   unfold HN.dW;rw[this];rfl
  have a2:dW (aB aW (Qd 3) (Qd 2)) [some (dk N' ks' rows',false),aA (.str t),aA (.str s),aA (.str s)]=some (.bl true,[some (dk N' ks' rows',false),aA (.str t),aA (.str s),aA (.str s)]):=by
   unfold HN.dW;rw[e2];rfl
  unfold HN.fX HN.gT;rw[a1,Option.bind_some];dsimp only;rw[a2];rfl
 exact rR (b:=false) ((Qs e3).trans ((cT e4).trans rfl))
end
def dZ(fa:DE)(U:En)(l:List Nat)(k:Nat):Prop:=fa U=some ⟨.str (tx l),true,[]⟩/\l.length<=k
section
variable {U:En}{fa fb:DE}{a b n:List Nat}{i j k:Nat}
def bU{s:String}(h:(kw s).length<=20:=by decide+kernel):dZ (dC (.str s)) U (kw s) 20:=⟨by rw[kY];rfl,h⟩
def cH(h:U[i]? =some (aA (.str (tx n))))(hn:n.length<=10):dZ (Qd i) U n 10:=⟨by unfold Qd;rw[h];rfl,hn⟩
def QF(ha:dZ fa U a j)(hb:dZ fb U b k)(h:j+k<=1000:=by decide):dZ (Qk fa fb) U (a++b) (j+k):=
 ⟨(rJ ha.1 rfl hb.1 rfl (by rw[fL,fL];have:=ha.2;have:=hb.2;lia)).trans (by rw[oG]),by rw[Zm];have:=ha.2;have:=hb.2;lia⟩
def sp{s:String}{c:List Nat}(h:kw s=c++[32])(r:List Nat):kw s++r=c++32::r:=by rw[h];simp
def wC{xs:List D}{r:Nat}{d:D}{f:Bool}{M:List Nat}(ha:fa U=some ⟨.lst xs,f,M⟩)(hb:fb U=some (aY r))(h:xs[r]? =some d)(hd:d.flat=true):Qg fa fb U=some ⟨d,true,[]⟩:=by
 unfold Qg;rw[ha,hb,Option.bind_some,Option.bind_some];have hr:=(Zn.mp h).1;show Option.bind (some xs) (λxs=>(eU xs (r:Int)).map λd=>HS.R.norm ⟨d,f,M⟩)=_;rw[Option.bind_some];have:eU xs (r:Int)=some d:=by
  unfold eU kI;rw[if_pos ⋯,if_pos ⋯];simpa using h
 rw[this];show some (HS.R.norm ⟨d,f,M⟩)=_;unfold HS.R.norm;rw[if_pos hd]
end
section
variable {U:En}{fs:DA}{xs ys:List D}
def tL{f:Bool}{M:List Nat}(h:fs U=some ⟨xs,f,M⟩)(hl:xs.length<=64):Qx fs U=some ⟨.lst xs,f,M⟩:=by unfold Qx;rw[h,Option.bind_some,if_pos hl]
def sA{fa:DE}{f g:Bool}{M M':List Nat}(ha:fa U=some ⟨.lst xs,f,M⟩)(h:fs U=some ⟨ys,g,M'⟩)(hy:ys.length<=64)(hx:xs.length+ys.length<=1000)(hf:QU (xs++ys)=true):Qk fa (Qx fs) U=some (aO (.lst (xs++ys))):=by
 unfold Qk;rw[ha,tL h hy,Option.bind_some,Option.bind_some];show(if xs.length+ys.length<=sizeLine then some (eE (xs++ys) (M++M'))else none)=_;rw[if_pos (by rw[mE];lia)];unfold eE;rw[if_pos hf]
def qV:∀{xs:List D}{r:Nat}{d:D},QU xs=true->xs[r]? =some d->d.flat=true
 | [],r,d,_,h=>by simp at h
 | x::xs,0,d,hf,h=>by
  unfold QU at hf;rw[Ze]at hf;simp at h;rw[← h];exact hf.1
 | x::xs,r+1,d,hf,h=>by
  unfold QU at hf;rw[Ze]at hf;exact qV hf.2 (by simpa using h)
end
abbrev iL(c:Int)(n:List Nat):List D:=[.str "",.str " ",.str "net",.str "nets 1 0-1",.str "Net 1 0-1",.str " names",.str "names ",.str "names a",.str "show",.str (tx (((kw "show ")++n)++(kw " ")))]
abbrev jY(c:Int)(n:List Nat):List D:=[.str "add",.str (tx ((((kw "add ")++n)++(kw " "))++n)),.str "add a b c d",.str (tx ((kw "again ")++n)),.str "drop",.str (tx ((kw "alike ")++n))]
noncomputable abbrev nJ(c:Int)(n:List Nat):List D:=[.str "heap"]
abbrev u5(c:Int)(n:List Nat):List D:=[.str (tx ((kw "heap ")++n)),.str "still",.str "counts",.str (tx ((((kw "fire ")++n)++(kw " "))++n)),.str "rings 1",.str "many ",.str "nought a"]
noncomputable abbrev Ei(c:Int)(n:List Nat):List D:=[.str "tree",.int (5+c / 27 % 100),.aT]
abbrev jM(c:Int)(n:List Nat):List D:=(((iL c n++jY c n)++nJ c n)++u5 c n)++Ei c n
def X8{c:Int}{n:List Nat}{r:Nat}(hn:n.length<=10)(hr:c % 27=r)(h:r<27):rD [.int c,.str (tx n)]=some ((jM c n).getD r .aT,true):=by
 have s0:Hv [aI c,aA (.str (tx n)),none]=some (.nx [aI c,aA (.str (tx n)),aA (.lst (iL c n))]):=(cQ ((tL (xs:=iL c n) (f:=true) (M:=[]) (Qe (r:=aO (.str "")) rfl (Qe (r:=aO (.str " ")) rfl (Qe (r:=aO (.str "net")) rfl (Qe (r:=aO (.str "nets 1 0-1")) rfl (Qe (r:=aO (.str "Net 1 0-1")) rfl (Qe (r:=aO (.str " names")) rfl (Qe (r:=aO (.str "names ")) rfl (Qe (r:=aO (.str "names a")) rfl (Qe (r:=aO (.str "show")) rfl (Qe ((QF (QF bU (cH rfl hn)) bU).1) (QC _))))))))))) (by show(10:Nat)<=64;decide)).trans rfl)).trans rfl;have s1:K5 [aI c,aA (.str (tx n)),aA (.lst (iL c n))]=some (.nx [aI c,aA (.str (tx n)),aA (.lst (iL c n++jY c n))]):=(cQ ((sA (fa:=Qd 2) (f:=true) (M:=[2]) (g:=true) (M':=[]) (xs:=iL c n) (ys:=jY c n) rfl (Qe (r:=aO (.str "add")) rfl (Qe ((QF (QF (QF bU (cH rfl hn)) bU) (cH rfl hn)).1) (Qe (r:=aO (.str "add a b c d")) rfl (Qe ((QF bU (cH rfl hn)).1) (Qe (r:=aO (.str "drop")) rfl (Qe ((QF bU (cH rfl hn)).1) (QC _))))))) (by show(6:Nat)<=64;decide) (by show(10:Nat)+6<=1000;decide) rfl).trans rfl)).trans rfl;have s2:J2 [aI c,aA (.str (tx n)),aA (.lst (iL c n++jY c n))]=some (.nx [aI c,aA (.str (tx n)),aA (.lst ((iL c n++jY c n)++nJ c n))]):=(cQ ((sA (fa:=Qd 2) (f:=true) (M:=[2]) (g:=true) (M':=[]) (xs:=iL c n++jY c n) (ys:=nJ c n) rfl (Qe (r:=aO (.str "heap")) rfl (QC _)) (by show(1:Nat)<=64;decide) (by show(16:Nat)+1<=1000;decide) rfl).trans rfl)).trans rfl;have s3:JU [aI c,aA (.str (tx n)),aA (.lst ((iL c n++jY c n)++nJ c n))]=some (.nx [aI c,aA (.str (tx n)),aA (.lst (((iL c n++jY c n)++nJ c n)++u5 c n))]):=(cQ ((sA (fa:=Qd 2) (f:=true) (M:=[2]) (g:=true) (M':=[]) (xs:=(iL c n++jY c n)++nJ c n) (ys:=u5 c n) rfl (Qe ((QF bU (cH rfl hn)).1) (Qe (r:=aO (.str "still")) rfl (Qe (r:=aO (.str "counts")) rfl (Qe ((QF (QF (QF bU (cH rfl hn)) bU) (cH rfl hn)).1) (Qe (r:=aO (.str "rings 1")) rfl (Qe (r:=aO (.str "many ")) rfl (Qe (r:=aO (.str "nought a")) rfl (QC _)))))))) (by show(7:Nat)<=64;decide) (by show(17:Nat)+7<=1000;decide) rfl).trans rfl)).trans rfl;have s4:HQ [aI c,aA (.str (tx n)),aA (.lst (((iL c n++jY c n)++nJ c n)++u5 c n))]=some (.nx [aI c,aA (.str (tx n)),aA (.lst ((((iL c n++jY c n)++nJ c n)++u5 c n)++Ei c n))]):=(cQ ((sA (fa:=Qd 2) (f:=true) (M:=[2]) (g:=true) (M':=[]) (xs:=((iL c n++jY c n)++nJ c n)++u5 c n) (ys:=Ei c n) rfl (Qe (r:=aO (.str "tree")) rfl (Qe ((eY (a:=5) (b:=c / 27 % 100) (lD _ _) rfl (cZ (a:=c / 27) (b:=100) (m5 (a:=c) (b:=27) (ra:=aY c) (rb:=aY 27) rfl rfl rfl rfl ∅ ∅) rfl rfl rfl ∅) rfl)) (Qe (r:=⟨.aT,true,[]⟩) rfl (QC _)))) (by show(3:Nat)<=64;decide) (by show(24:Nat)+3<=1000;decide) rfl).trans rfl)).trans rfl;obtain⟨d,hd⟩:∃d,(jM c n)[r]? =some d:=⟨_,Zt (show r<27 from h)⟩;have e:(jM c n).getD r .aT=d:=by rw[Zz,hd];rfl
 have hf:d.flat=true:=qV (xs:=jM c n) rfl hd;have i1:Qg (Qd 2) (aB QX (Qd 0) (dC (.int 27))) [aI c,aA (.str (tx n)),aA (.lst (jM c n))]=some ⟨d,true,[]⟩:=wC (xs:=jM c n) (f:=true) (M:=[2]) rfl (hr▸cZ (a:=c) (b:=27) (ra:=aY c) (rb:=aY 27) rfl rfl rfl rfl ∅) hd hf;rw[e];exact mU ((Qs s0).trans ((Qs s1).trans ((Qs s2).trans ((Qs s3).trans ((Qs s4).trans (cT ((oC i1).trans (by show some (Out.rt d ((HS.R.norm ⟨d,true,[]⟩).fr && decide (HS.R.norm ⟨d,true,[]⟩).M.Nodup))=some (.rt d true);unfold HS.R.norm;rw[if_pos hf];rfl))))))))
abbrev vG(c:Int)(n:List Nat):List D:=[.str "names",.str "rings",.str "many",.str "nought",.str (tx ((kw "show ")++n)),.str (tx (((kw "heap ")++n)++(kw " 1"))),.str "heap A x",.str "add a b c"]
abbrev E5(c:Int)(n:List Nat):List D:=[.str "again A B",.str (tx ((kw "drop ")++n)),.str "fire a",.str "tree ",.str "comes a",.str "place a",.str "alike a b",.str "counts a"]
abbrev lZ(c:Int)(n:List Nat):List D:=vG c n++E5 c n
def UE{c:Int}{n:List Nat}{r:Nat}(hn:n.length<=10)(hr:c % 16=r)(h:r<16):uP [.int c,.str (tx n)]=some ((lZ c n).getD r .aT,true):=by
 have s0:Jt [aI c,aA (.str (tx n)),none]=some (.nx [aI c,aA (.str (tx n)),aA (.lst (vG c n))]):=(cQ ((tL (xs:=vG c n) (f:=true) (M:=[]) (Qe (r:=aO (.str "names")) rfl (Qe (r:=aO (.str "rings")) rfl (Qe (r:=aO (.str "many")) rfl (Qe (r:=aO (.str "nought")) rfl (Qe ((QF bU (cH rfl hn)).1) (Qe ((QF (QF bU (cH rfl hn)) bU).1) (Qe (r:=aO (.str "heap A x")) rfl (Qe (r:=aO (.str "add a b c")) rfl (QC _))))))))) (by show(8:Nat)<=64;decide)).trans rfl)).trans rfl;have s1:KG [aI c,aA (.str (tx n)),aA (.lst (vG c n))]=some (.nx [aI c,aA (.str (tx n)),aA (.lst (vG c n++E5 c n))]):=(cQ ((sA (fa:=Qd 2) (f:=true) (M:=[2]) (g:=true) (M':=[]) (xs:=vG c n) (ys:=E5 c n) rfl (Qe (r:=aO (.str "again A B")) rfl (Qe ((QF bU (cH rfl hn)).1) (Qe (r:=aO (.str "fire a")) rfl (Qe (r:=aO (.str "tree ")) rfl (Qe (r:=aO (.str "comes a")) rfl (Qe (r:=aO (.str "place a")) rfl (Qe (r:=aO (.str "alike a b")) rfl (Qe (r:=aO (.str "counts a")) rfl (QC _))))))))) (by show(8:Nat)<=64;decide) (by show(8:Nat)+8<=1000;decide) rfl).trans rfl)).trans rfl;obtain⟨d,hd⟩:∃d,(lZ c n)[r]? =some d:=⟨_,Zt (show r<16 from h)⟩;have e:(lZ c n).getD r .aT=d:=by rw[Zz,hd];rfl
 have hf:d.flat=true:=qV (xs:=lZ c n) rfl hd;have i1:Qg (Qd 2) (aB QX (Qd 0) (dC (.int 16))) [aI c,aA (.str (tx n)),aA (.lst (lZ c n))]=some ⟨d,true,[]⟩:=wC (xs:=lZ c n) (f:=true) (M:=[2]) rfl (hr▸cZ (a:=c) (b:=16) (ra:=aY c) (rb:=aY 16) rfl rfl rfl rfl ∅) hd hf;rw[e];exact mU ((Qs s0).trans ((Qs s1).trans (cT ((oC i1).trans (by show some (Out.rt d ((HS.R.norm ⟨d,true,[]⟩).fr && decide (HS.R.norm ⟨d,true,[]⟩).M.Nodup))=some (.rt d true);unfold HS.R.norm;rw[if_pos hf];rfl)))))
section
variable {N d:D}{ks:List Str}{rows:List D}{n:List Nat}{c:Int}
def dG{t:D}(ht:t.flat=true){x:Str}(h:xW [t]=some x):QK [dk N ks rows,t]=some x:=OG ht h
def w2{a:List Nat}(ha:32∉a)(hn:32∉n):eL (a++32::n)=[a,n]:=by rw[vE ha,OZ hn]
def w3{a b:List Nat}(ha:32∉a)(hb:32∉b)(hn:32∉n):eL (a++32::(b++32::n))=[a,b,n]:=by rw[vE ha,w2 hb hn]
def w4{a b e:List Nat}(ha:32∉a)(hb:32∉b)(he:32∉e)(hn:32∉n):eL (a++32::(b++32::(e++32::n)))=[a,b,e,n]:=by rw[vE ha,w3 hb he hn]
def kM:kw " " =[32]:= 'd'
def TR(hn:Nm n):xW [.str (tx (kw "show" ++32::(n++32::([]))))]=some "NoDeed" :=
 (cw_pl (a:=kw "show") (ks:=["heap"]) (by have:=hn.1;simp[show(kw "show").length=4 by decide+kernel];lia) (w3 (eS 'd') hn.free ⋯) 'd' 'r').2 ⋯
def RT(hn:Nm n):xW [.str (tx (kw "add" ++32::(n++32::(n))))]=some "NoDeed" :=
 (cw_pl (a:=kw "add") (ks:=["name","heap","heap"]) (by have:=hn.1;simp[show(kw "add").length=3 by decide+kernel];lia) (w3 (eS 'd') hn.free hn.free) 'd' 'r').2 ⋯
def Xs(hn:Nm n):xW [.str (tx (kw "again" ++32::(n)))]=some "NoDeed" :=
 (cw_pl (a:=kw "again") (ks:=["name","heap"]) (by have:=hn.1;simp[show(kw "again").length=5 by decide+kernel];lia) (w2 (eS 'd') hn.free) 'd' 'r').2 ⋯
def WZ(hn:Nm n):xW [.str (tx (kw "alike" ++32::(n)))]=some "NoDeed" :=
 (cw_pl (a:=kw "alike") (ks:=["heap","heap"]) (by have:=hn.1;simp[show(kw "alike").length=5 by decide+kernel];lia) (w2 (eS 'd') hn.free) 'd' 'r').2 ⋯
def Ou(hn:Nm n):xW [.str (tx (kw "fire" ++32::(n++32::(n))))]=some "NoDeed" :=
 (cw_pl (a:=kw "fire") (ks:=["heap"]) (by have:=hn.1;simp[show(kw "fire").length=4 by decide+kernel];lia) (w3 (eS 'd') hn.free hn.free) 'd' 'r').2 ⋯
def VU(hn:Nm n){r:Nat}(h:r<27):QK [dk N ks rows,(jM c n).getD r .aT]=some "NoDeed" :=by
 match r,h with
 | 0,_=>exact dG rfl 'r'
 | 1,_=>exact dG rfl 'r'
 | 2,_=>exact dG rfl 'r'
 | 3,_=>exact dG rfl 'r'
 | 4,_=>exact dG rfl 'r'
 | 5,_=>exact dG rfl 'r'
 | 6,_=>exact dG rfl 'r'
 | 7,_=>exact dG rfl 'r'
 | 8,_=>exact dG rfl 'r'
 | 9,_=>
  have e:((kw "show ")++n)++(kw " ")=kw "show" ++32::(n++32::[]):=by rw[show kw "show " =kw "show" ++[32] by decide+kernel,kM];simp
  exact dG rfl ((congrArg (λl=>xW [.str (tx l)]) e).trans (TR hn))
 | 10,_=>exact dG rfl 'r'
 | 11,_=>
  have e:(((kw "add ")++n)++(kw " "))++n=kw "add" ++32::(n++32::n):=by rw[show kw "add " =kw "add" ++[32] by decide+kernel,kM];simp
  exact dG rfl ((congrArg (λl=>xW [.str (tx l)]) e).trans (RT hn))
 | 12,_=>exact dG rfl 'r'
 | 13,_=>
  have e:(kw "again ")++n=kw "again" ++32::n:=by rw[show kw "again " =kw "again" ++[32] by decide+kernel];simp
  exact dG rfl ((congrArg (λl=>xW [.str (tx l)]) e).trans (Xs hn))
 | 14,_=>exact dG rfl 'r'
 | 15,_=>
  have e:(kw "alike ")++n=kw "alike" ++32::n:=by rw[show kw "alike " =kw "alike" ++[32] by decide+kernel];simp
  exact dG rfl ((congrArg (λl=>xW [.str (tx l)]) e).trans (WZ hn))
 | 16,_=>exact dG rfl 'r'
 | 17,_=>
  have e:(kw "heap ")++n=kw "heap" ++32::n:=by rw[show kw "heap " =kw "heap" ++[32] by decide+kernel];simp
  exact dG rfl ((congrArg (λl=>xW [.str (tx l)]) e).trans (cw_heap1 hn.free (by have:=hn.1;lia)))
 | 18,_=>exact dG rfl 'r'
 | 19,_=>exact dG rfl 'r'
 | 20,_=>
  have e:(((kw "fire ")++n)++(kw " "))++n=kw "fire" ++32::(n++32::n):=by rw[show kw "fire " =kw "fire" ++[32] by decide+kernel,kM];simp
  exact dG rfl ((congrArg (λl=>xW [.str (tx l)]) e).trans (Ou hn))
 | 21,_=>exact dG rfl 'r'
 | 22,_=>exact dG rfl 'r'
 | 23,_=>exact dG rfl 'r'
 | 24,_=>exact dG rfl 'r'
 | 25,_=>exact dG rfl 'r'
 | 26,_=>exact dG rfl 'r'
 | r+27,h=>exact absurd h ⋯
def Xq{r:Nat}(h:r<27):((jM c n).getD r .aT).flat=true:=by
 obtain⟨d,hd⟩:∃d,(jM c n)[r]? =some d:=⟨_,Zt (show r<27 from h)⟩;rw[Zz,hd];exact qV (xs:=jM c n) rfl hd
def We{r:Nat}(h:r<16):((lZ c n).getD r .aT).flat=true:=by
 obtain⟨d,hd⟩:∃d,(lZ c n)[r]? =some d:=⟨_,Zt (show r<16 from h)⟩;rw[Zz,hd];exact qV (xs:=lZ c n) rfl hd
def EL{t:Str}{a:List Nat}{W:List (List Nat)}(h:cW [.str t]=some (wD (a::W),true))(ha:bX (.str (tx a)) (.str "net")=some (.bl true)):QK [dk .aT [] [],.str t]=some "NoNet" :=by
 refine Pz h ?_;have e1:Qf (aB (gJ false) (cO 0) (dC .aT)) (r3 .aT [] [] t a W none)=some true:=QB (r:=aO (.bl true)) rfl rfl;have e2:Qf (aB bX (Qd 3) (dC (.str "net"))) (r3 .aT [] [] t a W none)=some true:=QB (QS (ra:=aO (.str (tx a))) (rb:=aO (.str "net")) rfl rfl ha) rfl;exact(AN e1 e2).trans rfl
def cw_one{s:String}{kk:List Str}(hs:(kw s).all (λc=>c != 32)=true)(hl:(kw s).length<=20)(hc:look (tx (kw s)) bW=some kk)(hk:kk.length=1)(hb:cL (Qf (aB (bQ false) (dC (.str "net")) (Qd 2))) (Qf (aB (bQ false) (dC (.str "row")) (Qd 2))) [none,none,aA (.tup (kk.map .str))]=some false)(hn:32∉n)(h8:n.length<=100):cW [.str (tx (kw s++32::n))]=some (wD [kw s,n],true):=
 (cw_pl (by rw[Zm,ZA];lia) (w2 (eS hs) hn) hc hb).1 (by rw[hk];rfl)
def cw_show(hn:32∉n)(h8:n.length<=100):cW [.str (tx (kw "show" ++32::n))]=some (wD [kw "show",n],true):=cw_one (kk:=["heap"]) 'd' 'd' 'd' rfl 'r' hn h8
def cw_drop(hn:32∉n)(h8:n.length<=100):cW [.str (tx (kw "drop" ++32::n))]=some (wD [kw "drop",n],true):=cw_one (kk:=["heap"]) 'd' 'd' 'd' rfl 'r' hn h8
def cw_still(hn:32∉n)(h8:n.length<=100):cW [.str (tx (kw "still" ++32::n))]=some (wD [kw "still",n],true):=cw_one (kk:=["heap"]) 'd' 'd' 'd' rfl 'r' hn h8
def cw_fire(hn:32∉n)(h8:n.length<=100):cW [.str (tx (kw "fire" ++32::n))]=some (wD [kw "fire",n],true):=cw_one (kk:=["heap"]) 'd' 'd' 'd' rfl 'r' hn h8
def cw_tree(hn:32∉n)(h8:n.length<=100):cW [.str (tx (kw "tree" ++32::n))]=some (wD [kw "tree",n],true):=cw_one (kk:=["heap"]) 'd' 'd' 'd' rfl 'r' hn h8
def Nm.le{n:List Nat}(h:Nm n):n.length<=100:=by have:=h.1;lia
def ĉ(hn:Nm n){r:Nat}(h:r<16):QK [dk .aT [] [],(lZ c n).getD r .aT]=some "NoNet" :=by
 match r,h with
 | 0,_=>kernel_rfl
 | 1,_=>kernel_rfl
 | 2,_=>kernel_rfl
 | 3,_=>kernel_rfl
 | 4,_=>
  have e:(kw "show ")++n=kw "show" ++32::n:=by rw[show kw "show " =kw "show" ++[32] by decide+kernel];simp
  exact(congrArg (λl=>QK [dk .aT [] [],.str (tx l)]) e).trans (EL (cw_show hn.free hn.le) 'r')
 | 5,_=>
  have e:((kw "heap ")++n)++(kw " 1")=kw "heap" ++32::(n++32::[49]):=by rw[show kw "heap " =kw "heap" ++[32] by decide+kernel,show kw " 1" =[32,49] by decide+kernel];simp
  exact(congrArg (λl=>QK [dk .aT [] [],.str (tx l)]) e).trans (EL (cw_heap hn.free hn.le ⋯) 'r')
 | 6,_=>kernel_rfl
 | 7,_=>kernel_rfl
 | 8,_=>kernel_rfl
 | 9,_=>
  have e:(kw "drop ")++n=kw "drop" ++32::n:=by rw[show kw "drop " =kw "drop" ++[32] by decide+kernel];simp
  exact(congrArg (λl=>QK [dk .aT [] [],.str (tx l)]) e).trans (EL (cw_drop hn.free hn.le) 'r')
 | 10,_=>kernel_rfl
 | 11,_=>kernel_rfl
 | 12,_=>kernel_rfl
 | 13,_=>kernel_rfl
 | 14,_=>kernel_rfl
 | 15,_=>kernel_rfl
 | r+16,h=>exact absurd h ⋯
end
structure kA (m:Nat) (R L:bE):Prop where
 m0:0<m
 m4:m<=4
 hR:∀p∈R,Good m p
 hl:∀p∈R,p.1<p.2
 hL:∀p∈L,Good m p
 few:R.length+L.length<=20
 ok:Bm m R L
def Xn{m:Nat}{W:List (Int×Int×Bool)}(m0:0<m)(m4:m<=4)(hl:W.length<=9)(h:tZ m W):kA m (gZ W) (eV W) where
 m0:=m0
 m4:=m4
 hR:=λp hp=>(BX h.good p hp).1
 hl:=λp hp=>(BX h.good p hp).2
 hL:=λp hp=>(AG h.good p hp).1
 few:=by
  unfold gZ eV;rw[Zh,Zh];have h1:=List.length_filter_le (λw:Int×Int×Bool=> !w.2.2) W;have h2:=List.length_filter_le (λw:Int×Int×Bool=>w.2.2) W;lia
 ok:=h.ok m0 ⋯
section
variable {m:Nat}{R L:bE}{n:List Nat}{ks:List Str}{rows:List D}{f:b8}{ns:List Int}
def Di:∀R:List (Int×Int),bD (Qr R)=true
 | []=>by unfold Qr bD Qu;rfl
 | p::R=>by
  have:=Di R;unfold Qr bD at *;rw[Zp];unfold Qu;rw[this,lC];unfold pairD bD Qu Qu Qu bD;rfl
def mO:bD (Qj m R L)=true:=by
 unfold Qj bD Qu Qu Qu Qu;rw[Di,Di];unfold bD;rfl
def Ao:∀xs:List Int,Qu (xs.map D.int)=true
 | []=>by unfold Qu;rfl
 | x::xs=>by rw[Zp];unfold Qu;rw[Ao xs];unfold bD;rfl
def Aj:Qu ((List.range m).map λi=>D.int (f i))=true:=by
 have:=Ao ((List.range m).map f);rwa[ZG]at this
noncomputable abbrev rI(m:Nat)(f:b8):List Int:=(List.range m).map f
def i8:Q7 (rI m f)=Qi m f:=by unfold Q7 Qi rI;rw[ZG];rfl
def Ta(H:kA m R L):oB [.str (dY m (gE R L))]=aA (Qj m R L):=by
 have e1:=RU (R:=R) (L:=L) λp hp=>sS (by have:=H.m4;lia) (H.hR p hp);have e2:=XI (R:=R) (L:=L) λp hp=>sS (by have:=H.m4;lia) (H.hL p hp);have e3:=P9 H.hl;have hr:IJ oB:=Po HK (GO zJ) (UL (RZ zJ) (GO zJ)) (Sb OB (Tx (WL λR L h=>Gq ⋯)) (Wz ES (Kr Dl)));have:=hr m (gE R L) (by have:=H.m4;lia) (by simp;have:=H.few;lia) (λx hx=>by
  rcases Zf.mp hx with z | z
  .obtain⟨p,hp,rfl⟩:=Zq.mp z;exact VC (sS (by have:=H.m4;lia) (H.hR p hp))
  .obtain⟨p,hp,rfl⟩:=Zq.mp z;exact Wp (sS (by have:=H.m4;lia) (H.hL p hp))) (by rw[e1,e2,Zh];have:=H.few;lia) (by rw[e1,e2,e3];exact H.ok)
 rwa[e1,e2,e3]at this
def Eb:∀c∈cp ("ok" :Str),c<200:=by
 have:(kw "ok").all (λc=>decide (c<200))=true:=by decide+kernel
 exact λc hc=>of_decide_eq_true (ZN.mp this c hc)
def Nm.low(h:Nm n):∀c∈cp (tx n),c<200:=λc hc=>by have:=h.2 c (by rwa[cF]at hc);lia
def Nk(H:kA m R L):QM [dk .aT [] [],.str (tx (kw "net" ++32::cp (dY m (gE R L)))),.str "ok"]=some (.bl true,dk (Qj m R L) [] []):=
 yH (by unfold Qu Qu bD;rfl) Eb (Ó (cw_net (Vr (by have:=H.m4;lia) H.few)) rfl mO (Yc (by rw[kY];exact Ta H)))
def Hy(h:Small 18 ns):rT [.str (c0 ns)]=aA (Q7 ns):=U6 HK zJ ns h
def Ç(m0:0<m)(hf:∀j,j<m->0<=f j):lT [Qj m R L,.lst [Qi m f]]=some (.aT,true):=
 Kh CW m R L [f] m0 λg hg j hj=>by rw[Zg.mp hg];exact hf j hj
abbrev Nq(n:List Nat)(t:Str):Str:=tx (kw "heap" ++32::(n++32::cp t))
def Rw(m:Nat)(f:b8):Prop:=∀j,j<m->0<=f j/\f j<100
def Rw.small(h:Rw m f)(m4:m<=4){k:Nat}(hk:2<=k):Small k (rI m f):=by
 refine⟨by simp[rI];lia,λx hx=>?_⟩;obtain⟨j,hj,rfl⟩:=Zq.mp hx;have:=h j (Zr.mp hj);have h2:10^2<=10^k:=BP ∅ hk;lia
def N8(h:Rw m f)(m4:m<=4):(cp (c0 (rI m f))).length<=400:=by
 have:=zY ∅ (h.small m4 (Zu 2));rw[dK]at this;lia
def VX(H:kA m R L)(hn:Nm n)(hf:Rw m f):oJ [dk (Qj m R L) ks rows,.str "row",.str (c0 (rI m f))]=aA (Qi m f):=by
 have h1:=Hy (hf.small H.m4 (show 2<=18 by decide));rw[i8]at h1;exact å h1 (Ç H.m0 λj hj=>(hf j hj).1)
def FI(H:kA m R L)(hn:Nm n)(hf:Rw m f)(hk:ks.length<30)(hb:Qu rows=true):QM [dk (Qj m R L) ks rows,.str (Nq n (c0 (rI m f))),.str "ok"]=some (.bl true,dk (Qj m R L) (gA ks (tx n)) (dP ks rows (tx n) (Qi m f))):=by
 have hb':Qu (Qj m R L::rows)=true:=by unfold Qu;rw[mO,hb];rfl
 refine yH hb' Eb (í (cw_heap hn.free hn.le (N8 hf H.m4)) (A6 (rF hn)) ?_ Py hb' Aj (Ā hk hb' Aj));rw[kY];exact VX H hn hf
def vR(hn:Nm n){row:List D}(hk:ks.contains (tx n)=true)(ha:atK ks rows (tx n)=some (.lst row)){N:D}:oJ [dk N ks rows,.str "heap",.str (tx n)]=aP (.lst row):=V4 (rF hn) hk ha
def VO(H:kA m R L)(hf:Rw m f):xY [Qj m R L,.str (tx (kw "show")),.lst [Qi m f]]=aA (.str (c0 (rI m f))):=by
 have c:∀{y:Str}{v:Bool},aW (.str (tx (kw "show"))) (.str y)=some (.bl v)->Qf (aB aW (Qd 1) (dC (.str y))) (Qy 3 [Qj m R L,.str (tx (kw "show")),.lst [Qi m f]])=some v:=λe=>Q4 rfl e;have c2:∀{y:Str}{v:Bool},aW (.str (tx (kw "show"))) (.str y)=some (.bl v)->Qf (aB aW (Qd 1) (dC (.str y))) (Qy 3 [Qj m R L,.str (tx (kw "show")),Qi m f])=some v:=λe=>Q4 rfl e;have ht:An [Qi m f]=aA (.str (c0 (rI m f))):=by
  have:=MK (rI m f) (hf.small H.m4 (show 2<=60 by decide));rwa[i8]at this
 have hh:rA [Qj m R L,.str (tx (kw "show")),Qi m f]=aA (.str (c0 (rI m f))):=
  mU ((Qs (QA (c2 'r'))).trans ((Qs (QA (c2 'r'))).trans ((Qs (QA (c2 'r'))).trans ((Qs (QA (c2 'r'))).trans ((Qs (QA (c2 'r'))).trans ((Qs (QA (c2 'r'))).trans (cT ((oC (gB (r:=⟨[Qi m f],false,[]⟩) rfl rfl ht)).trans rfl))))))))
 exact mU ((Qs (QA (c 'r'))).trans ((Qs (QA (c 'r'))).trans ((Qs (QA (c 'r'))).trans ((Qs (QA (c 'r'))).trans (cT ((oC (gB (r:=⟨[Qj m R L,.str (tx (kw "show")),Qi m f],false,[]⟩) rfl rfl hh)).trans rfl))))))
def Ki(H:kA m R L)(hn:Nm n)(hf:Rw m f)(hb:Qu rows=true)(hk:ks.contains (tx n)=true)(ha:atK ks rows (tx n)=some (Qi m f)):QM [dk (Qj m R L) ks rows,.str (tx (kw "show" ++32::n)),.str (c0 (rI m f))]=some (.bl true,dk (Qj m R L) ks rows):=by
 have hb':Qu (Qj m R L::rows)=true:=by unfold Qu;rw[mO,hb];rfl
 exact yH hb' P7 (Ã (cw_show hn.free hn.le) (vR hn hk ha) (VO H hf))
def ù(H:kA m R L)(hn:Nm n)(hb:Qu rows=true):QM [dk (Qj m R L) [tx n] rows,.str "names",.str (tx n)]=some (.bl true,dk (Qj m R L) [tx n] rows):=by
 have hb':Qu (Qj m R L::rows)=true:=by unfold Qu;rw[mO,hb];rfl
 exact yH hb' hn.low (Rv 'r' (by rw[fL];exact hn.le))
def ü(H:kA m R L)(hn:Nm n)(hf:Rw m f)(hb:Qu rows=true)(hl:ks.length<=1000)(hk:ks.contains (tx n)=true)(ha:atK ks rows (tx n)=some (Qi m f)):QM [dk (Qj m R L) ks rows,.str (tx (kw "drop" ++32::n)),.str "ok"]=some (.bl true,dk (Qj m R L) (gF ks (tx n)) (eN ks rows (tx n))):=by
 have hb':Qu (Qj m R L::rows)=true:=by unfold Qu;rw[mO,hb];rfl
 exact yH hb' Eb (Ux (cw_drop hn.free hn.le) (vR hn hk ha) ha hl hb' Aj)
end
section
variable {n n2 b a:List Nat}{ks kk:List Str}{rows row Ns:List D}{t c:Str}{ws:List (List Nat)}{P1 P2:List (Str×Str)}{p:Str×Str}
def I9{l:aC}{y:List D->Option Str}{bC:D}:∀{P1:List (Str×Str)},(∀q∈P1,∃r,l [bC,.str q.1,.str q.2]=some r)->l [bC,.str p.1,.str p.2]=none->y [bC,.str p.1,.str p.2]=some c->oO l y bC (P1++p::P2)=some c
 | [],_,h2,h3=>by
  show(match l [bC,.str p.1,.str p.2]with | some _=>oO l y bC P2 | none=>y [bC,.str p.1,.str p.2])=_;rw[h2];exact h3
 | q::P1,h1,h2,h3=>by
  obtain⟨r,hr⟩:=h1 q Zs;show(match l [bC,.str q.1,.str q.2]with | some _=>oO l y bC (P1++p::P2) | none=>y [bC,.str q.1,.str q.2])=_;rw[hr];exact I9 (λq hq=>h1 q (Zl _ hq)) h2 h3
def iM(h:cW [.str t]=some (wD (a::ws),true))(hc:look (tx a) bW=some kk)(hl:kk.length=ws.length)(h3:ws.length<=3)(hP:kk.zip (ws.map tx)=P1++p::P2)(h1:∀q∈P1,∃r,oJ [dk (.tup Ns) ks rows,.str q.1,.str q.2]=some r)(h2:oJ [dk (.tup Ns) ks rows,.str p.1,.str p.2]=none)(hx:Bx [dk (.tup Ns) ks rows,.str p.1,.str p.2]=some c):QK [dk (.tup Ns) ks rows,.str t]=some c:=
 V8 h sQ (hP▸zp hc hl h3) (I9 h1 h2 hx)
structure Bd (b:List Nat):Prop where
 fr:32∉b
 le:b.length<=10
 no:nN [.str (tx b)]=none
 x:xN [.str (tx b)]=some "NoName"
def Bd.ln(h:Bd b){kd:Str}(hk:kd= "name" ∨kd= "heap"):oJ [dk (.tup Ns) ks rows,.str kd,.str (tx b)]=none:=S3 hk h.no
def Bd.yn(h:Bd b){kd:Str}(hk:kd= "name" ∨kd= "heap"):Bx [dk (.tup Ns) ks rows,.str kd,.str (tx b)]=some "NoName" :=Xh hk h.no h.x
structure qM (ks:List Str) (rows:List D) (n:List Nat):Prop where
 nm:Nm n
 at':∃row,ks.contains (tx n)=true/\atK ks rows (tx n)=some (.lst row)
def qM.l(h:qM ks rows n){kd:Str}(hk:kd= "name" ∨kd= "heap"):∃r,oJ [dk (.tup Ns) ks rows,.str kd,.str (tx n)]=some r:=by
 obtain⟨hn,row,h1,h2⟩:=h;rcases hk with rfl | rfl
 .exact⟨_,A6 (rF hn)⟩
 .exact⟨_,vR hn h1 h2⟩
def cw_two{s:String}(hs:(kw s).all (λc=>c != 32)=true)(hl:(kw s).length<=20)(hc:look (tx (kw s)) bW=some kk)(hk:kk.length=2)(hb:cL (Qf (aB (bQ false) (dC (.str "net")) (Qd 2))) (Qf (aB (bQ false) (dC (.str "row")) (Qd 2))) [none,none,aA (.tup (kk.map .str))]=some false)(hn:32∉n)(h8:n.length<=100)(hn2:32∉n2)(h82:n2.length<=100):cW [.str (tx (kw s++32::(n++32::n2)))]=some (wD [kw s,n,n2],true):=
 (cw_pl (by simp only[Zm,ZA];lia) (w3 (eS hs) hn hn2) hc hb).1 (by rw[hk];rfl)
def cw_add{e:List Nat}(hn:32∉n)(h8:n.length<=100)(hn2:32∉n2)(h82:n2.length<=100)(he:32∉e)(h83:e.length<=100):cW [.str (tx (kw "add" ++32::(n++32::(n2++32::e))))]=some (wD [kw "add",n,n2,e],true):=
 (cw_pl (ks:=["name","heap","heap"]) (by simp only[Zm,ZA,show(kw "add").length=3 by decide+kernel];lia) (w4 (eS 'd') hn hn2 he) 'd' 'r').1 rfl
def cw_again(hn:32∉n)(h8:n.length<=100)(hn2:32∉n2)(h82:n2.length<=100):cW [.str (tx (kw "again" ++32::(n++32::n2)))]=some (wD [kw "again",n,n2],true):=cw_two (kk:=["name","heap"]) 'd' 'd' 'd' rfl 'r' hn h8 hn2 h82
def cw_alike(hn:32∉n)(h8:n.length<=100)(hn2:32∉n2)(h82:n2.length<=100):cW [.str (tx (kw "alike" ++32::(n++32::n2)))]=some (wD [kw "alike",n,n2],true):=cw_two (kk:=["heap","heap"]) 'd' 'd' 'd' rfl 'r' hn h8 hn2 h82
def Bd.lW(h:Bd b):b.length<=100:=ZE h.le ∅
def nL{Q:Str×Str->Prop}:∀q∈([]:List (Str×Str)),Q q:=λq h=>by simp at h
def xK{Q:Str×Str->Prop}{x:Str×Str}(h:Q x):∀q∈[x],Q q:=λq hq=>by rw[Zg.mp hq];exact h
section
variable (H:qM ks rows n) (B:Bd b)
include H B
def SP:QK [dk (.tup Ns) ks rows,.str (tx (kw "add" ++32::(n++32::(n++32::b))))]=some "NoName" :=
 iM (kk:=["name","heap","heap"]) (P1:=[("name",tx n),("heap",tx n)]) (p:=("heap",tx b)) (P2:=[]) (cw_add H.nm.free H.nm.le H.nm.free H.nm.le B.fr B.lW) 'd' rfl ⋯ rfl (λq hq=>by
  rcases Zj.mp hq with rfl | hq
  .exact H.l (.inl rfl)
  .rw[Zg.mp hq];exact H.l (.inr rfl)) (B.ln (.inr rfl)) (B.yn (.inr rfl))
def WS:QK [dk (.tup Ns) ks rows,.str (tx (kw "add" ++32::(n++32::(b++32::n))))]=some "NoName" :=
 iM (kk:=["name","heap","heap"]) (P1:=[("name",tx n)]) (p:=("heap",tx b)) (P2:=[("heap",tx n)]) (cw_add H.nm.free H.nm.le B.fr B.lW H.nm.free H.nm.le) 'd' rfl ⋯ rfl (xK (H.l (.inl rfl))) (B.ln (.inr rfl)) (B.yn (.inr rfl))
def Vb:QK [dk (.tup Ns) ks rows,.str (tx (kw "again" ++32::(n++32::b)))]=some "NoName" :=
 iM (kk:=["name","heap"]) (P1:=[("name",tx n)]) (p:=("heap",tx b)) (P2:=[]) (cw_again H.nm.free H.nm.le B.fr B.lW) 'd' rfl ⋯ rfl (xK (H.l (.inl rfl))) (B.ln (.inr rfl)) (B.yn (.inr rfl))
def PE:QK [dk (.tup Ns) ks rows,.str (tx (kw "alike" ++32::(b++32::n)))]=some "NoName" :=
 iM (kk:=["heap","heap"]) (P1:=[]) (p:=("heap",tx b)) (P2:=[("heap",tx n)]) (cw_alike B.fr B.lW H.nm.free H.nm.le) 'd' rfl ⋯ rfl nL (B.ln (.inr rfl)) (B.yn (.inr rfl))
def NB:QK [dk (.tup Ns) ks rows,.str (tx (kw "alike" ++32::(n++32::b)))]=some "NoName" :=
 iM (kk:=["heap","heap"]) (P1:=[("heap",tx n)]) (p:=("heap",tx b)) (P2:=[]) (cw_alike H.nm.free H.nm.le B.fr B.lW) 'd' rfl ⋯ rfl (xK (H.l (.inr rfl))) (B.ln (.inr rfl)) (B.yn (.inr rfl))
def Ul:QK [dk (.tup Ns) ks rows,.str (tx (kw "add" ++32::(b++32::(n++32::n))))]=some "NoName" :=
 iM (kk:=["name","heap","heap"]) (P1:=[]) (p:=("name",tx b)) (P2:=[("heap",tx n),("heap",tx n)]) (cw_add B.fr B.lW H.nm.free H.nm.le H.nm.free H.nm.le) 'd' rfl ⋯ rfl nL (B.ln (.inl rfl)) (B.yn (.inl rfl))
def V2:QK [dk (.tup Ns) ks rows,.str (tx (kw "again" ++32::(b++32::n)))]=some "NoName" :=
 iM (kk:=["name","heap"]) (P1:=[]) (p:=("name",tx b)) (P2:=[("heap",tx n)]) (cw_again B.fr B.lW H.nm.free H.nm.le) 'd' rfl ⋯ rfl nL (B.ln (.inl rfl)) (B.yn (.inl rfl))
end
section
variable (B:Bd b)
include B
def O8:QK [dk (.tup Ns) ks rows,.str (tx (kw "show" ++32::b))]=some "NoName" :=
 iM (kk:=["heap"]) (P1:=[]) (p:=("heap",tx b)) (P2:=[]) (cw_show B.fr B.lW) 'd' rfl ⋯ rfl nL (B.ln (.inr rfl)) (B.yn (.inr rfl))
def V6:QK [dk (.tup Ns) ks rows,.str (tx (kw "drop" ++32::b))]=some "NoName" :=
 iM (kk:=["heap"]) (P1:=[]) (p:=("heap",tx b)) (P2:=[]) (cw_drop B.fr B.lW) 'd' rfl ⋯ rfl nL (B.ln (.inr rfl)) (B.yn (.inr rfl))
def Tu:QK [dk (.tup Ns) ks rows,.str (tx (kw "still" ++32::b))]=some "NoName" :=
 iM (kk:=["heap"]) (P1:=[]) (p:=("heap",tx b)) (P2:=[]) (cw_still B.fr B.lW) 'd' rfl ⋯ rfl nL (B.ln (.inr rfl)) (B.yn (.inr rfl))
def Ri{r:List Nat}(hr:r.length<=400):QK [dk (.tup Ns) ks rows,.str (tx (kw "heap" ++32::(b++32::r)))]=some "NoName" :=
 iM (kk:=["name","row"]) (P1:=[]) (p:=("name",tx b)) (P2:=[("row",tx r)]) (cw_heap B.fr B.lW hr) 'd' rfl ⋯ rfl nL (B.ln (.inl rfl)) (B.yn (.inl rfl))
end
def PA(hn:Nm n)(hk:ks.contains (tx n)=false):QK [dk (.tup Ns) ks rows,.str (tx (kw "show" ++32::n))]=some "NoName" :=
 iM (kk:=["heap"]) (P1:=[]) (p:=("heap",tx n)) (P2:=[]) (cw_show hn.free hn.le) 'd' rfl ⋯ rfl nL (Tp (rF hn) hk) (WX (rF hn) hk)
def NO{r:List Nat}(hr:r.length<=400)(h0:oB [.str (tx r)]=none)(h:uS [.str (tx r)]=some c):QK [dk (.tup Ns) ks rows,.str (tx (kw "net" ++32::r))]=some c:=
 iM (kk:=["net"]) (P1:=[]) (p:=("net",tx r)) (P2:=[]) (cw_net hr) 'd' rfl ⋯ rfl nL (Vd h0) (NR h0 h)
def Vx{r:List Nat}(hn:Nm n)(hr:r.length<=400)(h0:rT [.str (tx r)]=none)(h:BY [.str (tx r)]=some c):QK [dk (.tup Ns) ks rows,.str (tx (kw "heap" ++32::(n++32::r)))]=some c:=
 iM (kk:=["name","row"]) (P1:=[("name",tx n)]) (p:=("row",tx r)) (P2:=[]) (cw_heap hn.free hn.le hr) 'd' rfl ⋯ rfl (xK ⟨_,A6 (rF hn)⟩) (U9 h0) (XQ h0 h)
def U8{r:List Nat}(hn:Nm n)(hr:r.length<=400)(h1:rT [.str (tx r)]=aA (.lst row))(h0:lT [.tup Ns,.lst [.lst row]]=none)(h:nG [.tup Ns,.lst [.lst row]]=some c):QK [dk (.tup Ns) ks rows,.str (tx (kw "heap" ++32::(n++32::r)))]=some c:=
 iM (kk:=["name","row"]) (P1:=[("name",tx n)]) (p:=("row",tx r)) (P2:=[]) (cw_heap hn.free hn.le hr) 'd' rfl ⋯ rfl (xK ⟨_,A6 (rF hn)⟩) (PT h1 h0) (Ti h0 h1 h)
end
end HS
namespace HS
open PySem PySem.Spec L2 PyProof.Rows PySem.NumText
open HN (w9 fH fK bP Q0 fD jF fC gU gW cO gG mJ jH lO jB QH QT jJ gH fZ lB jX lK lL kE jS bY l4 lY fX gY dW kT QW QY mR dF gT cG bD Qu isAt atK gA dP gF eN)
abbrev SF:DS:=(Qm 1 (dS "abcdefghijklmnopqrstuvwxyz"))
abbrev YL:DS:=(jS 2)
abbrev U5:DS:=(LD QM)
abbrev UP:DS:=(HC QM)
abbrev UX:DS:=Jh
abbrev Ę:DS:=(Mh QG)
abbrev WR:DS:=(Ik QM)
abbrev T3:DS:=GU
abbrev RY:DS:=I7
abbrev UD:DS:=(Gd QG)
abbrev Sr:DS:=(IE QM)
abbrev OA:DS:=(Kf QM QG)
abbrev XJ:DS:=(JZ QM)
abbrev Na:DS:=(He QM QG)
abbrev H0:List Str:=["a","b","c","d","e","f","g","h","i","j","k","l","m","n","o","p","q","r","s","t","u","v","w","x","y","z","aa","bb","cc","dd"]
abbrev Mz:D:=Qj 1 [(0,1),(0,1),(0,1)] []
noncomputable abbrev Lb:List D:=(List.range 29).map λk=> .lst [.int (k+1:Nat)]
abbrev Aq:D:=dk Mz H0 (.lst [.int 0]::Lb)
abbrev lV:D:=dk Mz H0 (.lst [.int 7]::Lb)
noncomputable abbrev eF(c:Int)(d:D)(x4 x5 x6:Option (D×Bool)):En:=[some (.int c,true),some (.str "abcdefghijklmnopqrstuvwxyz",true),some (d,false),some (.int 29,true),x4,x5,x6]
noncomputable abbrev q5(r:Nat):Str:=(["heap zzz 1","add zzz a b","again zzz a"]:List Str).getD r ""
abbrev vZ(q:Nat):Str:=(["c","d","e","f","g","h","i","j","k","l","m","n","o","p","q","r","s","t","u","v","w","x","y","z"]:List Str).getD q ""
noncomputable abbrev zR(r:Nat):Str:=(["add zzz a qq","add zzz qq a","again zzz qq","add zzz a A"]:List Str).getD r ""
def Ue(c:Int)(K:DS):Qa SF (Qa YL (Qa U5 (Qa UP K))) (Qy 7 [.int c])=K (eF c Aq none none none):= 'r'
def wY{L e:DE}{U:En}{r:Int}(h:e U=some (aY r)):Qg L e U=Qg L (dC (.int r)) U:=by unfold Qg;rw[h];rfl
def xQ{f g:DE}{U:En}(h:f U=g U):QP f U=QP g U:=by unfold QP;rw[h]
def xJ{i:Nat}{f g:DE}{U:En}(h:f U=g U):Qm i f U=Qm i g U:=by unfold Qm;rw[h]
def AF{f g K:DS}{U:En}(h:f U=g U):Qa f K U=Qa g K U:=by unfold Qa;rw[h]
section
variable {c:Int}{K:DS}{d:D}{x4 x5 x6:Option (D×Bool)}
def Mj{k:Int}(h:0<k){r:Nat}(hr:c % k=r):aB QX (Qd 0) (dC (.int k)) (eF c d x4 x5 x6)=some (aY r):=hr▸cZ (ra:=aY c) (rb:=aY k) rfl rfl rfl rfl h
def LY{k:Int}(h:0<k){r:Nat}(hr:c / 3 % k=r):aB QX (aB eJ (Qd 0) (dC (.int 3))) (dC (.int k)) (eF c d x4 x5 x6)=some (aY r):=hr▸cZ (rb:=aY k) (m5 (ra:=aY c) (rb:=aY 3) rfl rfl rfl rfl ∅ ∅) rfl rfl rfl h
def Yk{r:Nat}(h:r<3)(hr:c % 3=r):Qa UX K (eF c d none x5 x6)=K (eF c d (aA (.str (q5 r))) x5 x6):=by
 refine(AF (g:=(Qm 4 (QP (Qg (Qx (Qb (dC (.str "heap zzz 1")) (Qb (dC (.str "add zzz a b")) (Qb (dC (.str "again zzz a")) Qq)))) (dC (.int r)))))) (xJ (xQ (wY (Mj ∅ hr))))).trans ?_
 match r,h with
 | 0,_=>rfl
 | 1,_=>rfl
 | 2,_=>rfl
def YY{r:Nat}(h:r<3):Qa Ę K (eF c Aq (aA (.str (q5 r))) none none)=K (eF c Aq (aA (.str (q5 r))) none none):=by
 match r,h with
 | 0,_=>kernel_rfl
 | 1,_=>kernel_rfl
 | 2,_=>kernel_rfl
def X7{L e e':DE}{A:DA}{B:fK}{F G:DS}{R:fD}{i:Nat}{U:En}(h:Qg L e U=Qg L e' U):bY (dF (QY (QW (QH R i (Qb (Qg L e) A)))) B) F G U=bY (dF (QY (QW (QH R i (Qb (Qg L e') A)))) B) F G U:=by unfold HN.bY HN.dF HN.QY HN.QW HN.QH Qb;rw[h]
def ć{t:Str}{r:Nat}(h:r<2)(hr:c / 3 % 2=r):Qa WR K (eF c Aq (aA (.str t)) none none)=K (eF c lV (aA (.str t)) none none):=by
 refine(AF (g:=(bY (dF (QY (QW (QH ⟨3,QM⟩ 2 (Qb (Qg (Qx (Qb (dC (.str "add a a b")) (Qb (dC (.str "again a b")) Qq))) (dC (.int r))) (Qb (dC (.str "ok")) Qq))))) (QY (QW (QH ⟨3,QM⟩ 2 (Qb (dC (.str "heap a 7")) (Qb (dC (.str "ok")) Qq)))))) (Qa (gY (dW (dC (.bl false)))) Qc) Qc)) (X7 (wY (LY ∅ hr)))).trans ?_
 match r,h with
 | 0,_=>kernel_rfl
 | 1,_=>kernel_rfl
def YH{f g h:DE}{U:En}(e:g U=h U):Qk f g U=Qk f h U:=by unfold Qk;rw[e]
def DZ{L e e':DE}{U:En}(h:e U=e' U):Qg L e U=Qg L e' U:=by unfold Qg;rw[h]
def ç{q:Nat}(h:q<24)(hq:c / 3 % 24=q):Qa T3 K (eF c lV x4 none none)=K (eF c lV x4 (aA (.str (vZ q))) none):=by
 refine(AF (g:=(Qm 5 (QP (Qg (Qd 1) (Qk (dC (.int 2)) (dC (.int q))))))) (xJ (xQ (DZ (YH (LY ∅ hq)))))).trans ?_
 match q,h with
 | 0,_ | 1,_ | 2,_ | 3,_ | 4,_ | 5,_ | 6,_ | 7,_ | 8,_ | 9,_ | 10,_ | 11,_ | 12,_ | 13,_ | 14,_ | 15,_ | 16,_ | 17,_ | 18,_ | 19,_ | 20,_ | 21,_ | 22,_ | 23,_=>rfl
 | n+24,h=>exact absurd h ⋯
def YG{r:Nat}(h:r<4)(hr:c % 4=r):Qa RY K (eF c lV x4 x5 none)=K (eF c lV x4 x5 (aA (.str (zR r)))):=by
 refine(AF (g:=(Qm 6 (QP (Qg (Qx (Qb (dC (.str "add zzz a qq")) (Qb (dC (.str "add zzz qq a")) (Qb (dC (.str "again zzz qq")) (Qb (dC (.str "add zzz a A")) Qq))))) (dC (.int r)))))) (xJ (xQ (wY (Mj ∅ hr))))).trans ?_
 match r,h with
 | 0,_=>rfl
 | 1,_=>rfl
 | 2,_=>rfl
 | 3,_=>rfl
def Ĉ{t s:Str}{r:Nat}(h:r<4):Qa UD K (eF c lV (aA (.str t)) (aA (.str s)) (aA (.str (zR r))))=K (eF c lV (aA (.str t)) (aA (.str s)) (aA (.str (zR r)))):=by
 match r,h with
 | 0,_=>kernel_rfl
 | 1,_=>kernel_rfl
 | 2,_=>kernel_rfl
 | 3,_=>kernel_rfl
abbrev fT:DS:=Qa Sr (Qa OA (Qa XJ (Qa Na Qc)))
def Vy{u:Str}:((List.range 24).map λq=>fT (eF c lV (aA (.str (q5 0))) (aA (.str (vZ q))) (aA (.str u))))=(List.range 24).map λ_=>some (Out.rt (.bl true) true):= 'r'
def Ua{u:Str}:((List.range 24).map λq=>fT (eF c lV (aA (.str (q5 1))) (aA (.str (vZ q))) (aA (.str u))))=(List.range 24).map λ_=>some (Out.rt (.bl true) true):= 'r'
def Tj{u:Str}:((List.range 24).map λq=>fT (eF c lV (aA (.str (q5 2))) (aA (.str (vZ q))) (aA (.str u))))=(List.range 24).map λ_=>some (Out.rt (.bl true) true):= 'r'
def û(c:Int):tW [.int c]=some (.bl true):=by
 obtain⟨r,hr,h3⟩:∃r:Nat,c % 3=r/\r<3:=⟨(c % 3).toNat,⋯,⋯⟩;obtain⟨q,hq,h24⟩:∃q:Nat,c / 3 % 24=q/\q<24:=⟨(c / 3 % 24).toNat,⋯,⋯⟩;obtain⟨r4,hr4,h4⟩:∃r:Nat,c % 4=r/\r<4:=⟨(c % 4).toNat,⋯,⋯⟩;have hT:fT (eF c lV (aA (.str (q5 r))) (aA (.str (vZ q))) (aA (.str (zR r4))))=some (Out.rt (.bl true) true):=by
  match r,h3 with
  | 0,_=>exact List.map_inj_left.mp Vy q (Zr.mpr h24)
  | 1,_=>exact List.map_inj_left.mp Ua q (Zr.mpr h24)
  | 2,_=>exact List.map_inj_left.mp Tj q (Zr.mpr h24)
 have e:=(Ue c _).trans ((Yk h3 hr).trans ((YY h3).trans ((ć (r:=q % 2) ⋯ ⋯).trans ((ç h24 hq).trans ((YG h4 hr4).trans ((Ĉ h4).trans hT))))));unfold tW gU;rw[if_pos 'r',show MA QM QG (Qy 7 [.int c])=_ from e];rfl
end
end HS
namespace HS
open PySem PySem.Spec L2 PyProof.Rows PySem.NumText
open HN (fH fK bP Q0 fD jF fC gU gW cO gG mJ jH lO jB QH QT jJ gH fZ lB jX lK lL kE jS bY l4 lY fX gY dW kT QW QY mR dF gT cG bD Qu isAt atK gA dP gF eN)
section
variable {fs:DA}{U U':En}{ds:List D}{f:Bool}{M:List Nat}{fe fb:fH}{ga gb:fK}{g h:DS}{d:D}{e:Q0}{k:Nat}
def cE(hf:fs U=some ⟨ds,f,M⟩)(hl:ds.length=k)(he:e ds=some d):QT ⟨k,e⟩ fs U=some (d,U):=by
 unfold HN.QT;rw[hf,Option.bind_some,if_pos hl];show Option.map _ (e ds)=_;rw[he];rfl
def eZ(h:fe U=some (.bl true,U')):QY (QW fe) U=some (false,U'):=by
 unfold HN.QY HN.QW;rw[h];rfl
def pT(h:ga U=some (false,U')):dF ga gb U=gb U':=by
 unfold HN.dF;rw[h];rfl
def iP(hh:ga U=some (false,U')):bY ga g h U=h U':=by
 unfold HN.bY;rw[hh];rfl
def B2(h:fe U=some (.bl true,U')):gT fe fb U=fb U':=by
 unfold HN.gT;rw[h];rfl
def Ci(h:fe U=some (d,U')):gY fe U=some (.rt d true):=by
 unfold HN.gY;rw[h];rfl
def dR{n:Nat}(h:g (Qy n ds)=some (.rt (.bl true) true)):gW n g ds=some (.bl true):=by
 unfold gW;rw[h];rfl
end
section
variable {n b:List Nat}{ks:List Str}{rows Ns:List D}{c:Int}
abbrev eB(Ns:List D)(ks:List Str)(rows:List D)(c:Int)(n:List Nat)(x3 x4:Option (D×Bool)):En:=[some (dk (.tup Ns) ks rows,false),some (.int c,true),some (.str (tx n),true),x3,x4]
def XG:∃b,Bd b/\L0 (eB Ns ks rows c n none none)=some (.nx (eB Ns ks rows c n (aA (.str (tx b))) none)):=by
 obtain⟨k,hk,h8⟩:∃k:Nat,c / 5 % 8=k/\k<8:=⟨(c / 5 % 8).toNat,⋯,⋯⟩;have ix:aB QX (aB eJ (Qd 1) (dC (.int 5))) (dC (.int 8)) (eB Ns ks rows c n none none)=some (aY k):=hk▸cZ (m5 rfl rfl rfl rfl ∅ ∅) rfl rfl rfl ∅;have e:=xJ (i:=3) (xQ (wY (L:=(Qx (Qb (dC (.str "")) (Qb (dC (.str "A")) (Qb (dC (.str "a1")) (Qb (dC (.str "abcdefghi")) (Qb (dC (.str "a-b")) (Qb (dC (.str "aB")) (Qb (dC (.str "z_")) (Qb (dC (.str "{")) Qq)))))))))) ix))
 suffices hh:∃b,Bd b/\Qm 3 (QP (Qg ((Qx (Qb (dC (.str "")) (Qb (dC (.str "A")) (Qb (dC (.str "a1")) (Qb (dC (.str "abcdefghi")) (Qb (dC (.str "a-b")) (Qb (dC (.str "aB")) (Qb (dC (.str "z_")) (Qb (dC (.str "{")) Qq)))))))))) (dC (.int (k:Int))))) (eB Ns ks rows c n none none)=some (.nx (eB Ns ks rows c n (aA (.str (tx b))) none))from hh.imp λb hb=>⟨hb.1,e.trans hb.2⟩
 clear e ix hk
 match k,h8 with
 | 0,_=>exact⟨kw "",⟨eS 'd','d','r','r'⟩,'r'⟩
 | 1,_=>exact⟨kw "A",⟨eS 'd','d','r','r'⟩,'r'⟩
 | 2,_=>exact⟨kw "a1",⟨eS 'd','d','r','r'⟩,'r'⟩
 | 3,_=>exact⟨kw "abcdefghi",⟨eS 'd','d','r','r'⟩,'r'⟩
 | 4,_=>exact⟨kw "a-b",⟨eS 'd','d','r','r'⟩,'r'⟩
 | 5,_=>exact⟨kw "aB",⟨eS 'd','d','r','r'⟩,'r'⟩
 | 6,_=>exact⟨kw "z_",⟨eS 'd','d','r','r'⟩,'r'⟩
 | 7,_=>exact⟨kw "{",⟨eS 'd','d','r','r'⟩,'r'⟩
 | k+8,h=>exact absurd h ⋯
abbrev nX(n b:List Nat):List D:=[.str (tx ((((((kw "add ")++n)++(kw " "))++n)++(kw " "))++b)),.str (tx ((((((kw "add ")++n)++(kw " "))++b)++(kw " "))++n)),.str (tx ((((kw "again ")++n)++(kw " "))++b)),.str (tx ((((kw "alike ")++b)++(kw " "))++n)),.str (tx ((((kw "alike ")++n)++(kw " "))++b))]
abbrev nT(n b:List Nat):List D:=[.str (tx ((((((kw "add ")++b)++(kw " "))++n)++(kw " "))++n)),.str (tx ((((kw "again ")++b)++(kw " "))++n)),.str (tx ((kw "drop ")++b)),.str (tx ((kw "still ")++b))]
def VK(hn:n.length<=10)(hb:b.length<=10){K:DS}:Qa (J7) (Qa (MI) K) (eB Ns ks rows c n (aA (.str (tx b))) none)=K (eB Ns ks rows c n (aA (.str (tx b))) (aA (.lst (nX n b)))):=by
 have s1:Qm 4 ((Qx (Qb (Qk (Qk (Qk (Qk (Qk (dC (.str "add ")) (Qd 2)) (dC (.str " "))) (Qd 2)) (dC (.str " "))) (Qd 3)) (Qb (Qk (Qk (Qk (Qk (Qk (dC (.str "add ")) (Qd 2)) (dC (.str " "))) (Qd 3)) (dC (.str " "))) (Qd 2)) (Qb (Qk (Qk (Qk (dC (.str "again ")) (Qd 2)) (dC (.str " "))) (Qd 3)) Qq))))) (eB Ns ks rows c n (aA (.str (tx b))) none)=some (.nx (eB Ns ks rows c n (aA (.str (tx b))) (aA (.lst [.str (tx ((((((kw "add ")++n)++(kw " "))++n)++(kw " "))++b)),.str (tx ((((((kw "add ")++n)++(kw " "))++b)++(kw " "))++n)),.str (tx ((((kw "again ")++n)++(kw " "))++b))])))):=(cQ ((tL (Qe ((QF (QF (QF (QF (QF bU (cH rfl hn)) bU) (cH rfl hn)) bU) (cH rfl hb)).1) (Qe ((QF (QF (QF (QF (QF bU (cH rfl hn)) bU) (cH rfl hb)) bU) (cH rfl hn)).1) (Qe ((QF (QF (QF bU (cH rfl hn)) bU) (cH rfl hb)).1) (QC _)))) (by show(3:Nat)<=64;decide)).trans rfl)).trans rfl;have s2:Qm 4 ((Qk (Qd 4) (Qx (Qb (Qk (Qk (Qk (dC (.str "alike ")) (Qd 3)) (dC (.str " "))) (Qd 2)) (Qb (Qk (Qk (Qk (dC (.str "alike ")) (Qd 2)) (dC (.str " "))) (Qd 3)) Qq))))) (eB Ns ks rows c n (aA (.str (tx b))) (aA (.lst [.str (tx ((((((kw "add ")++n)++(kw " "))++n)++(kw " "))++b)),.str (tx ((((((kw "add ")++n)++(kw " "))++b)++(kw " "))++n)),.str (tx ((((kw "again ")++n)++(kw " "))++b))])))=some (.nx (eB Ns ks rows c n (aA (.str (tx b))) (aA (.lst (nX n b))))):=(cQ ((sA (M':=[]) rfl (Qe ((QF (QF (QF bU (cH rfl hb)) bU) (cH rfl hn)).1) (Qe ((QF (QF (QF bU (cH rfl hn)) bU) (cH rfl hb)).1) (QC _))) (by show(2:Nat)<=64;decide) (by show(3:Nat)+2<=1000;decide) rfl).trans rfl)).trans rfl;exact(Qs s1).trans (Qs s2)
def PN(hn:n.length<=10)(hb:b.length<=10){x4:Option (D×Bool)}{K:DS}:Qa (Ji) K (eB Ns ks rows c n (aA (.str (tx b))) x4)=K (eB Ns ks rows c n (aA (.str (tx b))) (aA (.lst (nT n b)))):=by
 have s1:Qm 4 ((Qx (Qb (Qk (Qk (Qk (Qk (Qk (dC (.str "add ")) (Qd 3)) (dC (.str " "))) (Qd 2)) (dC (.str " "))) (Qd 2)) (Qb (Qk (Qk (Qk (dC (.str "again ")) (Qd 3)) (dC (.str " "))) (Qd 2)) (Qb (Qk (dC (.str "drop ")) (Qd 3)) (Qb (Qk (dC (.str "still ")) (Qd 3)) Qq)))))) (eB Ns ks rows c n (aA (.str (tx b))) x4)=some (.nx (eB Ns ks rows c n (aA (.str (tx b))) (aA (.lst (nT n b))))):=(cQ ((tL (Qe ((QF (QF (QF (QF (QF bU (cH rfl hb)) bU) (cH rfl hn)) bU) (cH rfl hn)).1) (Qe ((QF (QF (QF bU (cH rfl hb)) bU) (cH rfl hn)).1) (Qe ((QF bU (cH rfl hb)).1) (Qe ((QF bU (cH rfl hb)).1) (QC _))))) (by show(4:Nat)<=64;decide)).trans rfl)).trans rfl;exact Qs s1
def T4(H:qM ks rows n)(B:Bd b){r:Nat}(h:r<5):QK [dk (.tup Ns) ks rows,(nX n b).getD r .aT]=some "NoName" :=by
 match r,h with
 | 0,_=>
  have e:(((((kw "add ")++n)++(kw " "))++n)++(kw " "))++b=kw "add" ++32::(n++32::(n++32::b)):=by rw[show kw "add " =kw "add" ++[32] by decide+kernel,kM];simp
  exact(congrArg (λl=>QK [dk (.tup Ns) ks rows,.str (tx l)]) e).trans (SP H B)
 | 1,_=>
  have e:(((((kw "add ")++n)++(kw " "))++b)++(kw " "))++n=kw "add" ++32::(n++32::(b++32::n)):=by rw[show kw "add " =kw "add" ++[32] by decide+kernel,kM];simp
  exact(congrArg (λl=>QK [dk (.tup Ns) ks rows,.str (tx l)]) e).trans (WS H B)
 | 2,_=>
  have e:(((kw "again ")++n)++(kw " "))++b=kw "again" ++32::(n++32::b):=by rw[show kw "again " =kw "again" ++[32] by decide+kernel,kM];simp
  exact(congrArg (λl=>QK [dk (.tup Ns) ks rows,.str (tx l)]) e).trans (Vb H B)
 | 3,_=>
  have e:(((kw "alike ")++b)++(kw " "))++n=kw "alike" ++32::(b++32::n):=by rw[show kw "alike " =kw "alike" ++[32] by decide+kernel,kM];simp
  exact(congrArg (λl=>QK [dk (.tup Ns) ks rows,.str (tx l)]) e).trans (PE H B)
 | 4,_=>
  have e:(((kw "alike ")++n)++(kw " "))++b=kw "alike" ++32::(n++32::b):=by rw[show kw "alike " =kw "alike" ++[32] by decide+kernel,kM];simp
  exact(congrArg (λl=>QK [dk (.tup Ns) ks rows,.str (tx l)]) e).trans (NB H B)
def UW(H:qM ks rows n)(B:Bd b){r:Nat}(h:r<4):QK [dk (.tup Ns) ks rows,(nT n b).getD r .aT]=some "NoName" :=by
 match r,h with
 | 0,_=>
  have e:(((((kw "add ")++b)++(kw " "))++n)++(kw " "))++n=kw "add" ++32::(b++32::(n++32::n)):=by rw[show kw "add " =kw "add" ++[32] by decide+kernel,kM];simp
  exact(congrArg (λl=>QK [dk (.tup Ns) ks rows,.str (tx l)]) e).trans (Ul H B)
 | 1,_=>
  have e:(((kw "again ")++b)++(kw " "))++n=kw "again" ++32::(b++32::n):=by rw[show kw "again " =kw "again" ++[32] by decide+kernel,kM];simp
  exact(congrArg (λl=>QK [dk (.tup Ns) ks rows,.str (tx l)]) e).trans (V2 H B)
 | 2,_=>
  have e:(kw "drop ")++b=kw "drop" ++32::b:=by rw[show kw "drop " =kw "drop" ++[32] by decide+kernel];simp
  exact(congrArg (λl=>QK [dk (.tup Ns) ks rows,.str (tx l)]) e).trans (V6 B)
 | 3,_=>
  have e:(kw "still ")++b=kw "still" ++32::b:=by rw[show kw "still " =kw "still" ++[32] by decide+kernel];simp
  exact(congrArg (λl=>QK [dk (.tup Ns) ks rows,.str (tx l)]) e).trans (Tu B)
def ó(H:qM ks rows n):yU [dk (.tup Ns) ks rows,.int c,.str (tx n)]=some (.bl true):=by
 have hn:n.length<=10:=by have:=H.nm.1;lia
 obtain⟨b,B,e0⟩:=XG (Ns:=Ns) (ks:=ks) (rows:=rows) (c:=c) (n:=n);obtain⟨r5,hr5,h5⟩:∃k:Nat,c % 5=k/\k<5:=⟨(c % 5).toNat,⋯,⋯⟩;obtain⟨r4,hr4,h4⟩:∃k:Nat,c % 4=k/\k<4:=⟨(c % 4).toNat,⋯,⋯⟩;have at5:∃d,(nX n b)[r5]? =some d:=⟨_,Zt (show r5<5 from h5)⟩;have at4:∃d,(nT n b)[r4]? =some d:=⟨_,Zt (show r4<4 from h4)⟩;obtain⟨d5,a5⟩:=at5;obtain⟨d4,a4⟩:=at4;have g5:(nX n b).getD r5 .aT=d5:=by rw[Zz,a5];rfl
 have g4:(nT n b).getD r4 .aT=d4:=by rw[Zz,a4];rfl
 have f5:d5.flat=true:=qV (xs:=nX n b) rfl a5;have f4:d4.flat=true:=qV (xs:=nT n b) rfl a4;have y5:=T4 (Ns:=Ns) H B h5;have y4:=UW (Ns:=Ns) H B h4;rw[g5]at y5;rw[g4]at y4;have i5:Qg (Qd 4) (aB QX (Qd 1) (dC (.int 5))) (eB Ns ks rows c n (aA (.str (tx b))) (aA (.lst (nX n b))))=some ⟨d5,true,[]⟩:=wC (xs:=nX n b) (f:=true) (M:=[4]) rfl (hr5▸cZ (a:=c) (b:=5) (ra:=aY c) (rb:=aY 5) rfl rfl rfl rfl ∅) a5 f5;have i4:Qg (Qd 4) (aB QX (Qd 1) (dC (.int 4))) (eB Ns ks rows c n (aA (.str (tx b))) (aA (.lst (nT n b))))=some ⟨d4,true,[]⟩:=wC (xs:=nT n b) (f:=true) (M:=[4]) rfl (hr4▸cZ (a:=c) (b:=4) (ra:=aY c) (rb:=aY 4) rfl rfl rfl rfl ∅) a4 f4;have t1:dZ (Qk (dC (.str "show ")) (Qd 3)) (eB Ns ks rows c n (aA (.str (tx b))) (aA (.lst (nX n b)))) ((kw "show ")++b) (20+10):=QF bU (cH rfl B.le);have t2:dZ (Qk (Qk (dC (.str "heap ")) (Qd 3)) (dC (.str " x"))) (eB Ns ks rows c n (aA (.str (tx b))) (aA (.lst (nT n b)))) (((kw "heap ")++b)++(kw " x")) (20+10+20):=QF (QF bU (cH rfl B.le)) bU;have q1:(kw "show ")++b=kw "show" ++32::b:=by rw[show kw "show " =kw "show" ++[32] by decide+kernel];simp
 have q2:((kw "heap ")++b)++(kw " x")=kw "heap" ++32::(b++32::[120]):=by rw[show kw "heap " =kw "heap" ++[32] by decide+kernel,show kw " x" =[32,120] by decide+kernel];simp
 rw[q1]at t1;rw[q2]at t2;have k1:=cE (k:=3) (Qe (r:=⟨dk (.tup Ns) ks rows,false,[]⟩) (fa:=Qd 0) rfl (Qe i5 (Qe (r:=aY 2) (fa:=dC (.int 2)) rfl (QC _)))) rfl (rf (k:=2) ∅ f5 y5);have k2:=cE (Qe (fa:=Qd 0) rfl (Qe t1.1 (Qe (fa:=dC (.int 2)) rfl (QC _)))) rfl (rf ∅ rfl (O8 B));have k3:=cE (Qe (fa:=Qd 0) rfl (Qe i4 (Qe (fa:=dC (.int 2)) rfl (QC _)))) rfl (rf ∅ f4 y4);have k4:=cE (Qe (fa:=Qd 0) rfl (Qe t2.1 (Qe (fa:=dC (.int 2)) rfl (QC _)))) rfl (rf ∅ rfl (Ri B ⋯));exact dR ((Qs e0).trans ((VK hn B.le).trans ((Qs ((iP ((pT (eZ k1)).trans (eZ k2))).trans rfl)).trans ((PN hn B.le).trans ((cT (Ci ((B2 k3).trans k4))).trans rfl)))))
end
noncomputable abbrev nA:List Str:=["","x","2 0-1 ","2  0-2","2 0-1*1 1-2","2 0-1*41","2 0-1*02","2 0>1* 1-2","10 0-1","2 a-b","-1 0-1"]
noncomputable abbrev nB:List Str:=["0","9 0-1","1 0-0","2 0-1","1 1>0 0-1","1 0-1*40 0-1","1 0-2 0-1"]
noncomputable abbrev nC:List Str:=["x"," 1","1  2","01","-0","+1","1 ","1.0","1000000000000000000","1-","--1","1_0"]
def S4:∀r,r<11->(cp (nA.getD r "")).length<=20:= 'd'
def O6:∀r,r<7->(cp (nB.getD r "")).length<=20:= 'd'
def LG:∀r,r<12->(cp (nC.getD r "")).length<=20:= 'd'
def UQ:((List.range 11).map λr=>oB [.str (tx (cp (nA.getD r "")))])=(List.range 11).map λ_=>none:= 'r'
def Þ:((List.range 11).map λr=>uS [.str (tx (cp (nA.getD r "")))])=(List.range 11).map λ_=>some ("NoText" :Str):= 'r'
def X0:((List.range 7).map λr=>oB [.str (tx (cp (nB.getD r "")))])=(List.range 7).map λ_=>none:= 'r'
def Ë:((List.range 7).map λr=>uS [.str (tx (cp (nB.getD r "")))])=(List.range 7).map λ_=>some ("NoNet" :Str):= 'r'
def SJ:((List.range 12).map λr=>rT [.str (tx (cp (nC.getD r "")))])=(List.range 12).map λ_=>none:= 'r'
def X4:((List.range 12).map λr=>BY [.str (tx (cp (nC.getD r "")))])=(List.range 12).map λ_=>some ("NoText" :Str):= 'r'
section
variable {m:Nat}{R L:bE}{n:List Nat}{ks:List Str}{rows Ns:List D}{f:b8}{c:Int}{x4 x5 x6 x7:Option (D×Bool)}{K:DS}
abbrev eT(N:D)(ks:List Str)(rows:List D)(c:Int)(n:List Nat)(row:D)(x4 x5 x6 x7:Option (D×Bool)):En:=[some (dk N ks rows,false),some (.int c,true),some (.str (tx n),true),some (row,false),x4,x5,x6,x7]
noncomputable abbrev sL(l:List Str):Option (D×Bool):=some (.lst (l.map .str),true)
def Kk{U:En}{e:DE}{l:List Str}{r k:Nat}{i:Nat}(h:U[i]? =some (sL l))(he:e U=some (aY r))(hr:r<l.length)(hk:(cp (l.getD r "")).length<=k):dZ (Qg (Qd i) e) U (cp (l.getD r "")) k:=by
 refine⟨wC (by unfold Qd;rw[h];rfl) he ?_ rfl,hk⟩;rw[kY,Zy,Zt hr,Zz,Zt hr];rfl
def tm{N row:D}{k:Int}(h:0<k){r:Nat}(hr:c % k=r):aB QX (Qd 1) (dC (.int k)) (eT N ks rows c n row x4 x5 x6 x7)=some (aY r):=hr▸cZ rfl rfl rfl rfl h
def Lj{l:List Str}{N row:D}{k r j:Nat}{x:Str}(hN:N= .tup Ns)(hr:c % (k:Int)=r)(hk:r<k)(hl:l.length=k)(h20:(cp (l.getD r "")).length<=20)(h0:oB [.str (tx (cp (l.getD r "")))]=none)(h:uS [.str (tx (cp (l.getD r "")))]=some x)(hj:j<9)(hx:x=jL.getD j ""):bY (QY (QW (QT ⟨3,QG⟩ (Qb (Qd 0) (Qb (Qk (dC (.str "net ")) (Qg (Qd 4) (aB QX (Qd 1) (dC (.int (k:Int)))))) (Qb (dC (.int (j:Int))) Qq)))))) (Qa (gY (dW (dC (.bl false)))) Qc) Qc (eT N ks rows c n row (sL l) x5 x6 x7)=some (.nx (eT N ks rows c n row (sL l) x5 x6 x7)):=by
 subst hN;have t1:dZ (Qk (dC (.str "net ")) (Qg (Qd 4) (aB QX (Qd 1) (dC (.int (k:Int)))))) (eT (.tup Ns) ks rows c n row (sL l) x5 x6 x7) (kw "net " ++cp (l.getD r "")) (20+20):=QF bU (Kk rfl (tm ⋯ hr) ⋯ h20);rw[show kw "net " ++cp (l.getD r "")=kw "net" ++32::cp (l.getD r "") by rw[show kw "net " =kw "net" ++[32] by decide+kernel];simp]at t1;exact(iP (eZ (cE (Qe rfl (Qe t1.1 (Qe rfl (QC _)))) rfl (rf hj rfl (hx▸NO ⋯ h0 h))))).trans rfl
def CH{N row:D}{U:En}{fa:DE}{t:List Nat}{j:Nat}(h0:U[0]? =some (some (dk N ks rows,false)))(h2:U[2]? =some (aA (.str (tx n))))(hn:n.length<=10)(ht:dZ fa U t 400)(hj:j<9)(hy:QK [dk N ks rows,.str (tx (kw "heap" ++32::(n++32::t)))]=some (jL.getD j "")):QT ⟨3,QG⟩ (Qb (Qd 0) (Qb (Qk (Qk (Qk (dC (.str "heap ")) (Qd 2)) (dC (.str " "))) fa) (Qb (dC (.int (j:Int))) Qq))) U=some (.bl true,U):=by
 have t1:dZ (Qk (Qk (Qk (dC (.str "heap ")) (Qd 2)) (dC (.str " "))) fa) U (((kw "heap " ++n)++kw " ")++t) (20+10+20+400):=QF (QF (QF bU (cH h2 hn)) bU) ht;rw[show((kw "heap " ++n)++kw " ")++t=kw "heap" ++32::(n++32::t) by rw[show kw "heap " =kw "heap" ++[32] by decide+kernel,kM];simp]at t1;exact cE (Qe (by unfold Qd;rw[h0];rfl) (Qe t1.1 (Qe rfl (QC _)))) rfl (rf hj rfl hy)
def run_eq{S:DS}{U U1:En}(h:Run S U (Nx λU'=>U'=U1)):S U=some (.nx U1):=by
 obtain⟨o,h1,h2⟩:=h;cases o with
 | nx U'=>rw[h1,show U'=U1 from h2]
 | _=>exact h2.elim
def sT{U:En}{fs:DA}{ns:List Int}{b:Bool}{M:List Nat}(h:fs U=some ⟨[Q7 ns],b,M⟩)(hs:Small 4 ns):dZ (Qh 1 jK [] fs) U (cp (c0 ns)) 400:=by
 refine⟨?_,?_⟩
 .rw[gB (n:=1) (f:=jK) h rfl (MK ns (hs.up ∅)),kY];rfl
 .have:=zY ∅ hs;rw[dK]at this;lia
def JG{ns:List Int}{x:Str}{N:D}(hN:N= .tup Ns)(hn:Nm n)(hs:Small 4 ns)(h0:lT [N,.lst [Q7 ns]]=none)(h:nG [N,.lst [Q7 ns]]=some x):QK [dk N ks rows,.str (tx (kw "heap" ++32::(n++32::cp (c0 ns))))]=some x:=by
 subst hN;refine U8 hn ?_ (by rw[kY];exact Hy (hs.up ∅)) h0 h;have:=zY ∅ hs;rw[dK]at this;lia
def H6:l8 lT nG:=Xi M7
def Jz:JA nG:=Sh M7 CW Z2
def YF:Qa (Ly) (Qa (Iv) K) (eT (.tup Ns) ks rows c n (Qi m f) none x5 x6 x7)=K (eT (.tup Ns) ks rows c n (Qi m f) (sL nA) x5 x6 x7):= 'r'
def Oo:Qa (G7) K (eT (.tup Ns) ks rows c n (Qi m f) x4 x5 x6 x7)=K (eT (.tup Ns) ks rows c n (Qi m f) (sL nB) x5 x6 x7):= 'r'
def YA:Qa (I5) K (eT (.tup Ns) ks rows c n (Qi m f) x4 x5 x6 x7)=K (eT (.tup Ns) ks rows c n (Qi m f) (sL nC) x5 x6 x7):= 'r'
abbrev dD(f:b8)(a:Nat)(c:Int):Nat->Int:=up f a (-1-c / 9 % 1000)
def VJ{N:D}{a:Nat}(ha:c % (m:Int)=a)(hm:0<m)(am:a<m):Qa (FC) (Qa ((Qm 6 (dList (Qb (Qd 3) Qq)))) (Qa (DR) K)) (eT N ks rows c n (Qi m f) x4 none none x7)=K (eT N ks rows c n (Qi m f) x4 (aI a) (aA (Qi m (dD f a c))) x7):=by
 have s1:FC (eT N ks rows c n (Qi m f) x4 none none x7)=some (.nx (eT N ks rows c n (Qi m f) x4 (aI a) none x7)):=(cQ (ha▸cZ rfl rfl ((o9 rfl rfl).trans (by rw[Zh,ZP])) rfl ⋯)).trans rfl;have s2:(Qm 6 (dList (Qb (Qd 3) Qq))) (eT N ks rows c n (Qi m f) x4 (aI a) none x7)=some (.nx (eT N ks rows c n (Qi m f) x4 (aI a) (aA (Qi m f)) x7)):=(cQ (Vh rfl i8.symm)).trans (by rw[i8];rfl);have s3:DR (eT N ks rows c n (Qi m f) x4 (aI a) (aA (Qi m f)) x7)=some (.nx (eT N ks rows c n (Qi m f) x4 (aI a) (aA (Qi m (dD f a c))) x7)):=run_eq (RQ rfl rfl rfl (QS rfl (cZ (m5 rfl rfl rfl rfl ∅ ∅) rfl rfl rfl ∅) rfl) rfl ⋯ ⋯ rfl);exact(Qs s1).trans ((Qs s2).trans (Qs s3))
def MN{U:En}{fa:DE}{r:HS.R}{ns:List Int}(h:fa U=some r)(e:r.d=Q7 ns):Q6 fa (QL (dC (.int 1))) Q3 U=some (aO (Q7 (ns.drop 1))):=by
 unfold Q6 QL Q3;rw[h,Option.bind_some];simp only[lD,Option.bind_some,e,Q7,cutD,Zh,eE];rw[show(1:Int)=((1:Nat):Int)from rfl,HT.Ai,HT.FR,← CB,← BA,zO,if_pos rfl];congr 4;rw[rM (by rw[mS];lia)];by_cases hz:ns.length=0
 .rw[List.length_eq_zero_iff.mp hz];rfl
 .rw[show min 1 ns.length=1 by lia]
def Mo{U:En}{fa:DE}{b:Bool}{M:List Nat}{ns:List Int}{k:Int}(h:fa U=some ⟨Q7 ns,b,M⟩)(hl:ns.length<=100):Qk fa (Qx (Qb (dC (.int k)) Qq)) U=some (aO (Q7 (ns++[k]))):=by
 have:=sA (M':=[]) (fs:=Qb (dC (.int k)) Qq) h rfl ⋯ (by simp;lia) (by rw[show ns.map D.int++[D.int k]=(ns++[k]).map D.int by simp];exact zO _);rw[this];unfold Q7;rw[ZH];rfl
def Â{N:D}{a:Nat}(hf:Rw m f)(m0:0<m)(m4:m<=4):∃wl:List Int,(wl.length:Int)≠m/\Small 4 wl/\Hc (eT N ks rows c n (Qi m f) x4 x5 (aA (Qi m (dD f a c))) none)=some (.nx (eT N ks rows c n (Qi m f) x4 x5 (aA (Qi m (dD f a c))) (aP (Q7 wl)))):=by
 obtain⟨k,hk,h4⟩:∃k:Nat,c % 4=k/\k<4:=⟨(c % 4).toNat,⋯,⋯⟩;have sm:∀g:Nat->Int,(∀j,j<m->(g j).natAbs<10^4)->Small 4 (rI m g):=λg hg=>⟨by simp[rI];lia,λx hx=>by
  obtain⟨j,hj,rfl⟩:=Zq.mp hx;exact hg j (Zr.mp hj)⟩
 have s1:=sm f λj hj=>by have:=hf j hj;lia
 have s2:=sm (dD f a c) λj hj=>by
  show(if j=a then _ else f j:Int).natAbs<_;have:=hf j hj;split<;>lia
 have lf:(rI m f).length=m:=by simp[rI]
 have lg:(rI m (dD f a c)).length=m:=by simp[rI]
 have sd:∀{l:List Int},Small 4 l->Small 4 (l.drop 1):=λh=>⟨by rw[mS];have:=h.1;lia,λx hx=>h.2 x (List.mem_of_mem_drop hx)⟩;have sa:∀{l:List Int}{v:Int},l.length=m->Small 4 l->v.natAbs<10->Small 4 (l++[v]):=λhl h hv=>⟨by rw[Zm,hl];simp;lia,λx hx=>by
  rcases Zf.mp hx with z | z
  .exact h.2 x z
  .rw[Zg.mp z];lia⟩
 have e1:=Mo (U:=eT N ks rows c n (Qi m f) x4 x5 (aA (Qi m (dD f a c))) none) (fa:=Qd 3) (b:=false) (M:=[]) (ns:=rI m f) (k:=0) (by rw[i8];rfl) (by rw[lf];lia);have e2:=MN (U:=eT N ks rows c n (Qi m f) x4 x5 (aA (Qi m (dD f a c))) none) (fa:=Qd 3) (r:=cU (Qi m f)) (ns:=rI m f) rfl i8.symm;have e3:=MN (U:=eT N ks rows c n (Qi m f) x4 x5 (aA (Qi m (dD f a c))) none) (fa:=Qd 6) (r:=⟨Qi m (dD f a c),true,[6]⟩) (ns:=rI m (dD f a c)) rfl i8.symm;have e4:=Mo (U:=eT N ks rows c n (Qi m f) x4 x5 (aA (Qi m (dD f a c))) none) (fa:=Qd 6) (b:=true) (M:=[6]) (ns:=rI m (dD f a c)) (k:=1) (by rw[i8];rfl) (by rw[lg];lia);have el:=tL (xs:=[Q7 (rI m f++[0]),Q7 ((rI m f).drop 1),Q7 ((rI m (dD f a c)).drop 1),Q7 (rI m (dD f a c)++[1])]) (f:=true) (M:=[]) (Qe e1 (Qe e2 (Qe e3 (Qe e4 (QC _))))) (by show(4:Nat)<=64;decide);have ix:=xJ (i:=7) (xQ (wY (tm (x4:=x4) (x5:=x5) (x6:=aA (Qi m (dD f a c))) (x7:=none) (n:=n) (N:=N) (row:=Qi m f) (ks:=ks) (rows:=rows) (show(0:Int)<4 by decide) hk) (L:=Qx (Qb (Qk (Qd 3) (Qx (Qb (dC (.int 0)) Qq))) (Qb (Q6 (Qd 3) (QL (dC (.int 1))) Q3) (Qb (Q6 (Qd 6) (QL (dC (.int 1))) Q3) (Qb (Qk (Qd 6) (Qx (Qb (dC (.int 1)) Qq))) Qq)))))));have fin:∀{L:DE}{xs:List D}{wl:List Int}{i:Nat},L (eT N ks rows c n (Qi m f) x4 x5 (aA (Qi m (dD f a c))) none)=some (aO (.lst xs))->eU xs (i:Int)=some (Q7 wl)->Qm 7 (QP (Qg L (dC (.int (i:Int))))) (eT N ks rows c n (Qi m f) x4 x5 (aA (Qi m (dD f a c))) none)=some (.nx (eT N ks rows c n (Qi m f) x4 x5 (aA (Qi m (dD f a c))) (aP (Q7 wl)))):=λ{L xs wl i} hL hx=>by
  refine(cQ (r:=cU (Q7 wl)) ?_).trans rfl;have:Qg L (dC (.int (i:Int))) (eT N ks rows c n (Qi m f) x4 x5 (aA (Qi m (dD f a c))) none)=some (aO (Q7 wl)):=by
   unfold Qg;rw[hL,Option.bind_some,lD,Option.bind_some];show Option.map (λd=>HS.R.norm ⟨d,true,[]⟩) (eU xs (i:Int))=_;rw[hx];rfl
  unfold QP;rw[this];rfl
 suffices hh:∃wl:List Int,(wl.length:Int)≠m/\Small 4 wl/\eU [Q7 (rI m f++[0]),Q7 ((rI m f).drop 1),Q7 ((rI m (dD f a c)).drop 1),Q7 (rI m (dD f a c)++[1])] (k:Int)=some (Q7 wl)from hh.imp λwl h=>⟨h.1,h.2.1,ix.trans (fin el h.2.2)⟩
 clear ix fin el e1 e2 e3 e4 hk
 match k,h4 with
 | 0,_=>exact⟨_,by rw[Zm,lf];simp;lia,sa lf s1 ∅,rfl⟩
 | 1,_=>exact⟨_,by rw[mS,lf];lia,sd s1,rfl⟩
 | 2,_=>exact⟨_,by rw[mS,lg];lia,sd s2,rfl⟩
 | 3,_=>exact⟨_,by rw[Zm,lg];simp;lia,sa lg s2 ∅,rfl⟩
def O9(H:kA m R L)(hn:Nm n)(hf:Rw m f):xC [dk (Qj m R L) ks rows,.int c,.str (tx n),Qi m f]=some (.bl true):=by
 have n10:n.length<=10:=by have:=hn.1;lia
 obtain⟨r11,hr11,h11⟩:∃k:Nat,c % 11=k/\k<11:=⟨(c % 11).toNat,⋯,⋯⟩;obtain⟨r7,hr7,h7⟩:∃k:Nat,c % 7=k/\k<7:=⟨(c % 7).toNat,⋯,⋯⟩;obtain⟨r12,hr12,h12⟩:∃k:Nat,c % 12=k/\k<12:=⟨(c % 12).toNat,⋯,⋯⟩;have m0:=H.m0;have m4:=H.m4;obtain⟨a,ha,am⟩:∃a:Nat,c % (m:Int)=a/\a<m:=by
  have h1:=ZM c (by lia:(m:Int)≠0);have h2:=ZQ c (by lia:(0:Int)<m);exact⟨(c % (m:Int)).toNat,⋯,⋯⟩
 obtain⟨wl,w1,w2,w3⟩:=Â (N:=Qj m R L) (ks:=ks) (rows:=rows) (c:=c) (n:=n) (a:=a) (x4:=sL nC) (x5:=aI a) hf m0 m4;have sb:Small 4 (rI m (dD f a c)):=⟨by simp[rI];lia,λx hx=>by
  obtain⟨j,hj,rfl⟩:=Zq.mp hx;show(if j=a then _ else f j:Int).natAbs<_;have:=hf j (Zr.mp hj);split<;>lia⟩
 have xw:nG [Qj m R L,.lst [Q7 wl]]=some "NoRow" :=Jz.row m R L (wl.map .int) (by rw[Zh];exact w1);have xb:nG [Qj m R L,.lst [Q7 (rI m (dD f a c))]]=some "NoHeap" :=by
  rw[i8];exact Jz.heap m R L (dD f a c) a am (by show(if a=a then _ else _:Int)<0;rw[if_pos rfl];lia)
 have k1:=Lj (l:=nA) (N:=Qj m R L) (row:=Qi m f) (ks:=ks) (rows:=rows) (n:=n) (x5:=none) (x6:=none) (x7:=none) (j:=3) rfl hr11 h11 rfl (S4 r11 h11) (List.map_inj_left.mp UQ r11 (Zr.mpr h11)) (List.map_inj_left.mp Þ r11 (Zr.mpr h11)) ∅ rfl;have k2:=Lj (l:=nB) (N:=Qj m R L) (row:=Qi m f) (ks:=ks) (rows:=rows) (n:=n) (x5:=none) (x6:=none) (x7:=none) (j:=1) rfl hr7 h7 rfl (O6 r7 h7) (List.map_inj_left.mp X0 r7 (Zr.mpr h7)) (List.map_inj_left.mp Ë r7 (Zr.mpr h7)) ∅ rfl;have k3:=CH (j:=3) (U:=eT (Qj m R L) ks rows c n (Qi m f) (sL nC) none none none) (row:= .aT) rfl rfl n10 (by have:=Kk (U:=eT (Qj m R L) ks rows c n (Qi m f) (sL nC) none none none) (i:=4) (k:=20) rfl (tm ∅ hr12) h12 (LG r12 h12);exact⟨this.1,ZE this.2 ∅⟩) ∅ (Vx hn (ZE (LG r12 h12) ∅) (List.map_inj_left.mp SJ r12 (Zr.mpr h12)) (List.map_inj_left.mp X4 r12 (Zr.mpr h12)));have k4:=CH (j:=4) (U:=eT (Qj m R L) ks rows c n (Qi m f) (sL nC) (aI a) (aA (Qi m (dD f a c))) (aP (Q7 wl))) (row:= .aT) rfl rfl n10 (sT (fs:=Qb (Qd 7) Qq) rfl w2) ∅ (JG rfl hn w2 (H6 _ (by rw[xw];nofun)) xw);have k5:=CH (j:=5) (U:=eT (Qj m R L) ks rows c n (Qi m f) (sL nC) (aI a) (aA (Qi m (dD f a c))) (aP (Q7 wl))) (row:= .aT) rfl rfl n10 (sT (fs:=Qb (Qd 6) Qq) (by rw[i8];rfl) sb) ∅ (JG rfl hn sb (H6 _ (by rw[xb];nofun)) xb);exact dR (YF.trans ((Qs k1).trans (Oo.trans ((Qs k2).trans (YA.trans ((Qs ((iP (eZ k3)).trans rfl)).trans ((VJ ha m0 am).trans ((Qs w3).trans ((Qs ((iP (eZ k4)).trans rfl)).trans ((cT (Ci k5)).trans rfl))))))))))
end
section
variable {m:Nat}{R L:bE}{n:List Nat}{ks:List Str}{rows:List D}{f:b8}{c:Str}
def Iz(hL:L≠[]):Cm [Qj m R L]=some "NotPlain" :=NT ES m R L hL
def JQ(hL:L≠[]):AZ [Qj m R L]=none:=ß _ (by rw[show Q8 1 (wK uA) [Qj m R L]=_ from Iz hL];nofun)
def G8(hL:L≠[]):Bl [Qj m R L,Qi m f]=some "NotPlain" :=
 hV (q:=("NotPlain",Qy 8 [Qj m R L,Qi m f])) (dM (qL (fF rfl (JQ hL))) (kS rfl rfl (Iz hL)))
def Jo(hL:L≠[]):kL [Qj m R L,Qi m f]=none:=
 mW (eC (qL (fF rfl (JQ hL))))
def Lg{a:List Nat}(q1:aW (.str (tx a)) (.str "rings")=some (.bl false))(q2:aW (.str (tx a)) (.str "many")=some (.bl false))(q3:aW (.str (tx a)) (.str "nought")=some (.bl false))(q4:aW (.str (tx a)) (.str "alike")=some (.bl false))(h0:rA [Qj m R L,.str (tx a),Qi m f]=none)(h:v8 [Qj m R L,.str (tx a),Qi m f]=some c):xY [Qj m R L,.str (tx a),.lst [Qi m f]]=none/\Fw [Qj m R L,.str (tx a),.lst [Qi m f]]=some c:=by
 have cc:∀{y:Str}{v:Bool},aW (.str (tx a)) (.str y)=some (.bl v)->Qf (aB aW (Qd 1) (dC (.str y))) (Qy 3 [Qj m R L,.str (tx a),.lst [Qi m f]])=some v:=λe=>Q4 rfl e
 exact⟨mW ((Qs (QA (cc q1))).trans ((Qs (QA (cc q2))).trans ((Qs (QA (cc q3))).trans ((Qs (QA (cc q4))).trans (eC (mG (fF rfl h0))))))),
  hV ((cB (QA (cc q1))).trans ((cB (QA (cc q2))).trans ((cB (QA (cc q3))).trans ((cB (QA (cc q4))).trans (dM (mG (fF rfl h0)) (kS (r:=⟨[Qj m R L,.str (tx a),Qi m f],false,[]⟩) rfl rfl h))))))⟩
def Wa(hL:L≠[]):rA [Qj m R L,.str (tx (kw "fire")),Qi m f]=none/\v8 [Qj m R L,.str (tx (kw "fire")),Qi m f]=some "NotPlain" :=by
 have cc:∀{y:Str}{v:Bool},aW (.str (tx (kw "fire"))) (.str y)=some (.bl v)->Qf (aB aW (Qd 1) (dC (.str y))) (Qy 3 [Qj m R L,.str (tx (kw "fire")),Qi m f])=some v:=λe=>Q4 rfl e;have e:eM iU (dC (.str " ")) (Qb (Qz (QD (Qh 2 kL [] (Qb (Qd 0) (Qb (Qd 2) Qq)))) (.nm 1) [none,none] QJ (jP (Qf (aB (gJ false) (Qd 1) (dC .aT))) (dC (.str ".")) (aS f9 (Qb (Qd 1) Qq)))) Qq) (Qy 3 [Qj m R L,.str (tx (kw "fire")),Qi m f])=none:=by
  have e0:=fF (n:=2) (fs:=Qb (Qd 0) (Qb (Qd 2) Qq)) (U:=Qy 3 [Qj m R L,.str (tx (kw "fire")),Qi m f]) rfl (Jo hL);have e1:QD (Qh 2 kL [] (Qb (Qd 0) (Qb (Qd 2) Qq))) (Qy 3 [Qj m R L,.str (tx (kw "fire")),Qi m f])=none:=by unfold QD;rw[e0];rfl
  have e2:Qz (QD (Qh 2 kL [] (Qb (Qd 0) (Qb (Qd 2) Qq)))) (.nm 1) [none,none] QJ (jP (Qf (aB (gJ false) (Qd 1) (dC .aT))) (dC (.str ".")) (aS f9 (Qb (Qd 1) Qq))) (Qy 3 [Qj m R L,.str (tx (kw "fire")),Qi m f])=none:=by unfold Qz;rw[e1];rfl
  have e3:Qb (Qz (QD (Qh 2 kL [] (Qb (Qd 0) (Qb (Qd 2) Qq)))) (.nm 1) [none,none] QJ (jP (Qf (aB (gJ false) (Qd 1) (dC .aT))) (dC (.str ".")) (aS f9 (Qb (Qd 1) Qq)))) Qq (Qy 3 [Qj m R L,.str (tx (kw "fire")),Qi m f])=none:=by
   show Option.bind (Qz _ _ _ _ _ _) _=none;rw[e2];rfl
  unfold eM;rw[e3];rfl
 exact⟨mW ((Qs (QA (cc 'r'))).trans ((Qs (QA (cc 'r'))).trans (eC ((dX (cc 'r')).trans (eC (mG e)))))),
  hV ((cB (QA (cc 'r'))).trans ((cB (QA (cc 'r'))).trans (dM ((dX (cc 'r')).trans (eC (mG e))) ((l9 (cc 'r')).trans (dM (mG e) (kS (r:=⟨[Qj m R L,Qi m f],false,[]⟩) rfl rfl (G8 hL)))))))⟩
def Se(h:r8 [Qj m R L,Qi m f]=some c):rA [Qj m R L,.str (tx (kw "tree")),Qi m f]=none/\v8 [Qj m R L,.str (tx (kw "tree")),Qi m f]=some c:=by
 have cc:∀{y:Str}{v:Bool},aW (.str (tx (kw "tree"))) (.str y)=some (.bl v)->Qf (aB aW (Qd 1) (dC (.str y))) (Qy 3 [Qj m R L,.str (tx (kw "tree")),Qi m f])=some v:=λe=>Q4 rfl e
 exact⟨mW ((Qs (QA (cc 'r'))).trans ((Qs (QA (cc 'r'))).trans ((Qs (QA (cc 'r'))).trans ((Qs (QA (cc 'r'))).trans (eC ((dX (cc 'r')).trans rfl)))))),
  hV ((cB (QA (cc 'r'))).trans ((cB (QA (cc 'r'))).trans ((cB (QA (cc 'r'))).trans ((cB (QA (cc 'r'))).trans (dM ((dX (cc 'r')).trans rfl) ((l9 (cc 'r')).trans (dM rfl (kS (r:=⟨[Qj m R L,Qi m f],false,[]⟩) rfl rfl h))))))))⟩
def VY(hL:L≠[]):r8 [Qj m R L,Qi m f]=some "NotPlain" :=
 hV (q:=("NotPlain",Qy 7 [Qj m R L,Qi m f])) (dM (uE (fF rfl (Jo hL))) (kS rfl rfl (G8 hL)))
def Hu:F5 kL:=Nc (OY ES) (Kh CW) Dl So
def Ð:Mg Au:=ï Hu (Kr Dl)
def Sv(m0:0<m)(m4:m<=4)(hR:∀p∈R,Good m p)(hl:R.length<=20):r8 [Qj m R [],Qi m λ_=>40]=some "NotAgain" :=by
 have hpos:∀j,j<m->0<=(λ_:Nat=>(40:Int)) j:=λj _=>by dsimp only;lia
 have sp:∀S:List (Int×Int),(∀s∈S,Good m s)->(S.map λr=>bN 0 r.1+bN 0 r.2).sum<=S.length:=λS=>by
  induction S with
  | nil=>intro _;simp
  | cons s S ih=>
   intro h;have h1:=ih λt ht=>h t (Zl _ ht);have h2:=(h s Zs).2.2.2.2;rw[Zp,kX,ZA];have h3:bN 0 s.1+bN 0 s.2<=1:=by unfold bN;split<;>split<;>lia
   lia
 have hc:F0 R m (λ_=>40) (hJ (dB m (QI R [])) (λ_=>40) m m)=false:=by
  have h1:=sp R hR;unfold F0;rw[Bool.and_eq_false_iff];left;rw[List.all_eq_false];refine⟨0,Zr.mpr m0,?_⟩;have:cM R [] 0<=R.length:=by unfold cM;simpa using h1
  simp;lia
 have ec:=Ð m R (λ_=>40) m0 ⋯ ⋯ hR hpos;rw[hc]at ec;have ef:=Hu m R (λ_=>40) m0 ⋯ ⋯ hR hpos;generalize bT m (hJ (dB m (QI R [])) (λ_=>40) m m)=F at ef;obtain⟨x2,e1⟩:∃x2,Qm 2 (Qh 2 kL [] (Qb (Qd 0) (Qb (Qd 1) Qq))) (Qy 7 [Qj m R [],Qi m λ_=>40])=some (.nx [aP (Qj m R []),aP (Qi m λ_=>40),x2,none,none,none,none]):=by
  rw[cQ (gB (n:=2) rfl rfl ef),if_pos rfl,lU];exact⟨_,rfl⟩
 have e2:g8 (Qf (Qh 2 Au [] (Qb (Qd 0) (Qb (Qd 1) Qq)))) [aP (Qj m R []),aP (Qi m λ_=>40),x2,none,none,none,none]=some true:=yJ (b:=false) (QB (QO rfl ec rfl) rfl);exact hV (q:=("NotAgain",[aP (Qj m R []),aP (Qi m λ_=>40),x2,none,none,none,none])) ((cB e1).trans (dM ((dX e2).trans rfl) ((l9 e2).trans rfl)))
def OI(hn:Nm n)(hL:L≠[])(hk:ks.contains (tx n)=true)(ha:atK ks rows (tx n)=some (Qi m f)):QK [dk (Qj m R L) ks rows,.str (tx (kw "fire" ++32::n))]=some "NotPlain" :=by
 obtain⟨h0,h1⟩:=Wa hL;obtain⟨a0,a1⟩:=Lg 'r' 'r' 'r' 'r' h0 h1;exact LW a0 (cw_fire hn.free hn.le) 'd' 'r' 'r' 'r' 'r' (vR hn hk ha) a1
def Nb(hn:Nm n)(h:r8 [Qj m R L,Qi m f]=some c)(hk:ks.contains (tx n)=true)(ha:atK ks rows (tx n)=some (Qi m f)):QK [dk (Qj m R L) ks rows,.str (tx (kw "tree" ++32::n))]=some c:=by
 obtain⟨h0,h1⟩:=Se h;obtain⟨a0,a1⟩:=Lg 'r' 'r' 'r' 'r' h0 h1;exact LW a0 (cw_tree hn.free hn.le) 'd' 'r' 'r' 'r' 'r' (vR hn hk ha) a1
end
section
variable {a b n:List Nat}{r1 r2 r N N' q:D}{m i k:Nat}{R L:bE}{f:b8}{ks ks':List Str}{rows rows':List D}{U:En}{fs:DA}{ra:RA}{mk:bP}
def Bv(h:a≠b):tx a≠tx b:=λe=>h (by have:=congrArg cp e;rwa[cF,cF]at this)
def vC:([tx a]:List Str).contains (tx a)=true:= ⋯
def F4(h:a≠b):([tx a]:List Str).contains (tx b)=false:=by
 have:=Bv (Ne.symm h);simp[this]
def Lc:([tx a,tx b]:List Str).contains (tx b)=true:= ⋯
def fU:atK [tx a] [r] (tx a)=some r:=by unfold HN.atK;simp
def at2(h:a≠b):atK [tx a,tx b] [r1,r2] (tx b)=some r2:=by
 have:=Bv h;unfold HN.atK;simp[this]
def OO:gA [tx a] (tx a)=[tx a]:=by unfold HN.gA;rw[vC,if_pos rfl]
def RC:dP [tx a] [r1] (tx a) r=[r]:=by unfold HN.dP;rw[vC,if_pos rfl];simp
def X9(h:a≠b):gA [tx a] (tx b)=[tx a,tx b]:=by unfold HN.gA;rw[F4 h];rfl
def Sk(h:a≠b):dP [tx a] [r1] (tx b) r=[r1,r]:=by unfold HN.dP;rw[F4 h];rfl
def Us(h:a≠b):gF [tx a,tx b] (tx b)=[tx a]:=by
 have:=Bv h;unfold HN.gF;simp[this]
def Si(h:a≠b):eN [tx a,tx b] [r1,r2] (tx b)=[r1]:=by
 have:=Bv h;unfold HN.eN;simp[this]
def cD(h0:U[i]? =some (some (dk N ks rows,false)))(e:fs U=some ra)(hl:cG i U=true)(hb:Qu (N::rows)=true)(hr:Qu ra.ds=true)(hn:ra.ds.length+1=k)(hm:mk (dk N ks rows::ra.ds)=some (q,dk N' ks' rows')):QH ⟨k,mk⟩ i fs U=some (q,(dH ra.M U).set i (some (dk N' ks' rows',false))):=by
 unfold HN.QH;rw[h0];dsimp only;rw[e,Option.bind_some,if_pos (by rw[hl,hb,hr,decide_eq_true hn];rfl),hm];rfl
def e9{d:D}(h:bD d=true)(h2:Qu rows=true):Qu (d::rows)=true:=by unfold Qu;rw[h,h2];rfl
def kW{t:Str}:bD (.str t)=true:=by unfold bD;rfl
def oP:bD (Qi m f)=true:=by unfold Qi bD;exact Aj
def F8(H:kA m R L)(hn:Nm n)(hf:Rw m f):oA [dk (Qj m R L) [tx n] [Qi m f],.str (tx n),Qi m f]=some (.bl true,dk (Qj m R L) [tx n] [Qi m f]):=by
 have n10:n.length<=10:=by have:=hn.1;lia
 have hr:Qu [Qi m f]=true:=e9 oP (by unfold Qu;rfl);have hb:Qu (Qj m R L::[Qi m f])=true:=e9 mO hr;have lo:cG 0 [some (dk (Qj m R L) [tx n] [Qi m f],false),aA (.str (tx n)),aP (Qi m f)]=true:=by
  show((decide (0=0) || bD (dk (Qj m R L) [tx n] [Qi m f])) && ((decide (1=0) || bD (.str (tx n))) && ((decide (2=0) || bD (Qi m f)) && true)))=true;rw[kW,oP];rfl
 have t1:dZ (Qk (dC (.str "show ")) (Qd 1)) [some (dk (Qj m R L) [tx n] [Qi m f],false),aA (.str (tx n)),aP (Qi m f)] (kw "show " ++n) (20+10):=QF bU (cH rfl n10);rw[show kw "show " ++n=kw "show" ++32::n by rw[show kw "show " =kw "show" ++[32] by decide+kernel];simp]at t1;have t2:=sT (U:=[some (dk (Qj m R L) [tx n] [Qi m f],false),aA (.str (tx n)),aP (Qi m f)]) (fs:=Qb (Qd 2) Qq) (by rw[i8];rfl) (hf.small H.m4 ∅);have t2':=t2.1;rw[kY]at t2';have c1:=cD (k:=3) (U:=[some (dk (Qj m R L) [tx n] [Qi m f],false),aA (.str (tx n)),aP (Qi m f)]) (fs:=Qb (dC (.str "names")) (Qb (Qd 1) Qq)) rfl rfl lo hb (e9 kW (e9 kW (by unfold Qu;rfl))) rfl (ù H hn hr);have c2:=cD (k:=3) rfl (Qe t1.1 (Qe t2' (QC _))) lo hb (e9 kW (e9 kW (by unfold Qu;rfl))) rfl (Ki H hn hf hr vC fU);refine rR (b:=false) (cT ?_);unfold HN.fX;rw[show Qy 3 [dk (Qj m R L) [tx n] [Qi m f],.str (tx n),Qi m f]=[some (dk (Qj m R L) [tx n] [Qi m f],false),aA (.str (tx n)),aP (Qi m f)]from rfl,B2 c1];show Option.bind (QH ⟨3,QM⟩ 0 _ [some (dk (Qj m R L) [tx n] [Qi m f],false),aA (.str (tx n)),aP (Qi m f)]) _=_;rw[c2];rfl
end
section
variable {m:Nat}{R L:bE}{a b:List Nat}{f:b8}{ns:List Int}{d od x3 x4 x5:D}{b4:Bool}
abbrev gQ(a b:List Nat)(x3 x4 x5:D):D:= .lst [.str (tx a),.str (tx b),x3,x4,x5]
abbrev lE(ns:List Int)(N NM:D)(a:List Nat)(row:D)(b4:Bool)(d od:D):En:=[nS ns,some (N,true),some (NM,true),some (.str (tx a),true),some (row,b4),some (d,false),some (od,true)]
def NW(h2:bD (gQ a b x3 x4 x5)=true)(ho:bD od=true):cG 5 (lE ns (Qj m R L) (gQ a b x3 x4 x5) a (Qi m f) b4 d od)=true:=by
 show((decide (0=5) || bD (.lst (ns.map .int))) && ((decide (1=5) || bD (Qj m R L)) && ((decide (2=5) || bD (gQ a b x3 x4 x5)) && ((decide (3=5) || bD (.str (tx a))) && ((decide (4=5) || bD (Qi m f)) && ((decide (5=5) || bD d) && ((decide (6=5) || bD od) && true)))))))=true;rw[mO,h2,kW,oP,ho,show bD (.lst (ns.map .int))=true by unfold bD;exact Ao ns];rfl
def xX{U:En}{k:Nat}(h:U[0]? =some (nS ns)):Qh 2 QR [] (Qb (Qd 0) (Qb (dC (.int (k:Int))) Qq)) U=some (aY (ns.getD k 0)):=QO (Qe (hZ h) (Qe (lD _ _) (QC _))) (BO ns k) rfl
end
section
variable {m k:Nat}{R L:bE}{a b n t:List Nat}{ns:List Int}{N N' d od x3 x4 x5 NM row:D}{b4:Bool}{U:En}{fn ft f2:DE}{K:DS}{ks ks':List Str}{rows rows':List D}{sv:Str}
def Fc(hn:dZ fn U n 10)(ht:dZ ft U t 400):dZ (Qk (Qk (Qk (dC (.str "heap ")) fn) (dC (.str " "))) ft) U (kw "heap" ++32::(n++32::t)) 450:=by
 have t1:dZ (Qk (Qk (Qk (dC (.str "heap ")) fn) (dC (.str " "))) ft) U (((kw "heap " ++n)++kw " ")++t) (20+10+20+400):=QF (QF (QF bU hn) bU) ht;rwa[show((kw "heap " ++n)++kw " ")++t=kw "heap" ++32::(n++32::t) by rw[show kw "heap " =kw "heap" ++[32] by decide+kernel,kM];simp]at t1
def yM{s s2:String}(h:kw s=kw s2++[32])(hl:(kw s).length<=20)(hn:dZ fn U n 10):dZ (Qk (dC (.str s)) fn) U (kw s2++32::n) 30:=by
 have t1:dZ (Qk (dC (.str s)) fn) U (kw s++n) (20+10):=QF (bU hl) hn;rwa[sp h]at t1
def vJ(hl:cG 5 (lE ns N NM a row b4 (dk N' ks rows) od)=true)(hb:Qu (N'::rows)=true)(h1:ft (lE ns N NM a row b4 (dk N' ks rows) od)=some (aO (.str (tx t))))(h2:f2 (lE ns N NM a row b4 (dk N' ks rows) od)=some (aO (.str sv))){N2:D}(hm:QM [dk N' ks rows,.str (tx t),.str sv]=some (.bl true,dk N2 ks' rows')):QH ⟨3,QM⟩ 5 (Qb ft (Qb f2 Qq)) (lE ns N NM a row b4 (dk N' ks rows) od)=some (.bl true,lE ns N NM a row b4 (dk N2 ks' rows') od):=
 (cD rfl (Qe h1 (Qe h2 (QC _))) hl hb (e9 kW (e9 kW (by unfold Qu;rfl))) rfl hm).trans rfl
def yR(h1:ft (lE ns N NM a row b4 (dk N' ks rows) od)=some ⟨d,true,[]⟩)(hd:d.flat=true)(hk:k<9)(hy:QK [dk N' ks rows,d]=some (jL.getD k "")):QT ⟨3,QG⟩ (Qb (Qd 5) (Qb ft (Qb (dC (.int (k:Int))) Qq))) (lE ns N NM a row b4 (dk N' ks rows) od)=some (.bl true,lE ns N NM a row b4 (dk N' ks rows) od):=
 cE (Qe rfl (Qe h1 (Qe rfl (QC _)))) rfl (rf hk hd hy)
def EA{i:Nat}(h:U[i]? =some (some (d,true)))(hd:d.flat=true):Qd i U=some ⟨d,true,[]⟩:=by unfold Qd;rw[h];dsimp only;rw[if_pos hd]
def IW:∀{xs:List D}{r:Nat}{d:D},Qu xs=true->xs[r]? =some d->bD d=true
 | [],r,d,_,h=>by simp at h
 | x::xs,0,d,hf,h=>by
  unfold Qu at hf;rw[Ze]at hf;simp at h;rw[← h];exact hf.1
 | x::xs,r+1,d,hf,h=>by
  unfold Qu at hf;rw[Ze]at hf;exact IW hf.2 (by simpa using h)
def Vi{c:Int}{r:Nat}(h:r<27):bD ((jM c n).getD r .aT)=true:=by
 obtain⟨d,hd⟩:∃d,(jM c n)[r]? =some d:=⟨_,Zt (show r<27 from h)⟩;rw[Zz,hd];exact IW 'r' hd
noncomputable abbrev fR(ns:List Int):Nat->Int:=λk=>ns.getD (8+k) 0 % 31
def XN:Rw m (fR ns):=λj _=>by show 0<=ns.getD (8+j) 0 % 31/\ns.getD (8+j) 0 % 31<100;lia
def XO(m4:m<=4)(uU:a.length<=10)(hnet:qR [.lst (ns.map .int),.int 4]=aA (Qj m R L))(hnm:sP [.lst (ns.map .int),.int 7]=some (gQ a b x3 x4 x5,true))(hod:rD [.int (ns.getD 12 0),.str (tx a)]=some (od,true))(hof:od.flat=true):Qa ((y0 qR)) (Qa ((Cz sP)) (Qa ((Qm 3 (QP (Qg (Qd 2) (dC (.int 0)))))) (Qa ((Fm QR)) (Qa ((jS 5)) (Qa ((EP QR rD)) K))))) (Qy 7 [.lst (ns.map .int)])=K (lE ns (Qj m R L) (gQ a b x3 x4 x5) a (Qi m (fR ns)) true (dk .aT [] []) od):=by
 have s0:(y0 qR) [nS ns,none,none,none,none,none,none]=some (.nx [nS ns,aA (Qj m R L),none,none,none,none,none]):=(cQ (gB (r:=⟨[.lst (ns.map .int),.int 4],false,[]⟩) rfl rfl hnet)).trans rfl;have s1:(Cz sP) [nS ns,aA (Qj m R L),none,none,none,none,none]=some (.nx [nS ns,aA (Qj m R L),some (gQ a b x3 x4 x5,true),none,none,none,none]):=(cQ (gB (r:=⟨[.lst (ns.map .int),.int 7],false,[]⟩) rfl rfl hnm)).trans rfl;have s2:(Qm 3 (QP (Qg (Qd 2) (dC (.int 0))))) [nS ns,aA (Qj m R L),some (gQ a b x3 x4 x5,true),none,none,none,none]=some (.nx [nS ns,aA (Qj m R L),some (gQ a b x3 x4 x5,true),aA (.str (tx a)),none,none,none]):=rfl;have s3:(Fm QR) [nS ns,aA (Qj m R L),some (gQ a b x3 x4 x5,true),aA (.str (tx a)),none,none,none]=some (.nx [nS ns,aA (Qj m R L),some (gQ a b x3 x4 x5,true),aA (.str (tx a)),aA (Qi m (fR ns)),none,none]):=by
  refine(cQ (kP (List.range m) (sU rfl rfl ⋯) rfl λk _=>⟨[none,aI k,nS ns],rfl,aY (fR ns k),?_,rfl,rfl⟩)).trans rfl;refine cZ (QO (r:=⟨[.lst (ns.map .int),.int ((8+k:Nat):Int)],false,[]⟩) ?_ (BO ns (8+k)) rfl) rfl rfl rfl ∅;exact(Qe rfl (Qe (eY rfl rfl rfl rfl) (QC _))).trans (by rw[show((8+k:Nat):Int)=8+(k:Int) by lia];rfl)
 have s4:(jS 5) [nS ns,aA (Qj m R L),some (gQ a b x3 x4 x5,true),aA (.str (tx a)),aA (Qi m (fR ns)),none,none]=some (.nx [nS ns,aA (Qj m R L),some (gQ a b x3 x4 x5,true),aA (.str (tx a)),aA (Qi m (fR ns)),some (dk .aT [] [],false),none]):=rfl;have s5:(EP QR rD) [nS ns,aA (Qj m R L),some (gQ a b x3 x4 x5,true),aA (.str (tx a)),aA (Qi m (fR ns)),some (dk .aT [] [],false),none]=some (.nx (lE ns (Qj m R L) (gQ a b x3 x4 x5) a (Qi m (fR ns)) true (dk .aT [] []) od)):=by
  refine(cQ (gB ((Qe (xX rfl) (Qe rfl (QC _))).trans rfl) rfl hod)).trans ?_;show some (Out.nx (asg 6 ⟨od,true,[]⟩ _))=_;rw[lU];rfl
 exact(Qs (show(y0 qR) (Qy 7 [.lst (ns.map .int)])=_ from s0)).trans ((Qs s1).trans ((Qs s2).trans ((Qs s3).trans ((Qs s4).trans (Qs s5)))))
end
structure Sc (m:Nat) (R L:bE) (a b:List Nat) (x3 x4 x5 od:D):Prop where
 N:kA m R L
 ha:Nm a
 hb:Nm b
 ne:a≠b
 nb:bD (gQ a b x3 x4 x5)=true
 ob:bD od=true
 fl:od.flat=true
 od:∀{N:D}{ks:List Str}{rows:List D},QK [dk N ks rows,od]=some "NoDeed"
section
variable {m:Nat}{R L:bE}{a b:List Nat}{f:b8}{ns:List Int}{od x3 x4 x5 d:D}{b4:Bool}
abbrev lF(ns:List Int)(m:Nat)(R L:bE)(a b:List Nat)(x3 x4 x5:D)(f:b8)(b4:Bool)(d od:D):En:=lE ns (Qj m R L) (gQ a b x3 x4 x5) a (Qi m f) b4 d od
def Sc.uU(S:Sc m R L a b x3 x4 x5 od):a.length<=10:=by have:=S.ha.1;lia
def Sc.Xj(S:Sc m R L a b x3 x4 x5 od):b.length<=10:=by have:=S.hb.1;lia
def Sc.cG(S:Sc m R L a b x3 x4 x5 od):cG 5 (lF ns m R L a b x3 x4 x5 f b4 d od)=true:=NW S.nb S.ob
def vN:Qu (Qj m R L::[Qi m f])=true:=e9 mO (e9 oP (by unfold Qu;rfl))
def LU{g:b8}:Qu (Qj m R L::[Qi m f,Qi m g])=true:=e9 mO (e9 oP (e9 oP (by unfold Qu;rfl)))
def wJ:Qu [Qi m f]=true:=e9 oP (by unfold Qu;rfl)
def JP{g:b8}:Qu [Qi m f,Qi m g]=true:=e9 oP (e9 oP (by unfold Qu;rfl))
def zK(S:Sc m R L a b x3 x4 x5 od):dZ (Qd 3) (lF ns m R L a b x3 x4 x5 f b4 d od) a 10:=cH rfl S.uU
def AE(S:Sc m R L a b x3 x4 x5 od):dZ (Qg (Qd 2) (dC (.int 1))) (lF ns m R L a b x3 x4 x5 f b4 d od) b 10:=⟨rfl,S.Xj⟩
def CU(S:Sc m R L a b x3 x4 x5 od)(hf:Rw m f):dZ (Qh 1 jK [] (Qb (Qd 4) Qq)) (lF ns m R L a b x3 x4 x5 f b4 d od) (cp (c0 (rI m f))) 400:=by
 cases b4 with
 | true=>exact sT (by rw[i8];rfl) (hf.small S.N.m4 ∅)
 | false=>exact sT (by rw[i8];rfl) (hf.small S.N.m4 ∅)
noncomputable abbrev fM:Nat->Int:=λ_=>40
def CJ:Rw m fM:=λj _=>by show(0:Int)<=40/\(40:Int)<100;decide
def Gh(S:Sc m R L a b x3 x4 x5 od):bS (Qx (Qb (dC (.int 40)) Qq)) (Qg (Qd 1) (dC (.int 0))) (lF ns m R L a b x3 x4 x5 f b4 d od)=some (aO (Qi m fM)):=Io rfl rfl (by have:=S.N.m4;lia)
def Ø(S:Sc m R L a b x3 x4 x5 od):dZ (Qh 1 jK [] (Qb (bS (Qx (Qb (dC (.int 40)) Qq)) (Qg (Qd 1) (dC (.int 0)))) Qq)) (lF ns m R L a b x3 x4 x5 f b4 d od) (cp (c0 (rI m fM))) 400:=
 sT (b:=true) ((Qe (Gh S) (QC _)).trans (by rw[i8];rfl)) (CJ.small S.N.m4 ∅)
def Em(S:Sc m R L a b x3 x4 x5 od)(hf:Rw m f):QY (QW (QH ⟨3,oA⟩ 5 (Qb (Qd 3) (Qb (Qd 4) Qq)))) (lF ns m R L a b x3 x4 x5 f b4 (dk (Qj m R L) [tx a] [Qi m f]) od)=some (false,lF ns m R L a b x3 x4 x5 f false (dk (Qj m R L) [tx a] [Qi m f]) od):=by
 refine eZ ?_;cases b4 with
 | true=>exact(cD (ra:=⟨[.str (tx a),Qi m f],true,[4]⟩) rfl rfl S.cG vN (e9 kW wJ) rfl (F8 S.N S.ha hf)).trans rfl
 | false=>exact(cD (ra:=⟨[.str (tx a),Qi m f],false,[]⟩) rfl rfl S.cG vN (e9 kW wJ) rfl (F8 S.N S.ha hf)).trans rfl
def WM(S:Sc m R L a b x3 x4 x5 od):(GQ QR QG uP) (lF ns m R L a b x3 x4 x5 f b4 (dk .aT [] []) od)=some (.nx (lF ns m R L a b x3 x4 x5 f b4 (dk .aT [] []) od)):=by
 obtain⟨r,hr,h16⟩:∃r:Nat,ns.getD 13 0 % 16=r/\r<16:=⟨(ns.getD 13 0 % 16).toNat,⋯,⋯⟩
 have e1:Qh 2 uP [] (Qb (Qh 2 QR [] (Qb (Qd 0) (Qb (dC (.int 13)) Qq))) (Qb (Qd 3) Qq)) (lF ns m R L a b x3 x4 x5 f b4 (dk .aT [] []) od)=some ⟨(lZ (ns.getD 13 0) a).getD r .aT,true,[]⟩:=
  (gB ((Qe (xX rfl) (Qe rfl (QC _))).trans rfl) rfl (UE S.uU hr h16)).trans rfl
 exact(iP ((pT (eZ (yR e1 (We h16) ∅ (ĉ S.ha h16)))).trans (eZ (yR (EA rfl S.fl) S.fl ∅ S.od)))).trans rfl
def UB(S:Sc m R L a b x3 x4 x5 od)(hf:Rw m f):(HH QM jK v7) (lF ns m R L a b x3 x4 x5 f true (dk .aT [] []) od)=some (.nx (lF ns m R L a b x3 x4 x5 f true (dk (Qj m R L) [tx a] [Qi m f]) od)):=by
 have e1:Qh 1 v7 [] (Qb (Qd 1) Qq) (lF ns m R L a b x3 x4 x5 f true (dk .aT [] []) od)=some (aO (.str (tx (kw "net" ++32::cp (dY m (gE R L)))))):=(gB (r:=⟨[Qj m R L],true,[1]⟩) rfl rfl (ã (by have:=S.N.m4;lia) S.N.hR S.N.hL S.N.few)).trans rfl;have k1:=vJ (f2:=dC (.str "ok")) S.cG (by unfold Qu Qu bD;rfl) e1 rfl (Nk S.N);have h2:=FI S.N S.ha hf (ks:=[]) (rows:=[]) ∅ (by unfold Qu;rfl);have k2:=vJ (ns:=ns) (b4:=true) (f2:=dC (.str "ok")) S.cG (e9 mO (by unfold Qu;rfl)) (Fc (zK S) (CU S hf)).1 rfl h2;exact(iP ((pT (eZ k1)).trans (eZ k2))).trans rfl
def OL(S:Sc m R L a b x3 x4 x5 od)(hf:Rw m f):(IY QG oA uM) (lF ns m R L a b x3 x4 x5 f b4 (dk (Qj m R L) [tx a] [Qi m f]) od)=some (.nx (lF ns m R L a b x3 x4 x5 f false (dk (Qj m R L) [tx a] [Qi m f]) od)):=by
 have k1:=yR (ns:=ns) (N:=Qj m R L) (NM:=gQ a b x3 x4 x5) (a:=a) (row:=Qi m f) (b4:=b4) (N':=Qj m R L) (ks:=[tx a]) (rows:=[Qi m f]) (ft:=Qd 6) (k:=0) (EA rfl S.fl) S.fl ∅ S.od;have k2:=cE (Qe (U:=lF ns m R L a b x3 x4 x5 f b4 (dk (Qj m R L) [tx a] [Qi m f]) od) (fa:=Qd 5) rfl (Qe (EA (i:=6) rfl S.fl) (QC _))) rfl (bn S.fl S.od);exact(iP ((pT (eZ k1)).trans ((pT (eZ k2)).trans (Em S hf)))).trans rfl
def TK(S:Sc m R L a b x3 x4 x5 od):qM [tx a] [Qi m f] a:=⟨S.ha,_,vC,fU⟩
def Xg(S:Sc m R L a b x3 x4 x5 od)(hf:Rw m f):(Gs QR oA yU) (lF ns m R L a b x3 x4 x5 f b4 (dk (Qj m R L) [tx a] [Qi m f]) od)=some (.nx (lF ns m R L a b x3 x4 x5 f false (dk (Qj m R L) [tx a] [Qi m f]) od)):=by
 have k1:=cE (Qe (U:=lF ns m R L a b x3 x4 x5 f b4 (dk (Qj m R L) [tx a] [Qi m f]) od) (fa:=Qd 5) rfl (Qe (xX (k:=14) rfl) (Qe (fa:=Qd 3) rfl (QC _)))) rfl (ó (TK S));exact(iP ((pT (eZ k1)).trans (Em S hf))).trans rfl
def Xl(S:Sc m R L a b x3 x4 x5 od)(hf:Rw m f):(Kb QR oA xC) (lF ns m R L a b x3 x4 x5 f false (dk (Qj m R L) [tx a] [Qi m f]) od)=some (.nx (lF ns m R L a b x3 x4 x5 f false (dk (Qj m R L) [tx a] [Qi m f]) od)):=by
 have k1:=cE (Qe (U:=lF ns m R L a b x3 x4 x5 f false (dk (Qj m R L) [tx a] [Qi m f]) od) (fa:=Qd 5) rfl (Qe (xX (k:=15) rfl) (Qe (fa:=Qd 3) rfl (Qe (fa:=Qd 4) rfl (QC _))))) rfl (O9 S.N S.ha hf);exact(iP ((pT (eZ k1)).trans (Em S hf))).trans rfl
def VM(S:Sc m R L a b x3 x4 x5 od):(Mi QG) (lF ns m R L a b x3 x4 x5 f b4 (dk (Qj m R L) [tx a] [Qi m f]) od)=some (.nx (lF ns m R L a b x3 x4 x5 f b4 (dk (Qj m R L) [tx a] [Qi m f]) od)):=
 (iP (eZ (yR (yM 'd' 'd' (AE S)).1 rfl ∅ (PA S.hb (F4 S.ne))))).trans rfl
def ę(S:Sc m R L a b x3 x4 x5 od)(hf:Rw m f):(GA QM jK) (lF ns m R L a b x3 x4 x5 f b4 (dk (Qj m R L) [tx a] [Qi m f]) od)=some (.nx (lF ns m R L a b x3 x4 x5 f b4 (dk (Qj m R L) [tx a,tx b] [Qi m f,Qi m f]) od)):=by
 have h2:=FI S.N S.hb hf (ks:=[tx a]) (rows:=[Qi m f]) ⋯ wJ;rw[X9 S.ne,Sk S.ne]at h2;exact(iP (eZ (vJ S.cG vN (Fc (AE S) (CU S hf)).1 rfl h2))).trans rfl
def RV(S:Sc m R L a b x3 x4 x5 od)(hf:Rw m f):(Kc QM jK) (lF ns m R L a b x3 x4 x5 f b4 (dk (Qj m R L) [tx a,tx b] [Qi m f,Qi m f]) od)=some (.nx (lF ns m R L a b x3 x4 x5 f b4 (dk (Qj m R L) [tx a] [Qi m f]) od)):=by
 have tr:=(CU (ns:=ns) (b4:=b4) (d:=dk (Qj m R L) [tx a,tx b] [Qi m f,Qi m f]) S hf).1;rw[kY]at tr;have k1:=vJ S.cG LU (yM (s:= "show ") 'd' 'd' (AE S)).1 tr (Ki S.N S.hb hf JP Lc (at2 S.ne));have h2:=ü (rows:=[Qi m f,Qi m f]) S.N S.hb hf JP ⋯ Lc (at2 S.ne);rw[Us S.ne,Si S.ne]at h2;have k2:=vJ (ns:=ns) (b4:=b4) (row:=Qi m f) (f2:=dC (.str "ok")) S.cG LU (yM (s:= "drop ") 'd' 'd' (AE S)).1 rfl h2;exact(iP ((pT (eZ k1)).trans (eZ k2))).trans rfl
def M9(S:Sc m R L a b x3 x4 x5 od):(JK QM jK) (lF ns m R L a b x3 x4 x5 f b4 (dk (Qj m R L) [tx a] [Qi m f]) od)=some (.nx (lF ns m R L a b x3 x4 x5 f b4 (dk (Qj m R L) [tx a] [Qi m fM]) od)):=by
 have h2:=FI S.N S.ha CJ (ks:=[tx a]) (rows:=[Qi m f]) ⋯ wJ;rw[OO,RC]at h2;exact(iP (eZ (vJ S.cG vN (Fc (zK S) (Ø S)).1 rfl h2))).trans rfl
def Fo{d:D}:aB bX (Qg (Qd 1) (dC (.int 2))) (Qx Qq) (lF ns m R L a b x3 x4 x5 f b4 d od)=some (aO (.bl (!L.isEmpty))):=by
 refine QS rfl rfl ?_;show(if((Qr L).sim 8 && (D.lst []).sim 8)=true then some (D.bl (!dI (Qr L) (.lst [])))else none)=_;rw[Ww,if_pos (by rfl)];cases L<;>rfl
def Px(S:Sc m R L a b x3 x4 x5 od):(H5 QG) (lF ns m R L a b x3 x4 x5 f b4 (dk (Qj m R L) [tx a] [Qi m fM]) od)=some (.nx (lF ns m R L a b x3 x4 x5 f b4 (dk (Qj m R L) [tx a] [Qi m fM]) od)):=by
 have e:kT (Qf (aB bX (Qg (Qd 1) (dC (.int 2))) (Qx Qq))) (lF ns m R L a b x3 x4 x5 f b4 (dk (Qj m R L) [tx a] [Qi m fM]) od)=some (!L.isEmpty,lF ns m R L a b x3 x4 x5 f b4 (dk (Qj m R L) [tx a] [Qi m fM]) od):=by
  unfold HN.kT;rw[QB Fo rfl];rfl
 refine(iP (U':=lF ns m R L a b x3 x4 x5 f b4 (dk (Qj m R L) [tx a] [Qi m fM]) od) ?_).trans rfl;unfold HN.mR;rw[e,Option.bind_some];by_cases hL:L=[]
 .rw[if_neg (by rw[hL];exact ZL)]
 .rw[if_pos (by cases L with | nil=>exact absurd rfl hL | cons p L=>rfl)];exact eZ (yR (yM 'd' 'd' (zK S)).1 rfl ∅ (OI S.ha hL vC fU))
def Pe(S:Sc m R L a b x3 x4 x5 od):(LC QG) (lF ns m R L a b x3 x4 x5 f b4 (dk (Qj m R L) [tx a] [Qi m fM]) od)=some (.nx (lF ns m R L a b x3 x4 x5 f b4 (dk (Qj m R L) [tx a] [Qi m fM]) od)):=by
 have ix:∃k:Nat,k<9/\Qg (Qx (Qb (dC (.int 7)) (Qb (dC (.int 6)) Qq))) (aS n9 (Qb (aB bX (Qg (Qd 1) (dC (.int 2))) (Qx Qq)) Qq)) (lF ns m R L a b x3 x4 x5 f b4 (dk (Qj m R L) [tx a] [Qi m fM]) od)=some (aY k)/\r8 [Qj m R L,Qi m fM]=some (jL.getD k ""):=by
  by_cases hL:L=[]
  .refine⟨7,∅,?_,?_⟩
   .have e:=kZ (g:=n9) (d:= .int 0) (Fo (m:=m) (R:=R) (L:=L) (a:=a) (b:=b) (f:=f) (ns:=ns) (od:=od) (x3:=x3) (x4:=x4) (x5:=x5) (b4:=b4) (d:=dk (Qj m R L) [tx a] [Qi m fM])) (by rw[hL];rfl);rw[DZ (e':=dC (.int 0)) e];rfl
   .subst hL;exact Sv S.N.m0 S.N.m4 S.N.hR (by have:=S.N.few;lia)
  .refine⟨6,∅,?_,VY hL⟩;have e:=kZ (g:=n9) (d:= .int 1) (Fo (m:=m) (R:=R) (L:=L) (a:=a) (b:=b) (f:=f) (ns:=ns) (od:=od) (x3:=x3) (x4:=x4) (x5:=x5) (b4:=b4) (d:=dk (Qj m R L) [tx a] [Qi m fM])) (by cases L with | nil=>exact absurd rfl hL | cons p L=>rfl);rw[DZ (e':=dC (.int 1)) e];rfl
 obtain⟨k,hk,e1,e2⟩:=ix;have t1:=yM (s:= "tree ") (s2:= "tree") 'd' 'd' (zK (ns:=ns) (f:=f) (b4:=b4) (d:=dk (Qj m R L) [tx a] [Qi m fM]) S);exact(iP (eZ (cE (Qe rfl (Qe t1.1 (Qe e1 (QC _)))) rfl (rf hk rfl (Nb S.ha e2 vC fU))))).trans rfl
def YT(S:Sc m R L a b x3 x4 x5 od):(Ja QR oA tW) (lF ns m R L a b x3 x4 x5 f b4 (dk (Qj m R L) [tx a] [Qi m fM]) od)=some (.rt (.bl true) true):=by
 have k1:=cD (U:=lF ns m R L a b x3 x4 x5 f b4 (dk (Qj m R L) [tx a] [Qi m fM]) od) (fs:=Qb (Qd 3) (Qb (bS (Qx (Qb (dC (.int 40)) Qq)) (Qg (Qd 1) (dC (.int 0)))) Qq)) (ra:=⟨[.str (tx a),Qi m fM],true,[]⟩) rfl ((Qe rfl (Qe (Gh S) (QC _))).trans rfl) S.cG vN (e9 kW wJ) rfl (F8 S.N S.ha CJ);have k2:=cE (fs:=Qb (Qh 2 QR [] (Qb (Qd 0) (Qb (dC (.int 16)) Qq))) Qq) (Qe (U:=lF ns m R L a b x3 x4 x5 f b4 (dk (Qj m R L) [tx a] [Qi m fM]) od) (xX rfl) (QC _)) rfl (û _);exact Ci ((B2 k1).trans k2)
def P6(ns:List Int):zT [.lst (ns.map .int)]=some (.bl true):=by
 obtain⟨m,W,hnet,m0,m4,hl,hW⟩:=V5 BO ns;obtain⟨a,b,x3,x4,x5,hnm,ha,hb,ne⟩:=Xd BO ns;obtain⟨r,hr,h27⟩:∃r:Nat,ns.getD 12 0 % 27=r/\r<27:=⟨(ns.getD 12 0 % 27).toNat,⋯,⋯⟩;have uU:a.length<=10:=by have:=ha.1;lia
 have S:Sc m (gZ W) (eV W) a b (.str (tx x3)) (.str (tx x4)) (.str (tx x5)) ((jM (ns.getD 12 0) a).getD r .aT):=⟨Xn m0 m4 hl hW,ha,hb,ne,'r',Vi h27,Xq h27,VU ha h27⟩;have hf:Rw m (fR ns):=XN;have e:=(XO m4 uU hnet hnm (X8 uU hr h27) S.fl).trans ((Qs (WM S)).trans ((Qs (UB S hf)).trans ((Qs (OL S hf)).trans ((Qs (Xg S hf)).trans ((Qs (Xl S hf)).trans ((Qs (VM S)).trans ((Qs (ę S hf)).trans ((Qs (RV S hf)).trans ((Qs (M9 S)).trans ((Qs (Px S)).trans ((Qs (Pe S)).trans (cT (g:=Qc) (YT S)))))))))))));unfold zT gU;rw[if_pos (e9 (by unfold bD;exact Ao ns) (by unfold Qu;rfl)),show Me qR sP QR rD QG uP QM jK v7 oA uM yU xC tW (Qy 7 [.lst (ns.map .int)])=_ from e];rfl
end
end HS
namespace Law
open PySem L2 HS HN
noncomputable section
def top(i:Nat):Stmt:=PySem.Challenge.pw_heapstill_k75_desk_refused.main.body.getD i (.Pass ⟨0,0,0,0⟩)
abbrev cst:List (Str×Cn):=[("MOST_PLACES",.inl 8),("MOST_WAYS",.inl 40),("MOST_SPANS",.inl 300),("FIGURES",.inr "0123456789"),("MOST_FIGURES",.inl 18),("MOST_ALIKE",.inl 40),("ROAD",.inr "-"),("LANE",.inr ">"),("LETTERS",.inr "abcdefghijklmnopqrstuvwxyz"),("MOST_LETTERS",.inl 8),("MOST_KEPT",.inl 30)]
abbrev C0:Cs:={cs:=cst,bC:=true,dc:=[("COMMANDS",HS.bW)],sub:=qZ,cls:=jL}
def TT:Tb:=aE (aD (aR (aR (aV (aV (aD (aR (aR (aH (aV (aV (aV (aV (aV (Ec (Ec (Ju (fG (fG (aV (fG (fG (aX (aV (fG (fG (fG (fG (fG (fG (aV (aV (aV (aV (aV (aV (fG (aV (aV (aV (fG (fG (fG (aV (fG (aV (fG (aV (aV (aV (aV (aV (aV (aV (aV (aV (aV (aV (aV (aV (aV (fG (fG ({}) "need_rows" (top 13) ["net","rows"] HS.GW HS.vP) "need_heaps" (top 14) ["net","heaps"] HS.nG HS.lT) "column" (top 16) ["table","at"] HS.Ds) "turned" (top 17) ["table"] HS.GH) "opposite" (top 20) ["line"] HS.EN) "common" (top 24) ["numbers"] HS.HI) "with_pivot" (top 26) ["lines","at"] HS.Hl) "taken_off" (top 27) ["line","pivot_line","at","before"] HS.JI) "cleared" (top 25) ["lines"] HS.H2) "cleared_whole" (top 29) ["lines"] HS.MT) "shared_out" (top 31) ["table","row"] HS.Jm) "steps" (top 33) ["roads","lanes"] HS.FY) "toll_table" (top 34) ["net"] HS.qQ) "span_list" (top 35) ["net"] HS.yQ) "after" (top 36) ["net","row","counts"] HS.Lh) "net_table" (top 38) ["net"] HS.IB) "need_numbers" (top 45) ["net"] HS.Kw HS.Cu) "leads" (top 48) ["many","roads","lanes"] HS.C3) "need_ways" (top 46) ["net"] HS.L5 HS.CK) "is_plain" (top 49) ["net"] HS.uA) "need_small_spans" (top 47) ["net"] HS.MQ HS.Du) "made_net" (top 44) ["many","roads","lanes"] HS.M8 HS.Eg) "need_plain" (top 50) ["net"] HS.Cm HS.AZ) "settled" (top 53) ["tolls","heap","counts"] HS.KS) "still" (top 52) ["net","heap"] HS.xO) "roads_among" (top 54) ["toll","place","places"] HS.EE) "fire" (top 56) ["net","heap"] HS.Bl HS.kL) "comes_again" (top 57) ["net","heap"] HS.Au) "near_counts" (top 72) ["net","row"] HS.IT) "doubled_spans" (top 73) ["net"] HS.GP) "again" (top 71) ["net","row"] HS.I2) "heap_sum" (top 74) ["net","one","other"] HS.J8) "text_words" (top 88) ["text"] HS.w5) "read_number" (top 92) ["word"] HS.Bo HS.qI) "read_figure" (top 90) ["sign"] HS.Ce HS.yS) "read_alike" (top 91) ["word"] HS.Hh HS.D9) "read_ways" (top 89) ["word"] HS.Mr HS.CL) "read_net" (top 87) ["text"] HS.uS HS.oB) "read_row" (top 93) ["text"] HS.BY HS.rT) "row_text" (top 94) ["row"] HS.An) "tree_of" (top 96) ["net","heap"] HS.r8) "command_words" (top 105) ["command"] HS.I0 HS.EB) "need_name" (top 106) ["word"] HS.Kv HS.D4) "made_heap" (top 107) ["net","deed","parts"] HS.Ej) "heap_answer" (top 109) ["net","deed","heap"] HS.v8 HS.rA) "answer" (top 108) ["net","deed","heaps"] HS.Fw HS.xY) "read_part" "Desk.read_part" (inClass (top 104) 2) ["self","kind","word"] HS.Bx HS.oJ) "keep" "Desk.keep" (inClass (top 104) 3) ["self","name","heap"] HS.Ml HS.M5) "say" "Desk.say" (inClass (top 104) 1) ["self","command"] HS.QK HS.uL) "_law_cell_at" (top 112) ["_law_script","_law_k"] HS.QR) "_law_net" (top 113) ["_law_script","_law_most"] HS.qR) "_law_net_row" (top 114) ["_law_net_here"] HS.v7) "_law_text" (top 115) ["_law_row"] HS.jK) "_law_names" (top 116) ["_law_script","_law_at"] HS.sP) "_law_kinds" (top 117) ["_law_e"] HS.CT) "_law_refused" (top 118) ["_law_desk","_law_row","_law_due"] HS.QG) "_law_by_name" (top 119) ["_law_desk","_law_row"] HS.uM) "_law_is" (top 120) ["_law_desk","_law_row","_law_due"] HS.QM) "_law_odd" (top 121) ["_law_cell","_law_name"] HS.rD) "_law_no_net" (top 122) ["_law_cell","_law_name"] HS.uP) "_law_bad_names" (top 123) ["_law_desk","_law_cell","_law_name"] HS.yU) "_law_texts" (top 124) ["_law_desk","_law_cell","_law_name","_law_row"] HS.xC) "_law_kept" (top 125) ["_law_desk","_law_name","_law_row"] HS.oA) "_law_full" (top 126) ["_law_cell"] HS.tW
end
end Law
namespace HS
open PySem PySem.Spec L2
def wB(mg:Str->Option Value):List Str->Prop
 | []=>True
 | x::r=>mg x=none/\wB mg r
def Mm{mg:Str->Option Value}:∀{l:List Str},wB mg l->∀x∈l,mg x=none
 | [],_,x,h=>by simp at h
 | y::r,h,x,hx=>by
  rcases Zj.mp hx with rfl | hx
  .exact h.1
  .exact Mm h.2 x hx
def qY(mg:Str->Option Value):List (Str×Cn)->Prop
 | []=>True
 | (x,i)::r=>(∃t,mg x=some (vX i t))/\qY mg r
def LX{mg:Str->Option Value}:∀{l:List (Str×Cn)},qY mg l->∀x i,look x l=some i->∃t,mg x=some (vX i t)
 | [],_,x,i,h=>by cases h
 | (y,j)::r,h,x,i,hx=>by
  unfold look at hx;split at hx
  .rename_i e;cases hx;subst e;exact h.1
  .exact LX h.2 x i hx
def YU{mg:Str->Option Value}{cs:List (Str×Cn)}(b:wB mg uH)(c:qY mg cs):Dv mg cs:=⟨Mm b,LX c⟩
end HS
def HS.UI{K:bK}{mg:PySem.Str->Option PySem.Value}{h:PySem.Heap}{x:PySem.Str}{l:List PySem.Str}(X:K.In h)(G:h.Ns PySem.mainGlobals mg)(a:PySem.W.nsIn K PySem.mainGlobals x=some none)(r:HS.wB mg l):HS.wB mg (x::l):=⟨PySem.W.mg_none_of X G a,r⟩
def HS.W8{K:bK}{mg:PySem.Str->Option PySem.Value}{h:PySem.Heap}{x:PySem.Str}{i:Int}{t:PySem.Tok}{l:List (PySem.Str×HS.Cn)}(X:K.In h)(G:h.Ns PySem.mainGlobals mg)(a:PySem.W.nsIn K PySem.mainGlobals x=some (some (.int i t)))(r:HS.qY mg l):HS.qY mg ((x,.inl i)::l):=⟨⟨t,mQ X G a⟩,r⟩
def HS.X2{K:bK}{mg:PySem.Str->Option PySem.Value}{h:PySem.Heap}{x i:PySem.Str}{t:PySem.Tok}{l:List (PySem.Str×HS.Cn)}(X:K.In h)(G:h.Ns PySem.mainGlobals mg)(a:PySem.W.nsIn K PySem.mainGlobals x=some (some (.str i t)))(r:HS.qY mg l):HS.qY mg ((x,.inr i)::l):=⟨⟨t,mQ X G a⟩,r⟩
def Law.T8:∀ns:List Int,ns.length<=63->(∀k:Nat,PySem.Builtin.Int.intBits (ns.getD k 0)<=2^20)->HS.zT [.lst (ns.map .int)]=some (.bl true):=λns _ _=>HS.P6 ns
structure PySem.W.Fast:Prop where (tw3630480179496358780 tw6380333703295627916 tw11378106697306936945 tw5588021876450019449 tw1088423672151760389 tw15098613398197280818 tw1341203329944813734 tw11349381374631072152 tw11072626303183014487 tw9352264865537290434 tw11876129655854904997 tw18425167877309633337 tw7947051003341567771 tw9332895268367102481 tw5111802812144260683 tw3609008365844031157 tw9230167318161186460 tw7773100216537314120 tw5383731394171449726 tw5848214509902678571 tw2311988017442023961 tw1533246718835452092 tw4198365665939646059 tw15042318620317446651 tw3772589242315307071 tw18415626101680796577 tw213508022157933710 tw16465256592588451174 tw5970370217829104798 tw18327683614247768062 tw229777058299294831 tw8244996521514735251 tw5395015812203572534 tw9598129862331333608 tw6080295051018832200 tw16874341431988187412 tw11741063623362345666 tw10110828222996375807 tw10110066730814119533 tw14907705203773270054 tw15120281172929290217 tw107985425853027442 tw8533970896386808579 tw16223740764862686591 tw2903085779357615395 tw5461827684000791015 tw2424477008778305920 tw8426114907384634145 tw15889370389022174190 tw8214892060251930691 tw17696256120109687308 tw5006137407971998817 tw6091741872289042376 tw18342271977326780512 tw10017400878630964190 tw1435470691977883783 tw14276796724276792902 tw13801741126687064077 tw16085484764646046629 tw12730642043358598999 tw16662287590496008540 tw18174200794916992144 tw2910066559288895308 tw799875811379347466 tw895727647911362236 tw10313414836872799781 tw2149369451556631509 tw14598442272270485011 tw498335053051137919 tw16397087421767409065 tw10577309915901385708 tw6049145111821709588 tw12080118308833101188 tw11927931875051359839 tw5588223591772644023 tw4557905618632258730 tw4707198542819273796 tw14809797680993754189 tw16366914481205771941 tw10684861298680176207 tw18028046352568748827 tw18078909909308302312 tw4319632886493938210 tw17804224713015298486 tw13412118987495429286 tw17320805124342858542 tw11354906127146562155 tw11572943730317458996 tw4268514886717637263 tw1073383838331215221 tw13604379047607683815 tw707581662130812737 tw9816464830523518908 tw5872832135858023823 tw13755706125024793758 tw12074400903510161324 tw1312308606200377735 tw16756531814844848265 tw15763901650197056725 tw123856206373402862 tw11168651269590453133 tw2119516414224389639 tw2772068145101740866 tw14638691225727914183 tw10994899150157038520 tw17186570955624748919 tw13849307228302565795 tw10054990287554436175 tw10099617377443562730 tw5706913168310752043 tw17331460991914196244 tw4139842218676972065 tw5251935843468455080 tw101827643333548073 tw12279209091242370411 tw17363697025718454999 tw17851042518687157859 tw2029305870487482957 tw9266422550151630347 tw1897060311457839094 tw1120643930844686137 tw7320968685092099364 tw3658859909106043347 tw3725763218795495432 tw21845705439282899 tw13245691596449618545 tw13963739440346604750 tw17265385754329714965 tw16250573955020507325 tw2766392630996813504 tw4866737265750265003 tw16390521421868615278 tw13683815435718158936 tw7649618123408883308 tw3990492721285307979 tw17274700158460746432 tw2220778502200409897 tw2480599282367596730 tw6401589833843708600 tw8553153269209367057 tw6422622253136606978 tw18158431991145110245 tw17828941190440381232 tw17837056079405380545 tw17101786124816460371 tw17049677047323075441 tw14300644786777249682 tw5230167970359438989 tw2487451970485768445 tw5669151503396789470 tw2621625989817889118 tw6493415817814980590 tw6918725912859644490 tw17088940558466739296 tw16693474386735417593 tw15936509910825256831 tw17094657223599326883 tw5166236666235055377 tw16653492086238612974 tw3817751042203778342 tw14775425683742801372 tw14914426529631598266 tw8866543485010467483 tw5177537233875788999 tw13926631539162724411 tw3581586053823843431 tw4308520152602056172 tw2463274698874291971 tw9794837145221621155 tw13500391758928466436 tw15928408756113182005 tw1430996265882750317 tw5006328330629118739 tw5985572722817925757 tw9273558375223398346 tw12734196329541671859 tw4310189222965360102 tw4139880951824320487 tw17881103503827439004 tw7235681118429327457 tw12033627671911653290 tw6363123405488568050 tw12208508246706345202 tw5142347207676806870 tw1804812498636081811 tw12585729445529976572 tw14259617275975260547 tw279149932240808085 tw15595796485830645651 tw7665698397438510184 tw5545358153382614530 tw12058758200914274527 tw4824294756344004510 tw11040246210908534400 tw6888615760438780635 tw12324016019716823473 tw13403098740744934034 tw506726448364580434 tw6851756866641573939 tw9649189954718997777 tw10489793601266933209 tw13087698914584441867 tw2245897989776803166 tw8310032796092351162 tw10860353879155870084 tw6816593783255518333 tw13955075031188630380 tw13978702876981275862 tw8375879513750746344 tw3129151693113482752 tw2001138186453694131 tw3783836726127616702 tw1726475895509142120 tw14130996088890094425 tw9796949479465726093 tw1956904919908913459 tw8020496567635637201 tw4213473505270603337 tw4930397790058377229 tw16246201923780543780 tw7561064246084860839 tw3709120823599269765 tw12345062575757919614 tw10534219947406241886 tw2001677861228084828 tw3160936096526002734 tw4128464595468931716 tw15392868492915997163 tw3380659642153030795 tw5666902265325784134 tw9654912605069702276 tw362557900454039425 tw15753490846401092463 tw4140378694536977182 tw15080771792450920810 tw17638655359195381333 tw4934480340878350577 tw10483106589829195936 tw11474611594245471223 tw4150514002395061878 tw4141201368037420473 tw5361789110128626953 tw1516142011401109432 tw1497396829127279496 tw9463479888975358523 tw6421695765509131426 tw17175832042719299763 tw17848264513224535588 tw8768306986223831452 tw13229475382608300707 tw15189448853842683149 tw8362946746145462807 tw4853133245605575466 tw2906365988581189670 tw9409454019654243379 tw4058479059465648429 tw12254782658253400617 tw8404772476457808080 tw4724348489253226204 tw3642270333657683358 tw3061978000887087321 tw17245353683969069415 tw13976486445046857744 tw13851699942880756519 tw11609489295725059611 tw11284866987556797702 tw14511362551466233729 tw1686466230308795894 tw3628306938946048754:True)
local macro_rules | `('n')=> `(HN.dn rfl rfl rfl 'd' (by intro _ _ _ _ _ _;repeat (first | exact HS.l0 rfl | refine HS.lc λ_=>?_)))
local macro_rules | `('k')=> `(by first | k_is | exact rfl | (dsimp only[L2.iY];k_is))
local macro_rules | `('f')=> `(by dsimp only[L2.iY];refine' HS.fact_mk ?a ?l ?c ?k;(case a=>k_is);(case l=>k_is);(case c=>k_is);(case k=>k_is))
local macro_rules | `('m')=> `(by dsimp only[L2.iY];refine' HS.NG ?a ?c1 ?c2 ?c3 ?c4 ?m1 ?m2 ?k ?l ?cd;(case a=>k_is);(case c1=>k_is);(case c2=>k_is);(case c3=>k_is);(case c4=>k_is);(case m1=>k_is);(case m2=>k_is);(case k=>k_is);(case l=>k_is);(case cd=>k_is))
open PySem PySem.W PyProof.Rows HS HN Law PySem.Challenge
set_option maxRecDepth 100000 in
set_option maxHeartbeats 0 in
theorem PySem.Challenge.cw_heapstill_k75_desk_refused_holds : PySem.Challenge.rw_heapstill_k75_desk_refused.Holds := by
 w_on;o_law;k_head;(case hw=>w_witness2)
 k_fill
 refine W1 (l:=rw_heapstill_k75_desk_refused) (k:=88) (x:= "_law_script") (den:=zT) rfl rfl ⟨rfl,∅,∅⟩ (λw h Y=>PySem.W.kIn_of Y) T8 ?F
 case F=>
  intro w mg fa h KX G hmg;have dc_COMMANDS:rC w (L2.iY KX) "COMMANDS" bW:=by
   dsimp only[L2.iY];refine' Pd ?a ?b ?c ?d ?e;(case a=>k_is);(case b=>k_is);(case c=>rfl);(case e=>rfl)
   case d=>repeat (first | exact trivial | (refine OM (by k_is) (by repeat (first | exact trivial | refine⟨⟨_,rfl⟩,?_⟩)) ?_))
  have M0:Dv mg Law.cst:=YU (by(iterate 19 refine UI KX G (by k_is) ?_);trivial) (by repeat (first | exact trivial | refine W8 KX G 'k' ?_ | refine X2 KX G 'k' ?_));have hcl:∀x∈jL,sE (L2.iY KX) x:=JE (by repeat (first | exact trivial | refine And.intro (by dsimp only[L2.iY];refine' Sx ?a ?b;(case a=>k_is);(case b=>k_exc)) ?_));have hsub:tD (L2.iY KX) qZ:=by
   refine WA ?_
   iterate 10
    refine And.intro (And.intro (by dsimp only[L2.iY];refine' Wl ?a ?b ?c ?d ?e ?f ?g;(case a=>k_is);(case b=>k_is);(case c=>k_is);(case d=>k_is);(case e=>k_is);(case f=>k_is);(case g=>k_is)) ?_) ?_
    iterate 11 refine And.intro (by dsimp only[L2.iY];refine' Ö ?a ?b ?c ?d;(case a=>k_is);(case b=>k_is);(case c=>kts_exm);(case d=>kit_is)) ?_
    refine And.intro (by dsimp only[L2.iY];refine' PB ?a ?b ?c ?d;(case a=>k_is);(case b=>k_is);(case c=>kts_exm);(case d=>kit_is)) trivial
   trivial
  have e:HN.Ev rw_heapstill_k75_desk_refused.prog w (L2.iY KX) mg h Law.C0:=⟨KX,G,λb=>⟨M0,λ_=>Yy KX G (by dsimp only[L2.iY];refine' Ut ?a ?b ?c ?d ?e ?f;(case a=>k_is);(case b=>k_is);(case c=>k_is);(case d=>k_is);(case e=>k_is);(case f=>exact⟨(by show PySem.W.findIn _ _ _=some none;k_is),(by show PySem.W.findIn _ _ _=some none;k_is),trivial⟩)) (by dsimp only[L2.iY];refine' V0 ?a ?b ?c;(case a=>k_is);(case b=>k_is);(case c=>k_is)) (st:=(L2.inClass (Law.top 104) 0)) (qual:= "Desk.__init__") 'm' (show HN.Dn "__init__" "Desk.__init__" _ _ from 'n').s (show HN.Dn "__init__" "Desk.__init__" _ _ from 'n').b ⟨⟨_,_,_,_,_,_,_,_,_,rfl⟩,rfl⟩,Mb KX G ⟨dc_COMMANDS,trivial⟩,hsub,hcl⟩⟩;refine e.Uz (T:=Law.TT) (st:=(Law.top 127)) hmg ?_ 'n' 'f';refine e.te ?_ 'n' 'f';refine e.td ?_ 'n' 'f'
  iterate 2 refine e.tr ?_ 'n' 'f'
  iterate 2 refine e.tv ?_ 'n' 'f'
  refine e.td ?_ 'n' 'f'
  iterate 2 refine e.tr ?_ 'n' 'f'
  refine e.th ?_ 'n' 'f'
  iterate 5 refine e.tv ?_ 'n' 'f'
  iterate 2 refine e.PL ?_ 'n' 'm'
  refine e.PZ ?_ 'n' 'm'
  iterate 2 refine e.nY ?_ 'n' 'f'
  refine e.tv ?_ 'n' 'f'
  iterate 2 refine e.nY ?_ 'n' 'f'
  refine e.tx ?_ 'n' 'f';refine e.tv ?_ 'n' 'f'
  iterate 6 refine e.nY ?_ 'n' 'f'
  iterate 6 refine e.tv ?_ 'n' 'f'
  refine e.nY ?_ 'n' 'f'
  iterate 3 refine e.tv ?_ 'n' 'f'
  refine e.nY ?_ 'n' 'f';refine e.Kd ?_ (show HN.Sf _ _ from⟨rfl,rfl,rfl,by decide+kernel,by decide+kernel,by decide+kernel,by decide+kernel⟩) (λ_=>YI KX G (by dsimp only[L2.iY];refine' â ?a ?l ?c ?k ?h;(case a=>k_is);(case l=>k_is);(case c=>k_is);(case k=>k_is);(case h=>k_is)) (λK t od n sl h kV doc pm an cdv ct S us hl=>match us,hl with | [_,_,_],_=>UA h rfl));refine e.nY ?_ 'n' 'f';refine e.tv ?_ 'n' 'f';refine e.nY ?_ 'n' 'f';refine e.tv ?_ 'n' 'f';refine e.nY ?_ 'n' 'f'
  iterate 14 refine e.tv ?_ 'n' 'f'
  iterate 2 refine e.nY ?_ 'n' 'f'
  exact HN.TB.nil
